/- Plain: a block forward and back, as lists. -/
import Derived.Test.YtnalmingbglgfaaDoorPlainFx
namespace Go.Proofs.YtnalmingbglgfaaDoor
open Go.RowKit

theorem tmulZ_at (A B : List Int) (h d : Int) (r c : Nat) (hc : c < 8) : tmulZ A B h d (8 * r + c) = (sumN (fun i => A.getD (8 * r + i) 0 * B.getD (8 * i + c) 0) 8 + h) / d := by
  unfold tmulZ
  have e : sumN (tmulT A B (8 * r + c)) 8 = sumN (fun i => A.getD (8 * r + i) 0 * B.getD (8 * i + c) 0) 8 := sumN_congr (fun i _ => by unfold tmulT; rw [show (8 * r + c) / 8 = r by omega, show (8 * r + c) % 8 = c by omega])
  rw [e]
theorem tmul_at (A B : List Int) (h d : Int) (r c : Nat) (hr : r < 8) (hc : c < 8) : (tmul A B h d).getD (8 * r + c) 0 = (sumN (fun i => A.getD (8 * r + i) 0 * B.getD (8 * i + c) 0) 8 + h) / d := by
  unfold tmul
  rw [tab_getD _ _ (by omega), tmulZ_at _ _ _ _ _ _ hc]
theorem fwd_at (bs : List Int) (v u : Nat) (hv : v < 8) (hu : u < 8) : (fwdL bs).getD (8 * v + u) 0 = rnd16 (sumN (fun y => mZ v y * rnd10 (sumN (fun x => mZ u x * bs.getD (8 * y + x) 0) 8)) 8) := by
  unfold fwdL rnd16
  rw [tmul_at _ _ _ _ _ _ hv hu]
  congr 2
  refine sumN_congr (fun y hy => ?_)
  rw [tmul_at _ _ _ _ _ _ hy hu, m_getD]
  unfold rnd10
  congr 3
  refine sumN_congr (fun x hx => ?_)
  rw [flip_m u x hu hx, Int.mul_comm]
theorem inv_at (fs : List Int) (y x : Nat) (hy : y < 8) (hx : x < 8) : (invL fs).getD (8 * y + x) 0 = rnd16 (sumN (fun u => mZ u x * rnd10 (sumN (fun v => mZ v y * fs.getD (8 * v + u) 0) 8)) 8) := by
  unfold invL rnd16
  rw [tmul_at _ _ _ _ _ _ hy hx]
  congr 2
  refine sumN_congr (fun u hu => ?_)
  rw [tmul_at _ _ _ _ _ _ hy hu, m_getD, Int.mul_comm]
  unfold rnd10
  congr 3
  refine sumN_congr (fun v hv => ?_)
  rw [flip_m v y hv hy]
theorem turned_list (bs : List Int) (hl : bs.length = 64) (hb : InR (-255) 255 bs) (i : Nat) (hi : i < 64) : (-5 : Int) ≤ (invL (fwdL bs)).getD i 0 - bs.getD i 0 ∧ (invL (fwdL bs)).getD i 0 - bs.getD i 0 ≤ 5 := by
  obtain ⟨y, hy⟩ : ∃ y, i / 8 = y := ⟨_, rfl⟩
  obtain ⟨x, hx⟩ : ∃ x, i % 8 = x := ⟨_, rfl⟩
  have e : i = 8 * y + x := by omega
  have hy8 : y < 8 := by omega
  have hx8 : x < 8 := by omega
  have h := turned_near (fun y x => bs.getD (8 * y + x) 0) (fun y x hy hx => hb (8 * y + x) (by omega)) y x hy8 hx8
  rw [e, inv_at _ _ _ hy8 hx8]
  have e2 : sumN (fun u => mZ u x * rnd10 (sumN (fun v => mZ v y * (fwdL bs).getD (8 * v + u) 0) 8)) 8 = sumN (fun u => mZ u x * rnd10 (sumN (fun v => mZ v y * rnd16 (sumN (fun y => mZ v y * rnd10 (sumN (fun x => mZ u x * bs.getD (8 * y + x) 0) 8)) 8)) 8)) 8 := by
    refine sumN_congr (fun u hu => ?_)
    congr 2
    refine sumN_congr (fun v hv => ?_)
    rw [fwd_at bs v u hv hu]
  rw [e2]
  exact h
theorem fwd_ok (bs : List Int) (hl : bs.length = 64) (hb : InR (-255) 255 bs) : BlOk (fwdL bs) := by
  have hf : (flipL mT).length = 64 := by simp [flipL]
  have h1 : InR (-8100) 8100 (tmul bs (flipL mT) 512 1024) := tmul_inR (K := 255) (L := 4017) hl hf hb (flipL_inR mT_length mT_inR) (by omega) (by omega) (by omega) (by omega)
  have h2 : InR (-8000) 8000 (fwdL bs) := tmul_inR (K := 4017) (L := 8100) mT_length (by simp [tmul]) mT_inR h1 (by omega) (by omega) (by omega) (by omega)
  exact ⟨by simp [fwdL, tmul], fun j hj => by have := h2 j hj; omega⟩
def smallL (xs : List Int) : List Int := xs.map (fun n => n.tmod 256)
theorem smallL_inR (xs : List Int) : InR (-255) 255 (smallL xs) := by
  intro j hj
  unfold smallL at *
  rw [List.length_map] at hj
  rw [List.getD_eq_getElem?_getD, List.getElem?_map, List.getElem?_eq_getElem hj]
  simp only [Option.map_some, Option.getD_some]
  generalize xs[j] = n
  rcases Int.le_total 0 n with h | h
  · rw [Int.tmod_eq_emod_of_nonneg h]; omega
  · have : n = -(-n) := by omega
    rw [this, Int.neg_tmod, Int.tmod_eq_emod_of_nonneg (by omega)]; omega
end Go.Proofs.YtnalmingbglgfaaDoor
