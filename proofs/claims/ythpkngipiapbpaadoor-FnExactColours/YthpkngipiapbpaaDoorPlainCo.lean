/- Plain: a still's picture in colours. -/
import Derived.Test.YthpkngipiapbpaaDoorPlainSt
namespace Go.Proofs.YthpkngipiapbpaaDoor
open Go.RowKit

def colB (c : Int) : List Int := [c / 65536, c / 256 % 256, c % 256]
def colTo (zs zp : List Int) (k : Nat) : List Int := (zs.take k).flatMap fun s => colB (zp.getD s.toNat 0)
theorem colTo_succ (zs zp : List Int) (k : Nat) (h : k < zs.length) : colTo zs zp (k + 1) = colTo zs zp k ++ colB (zp.getD (zs.getD k 0).toNat 0) := by
  unfold colTo; rw [take_snoc_getD zs 0 k h]; simp
theorem colTo_len (zs zp : List Int) (k : Nat) (h : k ≤ zs.length) : (colTo zs zp k).length = 3 * k := by
  induction k with
  | zero => simp [colTo]
  | succ k ih => rw [colTo_succ zs zp k (by omega), List.length_append, ih (by omega)]; simp [colB]; omega
noncomputable def coloursF (d : St) : Im := open Classical in if GoodSt d then (if d.2.1.length = 0 then d.1 else (d.1.1, d.1.2.1, 3, 8, colTo (ims d.1) d.2.1 (ims d.1).length)) else (0, 0, 0, 0, [])
theorem coloursF_no {d : St} (h : ¬ GoodSt d) : coloursF d = (0, 0, 0, 0, []) := if_neg h
theorem coloursF_plain {d : St} (h : GoodSt d) (h0 : d.2.1.length = 0) : coloursF d = d.1 := by unfold coloursF; rw [if_pos h, if_pos h0]
theorem coloursF_pal {d : St} (h : GoodSt d) (h0 : ¬ d.2.1.length = 0) : coloursF d = (d.1.1, d.1.2.1, 3, 8, colTo (ims d.1) d.2.1 (ims d.1).length) := by unfold coloursF; rw [if_pos h, if_neg h0]
theorem goodIm_len {d : Im} (h : GoodIm d) : (ims d).length ≤ 16384 := by
  obtain ⟨⟨ha, hb, hab, hp, _, _⟩, hl, _⟩ := h
  obtain ⟨P, hP, P1, P2⟩ := prod_bd ha hb
  obtain ⟨Q, hQ, Q1, Q2⟩ := prod3_bd (P := P) (p := d.2.2.1) ⟨P1, by omega⟩ hp
  rw [hP, hQ] at hl
  show d.2.2.2.2.length ≤ 16384
  omega
theorem coloursF_len (d : St) : (ims (coloursF d)).length ≤ 1048576 := by
  by_cases h : GoodSt d
  · have := goodIm_len h.1
    by_cases h0 : d.2.1.length = 0
    · rw [coloursF_plain h h0]; omega
    · rw [coloursF_pal h h0]
      show (colTo (ims d.1) d.2.1 (ims d.1).length).length ≤ 1048576
      rw [colTo_len _ _ _ (Nat.le_refl _)]; omega
  · rw [coloursF_no h]; simp [ims]
theorem i64_and255 (n : Int) : bits .and .i64 n 255 = n % 256 := by
  have h255 : (BitVec.ofInt 64 255).toNat = 2 ^ 8 - 1 := by decide
  have key : (BitVec.ofInt 64 n &&& BitVec.ofInt 64 255).toNat = (n % ((2 ^ 64 : Nat) : Int)).toNat % 2 ^ 8 := by
    rw [BitVec.toNat_and, BitVec.toNat_ofInt, h255, Nat.and_two_pow_sub_one_eq_mod]
  show IntKind.i64.wrap ((BitVec.ofInt 64 n &&& BitVec.ofInt 64 255).toNat : Nat) = n % 256
  rw [key, IntKind.wrap_i64]
  omega
theorem col_and (c : Int) : bits .and .i64 (c / 256) 255 = c / 256 % 256 ∧ bits .and .i64 c 255 = c % 256 := ⟨i64_and255 _, i64_and255 _⟩
end Go.Proofs.YthpkngipiapbpaaDoor
