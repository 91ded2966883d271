/- Plain: good stills. -/
import Derived.Test.YthpkngipiapbpaaDoorPlainG
import Derived.Test.YthpkngipiapbpaaDoorPlainQs
import Derived.Test.YthpkngipiapbpaaDoorPlainCh
import Derived.Test.YthpkngipiapbpaaDoorWSt
namespace Go.Proofs.YthpkngipiapbpaaDoor
open Go.RowKit

def rowOf (w p d : Int) : Int := (w * p * d + 7) / 8
def sidesOf (a b : Int) (wv : Bool) : List (Int × Int) := if wv then (passTo a b 7).map (fun q : Ps => (q.2.2.2.2.1, q.2.2.2.2.2)) else [(a, b)]
def totTo (l : List (Int × Int)) (p d : Int) (k : Nat) : Int := ((l.take k).map fun x => x.2 * (1 + rowOf x.1 p d)).sum
def totOf (m : Im) (wv : Bool) : Int := totTo (sidesOf m.1 m.2.1 wv) m.2.2.1 m.2.2.2.1 (sidesOf m.1 m.2.1 wv).length
theorem totTo_succ (l : List (Int × Int)) (p d : Int) (k : Nat) (h : k < l.length) : totTo l p d (k + 1) = totTo l p d k + (l.getD k (0, 0)).2 * (1 + rowOf (l.getD k (0, 0)).1 p d) := by
  unfold totTo; rw [take_snoc_getD l (0, 0) k h]; simp
def InSide (l : List (Int × Int)) : Prop := ∀ j, j < l.length → (1 ≤ (l.getD j (0, 0)).1 ∧ (l.getD j (0, 0)).1 ≤ 512) ∧ (1 ≤ (l.getD j (0, 0)).2 ∧ (l.getD j (0, 0)).2 ≤ 512)

theorem cntK_bd {n : Int} (hn : 1 ≤ n ∧ n ≤ 512) (k : Nat) (hk : k < 7) : cntF n (passAt k).1 (passAt k).2.2.1 ≤ 512 ∧ cntF n (passAt k).2.1 (passAt k).2.2.2 ≤ 512 := by
  match k, hk with
  | 0, _ | 1, _ | 2, _ | 3, _ | 4, _ | 5, _ | 6, _ =>
    constructor <;> (unfold cntF passAt passT; simp; try (split <;> omega))
theorem passTo_in {a b : Int} (ha : 1 ≤ a ∧ a ≤ 512) (hb : 1 ≤ b ∧ b ≤ 512) (k : Nat) (hk : k ≤ 7) : ∀ q ∈ passTo a b k, (1 ≤ q.2.2.2.2.1 ∧ q.2.2.2.2.1 ≤ 512) ∧ (1 ≤ q.2.2.2.2.2 ∧ q.2.2.2.2.2 ≤ 512) := by
  induction k with
  | zero => intro q hq; simp [passTo] at hq
  | succ k ih =>
    intro q hq
    rw [passTo, List.mem_append] at hq
    rcases hq with hq | hq
    · exact ih (by omega) q hq
    · unfold passAdd at hq
      split at hq
      · rename_i h
        have h1 := (cntK_bd ha k (by omega)).1
        have h2 := (cntK_bd hb k (by omega)).2
        simp [passOne] at hq
        subst hq
        exact ⟨⟨by simp only; omega, by simp only; omega⟩, by simp only; omega, by simp only; omega⟩
      · simp at hq
theorem sidesOf_in {a b : Int} (wv : Bool) (ha : 1 ≤ a ∧ a ≤ 512) (hb : 1 ≤ b ∧ b ≤ 512) : InSide (sidesOf a b wv) := by
  intro j hj
  cases wv with
  | false => simp [sidesOf] at hj ⊢; subst hj; simp; omega
  | true =>
    simp only [sidesOf, if_true] at hj ⊢
    rw [List.getD_eq_getElem?_getD, List.getElem?_eq_getElem hj]
    have := passTo_in ha hb 7 (Nat.le_refl _) _ (List.getElem_mem (by simpa using hj : j < (passTo a b 7).length))
    simpa using this
theorem sidesOf_len (a b : Int) (wv : Bool) : (sidesOf a b wv).length ≤ 7 := by
  cases wv with
  | false => simp [sidesOf]
  | true => simp [sidesOf]; exact passTo_len a b 7
theorem rowOf_bd {w p d : Int} (hw : 1 ≤ w ∧ w ≤ 512) (hp : 1 ≤ p ∧ p ≤ 4) (hd : 1 ≤ d ∧ d ≤ 16) : ∃ x y : Int, w * p = x ∧ x * d = y ∧ (1 ≤ x ∧ x ≤ 2048) ∧ 1 ≤ y ∧ y ≤ 32768 ∧ rowOf w p d = (y + 7) / 8 := by
  obtain ⟨W, rfl⟩ := Int.eq_ofNat_of_zero_le (show 0 ≤ w by omega)
  obtain ⟨P, rfl⟩ := Int.eq_ofNat_of_zero_le (show 0 ≤ p by omega)
  obtain ⟨D, rfl⟩ := Int.eq_ofNat_of_zero_le (show 0 ≤ d by omega)
  have h1 : W * P ≤ 512 * 4 := Nat.mul_le_mul (by omega) (by omega)
  have h2 : 1 * 1 ≤ W * P := Nat.mul_le_mul (by omega) (by omega)
  have h3 : W * P * D ≤ 2048 * 16 := Nat.mul_le_mul (by omega) (by omega)
  have h4 : 1 * 1 ≤ W * P * D := Nat.mul_le_mul (by omega) (by omega)
  refine ⟨((W * P : Nat) : Int), ((W * P * D : Nat) : Int), by simp, by simp, ⟨by omega, by omega⟩, by omega, by omega, ?_⟩
  unfold rowOf; simp
theorem part_bd {h r : Int} (hh : 1 ≤ h ∧ h ≤ 512) (hr : 1 ≤ r ∧ r ≤ 4097) : ∃ y : Int, h * (1 + r) = y ∧ 1 ≤ y ∧ y ≤ 4000000 := by
  obtain ⟨H, rfl⟩ := Int.eq_ofNat_of_zero_le (show 0 ≤ h by omega)
  obtain ⟨R, hR⟩ := Int.eq_ofNat_of_zero_le (show 0 ≤ 1 + r by omega)
  have h1 : H * R ≤ 512 * 4098 := Nat.mul_le_mul (by omega) (by omega)
  have h2 : 1 * 1 ≤ H * R := Nat.mul_le_mul (by omega) (by omega)
  exact ⟨((H * R : Nat) : Int), by rw [hR]; simp, by omega, by omega⟩
theorem totTo_bd {l : List (Int × Int)} {p d : Int} (hl : InSide l) (hp : 1 ≤ p ∧ p ≤ 4) (hd : 1 ≤ d ∧ d ≤ 16) (k : Nat) (hk : k ≤ l.length) : 0 ≤ totTo l p d k ∧ totTo l p d k ≤ 4000000 * k := by
  induction k with
  | zero => simp [totTo]
  | succ k ih =>
    have := ih (by omega)
    rw [totTo_succ l p d k (by omega)]
    obtain ⟨h1, h2⟩ := hl k (by omega)
    obtain ⟨x, y, _, _, _, y1, y2, hr⟩ := rowOf_bd h1 hp hd
    obtain ⟨z, hz, z1, z2⟩ := part_bd h2 (r := rowOf (l.getD k (0, 0)).1 p d) (by omega)
    rw [hz]; omega

def ColOk (zs : List Int) : Prop := zs.length ≤ 256 ∧ ∀ j, j < zs.length → 0 ≤ zs.getD j 0 ∧ zs.getD j 0 ≤ 16777215
def SmpIn (zs : List Int) (n : Nat) : Prop := ∀ j, j < zs.length → zs.getD j 0 < (n : Int)
def PalOk (d : St) : Prop := 0 < d.2.1.length → d.1.2.2.1 = 1 ∧ d.1.2.2.2.1 ≤ 8 ∧ SmpIn (ims d.1) d.2.1.length
def KeyOk (s : ByteArray) : Prop := (1 ≤ s.size ∧ s.size ≤ 40) ∧ ∀ k, k < s.size → 32 ≤ (strB s).getD k 0 ∧ (strB s).getD k 0 ≤ 126
def ValOk (s : ByteArray) : Prop := s.size ≤ 1000 ∧ ∀ k, k < s.size → (strB s).getD k 0 ≠ 0
def NoteOk (n : Nt) : Prop := KeyOk n.1 ∧ ValOk n.2
def NotesOk (ps : List Nt) : Prop := ps.length ≤ 20 ∧ ∀ j, j < ps.length → NoteOk (ps.getD j Nt0)
def GoodSt (d : St) : Prop := GoodIm d.1 ∧ ColOk d.2.1 ∧ PalOk d ∧ NotesOk d.2.2.1 ∧ totOf d.1 d.2.2.2 ≤ 6000
noncomputable def pB (p : Prop) : Bool := open Classical in decide p
theorem pB_yes {p : Prop} (h : p) : pB p = true := by unfold pB; simpa using h
theorem pB_no {p : Prop} (h : ¬ p) : pB p = false := by unfold pB; simpa using h
end Go.Proofs.YthpkngipiapbpaaDoor
