/- Plain: the passes of a picture of so many columns and rows. -/
import Derived.Test.YthpkngipiapbpaaDoorPlainSd
import Derived.Test.YthpkngipiapbpaaDoorWRPs
namespace Go.Proofs.YthpkngipiapbpaaDoor
open Go.RowKit

def cntF (n from_ step : Int) : Int := if n ≤ from_ then 0 else (n - from_ + step - 1) / step
def passT : List (Int × Int × Int × Int) := [(0, 0, 8, 8), (4, 0, 8, 8), (0, 4, 4, 8), (2, 0, 4, 4), (0, 2, 2, 4), (1, 0, 2, 2), (0, 1, 1, 2)]
def passAt (k : Nat) : Int × Int × Int × Int := passT.getD k (0, 0, 0, 0)
theorem passAt_bd (k : Nat) (h : k < 7) : (0 ≤ (passAt k).1 ∧ (passAt k).1 ≤ 4) ∧ (0 ≤ (passAt k).2.1 ∧ (passAt k).2.1 ≤ 4) ∧ (1 ≤ (passAt k).2.2.1 ∧ (passAt k).2.2.1 ≤ 8) ∧ (1 ≤ (passAt k).2.2.2 ∧ (passAt k).2.2.2 ≤ 8) ∧ (passAt k).1 < (passAt k).2.2.1 ∧ (passAt k).2.1 < (passAt k).2.2.2 := by
  rcases (show k = 0 ∨ k = 1 ∨ k = 2 ∨ k = 3 ∨ k = 4 ∨ k = 5 ∨ k = 6 by omega) with e | e | e | e | e | e | e <;> subst e <;> decide
def passOne (w h : Int) (k : Nat) : Ps := ((passAt k).1, (passAt k).2.1, (passAt k).2.2.1, (passAt k).2.2.2, cntF w (passAt k).1 (passAt k).2.2.1, cntF h (passAt k).2.1 (passAt k).2.2.2)
def passAdd (w h : Int) (k : Nat) : List Ps := if 0 < cntF w (passAt k).1 (passAt k).2.2.1 ∧ 0 < cntF h (passAt k).2.1 (passAt k).2.2.2 then [passOne w h k] else []
def passTo (w h : Int) : Nat → List Ps
  | 0 => []
  | k + 1 => passTo w h k ++ passAdd w h k
theorem passTo_len (w h : Int) (k : Nat) : (passTo w h k).length ≤ k := by
  induction k with
  | zero => simp [passTo]
  | succ k ih => rw [passTo, List.length_append]; unfold passAdd; split <;> simp <;> omega
theorem cntF_bd {n f s : Int} (hn : n ≤ 1048576) (hf : 0 ≤ f) (hs : 1 ≤ s ∧ s ≤ 8) : 0 ≤ cntF n f s ∧ cntF n f s ≤ 1048600 := by
  unfold cntF; split
  · omega
  · rename_i h
    obtain ⟨S, rfl⟩ := Int.eq_ofNat_of_zero_le (show 0 ≤ s by omega)
    rcases (show S = 1 ∨ S = 2 ∨ S = 3 ∨ S = 4 ∨ S = 5 ∨ S = 6 ∨ S = 7 ∨ S = 8 by omega) with e | e | e | e | e | e | e | e <;> subst e <;> omega
/-- As the program counts. -/
theorem cntF_steps {n f s : Int} (hn : 1 ≤ n) (hf : 0 ≤ f ∧ f < s) (hs : 1 ≤ s ∧ s ≤ 8) : (n - f + s - 1) / s = cntF n f s := by
  unfold cntF; split
  · obtain ⟨S, rfl⟩ := Int.eq_ofNat_of_zero_le (show 0 ≤ s by omega)
    rcases (show S = 1 ∨ S = 2 ∨ S = 3 ∨ S = 4 ∨ S = 5 ∨ S = 6 ∨ S = 7 ∨ S = 8 by omega) with e | e | e | e | e | e | e | e <;> subst e <;> omega
  · rfl
def passesF (w h : Int) : List Ps := if (1 ≤ w ∧ w ≤ 512) ∧ 1 ≤ h ∧ h ≤ 512 then passTo w h 7 else []
theorem passesF_yes {w h : Int} (a : 1 ≤ w ∧ w ≤ 512) (b : 1 ≤ h ∧ h ≤ 512) : passesF w h = passTo w h 7 := if_pos ⟨a, b⟩
theorem passesF_no {w h : Int} (a : ¬ ((1 ≤ w ∧ w ≤ 512) ∧ 1 ≤ h ∧ h ≤ 512)) : passesF w h = [] := if_neg a
theorem passesF_len (w h : Int) : (passesF w h).length ≤ 1048576 := by
  unfold passesF; split
  · have := passTo_len w h 7; omega
  · simp
theorem six_new (w : World) (x0 x1 x2 x3 x4 x5 : Value) (t : TypeId) : ∀ j v, [x0, x1, x2, x3, x4, x5][j]? = some v → (w.alloc (.cells #[x0, x1, x2, x3, x4, x5] t)).cell? ((⟨w.heap.size, 0, none⟩ : Addr).add j) = some v := by
  intro j v hj
  match j, hj with
  | 0, hj => simp at hj; subst hj; simp [Addr.add]
  | 1, hj => simp at hj; subst hj; simp [Addr.add]
  | 2, hj => simp at hj; subst hj; simp [Addr.add]
  | 3, hj => simp at hj; subst hj; simp [Addr.add]
  | 4, hj => simp at hj; subst hj; simp [Addr.add]
  | 5, hj => simp at hj; subst hj; simp [Addr.add]
theorem six_one (x0 x1 x2 x3 x4 x5 : Int) : ∀ u ∈ [Value.int .i64 x0, .int .i64 x1, .int .i64 x2, .int .i64 x3, .int .i64 x4, .int .i64 x5], u.oneCell' = true := by
  intro u hu
  simp at hu
  rcases hu with h | h | h | h | h | h <;> subst h <;> rfl
end Go.Proofs.YthpkngipiapbpaaDoor
