/- Two laps of drawn lists: how near their sum is. -/
import Derived.Test.YtnoojbppfbmbgaaDoorWCsR
import Derived.Test.YtnoojbppfbmbgaaDoorPlainLc
namespace Go.Proofs.YtnoojbppfbmbgaaDoor
open Go.RowKit

def LenS (xs : List Int) : Prop := xs.length = 16 ∧ InR (-8191) 8191 xs
theorem LenS.hop {xs : List Int} (h : LenS xs) : hopB xs = true := hopB_iff.2 ⟨h.1, fun j hj => by have := h.2 j hj; omega⟩
theorem two_fI {xs ys : List Int} (h : xs.length = 16) (i : Nat) : fI (xs ++ ys) i = twoB (fI xs) (fI ys) i := by
  unfold fI twoB
  rw [List.getD_eq_getElem?_getD]
  by_cases hi : i < 16
  · rw [if_pos hi, List.getElem?_append_left (by omega), ← List.getD_eq_getElem?_getD]
  · rw [if_neg hi, List.getElem?_append_right (by omega), ← List.getD_eq_getElem?_getD, h]
theorem lapL_at {xs ys : List Int} (h : xs.length = 16) (n : Nat) (hn : n < 16) : fI (lapL (xs ++ ys)) n = lapB (fI xs) (fI ys) n := by
  show (lapL (xs ++ ys)).getD n 0 = _
  unfold lapL
  rw [tabN_getD _ _ _ hn]
  unfold lapB
  congr 1
  funext i
  rw [two_fI h]
theorem unlapL_at {xs ys : List Int} (h : xs.length = 16) (i : Nat) (hi : i < 32) : fI (unlapL (lapL (xs ++ ys))) i = unlapN (lapB (fI xs) (fI ys)) i := by
  show (unlapL (lapL (xs ++ ys))).getD i 0 = _
  unfold unlapL
  rw [tabN_getD _ _ _ hi]
  unfold unlapN
  rw [sumN_congr (fun n hn => by rw [lapL_at h n hn])]
theorem laps_lists {xs ys : List Int} (hx : LenS xs) (hy : LenS ys) (i : Nat) (hi : i < 16) :
    -4 ≤ fI (unlapL (lapL (xs ++ ys))) (16 + i) + fI (unlapL (lapL (ys ++ xs))) i - fI ys i ∧ fI (unlapL (lapL (xs ++ ys))) (16 + i) + fI (unlapL (lapL (ys ++ xs))) i - fI ys i ≤ 4 := by
  rw [unlapL_at hx.1 _ (by omega), unlapL_at hy.1 _ (by omega)]
  exact laps_near (fI xs) (fI ys) (fun i hi => hx.2 i (by rw [hx.1]; exact hi)) (fun i hi => hy.2 i (by rw [hy.1]; exact hi)) i hi
theorem zmP_bd : ∀ j, j < 32 → 0 ≤ zmP j ∧ zmP j ≤ 8192 := by decide
theorem lapL_slot {xs ys : List Int} (hx : LenS xs) (hy : LenS ys) : slotB (lapL (xs ++ ys)) = true := by
  refine slotB_iff.2 ⟨by unfold lapL; simp, fun j hj => ?_⟩
  have hj : j < 16 := by unfold lapL at hj; simpa using hj
  have hb := sumN_within (f := fun i => winN (fI (xs ++ ys) i) i * lapT i j) (K := 134217728) (n := 32) (fun i hi => by
    have h0 : -8191 ≤ fI (xs ++ ys) i ∧ fI (xs ++ ys) i ≤ 8191 := by
      rw [two_fI hx.1]
      unfold twoB
      split
      · exact hx.2 i (by rw [hx.1]; assumption)
      · exact hy.2 _ (by rw [hy.1]; omega)
    have h1 := winN_bd i hi _ h0.1 h0.2
    have h2 := zmP_bd i hi
    exact lap_mulK 8192 _ i j hi hj (by omega) (by omega) (by omega))
  show -1048576 ≤ (lapL (xs ++ ys)).getD j 0 ∧ (lapL (xs ++ ys)).getD j 0 ≤ 1048575
  unfold lapL
  rw [tabN_getD _ _ _ hj]
  unfold lapN
  generalize sumN (fun i => winN (fI (xs ++ ys) i) i * lapT i j) 32 = S at hb ⊢
  omega
theorem unlapL_bd {zs : List Int} (h : slotB zs = true) (i : Nat) (hi : i < 32) : -17592186044416 ≤ fI (unlapL zs) i ∧ fI (unlapL zs) i ≤ 17592186044416 := by
  obtain ⟨hl, hr⟩ := slotB_iff.1 h
  have hb := sumN_within (f := fun n => fI zs n * lapT i n) (K := 17179869184) (n := 16) (fun n hn => lap_mulK 1048576 _ i n hi hn (by omega) (by have := hr n (by omega); unfold fI; omega) (by have := hr n (by omega); unfold fI; omega))
  show -17592186044416 ≤ (unlapL zs).getD i 0 ∧ (unlapL zs).getD i 0 ≤ 17592186044416
  unfold unlapL
  rw [tabN_getD _ _ _ hi]
  unfold unlapN
  generalize sumN (fun n => fI zs n * lapT i n) 16 = S at hb ⊢
  exact winN_bd40 _ i hi (by omega) (by omega)
end Go.Proofs.YtnoojbppfbmbgaaDoor
