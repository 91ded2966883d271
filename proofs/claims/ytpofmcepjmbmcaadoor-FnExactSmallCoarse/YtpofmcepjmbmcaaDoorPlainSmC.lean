/- Plain: coarse and fine numbers of small blocks, by their factors. -/
import Derived.Test.YtpofmcepjmbmcaaDoorPlainSm
namespace Go.Proofs.YtpofmcepjmbmcaaDoor
open Go.RowKit

def coZ (n m : Int) (q : Nat) : Int := if n < 0 then -((-n * m + 2 ^ (14 + q)) / 2 ^ (15 + q)) else (n * m + 2 ^ (14 + q)) / 2 ^ (15 + q)
theorem smCo_eq (n : Int) (p s : Nat) : smCo n p s = coZ n (smM (s % 6) (smClass p)) (s / 6) := by
  unfold smCo coZ
  by_cases h : n < 0
  · simp [h]
  · simp [h]
theorem smClass_lt (p : Nat) : smClass p < 3 := by unfold smClass; split; · omega
                                                   · split <;> omega
theorem smM_bd (r c : Nat) (hr : r < 6) (hc : c < 3) : 2893 ≤ smM r c ∧ smM r c ≤ 13107 := by
  have : ∀ k, k < 18 → 2893 ≤ ([13107, 5243, 8066, 11916, 4660, 7490, 10082, 4194, 6554, 9362, 3647, 5825, 8192, 3355, 5243, 7282, 2893, 4559] : List Int).getD k 0 ∧ ([13107, 5243, 8066, 11916, 4660, 7490, 10082, 4194, 6554, 9362, 3647, 5825, 8192, 3355, 5243, 7282, 2893, 4559] : List Int).getD k 0 ≤ 13107 := by decide
  exact this _ (by omega)
theorem smV_bd (r c : Nat) (hr : r < 6) (hc : c < 3) : 10 ≤ smV r c ∧ smV r c ≤ 29 := by
  have : ∀ k, k < 18 → 10 ≤ ([10, 16, 13, 11, 18, 14, 13, 20, 16, 14, 23, 18, 16, 25, 20, 18, 29, 23] : List Int).getD k 0 ∧ ([10, 16, 13, 11, 18, 14, 13, 20, 16, 14, 23, 18, 16, 25, 20, 18, 29, 23] : List Int).getD k 0 ≤ 29 := by decide
  exact this _ (by omega)
theorem mul_in (a m A M : Int) (ha : 0 ≤ a ∧ a ≤ A) (hm : 0 ≤ m ∧ m ≤ M) : 0 ≤ a * m ∧ a * m ≤ A * M := by
  refine ⟨Int.mul_nonneg ha.1 hm.1, ?_⟩
  have h1 : a * m ≤ A * m := Int.mul_le_mul_of_nonneg_right ha.2 hm.1
  have h2 : A * m ≤ A * M := Int.mul_le_mul_of_nonneg_left hm.2 (by omega)
  omega
theorem mul_both (a m A M : Int) (ha : -A ≤ a ∧ a ≤ A) (hm : 0 ≤ m ∧ m ≤ M) : -(A * M) ≤ a * m ∧ a * m ≤ A * M := by
  by_cases h : 0 ≤ a
  · have := mul_in a m A M ⟨h, ha.2⟩ hm
    have h3 : 0 ≤ A * M := Int.mul_nonneg (by omega) (by omega)
    omega
  · have h1 := mul_in (-a) m A M ⟨by omega, by omega⟩ hm
    have e : -a * m = -(a * m) := Int.neg_mul _ _
    rw [e] at h1
    have h3 : 0 ≤ A * M := Int.mul_nonneg (by omega) (by omega)
    omega
/-- Steps by their two parts. -/
theorem step_parts (s : Int) (h0 : 0 ≤ s) (h1 : s ≤ 40) : ∃ q r : Nat, s.toNat / 6 = q ∧ s.toNat % 6 = r ∧ q ≤ 6 ∧ r < 6 ∧ s.tdiv 6 = (q : Int) ∧ s.tmod 6 = (r : Int) := by
  refine ⟨s.toNat / 6, s.toNat % 6, rfl, rfl, by omega, by omega, ?_, ?_⟩
  · rw [Int.tdiv_eq_ediv_of_nonneg h0]; omega
  · rw [Int.tmod_eq_emod_of_nonneg h0]; omega
theorem smScaled_yes {g : Int → Nat → Nat → Int} {zs : List Int} {s : Int} (h : SmOk zs) (hs : 0 ≤ s ∧ s ≤ 40) : smScaled g zs s = tab16 (fun p => g (zs.getD p 0) p s.toNat) := by
  unfold smScaled; rw [if_pos ⟨smB_yes h, stB_iff.2 hs⟩]
theorem smScaled_no {g : Int → Nat → Nat → Int} {zs : List Int} {s : Int} (h : ¬ (SmOk zs ∧ 0 ≤ s ∧ s ≤ 40)) : smScaled g zs s = [] := by
  unfold smScaled; rw [if_neg (fun h' => h ⟨smB_iff.1 h'.1, stB_iff.1 h'.2⟩)]
end Go.Proofs.YtpofmcepjmbmcaaDoor
