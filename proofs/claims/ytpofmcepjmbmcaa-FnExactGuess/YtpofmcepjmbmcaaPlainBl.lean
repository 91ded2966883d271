/- Plain: blocks of eight by eight: what is one, scales, coarse and fine numbers, waves. -/
import Derived.Test.YtpofmcepjmbmcaaPlain
namespace Go.Proofs.Ytpofmcepjmbmcaa
open Go.RowKit

/-- All numbers lie within two ends. -/
def InR (lo hi : Int) (zs : List Int) : Prop := ∀ j, j < zs.length → lo ≤ zs.getD j 0 ∧ zs.getD j 0 ≤ hi
def inRB (lo hi : Int) (zs : List Int) : Bool := (List.range zs.length).all fun j => decide (lo ≤ zs.getD j 0 ∧ zs.getD j 0 ≤ hi)
theorem inRB_iff0 {lo hi : Int} {zs : List Int} : inRB lo hi zs = true ↔ InR lo hi zs := by
  unfold inRB InR
  rw [List.all_eq_true]
  exact ⟨fun h j hj => of_decide_eq_true (h j (List.mem_range.2 hj)), fun h j hj => decide_eq_true (h j (List.mem_range.1 hj))⟩
theorem inRB_yes {lo hi : Int} {zs : List Int} (h : InR lo hi zs) : inRB lo hi zs = true := inRB_iff0.2 h
theorem inRB_no {lo hi : Int} {zs : List Int} (h : ¬ InR lo hi zs) : inRB lo hi zs = false := Bool.eq_false_iff.2 (fun h' => h (inRB_iff0.1 h'))
def BlOk (zs : List Int) : Prop := zs.length = 64 ∧ InR (-32768) 32767 zs
noncomputable def blB (zs : List Int) : Bool := open Classical in decide (BlOk zs)
theorem blB_yes {zs : List Int} (h : BlOk zs) : blB zs = true := by unfold blB; simpa using h
theorem blB_no {zs : List Int} (h : ¬ BlOk zs) : blB zs = false := by unfold blB; simpa using h
def ScOk (zs : List Int) : Prop := zs.length = 64 ∧ InR 1 255 zs
noncomputable def scB (zs : List Int) : Bool := open Classical in decide (ScOk zs)
theorem scB_yes {zs : List Int} (h : ScOk zs) : scB zs = true := by unfold scB; simpa using h
theorem scB_no {zs : List Int} (h : ¬ ScOk zs) : scB zs = false := by unfold scB; simpa using h

/-- 64 numbers told by their places. -/
def tab (f : Nat → Int) : List Int := (List.range 64).map f
@[simp] theorem tab_length (f : Nat → Int) : (tab f).length = 64 := by simp [tab]
theorem tab_getD (f : Nat → Int) (k : Nat) (h : k < 64) : (tab f).getD k 0 = f k := by
  unfold tab
  rw [List.getD_eq_getElem?_getD, List.getElem?_map, List.getElem?_range h]; rfl
theorem tab_inR (f : Nat → Int) (lo hi : Int) (h : ∀ k, k < 64 → lo ≤ f k ∧ f k ≤ hi) : InR lo hi (tab f) := by
  intro j hj
  rw [tab_length] at hj
  rw [tab_getD f j hj]; exact h j hj

/-! ### Scales -/
def baseZ (v u : Nat) (c : Bool) : Int := if c then 10 + 6 * ((u : Int) + v) else 8 + 3 * ((u : Int) + v) + ((u * v / 2 : Nat) : Int)
def percZ (q : Int) : Int := if q < 50 then 5000 / q else 200 - 2 * q
def cutZ (a b n : Int) : Int := if n < a then a else if b < n then b else n
def scaleZ (q : Int) (c : Bool) (i : Nat) : Int := cutZ 1 255 ((baseZ (i / 8) (i % 8) c * percZ q + 50) / 100)
def scalesF (q : Int) (c : Bool) : List Int := if 1 ≤ q ∧ q ≤ 100 then tab (scaleZ q c) else []
theorem scalesF_len (q : Int) (c : Bool) : (scalesF q c).length ≤ 1048576 := by unfold scalesF; split <;> simp
theorem baseZ_bd (v u : Nat) (c : Bool) (hv : v < 8) (hu : u < 8) : 8 ≤ baseZ v u c ∧ baseZ v u c ≤ 94 := by
  unfold baseZ
  have h : u * v ≤ 7 * 7 := Nat.mul_le_mul (by omega) (by omega)
  split <;> omega
theorem percZ_bd (q : Int) (h1 : 1 ≤ q) (h2 : q ≤ 100) : 0 ≤ percZ q ∧ percZ q ≤ 5000 := by
  unfold percZ
  split
  · have h0 : 5000 / q ≤ 5000 := Int.ediv_le_self _ (by omega)
    have h3 : 0 ≤ 5000 / q := Int.ediv_nonneg (by omega) (by omega)
    omega
  · omega
theorem cutZ_bd (a b n : Int) (h : a ≤ b) : a ≤ cutZ a b n ∧ cutZ a b n ≤ b := by unfold cutZ; split <;> (try split) <;> omega
theorem cutZ_max (a b n : Int) (h : a ≤ b) : max a (min b n) = cutZ a b n := by unfold cutZ; split <;> (try split) <;> omega
theorem scalesF_ok (q : Int) (c : Bool) (h : 1 ≤ q ∧ q ≤ 100) : ScOk (scalesF q c) := by
  unfold scalesF
  rw [if_pos h]
  exact ⟨by simp, tab_inR _ _ _ (fun k _ => cutZ_bd _ _ _ (by omega))⟩

/-! ### Coarse and fine numbers -/
def coarseZ (n t : Int) : Int := if n < 0 then -((-n + t / 2) / t) else (n + t / 2) / t
def fineZ (n t : Int) : Int := cutZ (-32768) 32767 (n * t)
noncomputable def twoF (g : Int → Int → Int) (zs ts : List Int) : List Int := if blB zs && scB ts then tab (fun i => g (zs.getD i 0) (ts.getD i 0)) else []
theorem twoF_len (g : Int → Int → Int) (zs ts : List Int) : (twoF g zs ts).length ≤ 1048576 := by unfold twoF; split <;> simp
theorem twoF_no {g : Int → Int → Int} {zs ts : List Int} (h : ¬ (BlOk zs ∧ ScOk ts)) : twoF g zs ts = [] := by
  unfold twoF
  by_cases h1 : BlOk zs
  · rw [blB_yes h1, scB_no (fun h2 => h ⟨h1, h2⟩)]; rfl
  · rw [blB_no h1]; rfl
theorem twoF_yes {g : Int → Int → Int} {zs ts : List Int} (h1 : BlOk zs) (h2 : ScOk ts) : twoF g zs ts = tab (fun i => g (zs.getD i 0) (ts.getD i 0)) := by
  unfold twoF; rw [blB_yes h1, scB_yes h2]; rfl
theorem quot_bd (n t : Int) (hn : 0 ≤ n) (ht : 1 ≤ t) : 0 ≤ (n + t / 2) / t ∧ (n + t / 2) / t ≤ n := by
  have h1 : 0 ≤ (n + t / 2) / t := Int.ediv_nonneg (by omega) (by omega)
  refine ⟨h1, ?_⟩
  rcases Int.lt_or_le n ((n + t / 2) / t) with h | h
  · exfalso
    have h2 : (n + t / 2) / t * t ≤ n + t / 2 := Int.ediv_mul_le _ (by omega)
    have h3 : (n + 1) * t ≤ (n + t / 2) / t * t := Int.mul_le_mul_of_nonneg_right (by omega) (by omega)
    have h4 : n * t ≥ n := by
      have : n * 1 ≤ n * t := Int.mul_le_mul_of_nonneg_left ht hn
      omega
    rw [Int.add_mul] at h3
    omega
  · exact h
theorem coarseZ_bd (n t : Int) (hn : -32768 ≤ n ∧ n ≤ 32767) (ht : 1 ≤ t) : -32768 ≤ coarseZ n t ∧ coarseZ n t ≤ 32767 := by
  unfold coarseZ
  split
  · have := quot_bd (-n) t (by omega) ht; omega
  · have := quot_bd n t (by omega) ht; omega
theorem twoF_ok {g : Int → Int → Int} {zs ts : List Int} (h1 : BlOk zs) (h2 : ScOk ts) (hg : ∀ n t, (-32768 ≤ n ∧ n ≤ 32767) → (1 ≤ t ∧ t ≤ 255) → -32768 ≤ g n t ∧ g n t ≤ 32767) : BlOk (twoF g zs ts) := by
  rw [twoF_yes h1 h2]
  exact ⟨by simp, tab_inR _ _ _ (fun k hk => hg _ _ (h1.2 k (by rw [h1.1]; exact hk)) (h2.2 k (by rw [h2.1]; exact hk)))⟩
/-- Half a scale away at most. -/
theorem near_mul (n t : Int) (ht : 1 ≤ t) : -t ≤ 2 * ((n + t / 2) / t * t - n) ∧ 2 * ((n + t / 2) / t * t - n) ≤ t := by
  have h1 : (n + t / 2) / t * t ≤ n + t / 2 := Int.ediv_mul_le _ (by omega)
  have h2 : n + t / 2 < ((n + t / 2) / t + 1) * t := Int.lt_ediv_add_one_mul_self _ (by omega)
  rw [Int.add_mul] at h2
  generalize (n + t / 2) / t * t = q at h1 h2 ⊢
  omega
theorem coarse_near (n t : Int) (ht : 1 ≤ t) : -t ≤ 2 * (coarseZ n t * t - n) ∧ 2 * (coarseZ n t * t - n) ≤ t := by
  unfold coarseZ
  split
  · have h := near_mul (-n) t ht
    rw [Int.neg_mul]
    generalize (-n + t / 2) / t * t = q at h ⊢
    omega
  · exact near_mul n t ht
theorem quot_mul (m t : Int) (ht : 1 ≤ t) : (m * t + t / 2) / t = m := by
  rw [Int.add_comm, Int.add_mul_ediv_right _ _ (by omega), Int.ediv_eq_zero_of_lt (by omega) (by omega), Int.zero_add]
theorem coarse_fine (m t : Int) (ht : 1 ≤ t) : coarseZ (m * t) t = m := by
  unfold coarseZ
  by_cases h : m < 0
  · have h1 : m * t < 0 := Int.mul_neg_of_neg_of_pos h (by omega)
    rw [if_pos h1, ← Int.neg_mul, quot_mul _ _ ht]; omega
  · have h1 : ¬ m * t < 0 := by have := Int.mul_nonneg (show 0 ≤ m by omega) (show 0 ≤ t by omega); omega
    rw [if_neg h1, quot_mul _ _ ht]
end Go.Proofs.Ytpofmcepjmbmcaa
