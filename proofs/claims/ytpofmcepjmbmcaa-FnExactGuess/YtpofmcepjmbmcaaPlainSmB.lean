/- Plain: rows of sixteen sums that are filled one behind the other. -/
import Derived.Test.YtpofmcepjmbmcaaPlainSm
namespace Go.Proofs.Ytpofmcepjmbmcaa
open Go.RowKit

/-- Places of rank below q have their numbers, the one of rank q what is summed so far. -/
def prt (f : Nat → Int) (rk : Nat → Nat) (q : Nat) (S : Int) (p : Nat) : Int := if rk p < q then f p else if rk p = q then S else 0
theorem prt_at (f : Nat → Int) (rk : Nat → Nat) (q : Nat) (S : Int) (p : Nat) (h : rk p = q) : prt f rk q S p = S := by
  unfold prt; rw [if_neg (by omega), if_pos h]
theorem prt_set (f : Nat → Int) (rk : Nat → Nat) (q : Nat) (S v : Int) (p : Nat) (hp : p < 16) (hq : rk p = q) (hinj : ∀ k, k < 16 → rk k = q → k = p) : (tab16 (prt f rk q S)).set p v = tab16 (prt f rk q v) := by
  refine List.ext_getElem? (fun i => ?_)
  by_cases hi : i < 16
  · by_cases e : p = i
    · subst e
      rw [List.getElem?_set_self (by simpa using hp)]
      unfold tab16
      rw [List.getElem?_map, List.getElem?_range hp]
      simp [prt_at f rk q v p hq]
    · rw [List.getElem?_set_ne e]
      unfold tab16
      rw [List.getElem?_map, List.getElem?_map, List.getElem?_range hi]
      have hne : rk i ≠ q := fun h => e (hinj i hi h).symm
      simp [prt, hne]
  · rw [List.getElem?_eq_none (by simp; omega), List.getElem?_eq_none (by simp; omega)]
theorem prt_next (f : Nat → Int) (rk : Nat → Nat) (q : Nat) (S : Int) (h : ∀ k, k < 16 → rk k = q → f k = S) : tab16 (prt f rk q S) = tab16 (prt f rk (q + 1) 0) :=
  tab16_congr (fun k hk => by
    unfold prt
    by_cases h1 : rk k < q
    · rw [if_pos h1, if_pos (by omega)]
    · by_cases h2 : rk k = q
      · rw [if_neg h1, if_pos h2, if_pos (by omega), h k hk h2]
      · rw [if_neg h1, if_neg h2, if_neg (by omega), ite_self])
theorem prt_zero (f : Nat → Int) (rk : Nat → Nat) : tab16 (prt f rk 0 0) = List.replicate 16 0 := by
  have e : tab16 (prt f rk 0 0) = tab16 (fun _ => 0) := tab16_congr (fun k hk => by unfold prt; split <;> simp_all)
  rw [e]
  rfl
theorem prt_done (f : Nat → Int) (rk : Nat → Nat) (h : ∀ k, k < 16 → rk k < 16) : tab16 (prt f rk 16 0) = tab16 f :=
  tab16_congr (fun k hk => by unfold prt; rw [if_pos (h k hk)])
theorem prtN_set (n : Nat) (f : Nat → Int) (rk : Nat → Nat) (q : Nat) (S v : Int) (p : Nat) (hp : p < n) (hq : rk p = q) (hinj : ∀ k, k < n → rk k = q → k = p) : (tabN n (prt f rk q S)).set p v = tabN n (prt f rk q v) := by
  refine List.ext_getElem? (fun i => ?_)
  by_cases hi : i < n
  · by_cases e : p = i
    · subst e
      rw [List.getElem?_set_self (by simpa using hp)]
      unfold tabN
      rw [List.getElem?_map, List.getElem?_range hp]
      simp [prt_at f rk q v p hq]
    · rw [List.getElem?_set_ne e]
      unfold tabN
      rw [List.getElem?_map, List.getElem?_map, List.getElem?_range hi]
      have hne : rk i ≠ q := fun h => e (hinj i hi h).symm
      simp [prt, hne]
  · rw [List.getElem?_eq_none (by simp; omega), List.getElem?_eq_none (by simp; omega)]
theorem tabN_congr {n : Nat} {f g : Nat → Int} (h : ∀ k, k < n → f k = g k) : tabN n f = tabN n g := by
  unfold tabN
  exact List.map_congr_left (fun k hk => h k (List.mem_range.1 hk))
theorem prtN_next (n : Nat) (f : Nat → Int) (rk : Nat → Nat) (q : Nat) (S : Int) (h : ∀ k, k < n → rk k = q → f k = S) : tabN n (prt f rk q S) = tabN n (prt f rk (q + 1) 0) :=
  tabN_congr (fun k hk => by
    unfold prt
    by_cases h1 : rk k < q
    · rw [if_pos h1, if_pos (by omega)]
    · by_cases h2 : rk k = q
      · rw [if_neg h1, if_pos h2, if_pos (by omega), h k hk h2]
      · rw [if_neg h1, if_neg h2, if_neg (by omega), ite_self])
theorem prtN_zero (n : Nat) (f : Nat → Int) (rk : Nat → Nat) : tabN n (prt f rk 0 0) = List.replicate n 0 := by
  have e : tabN n (prt f rk 0 0) = tabN n (fun _ => 0) := tabN_congr (fun k hk => by unfold prt; split <;> simp_all)
  rw [e]
  exact List.ext_getElem (by simp [tabN]) (fun i _ _ => by simp [tabN])
theorem prtN_done (n : Nat) (f : Nat → Int) (rk : Nat → Nat) (N : Nat) (h : ∀ k, k < n → rk k < N) : tabN n (prt f rk N 0) = tabN n f :=
  tabN_congr (fun k hk => by unfold prt; rw [if_pos (h k hk)])
theorem tabN_of {n : Nat} {zs : List Int} (h : zs.length = n) : tabN n (fun p => zs.getD p 0) = zs := by
  refine List.ext_getElem (by simp [h]) (fun i h1 h2 => ?_)
  simp only [tabN_length] at h1
  have := tabN_getD n (fun p => zs.getD p 0) i h1
  rw [List.getD_eq_getElem?_getD, List.getElem?_eq_getElem (by simpa using h1), Option.getD_some] at this
  rw [this, List.getD_eq_getElem?_getD, List.getElem?_eq_getElem h2, Option.getD_some]
theorem four_of {r : List Int} (h : r.length = 4) : r = [r.getD 0 0, r.getD 1 0, r.getD 2 0, r.getD 3 0] := by
  match r, h with
  | [a, b, c, d], _ => rfl
def rkS (p : Nat) : Nat := 4 * (p % 4) + p / 4
theorem rkS_lt (k : Nat) (h : k < 16) : rkS k < 16 := by unfold rkS; omega
end Go.Proofs.Ytpofmcepjmbmcaa
