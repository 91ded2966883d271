/- Plain: lengths of words that are a code's, the shares that they take, what kind of code they are, what they cost; no program is named here. -/
import Derived.Test.YtcoegccnkdhpjaaPlain
namespace Go.Proofs.Ytcoegccnkdhpjaa
open Go.RowKit

theorem ret_bool {a b : Bool} (h : a = b) : Ending.returned (.bool a) = .returned (.bool b) := by rw [h]
theorem wrap64_of {x : Int} (h0 : -9223372036854775808 ≤ x) (h1 : x ≤ 9223372036854775807) : wrap64 x = x := by unfold wrap64; omega
def okL (x : Int) : Prop := 0 ≤ x ∧ x ≤ 15
instance (x : Int) : Decidable (okL x) := by unfold okL; infer_instance
def allL (zs : List Int) (k : Nat) : Prop := ∀ j, j < k → okL (zs.getD j 0)
theorem allL_zero (zs : List Int) : allL zs 0 := fun j hj => by omega
theorem allL_succ {zs : List Int} {k : Nat} (h : allL zs k) (hk : okL (zs.getD k 0)) : allL zs (k + 1) := fun j hj => by
  rcases Nat.lt_or_eq_of_le (Nat.le_of_lt_succ hj) with h' | h'
  · exact h j h'
  · subst h'; exact hk
def goodL (zs : List Int) : Prop := zs.length ≤ 300 ∧ allL zs zs.length
open Classical in
noncomputable def goodLB (zs : List Int) : Bool := decide (goodL zs)
theorem goodLB_yes {zs : List Int} (h : goodL zs) : goodLB zs = true := by unfold goodLB; simpa using h
theorem goodLB_no {zs : List Int} (h : ¬ goodL zs) : goodLB zs = false := by unfold goodLB; simpa using h
theorem not_goodL_at {zs : List Int} {k : Nat} (hk : k < zs.length) (h : ¬ okL (zs.getD k 0)) : ¬ goodL zs := fun g => h (g.2 k hk)

def shareOf (x : Int) : Nat := if 0 < x then 2 ^ (15 - x.toNat) else 0
def sharesTo (zs : List Int) : Nat → Nat
  | 0 => 0
  | k + 1 => sharesTo zs k + shareOf (zs.getD k 0)
theorem shareOf_le (x : Int) : shareOf x ≤ 16384 := by
  unfold shareOf
  split
  · have : 15 - x.toNat ≤ 14 := by omega
    exact Nat.pow_le_pow_right (n := 2) (by omega) this
  · omega
theorem sharesTo_le (zs : List Int) (k : Nat) : sharesTo zs k ≤ 16384 * k := by
  induction k with
  | zero => exact Nat.le_refl _
  | succ k ih => have := shareOf_le (zs.getD k 0); show sharesTo zs k + _ ≤ _; omega
theorem share_shr (n : Nat) (h0 : 0 < n) (h1 : n ≤ 15) : (32768 : Int) / 2 ^ n = (shareOf (n : Int) : Nat) := by
  unfold shareOf
  rw [if_pos (by omega), Int.toNat_natCast]
  match n, h0, h1 with
  | 1, _, _ | 2, _, _ | 3, _, _ | 4, _, _ | 5, _, _ | 6, _, _ | 7, _, _ | 8, _, _ | 9, _, _ | 10, _, _ | 11, _, _ | 12, _, _ | 13, _, _ | 14, _, _ | 15, _, _ => decide
theorem share_shl (n : Nat) (h0 : 0 < n) (_h1 : n ≤ 15) : wrap64 (2 ^ (15 - n)) = ((shareOf (n : Int) : Nat) : Int) := by
  have h := shareOf_le (n : Int)
  unfold shareOf at h ⊢
  rw [if_pos (by omega), Int.toNat_natCast] at h ⊢
  rw [show ((2 : Int) ^ (15 - n)) = ((2 ^ (15 - n) : Nat) : Int) by simp]
  generalize 2 ^ (15 - n) = q at h ⊢
  exact wrap64_of (by omega) (by omega)

def kindS (s : Nat) : Int := if s = 0 ∨ 32768 < s then 0 else if s = 32768 then 2 else 1
open Classical in
noncomputable def kindF (zs : List Int) : Int := if goodL zs then kindS (sharesTo zs zs.length) else 0
theorem kindF_good {zs : List Int} (h : goodL zs) : kindF zs = kindS (sharesTo zs zs.length) := by unfold kindF; exact if_pos h
theorem kindF_bad {zs : List Int} (h : ¬ goodL zs) : kindF zs = 0 := by unfold kindF; exact if_neg h
theorem kindF_ne {zs : List Int} (h : kindF zs ≠ 0) : goodL zs ∧ 0 < sharesTo zs zs.length ∧ sharesTo zs zs.length ≤ 32768 := by
  by_cases g : goodL zs
  · rw [kindF_good g] at h
    unfold kindS at h
    refine ⟨g, ?_, ?_⟩ <;> (apply Classical.byContradiction; intro hh; apply h; rw [if_pos (by omega)])
  · exact absurd (kindF_bad g) h

def okC (x : Int) : Prop := 0 ≤ x ∧ x ≤ 1000000000
instance (x : Int) : Decidable (okC x) := by unfold okC; infer_instance
def costTo (cs zs : List Int) : Nat → Int
  | 0 => 0
  | k + 1 => costTo cs zs k + cs.getD k 0 * zs.getD k 0
theorem cost_bd (c z : Int) (hc : okC c) (hz : okL z) : 0 ≤ c * z ∧ c * z ≤ 15000000000 := by
  obtain ⟨a, b⟩ := hc
  obtain ⟨d, e⟩ := hz
  have h1 := Int.mul_nonneg a d
  have h2 := Int.mul_le_mul b e d (by omega)
  omega
theorem costTo_bd (cs zs : List Int) (k : Nat) (hc : ∀ j, j < k → okC (cs.getD j 0)) (hz : ∀ j, j < k → okL (zs.getD j 0)) : 0 ≤ costTo cs zs k ∧ costTo cs zs k ≤ 15000000000 * k := by
  induction k with
  | zero => exact ⟨Int.le_refl _, by simp [costTo]⟩
  | succ k ih =>
    have h := ih (fun j hj => hc j (by omega)) (fun j hj => hz j (by omega))
    have h2 := cost_bd _ _ (hc k (by omega)) (hz k (by omega))
    show 0 ≤ costTo cs zs k + _ ∧ costTo cs zs k + _ ≤ _
    omega
def goodC (cs zs : List Int) : Prop := cs.length = zs.length ∧ goodL zs ∧ ∀ j, j < cs.length → okC (cs.getD j 0)
open Classical in
noncomputable def costF (cs zs : List Int) : Int := if goodC cs zs then costTo cs zs cs.length else -1
theorem costF_good {cs zs : List Int} (h : goodC cs zs) : costF cs zs = costTo cs zs cs.length := by unfold costF; exact if_pos h
theorem costF_bad {cs zs : List Int} (h : ¬ goodC cs zs) : costF cs zs = -1 := by unfold costF; exact if_neg h
end Go.Proofs.Ytcoegccnkdhpjaa
