/- Plain: bits put one behind the other into bytes, in either order; a part of a number put at once is as many bits. -/
import Derived.Test.YtpofmcepjmbmcaaPlainT
namespace Go.Proofs.Ytpofmcepjmbmcaa
open Go.RowKit

def opn (zs : List Nat) (L : Nat) : List Nat := if L % 8 = 0 then zs ++ [0] else zs
def ex (h : Bool) (r : Nat) : Nat := if h then 7 - r else r
def addBit (h : Bool) (zs : List Nat) (L b : Nat) : List Nat := (opn zs L).set (L / 8) ((opn zs L).getD (L / 8) 0 + b * 2 ^ ex h (L % 8))
def fbit (h : Bool) (v n k : Nat) : Nat := if h then v / 2 ^ (n - 1 - k) % 2 else v / 2 ^ k % 2
def ft (h : Bool) (v n : Nat) (zs : List Nat) (L : Nat) : Nat → List Nat
  | 0 => zs
  | k + 1 => addBit h (ft h v n zs L k) (L + k) (fbit h v n k)

/-- The bytes hold so many bits, and the bits that are left in the last one are 0. -/
def Inv (h : Bool) (zs : List Nat) (L : Nat) : Prop :=
  zs.length = (L + 7) / 8 ∧ (∀ j, zs.getD j 0 < 256) ∧ (L % 8 ≠ 0 → if h then zs.getD (L / 8) 0 % 2 ^ (8 - L % 8) = 0 else zs.getD (L / 8) 0 < 2 ^ (L % 8))

theorem opn_len {h : Bool} {zs : List Nat} {L : Nat} (hi : Inv h zs L) : (opn zs L).length = L / 8 + 1 := by
  unfold opn; have := hi.1
  split
  · simp; omega
  · omega
theorem getD_snoc_last (zs : List Nat) (a : Nat) : (zs ++ [a]).getD zs.length 0 = a := by
  rw [List.getD_eq_getElem?_getD, List.getElem?_append_right (Nat.le_refl _), Nat.sub_self]; rfl
theorem getD_snoc (zs : List Nat) (j : Nat) : (zs ++ [0]).getD j 0 = zs.getD j 0 := by
  rw [List.getD_eq_getElem?_getD, List.getD_eq_getElem?_getD]
  rcases Nat.lt_trichotomy j zs.length with h | h | h
  · rw [List.getElem?_append_left h]
  · subst h; rw [List.getElem?_append_right (Nat.le_refl _), Nat.sub_self, List.getElem?_eq_none (Nat.le_refl _)]; rfl
  · rw [List.getElem?_eq_none (by simp; omega), List.getElem?_eq_none (by omega)]
theorem opn_getD (zs : List Nat) (L j : Nat) : (opn zs L).getD j 0 = zs.getD j 0 := by
  unfold opn; split
  · exact getD_snoc zs j
  · rfl
theorem opn_x {h : Bool} {zs : List Nat} {L : Nat} (hi : Inv h zs L) : (opn zs L).getD (L / 8) 0 < 256 ∧ (if h then (opn zs L).getD (L / 8) 0 % 2 ^ (8 - L % 8) = 0 else (opn zs L).getD (L / 8) 0 < 2 ^ (L % 8)) := by
  rw [opn_getD]
  refine ⟨hi.2.1 _, ?_⟩
  by_cases h0 : L % 8 = 0
  · have hz : zs.getD (L / 8) 0 = 0 := by
      rw [List.getD_eq_getElem?_getD, List.getElem?_eq_none (by have := hi.1; omega)]; rfl
    rw [hz, h0]; cases h <;> simp
  · exact hi.2.2 h0
theorem getD_set_same (zs : List Nat) (i a : Nat) (hi : i < zs.length) : (zs.set i a).getD i 0 = a := by
  rw [List.getD_eq_getElem?_getD, List.getElem?_set_self hi]; rfl
theorem getD_set_other (zs : List Nat) (i j a : Nat) (h : i ≠ j) : (zs.set i a).getD j 0 = zs.getD j 0 := by
  rw [List.getD_eq_getElem?_getD, List.getD_eq_getElem?_getD, List.getElem?_set_ne h]
theorem pow_cases (r : Nat) (h : r < 8) : r = 0 ∨ r = 1 ∨ r = 2 ∨ r = 3 ∨ r = 4 ∨ r = 5 ∨ r = 6 ∨ r = 7 := by omega
theorem step_x (h : Bool) (x r b : Nat) (hr : r < 8) (hb : b ≤ 1) (hx : x < 256) (hf : if h then x % 2 ^ (8 - r) = 0 else x < 2 ^ r) :
    x + b * 2 ^ ex h r < 256 ∧ (if h then (x + b * 2 ^ ex h r) % 2 ^ (8 - (r + 1)) = 0 else x + b * 2 ^ ex h r < 2 ^ (r + 1)) := by
  have hb' : b = 0 ∨ b = 1 := by omega
  cases h <;> rcases pow_cases r hr with e | e | e | e | e | e | e | e <;> subst e <;> rcases hb' with e | e <;> subst e <;> simp [ex] at hf ⊢ <;> omega
theorem addBit_inv {h : Bool} {zs : List Nat} {L b : Nat} (hi : Inv h zs L) (hb : b ≤ 1) : Inv h (addBit h zs L b) (L + 1) := by
  have hl := opn_len hi
  have hx := opn_x hi
  have hs := step_x h _ (L % 8) b (by omega) hb hx.1 hx.2
  refine ⟨?_, ?_, ?_⟩
  · unfold addBit; rw [List.length_set, hl]; omega
  · intro j
    unfold addBit
    by_cases e : L / 8 = j
    · subst e; rw [getD_set_same _ _ _ (by omega)]; exact hs.1
    · rw [getD_set_other _ _ _ _ e, opn_getD]; exact hi.2.1 j
  · intro h0
    have e1 : (L + 1) / 8 = L / 8 := by omega
    have e2 : (L + 1) % 8 = L % 8 + 1 := by omega
    rw [e1, e2]
    unfold addBit
    rw [getD_set_same _ _ _ (by omega)]
    exact hs.2
theorem fbit_le (h : Bool) (v n k : Nat) : fbit h v n k ≤ 1 := by unfold fbit; split <;> omega
theorem ft_inv {h : Bool} {v n : Nat} {zs : List Nat} {L : Nat} (hi : Inv h zs L) (k : Nat) : Inv h (ft h v n zs L k) (L + k) := by
  induction k with
  | zero => exact hi
  | succ k ih => exact addBit_inv ih (fbit_le h v n k)

def chunk (h : Bool) (v n d m : Nat) : Nat := if h then v / 2 ^ (n - d - m) % 2 ^ m else v / 2 ^ d % 2 ^ m
def cex (h : Bool) (r m : Nat) : Nat := if h then 8 - r - m else r
theorem chunk_lt (h : Bool) (v n d m : Nat) : chunk h v n d m < 2 ^ m := by
  unfold chunk; split <;> exact Nat.mod_lt _ (Nat.pow_pos (by omega))
theorem ft_chunk {h : Bool} {v n : Nat} {zs : List Nat} {L : Nat} (hi : Inv h zs L) (d m : Nat) (hm : (L + d) % 8 + (m + 1) ≤ 8) (hn : d + (m + 1) ≤ n) :
    ft h v n zs L (d + (m + 1)) = (opn (ft h v n zs L d) (L + d)).set ((L + d) / 8) ((opn (ft h v n zs L d) (L + d)).getD ((L + d) / 8) 0 + chunk h v n d (m + 1) * 2 ^ cex h ((L + d) % 8) (m + 1)) := by
  have hl := opn_len (ft_inv (v := v) (n := n) hi d)
  induction m with
  | zero =>
    show addBit h (ft h v n zs L d) (L + d) (fbit h v n d) = _
    unfold addBit
    congr 2
    have e1 : fbit h v n d = chunk h v n d (0 + 1) := by
      unfold fbit chunk; split
      · rw [show n - 1 - d = n - d - (0 + 1) by omega, Nat.zero_add, Nat.pow_one]
      · rw [Nat.zero_add, Nat.pow_one]
    have e2 : ex h ((L + d) % 8) = cex h ((L + d) % 8) (0 + 1) := by unfold ex cex; split <;> omega
    rw [e1, e2]
  | succ m ih =>
    show addBit h (ft h v n zs L (d + (m + 1))) (L + (d + (m + 1))) (fbit h v n (d + (m + 1))) = _
    rw [ih (by omega) (by omega)]
    have e1 : (L + (d + (m + 1))) / 8 = (L + d) / 8 := by omega
    have e2 : (L + (d + (m + 1))) % 8 = (L + d) % 8 + (m + 1) := by omega
    unfold addBit
    generalize opn (ft h v n zs L d) (L + d) = Y at hl ⊢
    generalize Y.getD ((L + d) / 8) 0 = x
    have e3 : ∀ A, opn A (L + (d + (m + 1))) = A := fun A => by unfold opn; rw [if_neg (by omega)]
    rw [e3, e1, e2, getD_set_same _ _ _ (by omega), List.set_set]
    congr 1
    rw [Nat.add_assoc]
    congr 1
    unfold fbit chunk ex cex
    cases h
    · simp only [Bool.false_eq_true, if_false]
      have hp := mod_pow_step (v / 2 ^ d) (m + 1)
      rw [Nat.div_div_eq_div_mul, ← Nat.pow_add] at hp
      rw [show m + 1 + 1 = (m + 1) + 1 from rfl, hp, Nat.add_mul, Nat.pow_add 2 ((L + d) % 8) (m + 1)]
      rw [Nat.mul_assoc (v / 2 ^ (d + (m + 1)) % 2), Nat.mul_comm (2 ^ (m + 1))]
    · simp only [if_true]
      have e4 : n - 1 - (d + (m + 1)) = n - d - (m + 1 + 1) := by omega
      have e5 : n - d - (m + 1) = (n - d - (m + 1 + 1)) + 1 := by omega
      have e6 : 8 - (L + d) % 8 - (m + 1) = (8 - (L + d) % 8 - (m + 1 + 1)) + 1 := by omega
      have e7 : 7 - ((L + d) % 8 + (m + 1)) = 8 - (L + d) % 8 - (m + 1 + 1) := by omega
      rw [e4, e5, e6, e7, Nat.pow_succ 2 (n - d - (m + 1 + 1)), ← Nat.div_div_eq_div_mul]
      generalize v / 2 ^ (n - d - (m + 1 + 1)) = y
      have e8 : y % 2 ^ (m + 1 + 1) = y % 2 + 2 * (y / 2 % 2 ^ (m + 1)) := by rw [Nat.pow_succ 2 (m + 1), Nat.mul_comm, Nat.mod_mul]
      rw [e8, Nat.pow_succ 2 (8 - (L + d) % 8 - (m + 1 + 1)), Nat.add_mul]
      generalize 2 ^ (8 - (L + d) % 8 - (m + 1 + 1)) = q
      generalize y / 2 % 2 ^ (m + 1) = z
      have : z * (q * 2) = 2 * z * q := by rw [Nat.mul_comm q 2, ← Nat.mul_assoc, Nat.mul_comm z 2]
      omega
theorem or_into (h : Bool) (x r m c : Nat) (hm : r + m ≤ 8) (hf : if h then x % 2 ^ (8 - r) = 0 else x < 2 ^ r) (hc : c < 2 ^ m) : x ||| (c * 2 ^ cex h r m) = x + c * 2 ^ cex h r m := by
  unfold cex
  cases h
  · simp only [Bool.false_eq_true, if_false] at hf ⊢
    rw [Nat.or_comm, nat_join r _ _ (Nat.mul_mod_left _ _) hf, Nat.add_comm]
  · simp only [if_true] at hf ⊢
    refine nat_join (8 - r) _ _ hf ?_
    have := Nat.mul_lt_mul_of_pos_right hc (Nat.pow_pos (n := 8 - r - m) (show 0 < 2 by omega))
    rwa [← Nat.pow_add, show m + (8 - r - m) = 8 - r by omega] at this
end Go.Proofs.Ytpofmcepjmbmcaa
