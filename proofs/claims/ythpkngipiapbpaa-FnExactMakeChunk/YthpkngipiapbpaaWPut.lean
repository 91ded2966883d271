/- The walks of PutNumber, by the program and by the specification. -/
import Derived.Test.YthpkngipiapbpaaWMark
namespace Go.Proofs.Ythpkngipiapbpaa
open Go.RowKit

def putL (n : Nat) : List Int := if n < 128 then [(n : Int)] else ((n % 128 + 128 : Nat) : Int) :: putL (n / 128)
termination_by n
decreasing_by omega
theorem putL_last (n : Nat) (h : n < 128) : putL n = [(n : Int)] := by rw [putL, if_pos h]
theorem putL_more (n : Nat) (h : ¬ n < 128) : putL n = ((n % 128 + 128 : Nat) : Int) :: putL (n / 128) := by rw [putL, if_neg h]
theorem putL_inB (n : Nat) : InB (putL n) := by
  induction n using Nat.strongRecOn with
  | ind n ih =>
    intro j
    by_cases h : n < 128
    · rw [putL_last n h]
      rcases j with _ | j
      · simp; omega
      · simp
    · rw [putL_more n h]
      rcases j with _ | j
      · simp only [List.getD_cons_zero]; omega
      · rw [List.getD_cons_succ]; exact ih (n / 128) (by omega) j
theorem put_step (m l : Nat) (h : ¬ m < 128) (hm : m < 2 ^ (64 - 7 * l)) : l ≤ 8 ∧ m / 128 < 2 ^ (64 - 7 * (l + 1)) := by
  have h8 : l ≤ 8 := by
    rcases Nat.lt_or_ge 8 l with h9 | h9
    · have := Nat.pow_le_pow_right (show 0 < 2 by omega) (show 64 - 7 * l ≤ 1 by omega); omega
    · exact h9
  refine ⟨h8, ?_⟩
  have e : 64 - 7 * l = (64 - 7 * (l + 1)) + 7 := by omega
  rw [e, Nat.pow_add] at hm
  omega
theorem or_128 (m : Nat) : bits .or .u8 ((m : Int) % 256) 128 = (m : Int) % 128 + 128 := by
  have h1 := u8_or_nat (m % 128) 128 (by omega) (by omega)
  have h2 := u8_or_nat (m % 256) 128 (by omega) (by omega)
  have e : m % 256 ||| 128 = m % 128 + 128 := by
    have hj := nat_join 7 128 (m % 128) (by omega) (by omega)
    rw [Nat.or_comm] at hj
    rcases Nat.lt_or_ge (m % 256) 128 with hl | hl
    · rw [show m % 256 = m % 128 by omega, hj]; omega
    · have e1 : m % 256 = m % 128 ||| 128 := by rw [hj]; omega
      rw [e1, Nat.or_assoc, Nat.or_self, hj]; omega
  rw [show ((m : Int) % 256) = ((m % 256 : Nat) : Int) by omega]
  refine h2.trans ?_
  rw [e]; omega

end Go.Proofs.Ythpkngipiapbpaa
