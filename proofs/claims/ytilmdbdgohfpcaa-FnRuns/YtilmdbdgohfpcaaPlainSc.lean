/- Plain: the places of a block in slanting lines. -/
import Derived.Test.YtilmdbdgohfpcaaPlainBl
namespace Go.Proofs.Ytilmdbdgohfpcaa
open Go.RowKit

def rowS (k i : Nat) : Nat := if k % 2 = 0 then k - i else i
def scanIn (k : Nat) : Nat → List Int
  | 0 => []
  | i + 1 => scanIn k i ++ (if rowS k i < 8 ∧ k - rowS k i < 8 then [((8 * rowS k i + k - rowS k i : Nat) : Int)] else [])
def scanTo : Nat → List Int
  | 0 => []
  | k + 1 => scanTo k ++ scanIn k (k + 1)
def scanL : List Int := scanTo 15
theorem scan_len : ∀ k, k < 16 → ∀ i, i < 17 → (scanTo k ++ scanIn k i).length ≤ 1000 := by decide
theorem scanTo_len (k : Nat) (h : k < 16) : (scanTo k).length ≤ 1000 := by
  have := scan_len k h 0 (by omega)
  rw [List.length_append] at this
  omega
theorem scanL_length : scanL.length = 64 := by decide
theorem scanL_bd : ∀ j, j < 64 → 0 ≤ scanL.getD j 0 ∧ scanL.getD j 0 < 64 := by decide
theorem scanL_inR : InR 0 63 scanL := by
  intro j hj
  rw [scanL_length] at hj
  have := scanL_bd j hj
  omega
theorem scanL_zero : scanL.getD 0 0 = 0 := by decide
theorem rowS_le (k i : Nat) (h : i ≤ k) : rowS k i ≤ k := by unfold rowS; split <;> omega
end Go.Proofs.Ytilmdbdgohfpcaa
