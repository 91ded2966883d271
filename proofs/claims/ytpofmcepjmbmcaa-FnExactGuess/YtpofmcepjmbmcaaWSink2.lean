/- The walks of the sink of bits: the specification's numbers. -/
import Derived.Test.YtpofmcepjmbmcaaWSink
namespace Go.Proofs.Ytpofmcepjmbmcaa
open Go.RowKit

theorem bit_of_u64 (v k : Nat) (hv : v < 18446744073709551616) : bits .and .u64 ((v : Int) / 2 ^ k) 1 = ((v / 2 ^ k % 2 : Nat) : Int) := by
  have h := Nat.div_le_self v (2 ^ k)
  rw [show ((v : Int) / 2 ^ k) = ((v / 2 ^ k : Nat) : Int) by simp]
  generalize v / 2 ^ k = y at h ⊢
  go_bits2

end Go.Proofs.Ytpofmcepjmbmcaa
