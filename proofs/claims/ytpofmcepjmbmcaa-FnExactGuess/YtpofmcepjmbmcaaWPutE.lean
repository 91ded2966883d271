/- Plain facts behind the writer of bits. -/
import Derived.Test.YtpofmcepjmbmcaaWSink2
import Derived.Test.YtpofmcepjmbmcaaWTake4
import Derived.Deep.RegionWith
import Derived.Deep.LoopGhost
import Derived.Deep.DeepCutAuto
namespace Go.Proofs.Ytpofmcepjmbmcaa
open Go.RowKit

def roomI (L : Nat) : Int := (((8 - L % 8) % 8 : Nat) : Int)
theorem div_bdv (v : Nat) (hv : v < 18446744073709551616) (k : Nat) : 0 ≤ (v : Int) / 2 ^ k ∧ (v : Int) / 2 ^ k < 18446744073709551616 := by
  have h := Nat.div_le_self v (2 ^ k)
  rw [show ((v : Int) / 2 ^ k) = ((v / 2 ^ k : Nat) : Int) by simp]
  generalize v / 2 ^ k = y at h ⊢
  omega

theorem or8 (h : Bool) (x r m ch : Nat) (hx : x < 256) (hm : r + m ≤ 8) (hf : if h then x % 2 ^ (8 - r) = 0 else x < 2 ^ r) (hc : ch < 2 ^ m) : bits .or .u8 (x : Int) (IntKind.u8.wrap (IntKind.u64.wrap ((ch : Int) * 2 ^ cex h r m))) = ((x + ch * 2 ^ cex h r m : Nat) : Int) := by
  have ho := or_into h x r m ch hm hf hc
  have hl : ch * 2 ^ cex h r m < 256 := by
    have h1 : (ch + 1) * 2 ^ cex h r m ≤ 2 ^ m * 2 ^ cex h r m := Nat.mul_le_mul_right _ hc
    rw [← Nat.pow_add] at h1
    have h2 : 2 ^ (m + cex h r m) ≤ 2 ^ 8 := Nat.pow_le_pow_right (by omega) (by unfold cex; split <;> omega)
    have h3 : 0 < 2 ^ cex h r m := Nat.pow_pos (by omega)
    rw [Nat.add_mul, Nat.one_mul] at h1
    omega
  have e : IntKind.u8.wrap (IntKind.u64.wrap ((ch : Int) * 2 ^ cex h r m)) = ((ch * 2 ^ cex h r m : Nat) : Int) := by
    rw [IntKind.wrap_u64, IntKind.wrap_u8', show ((ch : Int) * 2 ^ cex h r m) = ((ch * 2 ^ cex h r m : Nat) : Int) by simp]; omega
  rw [e, u8_or_nat _ _ hx hl, ho]
end Go.Proofs.Ytpofmcepjmbmcaa
