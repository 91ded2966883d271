/- Plain: the number that is told in groups of seven bits, read and written. -/
import Derived.Test.YthndnehadkgibaaPlain
namespace Go.Proofs.Ythndnehadkgibaa
open Go.RowKit

def gnGo (zs : List Int) (a : Nat) : Nat → Nat → Nat → Option (Nat × Nat)
  | 0, _, _ => none
  | f + 1, i, v =>
    if zs.length ≤ a + i then none
    else if i = 9 ∧ 1 < (zs.getD (a + i) 0).toNat then none
    else if (zs.getD (a + i) 0).toNat < 128 then
      (if (zs.getD (a + i) 0).toNat = 0 ∧ 0 < i then none else some (v + (zs.getD (a + i) 0).toNat % 128 * 2 ^ (7 * i), a + i + 1))
    else gnGo zs a f (i + 1) (v + (zs.getD (a + i) 0).toNat % 128 * 2 ^ (7 * i))
def getNum (zs : List Int) (p : Int) : Option (Nat × Nat) := if p < 0 then none else gnGo zs p.toNat 10 0 0
def numV : Option (Nat × Nat) → Value
  | none => .agg #[.bool false, .int .u64 0, .int .i64 0]
  | some (v, n) => .agg #[.bool true, .int .u64 (v : Nat), .int .i64 (n : Nat)]
theorem u8_and_127 (d : Nat) (h : d < 256) : bits .and .u8 (d : Int) 127 = ((d % 128 : Nat) : Int) := by go_bits2
theorem group_bd (v d k : Nat) (hv : v < 2 ^ (7 * k)) (hk : k ≤ 8) : v < 2 ^ 56 ∧ d % 128 * 2 ^ (7 * k) < 2 ^ 63 ∧ v + d % 128 * 2 ^ (7 * k) < 2 ^ (7 * (k + 1)) := by
  have h1 : 2 ^ (7 * k) ≤ 2 ^ 56 := Nat.pow_le_pow_right (by omega) (by omega)
  have h2 : d % 128 * 2 ^ (7 * k) ≤ 127 * 2 ^ (7 * k) := Nat.mul_le_mul_right _ (by omega)
  have h3 : 2 ^ (7 * (k + 1)) = 128 * 2 ^ (7 * k) := by rw [show 7 * (k + 1) = 7 + 7 * k by omega, Nat.pow_add]
  omega
theorem or_group (v d k : Nat) (hv : v < 2 ^ (7 * k)) (hk : k ≤ 8) : bits .or .u64 (v : Int) (IntKind.u64.wrap ((d : Int) % 128 * 2 ^ (7 * k))) = ((v + d % 128 * 2 ^ (7 * k) : Nat) : Int) := by
  have hb := group_bd v d k hv hk
  have e : IntKind.u64.wrap ((d : Int) % 128 * 2 ^ (7 * k)) = ((d % 128 * 2 ^ (7 * k) : Nat) : Int) := by
    rw [IntKind.wrap_u64, show ((d : Int) % 128 * 2 ^ (7 * k)) = ((d % 128 * 2 ^ (7 * k) : Nat) : Int) by simp]
    omega
  rw [e, u64_or_nat _ _ (by omega) (by omega), Nat.or_comm, nat_join (7 * k) _ _ (Nat.mul_mod_left _ _) hv, Nat.add_comm]
theorem or_group9 (v : Nat) (hv : v < 2 ^ (7 * 9)) : bits .or .u64 (v : Int) (IntKind.u64.wrap (IntKind.u64.wrap (bits .and .u8 1 127) * 9223372036854775808)) = (v : Int) + 9223372036854775808 := by
  have e : bits .and .u8 1 127 = 1 := by decide
  rw [e, show IntKind.u64.wrap (IntKind.u64.wrap 1 * 9223372036854775808) = ((9223372036854775808 : Nat) : Int) by rfl, u64_or_nat _ _ (by omega) (by omega), Nat.or_comm, nat_join 63 _ _ (by omega) (by omega)]
  omega
theorem gn_end (zs : List Int) (a f i v : Nat) (h : zs.length ≤ a + i) : gnGo zs a f i v = none := by
  cases f with
  | zero => rfl
  | succ f => unfold gnGo; rw [if_pos h]
end Go.Proofs.Ythndnehadkgibaa
