/- Plain: a number of some bits taken out of bytes, bit by bit and part by part, in either order. -/
import Derived.Test.YtpofmcepjmbmcaaPlain
namespace Go.Proofs.Ytpofmcepjmbmcaa
open Go.RowKit

def byteAt (zs : List Int) (i : Nat) : Nat := (zs.getD i 0).toNat
def bitLow (zs : List Int) (i : Nat) : Nat := byteAt zs (i / 8) / 2 ^ (i % 8) % 2
def bitHigh (zs : List Int) (i : Nat) : Nat := byteAt zs (i / 8) / 2 ^ (7 - i % 8) % 2
def lowTo (zs : List Int) (p : Nat) : Nat → Nat
  | 0 => 0
  | k + 1 => lowTo zs p k + bitLow zs (p + k) * 2 ^ k
def highTo (zs : List Int) (p : Nat) : Nat → Nat
  | 0 => 0
  | k + 1 => 2 * highTo zs p k + bitHigh zs (p + k)
theorem lowTo_lt (zs : List Int) (p k : Nat) : lowTo zs p k < 2 ^ k := by
  induction k with
  | zero => show 0 < 1; omega
  | succ k ih =>
    have hb : bitLow zs (p + k) ≤ 1 := by unfold bitLow; omega
    have := Nat.mul_le_mul_right (2 ^ k) hb
    show lowTo zs p k + bitLow zs (p + k) * 2 ^ k < 2 ^ (k + 1)
    rw [Nat.pow_succ]; omega
theorem highTo_lt (zs : List Int) (p k : Nat) : highTo zs p k < 2 ^ k := by
  induction k with
  | zero => show 0 < 1; omega
  | succ k ih =>
    have hb : bitHigh zs (p + k) ≤ 1 := by unfold bitHigh; omega
    show 2 * highTo zs p k + bitHigh zs (p + k) < 2 ^ (k + 1)
    rw [Nat.pow_succ]; omega
theorem mod_pow_step (x n : Nat) : x % 2 ^ (n + 1) = x % 2 ^ n + x / 2 ^ n % 2 * 2 ^ n := by
  rw [Nat.pow_succ, Nat.mod_mul, Nat.mul_comm (2 ^ n)]
theorem low_part (zs : List Int) (p d n : Nat) (h : (p + d) % 8 + n ≤ 8) :
    lowTo zs p (d + n) = lowTo zs p d + byteAt zs ((p + d) / 8) / 2 ^ ((p + d) % 8) % 2 ^ n * 2 ^ d := by
  induction n with
  | zero => simp [Nat.mod_one]
  | succ n ih =>
    show lowTo zs p (d + n) + bitLow zs (p + (d + n)) * 2 ^ (d + n) = _
    rw [ih (by omega), mod_pow_step, Nat.add_mul, Nat.add_assoc]
    congr 1
    unfold bitLow
    have e1 : (p + (d + n)) / 8 = (p + d) / 8 := by omega
    have e2 : (p + (d + n)) % 8 = (p + d) % 8 + n := by omega
    rw [e1, e2, Nat.pow_add, ← Nat.div_div_eq_div_mul]
    congr 1
    rw [Nat.mul_assoc, ← Nat.pow_add, Nat.add_comm n d]
theorem high_part (zs : List Int) (p d n : Nat) (h : (p + d) % 8 + n ≤ 8) :
    highTo zs p (d + n) = highTo zs p d * 2 ^ n + byteAt zs ((p + d) / 8) / 2 ^ (8 - (p + d) % 8 - n) % 2 ^ n := by
  induction n with
  | zero => simp [Nat.mod_one]
  | succ n ih =>
    show 2 * highTo zs p (d + n) + bitHigh zs (p + (d + n)) = _
    rw [ih (by omega)]
    unfold bitHigh
    have e1 : (p + (d + n)) / 8 = (p + d) / 8 := by omega
    have e2 : 7 - (p + (d + n)) % 8 = 8 - (p + d) % 8 - (n + 1) := by omega
    have e3 : 8 - (p + d) % 8 - n = (8 - (p + d) % 8 - (n + 1)) + 1 := by omega
    rw [e1, e2, e3, Nat.pow_succ 2 (8 - (p + d) % 8 - (n + 1)), ← Nat.div_div_eq_div_mul]
    generalize byteAt zs ((p + d) / 8) / 2 ^ (8 - (p + d) % 8 - (n + 1)) = y
    have e4 : y % 2 ^ (n + 1) = y % 2 + 2 * (y / 2 % 2 ^ n) := by
      rw [Nat.pow_succ, Nat.mul_comm, Nat.mod_mul]
    rw [e4, Nat.pow_succ]
    generalize highTo zs p d = a
    have : a * (2 ^ n * 2) = 2 * (a * 2 ^ n) := by rw [← Nat.mul_assoc, Nat.mul_comm]
    omega

theorem bit_of_u8 (x s : Nat) (hx : x < 256) : bits .and .u64 (IntKind.u64.wrap ((x : Int) / 2 ^ s)) 1 = ((x / 2 ^ s % 2 : Nat) : Int) := by
  have h := Nat.div_le_self x (2 ^ s)
  rw [show ((x : Int) / 2 ^ s) = ((x / 2 ^ s : Nat) : Int) by simp, IntKind.wrap_u64]
  generalize x / 2 ^ s = y at h ⊢
  rw [show ((y : Int) % 18446744073709551616) = (y : Int) by omega]
  go_bits2
theorem or_bit (v b k : Nat) (hv : v < 2 ^ k) (hb : b ≤ 1) (hk : k < 64) : bits .or .u64 (v : Int) (IntKind.u64.wrap ((b : Int) * 2 ^ k)) = ((v + b * 2 ^ k : Nat) : Int) := by
  have h1 : 2 ^ k ≤ 2 ^ 63 := Nat.pow_le_pow_right (by omega) (by omega)
  have h2 := Nat.mul_le_mul_right (2 ^ k) hb
  have e : IntKind.u64.wrap ((b : Int) * 2 ^ k) = ((b * 2 ^ k : Nat) : Int) := by
    rw [IntKind.wrap_u64, show ((b : Int) * 2 ^ k) = ((b * 2 ^ k : Nat) : Int) by simp]
    omega
  rw [e, u64_or_nat _ _ (by omega) (by omega), Nat.or_comm, nat_join k _ _ (Nat.mul_mod_left _ _) hv, Nat.add_comm]
theorem twice_bit (v b k : Nat) (hv : v < 2 ^ k) (hb : b ≤ 1) (hk : k < 64) : IntKind.u64.wrap (IntKind.u64.wrap ((v : Int) * 2) + (b : Int)) = ((2 * v + b : Nat) : Int) := by
  have h1 : 2 ^ k ≤ 2 ^ 63 := Nat.pow_le_pow_right (by omega) (by omega)
  rw [IntKind.wrap_u64, IntKind.wrap_u64]; omega
theorem mask_bits (v n : Nat) (hv : v < 18446744073709551616) (hn : n ≤ 63) : bits .and .u64 (v : Int) (IntKind.u64.wrap (IntKind.u64.wrap (2 ^ n) - 1)) = ((v % 2 ^ n : Nat) : Int) := by
  have h1 : 2 ^ n ≤ 2 ^ 63 := Nat.pow_le_pow_right (by omega) hn
  have h2 : 0 < 2 ^ n := Nat.pow_pos (by omega)
  have e : IntKind.u64.wrap (IntKind.u64.wrap (2 ^ n) - 1) = ((2 ^ n - 1 : Nat) : Int) := by
    rw [IntKind.wrap_u64, IntKind.wrap_u64, show ((2 : Int) ^ n) = ((2 ^ n : Nat) : Int) by simp]; omega
  rw [e, u64_and_nat _ _ hv (by omega), Nat.and_two_pow_sub_one_eq_mod]
theorem or_part (v c d m : Nat) (hv : v < 2 ^ d) (hc : c < 2 ^ m) (h : d + m ≤ 64) : bits .or .u64 (v : Int) (IntKind.u64.wrap ((c : Int) * 2 ^ d)) = ((v + c * 2 ^ d : Nat) : Int) := by
  have h1 : 2 ^ (d + m) ≤ 2 ^ 64 := Nat.pow_le_pow_right (by omega) h
  have h2 : (c + 1) * 2 ^ d ≤ 2 ^ m * 2 ^ d := Nat.mul_le_mul_right _ (by omega)
  rw [Nat.add_mul, Nat.one_mul, ← Nat.pow_add, Nat.add_comm m d] at h2
  have e : IntKind.u64.wrap ((c : Int) * 2 ^ d) = ((c * 2 ^ d : Nat) : Int) := by
    rw [IntKind.wrap_u64, show ((c : Int) * 2 ^ d) = ((c * 2 ^ d : Nat) : Int) by simp]
    omega
  rw [e, u64_or_nat _ _ (by omega) (by omega), Nat.or_comm, nat_join d _ _ (Nat.mul_mod_left _ _) hv, Nat.add_comm]
theorem part_or (v c d m : Nat) (hv : v < 2 ^ d) (hc : c < 2 ^ m) (h : d + m ≤ 64) : bits .or .u64 (IntKind.u64.wrap ((v : Int) * 2 ^ m)) (c : Int) = ((v * 2 ^ m + c : Nat) : Int) := by
  have h1 : 2 ^ (d + m) ≤ 2 ^ 64 := Nat.pow_le_pow_right (by omega) h
  have h2 : (v + 1) * 2 ^ m ≤ 2 ^ d * 2 ^ m := Nat.mul_le_mul_right _ (by omega)
  rw [Nat.add_mul, Nat.one_mul, ← Nat.pow_add] at h2
  have e : IntKind.u64.wrap ((v : Int) * 2 ^ m) = ((v * 2 ^ m : Nat) : Int) := by
    rw [IntKind.wrap_u64, show ((v : Int) * 2 ^ m) = ((v * 2 ^ m : Nat) : Int) by simp]
    omega
  rw [e, u64_or_nat _ _ (by omega) (by omega), nat_join m _ _ (Nat.mul_mod_left _ _) hc]
def goodAt (len : Nat) (p bits : Int) : Bool := decide (0 ≤ bits) && decide (bits ≤ 64) && decide (0 ≤ p) && decide (p ≤ 8 * len - bits)
end Go.Proofs.Ytpofmcepjmbmcaa
