/- The texts behind FnExactGoodStill, part 0: what each of them says stands at its head. -/
import Derived.Laws.BitsAll
import Derived.WalkKit
import Derived.Test.YthkppcncajmniaaDoorRows
import Derived.WalkSpells
import Derived.WalkLawsBesides
import Derived.BigQuiet
import Derived.Deep.QuietTactic
import Derived.BigRegion
import Derived.Deep.RegionHeld
import Derived.Deep.RegionHeld3
import Derived.Deep.RegionWith
/- Plain arithmetic and lists behind chapter 1: what a check sum is after some bytes, what folding and unfolding a number gives, what the bits of words are; no program is named here. -/
namespace Go.Proofs.YthkppcncajmniaaDoor
open Go.RowKit

theorem take_snoc_getD {α : Type} (zs : List α) (d : α) (k : Nat) (h : k < zs.length) : zs.take (k + 1) = zs.take k ++ [zs.getD k d] := by
  rw [List.take_succ_eq_append_getElem h, List.getD_eq_getElem?_getD, List.getElem?_eq_getElem h]; rfl

theorem hide {p : Prop} (h : p) : Hid p := h
theorem unhide {p : Prop} (h : Hid p) : p := h
theorem ret_int {k : IntKind} {a b : Int} (h : a = b) : Ending.returned (.int k a) = .returned (.int k b) := by rw [h]

/-! ### Adler -/
def adStep (p : Int × Int) (x : Int) : Int × Int := ((p.1 + x) % 65521, (p.2 + (p.1 + x) % 65521) % 65521)
def adTo (zs : List Int) (k : Nat) : Int × Int := (zs.take k).foldl adStep (1, 0)
def adlerF (zs : List Int) : Int := (65536 * (adTo zs zs.length).2 + (adTo zs zs.length).1) % 4294967296
theorem adTo_succ (zs : List Int) (k : Nat) (h : k < zs.length) : adTo zs (k + 1) = adStep (adTo zs k) (zs.getD k 0) := by
  unfold adTo; rw [take_snoc_getD zs 0 k h, List.foldl_append]; rfl
theorem adTo_succ1 (zs : List Int) (k : Nat) (h : k < zs.length) : (adTo zs (k + 1)).1 = ((adTo zs k).1 + zs.getD k 0) % 65521 := by rw [adTo_succ zs k h]; rfl
theorem adTo_succ2 (zs : List Int) (k : Nat) (h : k < zs.length) : (adTo zs (k + 1)).2 = ((adTo zs k).2 + ((adTo zs k).1 + zs.getD k 0) % 65521) % 65521 := by rw [adTo_succ zs k h]; rfl
theorem adStep_bd (p : Int × Int) (x : Int) : (0 ≤ (adStep p x).1 ∧ (adStep p x).1 < 65521) ∧ 0 ≤ (adStep p x).2 ∧ (adStep p x).2 < 65521 := by
  unfold adStep; simp only; omega
theorem adTo_bd (zs : List Int) (k : Nat) : (0 ≤ (adTo zs k).1 ∧ (adTo zs k).1 < 65521) ∧ 0 ≤ (adTo zs k).2 ∧ (adTo zs k).2 < 65521 := by
  unfold adTo
  rcases List.eq_nil_or_concat (zs.take k) with h | ⟨l, x, h⟩
  · rw [h]; simp
  · rw [h, List.concat_eq_append, List.foldl_append]; exact adStep_bd _ _

/-! ### Crc -/
def crcBit (r : Nat) : Nat := if r % 2 = 1 then (r / 2) ^^^ 3988292384 else r / 2
def crcIt : Nat → Nat → Nat
  | 0, r => r
  | m + 1, r => crcBit (crcIt m r)
def crcStep (r : Nat) (x : Int) : Nat := crcIt 8 (r ^^^ x.toNat)
def crcTo (zs : List Int) (k : Nat) : Nat := (zs.take k).foldl (fun r x => crcIt 8 (r ^^^ (x.toNat % 256))) 4294967295
def crcF (zs : List Int) : Int := 4294967295 - (crcTo zs zs.length : Nat)
theorem crcBit_lt (r : Nat) (h : r < 4294967296) : crcBit r < 4294967296 := by
  unfold crcBit; split
  · exact Nat.xor_lt_two_pow (n := 32) (by omega) (by omega)
  · omega
theorem crcIt_lt (m r : Nat) (h : r < 4294967296) : crcIt m r < 4294967296 := by
  induction m with
  | zero => exact h
  | succ m ih => exact crcBit_lt _ ih
theorem u32_and_one (y : Nat) (h : y < 4294967296) : bits .and .u32 (y : Int) 1 = ((y % 2 : Nat) : Int) := by go_bits2
theorem crcBit_odd (y : Nat) (h : y < 4294967296) (ho : y % 2 = 1) : bits .xor .u32 ((y : Int) / 2) 3988292384 = (crcBit y : Nat) := by
  have := u32_xor_nat (y / 2) 3988292384 (by omega) (by omega)
  unfold crcBit; rw [if_pos ho, ← this]; rfl
theorem crcBit_even (y : Nat) (ho : ¬ y % 2 = 1) : (y : Int) / 2 = (crcBit y : Nat) := by
  unfold crcBit; rw [if_neg ho]; omega
theorem crcTo_succ (zs : List Int) (k : Nat) (h : k < zs.length) : crcTo zs (k + 1) = crcIt 8 (crcTo zs k ^^^ ((zs.getD k 0).toNat % 256)) := by
  unfold crcTo; rw [take_snoc_getD zs 0 k h, List.foldl_append]; rfl
theorem crcTo_lt (zs : List Int) (k : Nat) : crcTo zs k < 4294967296 := by
  unfold crcTo
  generalize zs.take k = l
  suffices H : ∀ r, r < 4294967296 → l.foldl (fun r x => crcIt 8 (r ^^^ (x.toNat % 256))) r < 4294967296 from H _ (by omega)
  induction l with
  | nil => intro r h; exact h
  | cons x l ih => intro r h; exact ih _ (crcIt_lt _ _ (Nat.xor_lt_two_pow (n := 32) (by omega) (by omega)))

theorem xor_half (a b : Nat) : (a ^^^ b) / 2 = a / 2 ^^^ b / 2 := Nat.xor_div_two_pow (n := 1)
theorem xor_par (a b : Nat) : (a ^^^ b) % 2 = (a % 2 ^^^ b % 2) := Nat.xor_mod_two_pow (n := 1)
theorem crcBit_xor (a b : Nat) : crcBit (a ^^^ b) = crcBit a ^^^ crcBit b := by
  unfold crcBit
  rw [xor_par, xor_half]
  rcases Nat.mod_two_eq_zero_or_one a with ha | ha <;> rcases Nat.mod_two_eq_zero_or_one b with hb | hb
  · rw [ha, hb]; simp
  · rw [ha, hb]; simp only [show ((0 : Nat) ^^^ 1) = 1 from rfl, if_true, show ¬ ((0 : Nat) = 1) by omega, if_false]
    rw [Nat.xor_assoc]
  · rw [ha, hb]; simp only [show ((1 : Nat) ^^^ 0) = 1 from rfl, if_true, show ¬ ((0 : Nat) = 1) by omega, if_false]
    rw [Nat.xor_assoc, Nat.xor_assoc, Nat.xor_comm (b / 2)]
  · rw [ha, hb]; simp only [show ((1 : Nat) ^^^ 1) = 0 from rfl, if_true, show ¬ ((0 : Nat) = 1) by omega, if_false]
    rw [Nat.xor_assoc, ← Nat.xor_assoc 3988292384 (b / 2), Nat.xor_comm 3988292384 (b / 2), Nat.xor_assoc (b / 2), Nat.xor_self, Nat.xor_zero]
theorem crcIt_xor (m a b : Nat) : crcIt m (a ^^^ b) = crcIt m a ^^^ crcIt m b := by
  induction m with
  | zero => rfl
  | succ m ih => show crcBit _ = crcBit _ ^^^ crcBit _; rw [ih, crcBit_xor]
theorem crcIt_shift (m h : Nat) : crcIt m (2 ^ m * h) = h := by
  induction m generalizing h with
  | zero => show 2 ^ 0 * h = h; omega
  | succ m ih =>
    show crcBit (crcIt m (2 ^ (m + 1) * h)) = h
    rw [Nat.pow_succ, Nat.mul_assoc, ih]
    unfold crcBit; rw [if_neg (by omega)]; omega
theorem split_xor (r : Nat) : r = (256 * (r / 256)) ^^^ (r % 256) := by
  have h1 : ((256 * (r / 256)) ^^^ (r % 256)) / 256 = (256 * (r / 256)) / 256 ^^^ (r % 256) / 256 := Nat.xor_div_two_pow (n := 8)
  have h2 : ((256 * (r / 256)) ^^^ (r % 256)) % 256 = (256 * (r / 256)) % 256 ^^^ (r % 256) % 256 := Nat.xor_mod_two_pow (n := 8)
  rw [show 256 * (r / 256) / 256 = r / 256 by omega, show r % 256 / 256 = 0 by omega, Nat.xor_zero] at h1
  rw [show 256 * (r / 256) % 256 = 0 by omega, show r % 256 % 256 = r % 256 by omega, Nat.zero_xor] at h2
  omega
theorem crc_table (r x : Nat) : crcIt 8 (r ^^^ x) = r / 256 ^^^ crcIt 8 ((r % 256) ^^^ x) := by
  have h := crcIt_shift 8 (r / 256)
  rw [show (2 : Nat) ^ 8 = 256 from rfl] at h
  have e : r ^^^ x = (256 * (r / 256)) ^^^ ((r % 256) ^^^ x) := by
    rw [← Nat.xor_assoc, ← split_xor r]
  rw [e, crcIt_xor, h]
theorem nat_xor_ones32 (x : Nat) (h : x < 4294967296) : 4294967295 ^^^ x = 4294967295 - x := by
  have e : (BitVec.allOnes 32 ^^^ BitVec.ofNat 32 x).toNat = 4294967295 - x := by
    rw [BitVec.allOnes_xor, BitVec.toNat_not, BitVec.toNat_ofNat, Nat.mod_eq_of_lt (by omega)]
  rw [← e, BitVec.toNat_xor, BitVec.toNat_ofNat, Nat.mod_eq_of_lt (by omega), BitVec.toNat_allOnes]
theorem crcF_bits (zs : List Int) : bits .xor .u32 4294967295 (crcTo zs zs.length : Nat) = crcF zs := by
  have hb := crcTo_lt zs zs.length
  have := u32_xor_nat 4294967295 (crcTo zs zs.length) (by omega) hb
  rw [nat_xor_ones32 _ hb] at this
  unfold crcF
  rw [show (4294967295 : Int) - (crcTo zs zs.length : Nat) = ((4294967295 - crcTo zs zs.length : Nat) : Int) by omega, ← this]; rfl

/-! ### Fold, Unfold -/
def foldF (n : Int) : Int := if n < 0 then -2 * n - 1 else 2 * n
def unfoldF (n : Int) : Int := if n % 2 = 1 then -(n / 2) - 1 else n / 2
theorem nat_xor_ones (x : Nat) (h : x < 18446744073709551616) : x ^^^ 18446744073709551615 = 18446744073709551615 - x := by
  have e : (BitVec.ofNat 64 x ^^^ BitVec.allOnes 64).toNat = 18446744073709551615 - x := by
    rw [BitVec.xor_allOnes, BitVec.toNat_not, BitVec.toNat_ofNat, Nat.mod_eq_of_lt (by omega)]
  rw [← e, BitVec.toNat_xor, BitVec.toNat_ofNat, Nat.mod_eq_of_lt (by omega), BitVec.toNat_allOnes]
theorem fold_bits (n : Int) (h0 : -9223372036854775808 ≤ n) (h1 : n ≤ 9223372036854775807) :
    bits .xor .u64 (IntKind.u64.wrap (wrap64 (n * 2))) (IntKind.u64.wrap (n / 9223372036854775808)) = foldF n := by
  rw [IntKind.wrap_u64, IntKind.wrap_u64]
  unfold foldF
  rw [u64_xor _ _ (by omega) (by omega) (by omega) (by omega)]
  split
  · have e1 : (wrap64 (n * 2) % 18446744073709551616).toNat = (2 * n + 18446744073709551616).toNat := by unfold wrap64; omega
    have e2 : (n / 9223372036854775808 % 18446744073709551616).toNat = 18446744073709551615 := by omega
    rw [e1, e2, nat_xor_ones _ (by omega)]; omega
  · have e1 : (wrap64 (n * 2) % 18446744073709551616).toNat = (2 * n).toNat := by unfold wrap64; omega
    have e2 : (n / 9223372036854775808 % 18446744073709551616).toNat = 0 := by omega
    rw [e1, e2, Nat.xor_zero]; omega
theorem unfold_bits (n : Int) (h0 : 0 ≤ n) (h1 : n ≤ 18446744073709551615) :
    bits .xor .i64 (n / 2) (wrap64 (-wrap64 (bits .and .u64 n 1))) = unfoldF n := by
  have e : bits .and .u64 n 1 = n % 2 := by go_bits2
  rw [e]
  unfold unfoldF
  obtain ⟨m, hm⟩ := Int.eq_ofNat_of_zero_le (show 0 ≤ n / 2 by omega)
  split
  · have e1 : wrap64 (-wrap64 (n % 2)) = -1 := by unfold wrap64; omega
    rw [e1, hm]
    show IntKind.i64.wrap ((BitVec.ofInt 64 (m : Int) ^^^ BitVec.ofInt 64 (-1)).toNat : Int) = _
    have e3 : BitVec.ofInt 64 (-1) = BitVec.allOnes 64 := by decide
    rw [e3, BitVec.xor_allOnes, BitVec.toNat_not, ofInt_u64 m (by omega)]
    simp [IntKind.wrap, IntKind.bits, IntKind.signed]
    omega
  · have e1 : wrap64 (-wrap64 (n % 2)) = 0 := by unfold wrap64; omega
    rw [e1, hm]
    show IntKind.i64.wrap ((BitVec.ofInt 64 (m : Int) ^^^ BitVec.ofInt 64 0).toNat : Int) = _
    have e3 : BitVec.ofInt 64 0 = 0#64 := by decide
    rw [e3, BitVec.xor_zero, ofInt_u64 m (by omega)]
    simp [IntKind.wrap, IntKind.bits, IntKind.signed]
    omega
end Go.Proofs.YthkppcncajmniaaDoor

/- Plain: sides of pictures. -/
namespace Go.Proofs.YthkppcncajmniaaDoor
open Go.RowKit

def sideB (w : Int) : Bool := decide (1 ≤ w ∧ w ≤ 512)
def sidesB (w h : Int) : Bool := sideB w && sideB h
theorem sideB_yes {w : Int} (h : 1 ≤ w ∧ w ≤ 512) : sideB w = true := decide_eq_true h
theorem sideB_no {w : Int} (h : ¬ (1 ≤ w ∧ w ≤ 512)) : sideB w = false := decide_eq_false h
theorem sideB_iff {w : Int} : sideB w = true ↔ 1 ≤ w ∧ w ≤ 512 := by unfold sideB; simp
theorem sidesB_yes {w h : Int} (a : 1 ≤ w ∧ w ≤ 512) (b : 1 ≤ h ∧ h ≤ 512) : sidesB w h = true := by unfold sidesB; rw [sideB_yes a, sideB_yes b]; rfl
theorem sidesB_no {w h : Int} (a : ¬ ((1 ≤ w ∧ w ≤ 512) ∧ 1 ≤ h ∧ h ≤ 512)) : sidesB w h = false := by
  unfold sidesB
  by_cases h1 : 1 ≤ w ∧ w ≤ 512
  · rw [sideB_yes h1, sideB_no (fun h2 => a ⟨h1, h2⟩)]; rfl
  · rw [sideB_no h1]; rfl
end Go.Proofs.YthkppcncajmniaaDoor

/- Plain: a number of some bits taken out of bytes, bit by bit and part by part, in either order. -/
namespace Go.Proofs.YthkppcncajmniaaDoor
open Go.RowKit

def byteAt (zs : List Int) (i : Nat) : Nat := (zs.getD i 0).toNat
def bitLow (zs : List Int) (i : Nat) : Nat := byteAt zs (i / 8) / 2 ^ (i % 8) % 2
def bitHigh (zs : List Int) (i : Nat) : Nat := byteAt zs (i / 8) / 2 ^ (7 - i % 8) % 2
def lowTo (zs : List Int) (p : Nat) : Nat → Nat
  | 0 => 0
  | k + 1 => lowTo zs p k + bitLow zs (p + k) * 2 ^ k
def highTo (zs : List Int) (p : Nat) : Nat → Nat
  | 0 => 0
  | k + 1 => 2 * highTo zs p k + bitHigh zs (p + k)
theorem lowTo_lt (zs : List Int) (p k : Nat) : lowTo zs p k < 2 ^ k := by
  induction k with
  | zero => show 0 < 1; omega
  | succ k ih =>
    have hb : bitLow zs (p + k) ≤ 1 := by unfold bitLow; omega
    have := Nat.mul_le_mul_right (2 ^ k) hb
    show lowTo zs p k + bitLow zs (p + k) * 2 ^ k < 2 ^ (k + 1)
    rw [Nat.pow_succ]; omega
theorem highTo_lt (zs : List Int) (p k : Nat) : highTo zs p k < 2 ^ k := by
  induction k with
  | zero => show 0 < 1; omega
  | succ k ih =>
    have hb : bitHigh zs (p + k) ≤ 1 := by unfold bitHigh; omega
    show 2 * highTo zs p k + bitHigh zs (p + k) < 2 ^ (k + 1)
    rw [Nat.pow_succ]; omega
theorem mod_pow_step (x n : Nat) : x % 2 ^ (n + 1) = x % 2 ^ n + x / 2 ^ n % 2 * 2 ^ n := by
  rw [Nat.pow_succ, Nat.mod_mul, Nat.mul_comm (2 ^ n)]
theorem low_part (zs : List Int) (p d n : Nat) (h : (p + d) % 8 + n ≤ 8) :
    lowTo zs p (d + n) = lowTo zs p d + byteAt zs ((p + d) / 8) / 2 ^ ((p + d) % 8) % 2 ^ n * 2 ^ d := by
  induction n with
  | zero => simp [Nat.mod_one]
  | succ n ih =>
    show lowTo zs p (d + n) + bitLow zs (p + (d + n)) * 2 ^ (d + n) = _
    rw [ih (by omega), mod_pow_step, Nat.add_mul, Nat.add_assoc]
    congr 1
    unfold bitLow
    have e1 : (p + (d + n)) / 8 = (p + d) / 8 := by omega
    have e2 : (p + (d + n)) % 8 = (p + d) % 8 + n := by omega
    rw [e1, e2, Nat.pow_add, ← Nat.div_div_eq_div_mul]
    congr 1
    rw [Nat.mul_assoc, ← Nat.pow_add, Nat.add_comm n d]
theorem high_part (zs : List Int) (p d n : Nat) (h : (p + d) % 8 + n ≤ 8) :
    highTo zs p (d + n) = highTo zs p d * 2 ^ n + byteAt zs ((p + d) / 8) / 2 ^ (8 - (p + d) % 8 - n) % 2 ^ n := by
  induction n with
  | zero => simp [Nat.mod_one]
  | succ n ih =>
    show 2 * highTo zs p (d + n) + bitHigh zs (p + (d + n)) = _
    rw [ih (by omega)]
    unfold bitHigh
    have e1 : (p + (d + n)) / 8 = (p + d) / 8 := by omega
    have e2 : 7 - (p + (d + n)) % 8 = 8 - (p + d) % 8 - (n + 1) := by omega
    have e3 : 8 - (p + d) % 8 - n = (8 - (p + d) % 8 - (n + 1)) + 1 := by omega
    rw [e1, e2, e3, Nat.pow_succ 2 (8 - (p + d) % 8 - (n + 1)), ← Nat.div_div_eq_div_mul]
    generalize byteAt zs ((p + d) / 8) / 2 ^ (8 - (p + d) % 8 - (n + 1)) = y
    have e4 : y % 2 ^ (n + 1) = y % 2 + 2 * (y / 2 % 2 ^ n) := by
      rw [Nat.pow_succ, Nat.mul_comm, Nat.mod_mul]
    rw [e4, Nat.pow_succ]
    generalize highTo zs p d = a
    have : a * (2 ^ n * 2) = 2 * (a * 2 ^ n) := by rw [← Nat.mul_assoc, Nat.mul_comm]
    omega

theorem bit_of_u8 (x s : Nat) (hx : x < 256) : bits .and .u64 (IntKind.u64.wrap ((x : Int) / 2 ^ s)) 1 = ((x / 2 ^ s % 2 : Nat) : Int) := by
  have h := Nat.div_le_self x (2 ^ s)
  rw [show ((x : Int) / 2 ^ s) = ((x / 2 ^ s : Nat) : Int) by simp, IntKind.wrap_u64]
  generalize x / 2 ^ s = y at h ⊢
  rw [show ((y : Int) % 18446744073709551616) = (y : Int) by omega]
  go_bits2
theorem or_bit (v b k : Nat) (hv : v < 2 ^ k) (hb : b ≤ 1) (hk : k < 64) : bits .or .u64 (v : Int) (IntKind.u64.wrap ((b : Int) * 2 ^ k)) = ((v + b * 2 ^ k : Nat) : Int) := by
  have h1 : 2 ^ k ≤ 2 ^ 63 := Nat.pow_le_pow_right (by omega) (by omega)
  have h2 := Nat.mul_le_mul_right (2 ^ k) hb
  have e : IntKind.u64.wrap ((b : Int) * 2 ^ k) = ((b * 2 ^ k : Nat) : Int) := by
    rw [IntKind.wrap_u64, show ((b : Int) * 2 ^ k) = ((b * 2 ^ k : Nat) : Int) by simp]
    omega
  rw [e, u64_or_nat _ _ (by omega) (by omega), Nat.or_comm, nat_join k _ _ (Nat.mul_mod_left _ _) hv, Nat.add_comm]
theorem twice_bit (v b k : Nat) (hv : v < 2 ^ k) (hb : b ≤ 1) (hk : k < 64) : IntKind.u64.wrap (IntKind.u64.wrap ((v : Int) * 2) + (b : Int)) = ((2 * v + b : Nat) : Int) := by
  have h1 : 2 ^ k ≤ 2 ^ 63 := Nat.pow_le_pow_right (by omega) (by omega)
  rw [IntKind.wrap_u64, IntKind.wrap_u64]; omega
theorem mask_bits (v n : Nat) (hv : v < 18446744073709551616) (hn : n ≤ 63) : bits .and .u64 (v : Int) (IntKind.u64.wrap (IntKind.u64.wrap (2 ^ n) - 1)) = ((v % 2 ^ n : Nat) : Int) := by
  have h1 : 2 ^ n ≤ 2 ^ 63 := Nat.pow_le_pow_right (by omega) hn
  have h2 : 0 < 2 ^ n := Nat.pow_pos (by omega)
  have e : IntKind.u64.wrap (IntKind.u64.wrap (2 ^ n) - 1) = ((2 ^ n - 1 : Nat) : Int) := by
    rw [IntKind.wrap_u64, IntKind.wrap_u64, show ((2 : Int) ^ n) = ((2 ^ n : Nat) : Int) by simp]; omega
  rw [e, u64_and_nat _ _ hv (by omega), Nat.and_two_pow_sub_one_eq_mod]
theorem or_part (v c d m : Nat) (hv : v < 2 ^ d) (hc : c < 2 ^ m) (h : d + m ≤ 64) : bits .or .u64 (v : Int) (IntKind.u64.wrap ((c : Int) * 2 ^ d)) = ((v + c * 2 ^ d : Nat) : Int) := by
  have h1 : 2 ^ (d + m) ≤ 2 ^ 64 := Nat.pow_le_pow_right (by omega) h
  have h2 : (c + 1) * 2 ^ d ≤ 2 ^ m * 2 ^ d := Nat.mul_le_mul_right _ (by omega)
  rw [Nat.add_mul, Nat.one_mul, ← Nat.pow_add, Nat.add_comm m d] at h2
  have e : IntKind.u64.wrap ((c : Int) * 2 ^ d) = ((c * 2 ^ d : Nat) : Int) := by
    rw [IntKind.wrap_u64, show ((c : Int) * 2 ^ d) = ((c * 2 ^ d : Nat) : Int) by simp]
    omega
  rw [e, u64_or_nat _ _ (by omega) (by omega), Nat.or_comm, nat_join d _ _ (Nat.mul_mod_left _ _) hv, Nat.add_comm]
theorem part_or (v c d m : Nat) (hv : v < 2 ^ d) (hc : c < 2 ^ m) (h : d + m ≤ 64) : bits .or .u64 (IntKind.u64.wrap ((v : Int) * 2 ^ m)) (c : Int) = ((v * 2 ^ m + c : Nat) : Int) := by
  have h1 : 2 ^ (d + m) ≤ 2 ^ 64 := Nat.pow_le_pow_right (by omega) h
  have h2 : (v + 1) * 2 ^ m ≤ 2 ^ d * 2 ^ m := Nat.mul_le_mul_right _ (by omega)
  rw [Nat.add_mul, Nat.one_mul, ← Nat.pow_add] at h2
  have e : IntKind.u64.wrap ((v : Int) * 2 ^ m) = ((v * 2 ^ m : Nat) : Int) := by
    rw [IntKind.wrap_u64, show ((v : Int) * 2 ^ m) = ((v * 2 ^ m : Nat) : Int) by simp]
    omega
  rw [e, u64_or_nat _ _ (by omega) (by omega), nat_join m _ _ (Nat.mul_mod_left _ _) hc]
def goodAt (len : Nat) (p bits : Int) : Bool := decide (0 ≤ bits) && decide (bits ≤ 64) && decide (0 ≤ p) && decide (p ≤ 8 * len - bits)
end Go.Proofs.YthkppcncajmniaaDoor

/- The walks of the laws' own helpers on byte strings: a copy, and whether two are equal. -/
namespace Go.Proofs.YthkppcncajmniaaDoor
open Go.RowKit

theorem below_drewN {B : Nat} {a w : World} (h : Below B a w) (n : Nat) : Below B a (w.drewN n) := h.trans ⟨rfl, rfl, rfl, Nat.le_refl _, fun _ _ => rfl⟩
theorem infoB : (Tryd.prog.info? 5).map (fun i => (i.zero, i.size, i.bytes)) = some (some (.int .u8 0), 1, 1) := by kernel_rfl

/-- What a byte string is, as the walks hand it on: its bytes, all in range, in the cells of a block. -/
def BytesAt (w : World) (b off : Nat) (zs : List Int) : Prop := ∀ j, j < zs.length → w.cell? ⟨b, off + j, none⟩ = some (.int .u8 (zs.getD j 0))
def InB (zs : List Int) : Prop := ∀ j, 0 ≤ zs.getD j 0 ∧ zs.getD j 0 < 256

theorem getD_map_int (zs : List Int) (k : IntKind) (j : Nat) (h : j < zs.length) : (zs.map (Value.int k))[j]? = some (.int k (zs.getD j 0)) := by
  rw [List.getElem?_map, List.getD_eq_getElem?_getD, List.getElem?_eq_getElem h]; rfl

def partCopy (zs : List Int) (k : Nat) : List Value := (zs.take k).map (Value.int .u8) ++ List.replicate (zs.length - k) (.int .u8 0)
theorem partCopy_zero (zs : List Int) : partCopy zs 0 = List.replicate zs.length (.int .u8 0) := by unfold partCopy; simp
theorem partCopy_all (zs : List Int) : partCopy zs zs.length = zs.map (.int .u8) := by unfold partCopy; simp
theorem partCopy_set (zs : List Int) (k : Nat) (h : k < zs.length) : (partCopy zs k).set k (.int .u8 (zs.getD k 0)) = partCopy zs (k + 1) := by
  unfold partCopy
  rw [take_snoc_getD zs 0 k h, List.map_append, List.set_append, if_neg (by simp; omega), List.append_assoc]
  congr 1
  have : zs.length - k = (zs.length - (k + 1)) + 1 := by omega
  rw [this, List.replicate_succ]
  simp [Nat.min_eq_left (Nat.le_of_lt h)]

end Go.Proofs.YthkppcncajmniaaDoor

/- A byte string that came in, or that the call itself has copied: what the walks know of it. -/
namespace Go.Proofs.YthkppcncajmniaaDoor
open Go.RowKit

/-- A byte string handed in: its bytes in range, and, where there are any, in the cells of an old block. -/
def ArgB (w : World) (ad : Option Addr) (zs : List Int) : Prop := InB zs ∧ (zs ≠ [] → ∃ b off, ad = some ⟨b, off, none⟩ ∧ b < w.heap.size ∧ BytesAt w b off zs)
/-- A byte string of the call's own: at the head of a block. -/
def OwnB (w : World) (g : Nat) (zs : List Int) : Prop := g < w.heap.size ∧ BytesAt w g 0 zs

theorem ArgB.below {w w' : World} {ad : Option Addr} {zs : List Int} (h : ArgB w ad zs) (hb : Below w.heap.size w w') : ArgB w' ad zs := by
  refine ⟨h.1, fun hne => ?_⟩
  obtain ⟨b, off, e, hl, hc⟩ := h.2 hne
  exact ⟨b, off, e, Nat.lt_of_lt_of_le hl hb.size, fun j hj => (hb.cell (by simpa using hl)).trans (hc j hj)⟩
theorem OwnB.below {w w' : World} {g : Nat} {zs : List Int} (h : OwnB w g zs) (hb : Below w.heap.size w w') : OwnB w' g zs :=
  ⟨Nat.lt_of_lt_of_le h.1 hb.size, fun j hj => (hb.cell (by simpa using h.1)).trans (h.2 j hj)⟩
theorem ownB_of_owns {w : World} {base g n cap : Nat} {zs : List Int} (hn : zs.length = n) (h : w.ownsRow base 5 1 (.slice (some ⟨g, 0, none⟩) n cap) n (zs.map (.int .u8))) : OwnB w g zs := by
  subst hn
  refine ⟨(h.lt g rfl).2, fun j hj => ?_⟩
  rw [Nat.zero_add, h.cellAt j (by omega)]
  exact getD_map_int zs .u8 j hj

end Go.Proofs.YthkppcncajmniaaDoor

/- The walks of TakeLow and TakeHigh: the program's small parts. -/
namespace Go.Proofs.YthkppcncajmniaaDoor
open Go.RowKit

/-- The reader in the variable at block r. -/
def ReaderAt (w : World) (r : Nat) (o : Int) (s : Value) (p : Int) : Prop := r < w.heap.size ∧ w.cell? ⟨r, 0, none⟩ = some (.int .i64 o) ∧ w.cell? ⟨r, 1, none⟩ = some s ∧ w.cell? ⟨r, 2, none⟩ = some (.int .i64 p)

/-- The world is as it was but for block r, and for what is new. -/
structure OnlyAt (r : Nat) (w w' : World) : Prop where
  os : w'.os = w.os
  tape : w'.tape = w.tape
  output : w'.output = w.output
  size : w.heap.size ≤ w'.heap.size
  block : ∀ k, k < w.heap.size → k ≠ r → w'.heap[k]? = w.heap[k]?
theorem OnlyAt.refl (r : Nat) (w : World) : OnlyAt r w w := ⟨rfl, rfl, rfl, Nat.le_refl _, fun _ _ _ => rfl⟩
theorem OnlyAt.trans {r : Nat} {a w w' : World} (h : OnlyAt r a w) (k : OnlyAt r w w') : OnlyAt r a w' :=
  ⟨k.os.trans h.os, k.tape.trans h.tape, k.output.trans h.output, Nat.le_trans h.size k.size, fun i hi hn => (k.block i (Nat.lt_of_lt_of_le hi h.size) hn).trans (h.block i hi hn)⟩
theorem OnlyAt.drewN {r : Nat} {a w : World} (h : OnlyAt r a w) (n : Nat) : OnlyAt r a (w.drewN n) := h.trans ⟨rfl, rfl, rfl, Nat.le_refl _, fun _ _ _ => rfl⟩
theorem OnlyAt.setCell {r : Nat} {a w : World} (h : OnlyAt r a w) (o : Nat) (u : Value) : OnlyAt r a (w.setCell ⟨r, o, none⟩ u) :=
  h.trans ⟨rfl, rfl, rfl, by simp, fun k _ hk => Below.heap_setCell w ⟨r, o, none⟩ u k hk⟩
theorem OnlyAt.cell {r : Nat} {w w' : World} (h : OnlyAt r w w') {p : Addr} (hp : p.block < w.heap.size) (hr : p.block ≠ r) : w'.cell? p = w.cell? p := World.cell?_of_block (h.block p.block hp hr)
theorem OnlyAt.frozen {r : Nat} {w w' : World} (h : OnlyAt r w w') {p : Addr} (hp : p.block < w.heap.size) (hr : p.block ≠ r) : w'.frozen? p = w.frozen? p := World.frozen?_of_block (h.block p.block hp hr)
theorem OnlyAt.below {r B : Nat} {w w' : World} (h : OnlyAt r w w') (hB : B ≤ r) (hs : B ≤ w.heap.size) : Below B w w' :=
  ⟨h.os, h.tape, h.output, h.size, fun k hk => h.block k (by omega) (by omega)⟩
theorem ReaderAt.drewN {w : World} {r : Nat} {o : Int} {s : Value} {p : Int} (h : ReaderAt w r o s p) (nq : Nat) : ReaderAt (w.drewN nq) r o s p := h
theorem ReaderAt.moved {w : World} {r : Nat} {o : Int} {s : Value} {p : Int} (h : ReaderAt w r o s p) (q : Int) : ReaderAt (w.setCell ⟨r, 2, none⟩ (.int .i64 q)) r o s q := by
  obtain ⟨h0, h1, h2, h3⟩ := h
  refine ⟨by simpa using h0, ?_, ?_, ?_⟩
  · rw [World.cell?_setCell_other _ _ _ _ (by simp)]; exact h1
  · rw [World.cell?_setCell_other _ _ _ _ (by simp)]; exact h2
  · exact World.cell?_setCell_same _ _ _ h3

end Go.Proofs.YthkppcncajmniaaDoor

/- Plain: bits put one behind the other into bytes, in either order; a part of a number put at once is as many bits. -/
namespace Go.Proofs.YthkppcncajmniaaDoor
open Go.RowKit

def opn (zs : List Nat) (L : Nat) : List Nat := if L % 8 = 0 then zs ++ [0] else zs
def ex (h : Bool) (r : Nat) : Nat := if h then 7 - r else r
def addBit (h : Bool) (zs : List Nat) (L b : Nat) : List Nat := (opn zs L).set (L / 8) ((opn zs L).getD (L / 8) 0 + b * 2 ^ ex h (L % 8))
def fbit (h : Bool) (v n k : Nat) : Nat := if h then v / 2 ^ (n - 1 - k) % 2 else v / 2 ^ k % 2
def ft (h : Bool) (v n : Nat) (zs : List Nat) (L : Nat) : Nat → List Nat
  | 0 => zs
  | k + 1 => addBit h (ft h v n zs L k) (L + k) (fbit h v n k)

/-- The bytes hold so many bits, and the bits that are left in the last one are 0. -/
def Inv (h : Bool) (zs : List Nat) (L : Nat) : Prop :=
  zs.length = (L + 7) / 8 ∧ (∀ j, zs.getD j 0 < 256) ∧ (L % 8 ≠ 0 → if h then zs.getD (L / 8) 0 % 2 ^ (8 - L % 8) = 0 else zs.getD (L / 8) 0 < 2 ^ (L % 8))

theorem opn_len {h : Bool} {zs : List Nat} {L : Nat} (hi : Inv h zs L) : (opn zs L).length = L / 8 + 1 := by
  unfold opn; have := hi.1
  split
  · simp; omega
  · omega
theorem getD_snoc_last (zs : List Nat) (a : Nat) : (zs ++ [a]).getD zs.length 0 = a := by
  rw [List.getD_eq_getElem?_getD, List.getElem?_append_right (Nat.le_refl _), Nat.sub_self]; rfl
theorem getD_snoc (zs : List Nat) (j : Nat) : (zs ++ [0]).getD j 0 = zs.getD j 0 := by
  rw [List.getD_eq_getElem?_getD, List.getD_eq_getElem?_getD]
  rcases Nat.lt_trichotomy j zs.length with h | h | h
  · rw [List.getElem?_append_left h]
  · subst h; rw [List.getElem?_append_right (Nat.le_refl _), Nat.sub_self, List.getElem?_eq_none (Nat.le_refl _)]; rfl
  · rw [List.getElem?_eq_none (by simp; omega), List.getElem?_eq_none (by omega)]
theorem opn_getD (zs : List Nat) (L j : Nat) : (opn zs L).getD j 0 = zs.getD j 0 := by
  unfold opn; split
  · exact getD_snoc zs j
  · rfl
theorem opn_x {h : Bool} {zs : List Nat} {L : Nat} (hi : Inv h zs L) : (opn zs L).getD (L / 8) 0 < 256 ∧ (if h then (opn zs L).getD (L / 8) 0 % 2 ^ (8 - L % 8) = 0 else (opn zs L).getD (L / 8) 0 < 2 ^ (L % 8)) := by
  rw [opn_getD]
  refine ⟨hi.2.1 _, ?_⟩
  by_cases h0 : L % 8 = 0
  · have hz : zs.getD (L / 8) 0 = 0 := by
      rw [List.getD_eq_getElem?_getD, List.getElem?_eq_none (by have := hi.1; omega)]; rfl
    rw [hz, h0]; cases h <;> simp
  · exact hi.2.2 h0
theorem getD_set_same (zs : List Nat) (i a : Nat) (hi : i < zs.length) : (zs.set i a).getD i 0 = a := by
  rw [List.getD_eq_getElem?_getD, List.getElem?_set_self hi]; rfl
theorem getD_set_other (zs : List Nat) (i j a : Nat) (h : i ≠ j) : (zs.set i a).getD j 0 = zs.getD j 0 := by
  rw [List.getD_eq_getElem?_getD, List.getD_eq_getElem?_getD, List.getElem?_set_ne h]
theorem pow_cases (r : Nat) (h : r < 8) : r = 0 ∨ r = 1 ∨ r = 2 ∨ r = 3 ∨ r = 4 ∨ r = 5 ∨ r = 6 ∨ r = 7 := by omega
theorem step_x (h : Bool) (x r b : Nat) (hr : r < 8) (hb : b ≤ 1) (hx : x < 256) (hf : if h then x % 2 ^ (8 - r) = 0 else x < 2 ^ r) :
    x + b * 2 ^ ex h r < 256 ∧ (if h then (x + b * 2 ^ ex h r) % 2 ^ (8 - (r + 1)) = 0 else x + b * 2 ^ ex h r < 2 ^ (r + 1)) := by
  have hb' : b = 0 ∨ b = 1 := by omega
  cases h <;> rcases pow_cases r hr with e | e | e | e | e | e | e | e <;> subst e <;> rcases hb' with e | e <;> subst e <;> simp [ex] at hf ⊢ <;> omega
theorem addBit_inv {h : Bool} {zs : List Nat} {L b : Nat} (hi : Inv h zs L) (hb : b ≤ 1) : Inv h (addBit h zs L b) (L + 1) := by
  have hl := opn_len hi
  have hx := opn_x hi
  have hs := step_x h _ (L % 8) b (by omega) hb hx.1 hx.2
  refine ⟨?_, ?_, ?_⟩
  · unfold addBit; rw [List.length_set, hl]; omega
  · intro j
    unfold addBit
    by_cases e : L / 8 = j
    · subst e; rw [getD_set_same _ _ _ (by omega)]; exact hs.1
    · rw [getD_set_other _ _ _ _ e, opn_getD]; exact hi.2.1 j
  · intro h0
    have e1 : (L + 1) / 8 = L / 8 := by omega
    have e2 : (L + 1) % 8 = L % 8 + 1 := by omega
    rw [e1, e2]
    unfold addBit
    rw [getD_set_same _ _ _ (by omega)]
    exact hs.2
theorem fbit_le (h : Bool) (v n k : Nat) : fbit h v n k ≤ 1 := by unfold fbit; split <;> omega
theorem ft_inv {h : Bool} {v n : Nat} {zs : List Nat} {L : Nat} (hi : Inv h zs L) (k : Nat) : Inv h (ft h v n zs L k) (L + k) := by
  induction k with
  | zero => exact hi
  | succ k ih => exact addBit_inv ih (fbit_le h v n k)

def chunk (h : Bool) (v n d m : Nat) : Nat := if h then v / 2 ^ (n - d - m) % 2 ^ m else v / 2 ^ d % 2 ^ m
def cex (h : Bool) (r m : Nat) : Nat := if h then 8 - r - m else r
theorem chunk_lt (h : Bool) (v n d m : Nat) : chunk h v n d m < 2 ^ m := by
  unfold chunk; split <;> exact Nat.mod_lt _ (Nat.pow_pos (by omega))
theorem ft_chunk {h : Bool} {v n : Nat} {zs : List Nat} {L : Nat} (hi : Inv h zs L) (d m : Nat) (hm : (L + d) % 8 + (m + 1) ≤ 8) (hn : d + (m + 1) ≤ n) :
    ft h v n zs L (d + (m + 1)) = (opn (ft h v n zs L d) (L + d)).set ((L + d) / 8) ((opn (ft h v n zs L d) (L + d)).getD ((L + d) / 8) 0 + chunk h v n d (m + 1) * 2 ^ cex h ((L + d) % 8) (m + 1)) := by
  have hl := opn_len (ft_inv (v := v) (n := n) hi d)
  induction m with
  | zero =>
    show addBit h (ft h v n zs L d) (L + d) (fbit h v n d) = _
    unfold addBit
    congr 2
    have e1 : fbit h v n d = chunk h v n d (0 + 1) := by
      unfold fbit chunk; split
      · rw [show n - 1 - d = n - d - (0 + 1) by omega, Nat.zero_add, Nat.pow_one]
      · rw [Nat.zero_add, Nat.pow_one]
    have e2 : ex h ((L + d) % 8) = cex h ((L + d) % 8) (0 + 1) := by unfold ex cex; split <;> omega
    rw [e1, e2]
  | succ m ih =>
    show addBit h (ft h v n zs L (d + (m + 1))) (L + (d + (m + 1))) (fbit h v n (d + (m + 1))) = _
    rw [ih (by omega) (by omega)]
    have e1 : (L + (d + (m + 1))) / 8 = (L + d) / 8 := by omega
    have e2 : (L + (d + (m + 1))) % 8 = (L + d) % 8 + (m + 1) := by omega
    unfold addBit
    generalize opn (ft h v n zs L d) (L + d) = Y at hl ⊢
    generalize Y.getD ((L + d) / 8) 0 = x
    have e3 : ∀ A, opn A (L + (d + (m + 1))) = A := fun A => by unfold opn; rw [if_neg (by omega)]
    rw [e3, e1, e2, getD_set_same _ _ _ (by omega), List.set_set]
    congr 1
    rw [Nat.add_assoc]
    congr 1
    unfold fbit chunk ex cex
    cases h
    · simp only [Bool.false_eq_true, if_false]
      have hp := mod_pow_step (v / 2 ^ d) (m + 1)
      rw [Nat.div_div_eq_div_mul, ← Nat.pow_add] at hp
      rw [show m + 1 + 1 = (m + 1) + 1 from rfl, hp, Nat.add_mul, Nat.pow_add 2 ((L + d) % 8) (m + 1)]
      rw [Nat.mul_assoc (v / 2 ^ (d + (m + 1)) % 2), Nat.mul_comm (2 ^ (m + 1))]
    · simp only [if_true]
      have e4 : n - 1 - (d + (m + 1)) = n - d - (m + 1 + 1) := by omega
      have e5 : n - d - (m + 1) = (n - d - (m + 1 + 1)) + 1 := by omega
      have e6 : 8 - (L + d) % 8 - (m + 1) = (8 - (L + d) % 8 - (m + 1 + 1)) + 1 := by omega
      have e7 : 7 - ((L + d) % 8 + (m + 1)) = 8 - (L + d) % 8 - (m + 1 + 1) := by omega
      rw [e4, e5, e6, e7, Nat.pow_succ 2 (n - d - (m + 1 + 1)), ← Nat.div_div_eq_div_mul]
      generalize v / 2 ^ (n - d - (m + 1 + 1)) = y
      have e8 : y % 2 ^ (m + 1 + 1) = y % 2 + 2 * (y / 2 % 2 ^ (m + 1)) := by rw [Nat.pow_succ 2 (m + 1), Nat.mul_comm, Nat.mod_mul]
      rw [e8, Nat.pow_succ 2 (8 - (L + d) % 8 - (m + 1 + 1)), Nat.add_mul]
      generalize 2 ^ (8 - (L + d) % 8 - (m + 1 + 1)) = q
      generalize y / 2 % 2 ^ (m + 1) = z
      have : z * (q * 2) = 2 * z * q := by rw [Nat.mul_comm q 2, ← Nat.mul_assoc, Nat.mul_comm z 2]
      omega
theorem or_into (h : Bool) (x r m c : Nat) (hm : r + m ≤ 8) (hf : if h then x % 2 ^ (8 - r) = 0 else x < 2 ^ r) (hc : c < 2 ^ m) : x ||| (c * 2 ^ cex h r m) = x + c * 2 ^ cex h r m := by
  unfold cex
  cases h
  · simp only [Bool.false_eq_true, if_false] at hf ⊢
    rw [Nat.or_comm, nat_join r _ _ (Nat.mul_mod_left _ _) hf, Nat.add_comm]
  · simp only [if_true] at hf ⊢
    refine nat_join (8 - r) _ _ hf ?_
    have := Nat.mul_lt_mul_of_pos_right hc (Nat.pow_pos (n := 8 - r - m) (show 0 < 2 by omega))
    rwa [← Nat.pow_add, show m + (8 - r - m) = 8 - r by omega] at this
end Go.Proofs.YthkppcncajmniaaDoor

/- The walks of the sink of bits: the specification's. -/
namespace Go.Proofs.YthkppcncajmniaaDoor
open Go.RowKit

def vals (zs : List Nat) : List Value := zs.map fun b : Nat => Value.int .u8 (b : Int)
theorem vals_len (zs : List Nat) : (vals zs).length = zs.length := by unfold vals; simp
theorem vals_at (zs : List Nat) (j : Nat) (h : j < zs.length) : (vals zs)[j]? = some (.int .u8 (zs.getD j 0 : Nat)) := by
  unfold vals; rw [List.getElem?_map, List.getD_eq_getElem?_getD, List.getElem?_eq_getElem h]; rfl
theorem vals_set (zs : List Nat) (j a : Nat) : (vals zs).set j (.int .u8 (a : Int)) = vals (zs.set j a) := by unfold vals; rw [List.map_set]
theorem vals_snoc (zs : List Nat) : vals zs ++ [.int .u8 0] = vals (zs ++ [0]) := by unfold vals; simp

/-- A sink or a writer of bits in the variable at block c: its first word, its bytes, its number. -/
def SinkAt (w : World) (c : Nat) (o v : Value) (q : Int) : Prop :=
  c < w.heap.size ∧ w.cell? ⟨c, 0, none⟩ = some o ∧ w.cell? ⟨c, 1, none⟩ = some v ∧ w.cell? ⟨c, 2, none⟩ = some (.int .i64 q) ∧ w.frozen? ⟨c, 1, none⟩ = false ∧ w.frozen? ⟨c, 2, none⟩ = false
def Sink (w : World) (c : Nat) (o : Value) (zs : List Nat) (q : Int) : Prop := ∃ v, SinkAt w c o v q ∧ w.ownsRow (c + 1) 5 1 v zs.length (vals zs)
theorem SinkAt.drewN {w : World} {c : Nat} {o v : Value} {q : Int} (h : SinkAt w c o v q) (n : Nat) : SinkAt (w.drewN n) c o v q := h
theorem SinkAt.drew {w : World} {c : Nat} {o v : Value} {q : Int} (h : SinkAt w c o v q) : SinkAt w.drew c o v q := h
theorem SinkAt.grown {w w' : World} {c : Nat} {o v : Value} {q : Int} {row : Option Nat} (h : SinkAt w c o v q) (hg : w.grownBy w' row) (hr : some c ≠ row) : SinkAt w' c o v q := by
  obtain ⟨h0, h1, h2, h3, f1, f2⟩ := h
  have hb := hg.block c h0 hr
  exact ⟨Nat.lt_of_lt_of_le h0 hg.size, (World.cell?_of_block (a := ⟨c, 0, none⟩) hb).trans h1, (World.cell?_of_block (a := ⟨c, 1, none⟩) hb).trans h2, (World.cell?_of_block (a := ⟨c, 2, none⟩) hb).trans h3,
    (World.frozen?_of_block (a := ⟨c, 1, none⟩) hb).trans f1, (World.frozen?_of_block (a := ⟨c, 2, none⟩) hb).trans f2⟩
theorem SinkAt.data {w : World} {c : Nat} {o v : Value} {q : Int} (h : SinkAt w c o v q) (u : Value) : SinkAt (w.setCell ⟨c, 1, none⟩ u) c o u q := by
  obtain ⟨h0, h1, h2, h3, f1, f2⟩ := h
  refine ⟨by simpa using h0, ?_, World.cell?_setCell_same _ _ _ h2, ?_, (World.frozen?_setCell _ _ _ _).trans f1, (World.frozen?_setCell _ _ _ _).trans f2⟩
  · rw [World.cell?_setCell_other _ _ _ _ (by simp)]; exact h1
  · rw [World.cell?_setCell_other _ _ _ _ (by simp)]; exact h3
theorem SinkAt.num {w : World} {c : Nat} {o v : Value} {q : Int} (h : SinkAt w c o v q) (p : Int) : SinkAt (w.setCell ⟨c, 2, none⟩ (.int .i64 p)) c o v p := by
  obtain ⟨h0, h1, h2, h3, f1, f2⟩ := h
  refine ⟨by simpa using h0, ?_, ?_, World.cell?_setCell_same _ _ _ h3, (World.frozen?_setCell _ _ _ _).trans f1, (World.frozen?_setCell _ _ _ _).trans f2⟩
  · rw [World.cell?_setCell_other _ _ _ _ (by simp)]; exact h1
  · rw [World.cell?_setCell_other _ _ _ _ (by simp)]; exact h2
theorem SinkAt.far {w : World} {c g j : Nat} {o v u : Value} {q : Int} (h : SinkAt w c o v q) (hg : g ≠ c) : SinkAt (w.setCell ⟨g, j, none⟩ u) c o v q := by
  obtain ⟨h0, h1, h2, h3, f1, f2⟩ := h
  refine ⟨by simpa using h0, ?_, ?_, ?_, (World.frozen?_setCell _ _ _ _).trans f1, (World.frozen?_setCell _ _ _ _).trans f2⟩ <;> (rw [World.cell?_setCell_far _ _ _ _ (by simpa using hg)]; assumption)
theorem one_new (w : World) (u : Value) : ∀ j v, [u][j]? = some v → (w.alloc (.cells #[u] 5)).cell? ((⟨w.heap.size, 0, none⟩ : Addr).add j) = some v := by
  intro j v hj
  match j, hj with
  | 0, hj => simp at hj; subst hj; simp [Addr.add]
theorem one_one : ∀ u ∈ [Value.int .u8 0], u.oneCell' = true := by intro u hu; simp at hu; subst hu; rfl
theorem addBit_zero (h : Bool) (zs : List Nat) (L : Nat) (hl : L / 8 < (opn zs L).length) : addBit h zs L 0 = opn zs L := by
  unfold addBit
  rw [Nat.zero_mul, Nat.add_zero, List.getD_eq_getElem?_getD, List.getElem?_eq_getElem hl]
  exact List.set_getElem_self hl
theorem or_bit8 (h : Bool) (x r k : Nat) (hx : x < 256) (hr : r < 8) (hk : k = ex h r) (hf : if h then x % 2 ^ (8 - r) = 0 else x < 2 ^ r) : bits .or .u8 (x : Int) (2 ^ k % 256) = ((x + 1 * 2 ^ ex h r : Nat) : Int) := by
  have hk7 : k ≤ 7 := by subst hk; unfold ex; split <;> omega
  have ho := or_into h x r 1 1 (by omega) hf (by omega)
  have ec : cex h r 1 = ex h r := by unfold ex cex; split <;> omega
  rw [ec, ← hk] at ho
  rw [← hk]
  have e : ((2 : Int) ^ k % 256) = ((2 ^ k : Nat) : Int) := by
    rcases pow_cases k (by omega) with h | h | h | h | h | h | h | h <;> subst h <;> decide
  have hl : 2 ^ k < 256 := by rcases pow_cases k (by omega) with h | h | h | h | h | h | h | h <;> subst h <;> decide
  rw [e, u8_or_nat _ _ hx hl]
  rw [Nat.one_mul] at ho ⊢
  rw [ho]


end Go.Proofs.YthkppcncajmniaaDoor

/- The walks of the sink of bits: the specification's numbers. -/
namespace Go.Proofs.YthkppcncajmniaaDoor
open Go.RowKit

theorem bit_of_u64 (v k : Nat) (hv : v < 18446744073709551616) : bits .and .u64 ((v : Int) / 2 ^ k) 1 = ((v / 2 ^ k % 2 : Nat) : Int) := by
  have h := Nat.div_le_self v (2 ^ k)
  rw [show ((v : Int) / 2 ^ k) = ((v / 2 ^ k : Nat) : Int) by simp]
  generalize v / 2 ^ k = y at h ⊢
  go_bits2

end Go.Proofs.YthkppcncajmniaaDoor

/- Fields, and the walk of the specification's packing of them. -/
namespace Go.Proofs.YthkppcncajmniaaDoor
open Go.RowKit

def FieldsAt (w : World) (b off : Nat) (fs : List (Int × Int)) : Prop := ∀ j, j < fs.length → w.cell? ⟨b, off + j * 2, none⟩ = some (.int .i64 (fs.getD j (0, 0)).1) ∧ w.cell? ⟨b, off + j * 2 + 1, none⟩ = some (.int .u64 (fs.getD j (0, 0)).2)
def InF (fs : List (Int × Int)) : Prop := ∀ j, (-9223372036854775808 ≤ (fs.getD j (0, 0)).1 ∧ (fs.getD j (0, 0)).1 ≤ 9223372036854775807) ∧ 0 ≤ (fs.getD j (0, 0)).2 ∧ (fs.getD j (0, 0)).2 < 18446744073709551616
def OwnF (w : World) (g : Nat) (fs : List (Int × Int)) : Prop := g < w.heap.size ∧ FieldsAt w g 0 fs
theorem OwnF.below {w w' : World} {g : Nat} {fs : List (Int × Int)} (h : OwnF w g fs) (hb : Below w.heap.size w w') : OwnF w' g fs :=
  ⟨Nat.lt_of_lt_of_le h.1 hb.size, fun j hj => ⟨(hb.cell (by simpa using h.1)).trans (h.2 j hj).1, (hb.cell (by simpa using h.1)).trans (h.2 j hj).2⟩⟩
theorem OwnF.belowAt {B : Nat} {w w' : World} {g : Nat} {fs : List (Int × Int)} (h : OwnF w g fs) (hg : g < B) (hb : Below B w w') : OwnF w' g fs :=
  ⟨Nat.lt_of_lt_of_le h.1 hb.size, fun j hj => ⟨(hb.cell (by simpa using hg)).trans (h.2 j hj).1, (hb.cell (by simpa using hg)).trans (h.2 j hj).2⟩⟩

def okF (f : Int × Int) : Prop := 0 ≤ f.1 ∧ f.1 ≤ 64
def packStep (h : Bool) (s : List Nat × Nat) (f : Int × Int) : List Nat × Nat := (ft h f.2.toNat f.1.toNat s.1 s.2 f.1.toNat, s.2 + f.1.toNat)
def packTo (h : Bool) (fs : List (Int × Int)) (k : Nat) : List Nat × Nat := (fs.take k).foldl (packStep h) ([], 0)
theorem packTo_succ (h : Bool) (fs : List (Int × Int)) (k : Nat) (hk : k < fs.length) : packTo h fs (k + 1) = packStep h (packTo h fs k) (fs.getD k (0, 0)) := by
  unfold packTo; rw [take_snoc_getD fs (0, 0) k hk, List.foldl_append]; rfl
theorem inv_nil (h : Bool) : Inv h [] 0 := ⟨rfl, fun j => by simp, fun h => absurd rfl h⟩
theorem packTo_inv (h : Bool) (fs : List (Int × Int)) (k : Nat) (hk : k ≤ fs.length) (hok : ∀ j, j < k → okF (fs.getD j (0, 0))) : Inv h (packTo h fs k).1 (packTo h fs k).2 ∧ (packTo h fs k).2 ≤ 64 * k := by
  induction k with
  | zero => exact ⟨inv_nil h, Nat.le_refl _⟩
  | succ k ih =>
    have h1 := ih (by omega) (fun j hj => hok j (by omega))
    have h2 := hok k (by omega)
    rw [packTo_succ h fs k (by omega)]
    refine ⟨ft_inv h1.1 _, ?_⟩
    show (packTo h fs k).2 + (fs.getD k (0, 0)).1.toNat ≤ _
    have := h2.2
    omega
/-- The packed bytes: none where there are too many fields or one's width is bad. -/
noncomputable def packF (h : Bool) (fs : List (Int × Int)) : List Nat := open Classical in if fs.length ≤ 20000 ∧ ∀ j, j < fs.length → okF (fs.getD j (0, 0)) then (packTo h fs fs.length).1 else []
theorem packF_good (h : Bool) (fs : List (Int × Int)) (h1 : fs.length ≤ 20000) (h2 : ∀ j, j < fs.length → okF (fs.getD j (0, 0))) : packF h fs = (packTo h fs fs.length).1 := if_pos ⟨h1, h2⟩
theorem packF_many (h : Bool) (fs : List (Int × Int)) (h1 : 20000 < fs.length) : packF h fs = [] := if_neg (fun h => by have := h.1; omega)
theorem packF_bad (h : Bool) (fs : List (Int × Int)) (j : Nat) (hj : j < fs.length) (hb : ¬ okF (fs.getD j (0, 0))) : packF h fs = [] := if_neg (fun h => hb (h.2 j hj))

theorem ownsRow_base {w : World} {base base' : Nat} {e : TypeId} {size : Nat} {v : Value} {n : Nat} {xs : List Value} (h : w.ownsRow base e size v n xs) (hb : base' ≤ base) : w.ownsRow base' e size v n xs := by
  refine ⟨h.1, ?_⟩
  rcases h.2 with h | ⟨g, cap, cur, e1, e2, e3⟩
  · exact .inl h
  · exact .inr ⟨g, cap, cur, e1, Nat.le_trans hb e2, e3⟩
theorem Sink.alloc {w : World} {c : Nat} {o : Value} {zs : List Nat} {q : Int} (h : Sink w c o zs q) (ob : Obj) : Sink (w.alloc ob) c o zs q := by
  obtain ⟨v, hS, hown⟩ := h
  exact ⟨v, hS.grown (World.grownBy_alloc w ob none) (by simp), hown.alloc ob⟩
end Go.Proofs.YthkppcncajmniaaDoor

/- Memory of the call's own, by the blocks in which it lies: what a step keeps, and what a value in such blocks reads as. -/
namespace Go.Proofs.YthkppcncajmniaaDoor
open Go.RowKit

/-- The world is as it was but for the blocks from a on, below b, and for what is new. -/
structure Upd (a b : Nat) (w w' : World) : Prop where
  os : w'.os = w.os
  tape : w'.tape = w.tape
  output : w'.output = w.output
  size : w.heap.size ≤ w'.heap.size
  block : ∀ k, k < w.heap.size → (k < a ∨ b ≤ k) → w'.heap[k]? = w.heap[k]?
theorem Upd.refl (a b : Nat) (w : World) : Upd a b w w := ⟨rfl, rfl, rfl, Nat.le_refl _, fun _ _ _ => rfl⟩
theorem Upd.trans {a b : Nat} {x w w' : World} (h : Upd a b x w) (k : Upd a b w w') : Upd a b x w' :=
  ⟨k.os.trans h.os, k.tape.trans h.tape, k.output.trans h.output, Nat.le_trans h.size k.size, fun i hi hn => (k.block i (Nat.lt_of_lt_of_le hi h.size) hn).trans (h.block i hi hn)⟩
theorem Upd.drewN {a b : Nat} {x w : World} (h : Upd a b x w) (n : Nat) : Upd a b x (w.drewN n) := h.trans ⟨rfl, rfl, rfl, Nat.le_refl _, fun _ _ _ => rfl⟩
theorem Upd.setCell {a b : Nat} {x w : World} (h : Upd a b x w) {r : Nat} (hr : a ≤ r ∧ r < b) (o : Nat) (u : Value) : Upd a b x (w.setCell ⟨r, o, none⟩ u) :=
  h.trans ⟨rfl, rfl, rfl, by simp, fun k _ hk => Below.heap_setCell w ⟨r, o, none⟩ u k (by simp; omega)⟩
theorem Upd.of_below {w w' : World} (h : Below w.heap.size w w') (a b : Nat) : Upd a b w w' := ⟨h.os, h.tape, h.output, h.size, fun k hk _ => h.block k hk⟩
theorem Upd.below {B a b : Nat} {w w' : World} (h : Upd a b w w') (hB : B ≤ w.heap.size) (ha : B ≤ a ∨ b ≤ a) : Below B w w' :=
  ⟨h.os, h.tape, h.output, h.size, fun k hk => h.block k (by omega) (by omega)⟩
theorem Upd.none {w w' : World} (h : Upd 0 0 w w') : Below w.heap.size w w' := h.below (Nat.le_refl _) (.inr (Nat.le_refl _))
theorem below_upd {B a b : Nat} {x w w' : World} (h : Below B x w) (k : Upd a b w w') (hx : B ≤ x.heap.size) (ha : B ≤ a ∨ b ≤ a) : Below B x w' :=
  h.trans (k.below (Nat.le_trans hx h.size) ha)

/-- A value of the call's own: its elements lie in a block from a on, below b. -/
def Own (e : TypeId) (s : Nat) (w : World) (a b : Nat) (v : Value) (n : Nat) (xs : List Value) : Prop := w.ownsRow a e s v n xs ∧ ∀ k, v.ownBlock = some k → k < b
theorem Own.of {e : TypeId} {s : Nat} {w : World} {a : Nat} {v : Value} {n : Nat} {xs : List Value} (h : w.ownsRow a e s v n xs) : Own e s w a w.heap.size v n xs := ⟨h, fun k hk => (h.lt k hk).2⟩
theorem Own.upd {e : TypeId} {s : Nat} {w w' : World} {a b c d : Nat} {v : Value} {n : Nat} {xs : List Value} (h : Own e s w a b v n xs) (u : Upd c d w w') (hd : b ≤ c ∨ d ≤ a) : Own e s w' a b v n xs := by
  refine ⟨⟨h.1.1, ?_⟩, h.2⟩
  rcases h.1.2 with hn | ⟨g, cap, cur, rfl, h1, h2, h3⟩
  · exact .inl hn
  · have hl := h.1.lt g rfl
    have hb := h.2 g rfl
    exact .inr ⟨g, cap, cur, rfl, h1, by rw [u.block g hl.2 (by omega)]; exact h2, h3⟩
theorem Own.keep {e : TypeId} {s : Nat} {w w' : World} {a b : Nat} {v : Value} {n : Nat} {xs : List Value} (h : Own e s w a b v n xs) (u : Upd 0 0 w w') : Own e s w' a b v n xs := h.upd u (.inr (Nat.zero_le _))

theorem own_mono {e : TypeId} {s : Nat} {w : World} {a b a' b' : Nat} {v : Value} {n : Nat} {xs : List Value} (h : Own e s w a b v n xs) (ha : a' ≤ a) (hb : b ≤ b') : Own e s w a' b' v n xs := by
  refine ⟨⟨h.1.1, ?_⟩, fun k hk => Nat.lt_of_lt_of_le (h.2 k hk) hb⟩
  rcases h.1.2 with hn | ⟨g, cap, cur, rfl, h1, h2, h3⟩
  · exact .inl hn
  · exact .inr ⟨g, cap, cur, rfl, Nat.le_trans ha h1, h2, h3⟩

/-- Cells of numbers of a kind. -/
def KindAt (k : IntKind) (w : World) (b off : Nat) (zs : List Int) : Prop := ∀ j, j < zs.length → w.cell? ⟨b, off + j, none⟩ = some (.int k (zs.getD j 0))
/-- Numbers that can be read: where there are any, in the cells of a block. -/
def ReadK (k : IntKind) (w : World) (ad : Option Addr) (zs : List Int) : Prop := zs ≠ [] → ∃ b off, ad = some ⟨b, off, none⟩ ∧ b < w.heap.size ∧ KindAt k w b off zs
theorem ReadK.below {k : IntKind} {w w' : World} {ad : Option Addr} {zs : List Int} (h : ReadK k w ad zs) (hb : Below w.heap.size w w') : ReadK k w' ad zs := by
  intro hne
  obtain ⟨b, off, e, hl, hc⟩ := h hne
  exact ⟨b, off, e, Nat.lt_of_lt_of_le hl hb.size, fun j hj => (hb.cell (by simpa using hl)).trans (hc j hj)⟩
theorem ne_of_lt_length {α : Type} {k : Nat} {zs : List α} (h : k < zs.length) : zs ≠ [] := by rintro rfl; simp at h
theorem readK_of_own {k : IntKind} {e : TypeId} {w : World} {a b : Nat} {v : Value} {zs : List Int} (h : Own e 1 w a b v zs.length (zs.map (.int k))) :
    ∃ ad cap, v = .slice ad zs.length cap ∧ ReadK k w ad zs := by
  rcases h.1.2 with ⟨rfl, hn⟩ | ⟨g, cap, cur, rfl, h1, h2, h3⟩
  · refine ⟨none, 0, by rw [hn], fun hne => absurd (List.length_eq_zero_iff.1 hn) hne⟩
  · refine ⟨some ⟨g, 0, none⟩, cap, rfl, fun _ => ⟨g, 0, rfl, (h.1.lt g rfl).2, fun j hj => ?_⟩⟩
    rw [Nat.zero_add, h.1.cellAt j (by omega)]
    exact getD_map_int zs k j hj
/-- The numbers that a marking leaves. -/
def marks (k n : Nat) : List Int := (List.range n).map fun j => ((k + j : Nat) : Int)
def marksB (k n : Nat) : List Int := (List.range n).map fun j => (((k + j) % 256 : Nat) : Int)
@[simp] theorem marks_length (k n : Nat) : (marks k n).length = n := by simp [marks]
@[simp] theorem marksB_length (k n : Nat) : (marksB k n).length = n := by simp [marksB]
theorem marks_getD (k n j : Nat) (h : j < n) : (marks k n).getD j 0 = ((k + j : Nat) : Int) := by simp [marks, h]
theorem marksB_getD (k n j : Nat) (h : j < n) : (marksB k n).getD j 0 = (((k + j) % 256 : Nat) : Int) := by simp [marksB, h]
/-- A row of which the first t elements are new. -/
def partSet (k : IntKind) (xs : List Value) (zs : List Int) (t : Nat) : List Value := (zs.take t).map (.int k) ++ xs.drop t
theorem partSet_zero (k : IntKind) (xs : List Value) (zs : List Int) : partSet k xs zs 0 = xs := by simp [partSet]
theorem partSet_all (k : IntKind) (xs : List Value) (zs : List Int) (h : xs.length = zs.length) : partSet k xs zs zs.length = zs.map (.int k) := by
  unfold partSet; rw [List.take_length, ← h, List.drop_length, List.append_nil]
theorem partSet_set (k : IntKind) (xs : List Value) (zs : List Int) (t : Nat) (h : t < zs.length) (hl : xs.length = zs.length) : (partSet k xs zs t).set t (.int k (zs.getD t 0)) = partSet k xs zs (t + 1) := by
  unfold partSet
  rw [take_snoc_getD zs 0 t h, List.map_append, List.set_append, if_neg (by simp; omega), List.append_assoc]
  congr 1
  have e : (xs.drop t) = xs[t] :: xs.drop (t + 1) := by rw [List.drop_eq_getElem_cons]
  simp [Nat.min_eq_left (Nat.le_of_lt h)]
  rw [e]; rfl
theorem partSet_length (k : IntKind) (xs : List Value) (zs : List Int) (t : Nat) (h : t ≤ zs.length) (hl : xs.length = zs.length) : (partSet k xs zs t).length = zs.length := by
  unfold partSet; simp; omega
theorem upd_of_same {P : Program} {f : FuncId} {args : Array Value} {w : World} {r : Ending} (h : Calls P f args w fun e w' => e = r ∧ w' = w) : Calls P f args w fun e w' => e = r ∧ Upd 0 0 w w' := by
  refine h.mono ?_
  rintro e w' ⟨rfl, rfl⟩
  exact ⟨rfl, Upd.refl _ _ _⟩
theorem upd_of_belowC {P : Program} {f : FuncId} {args : Array Value} {w : World} {r : Ending} (h : Calls P f args w fun e w' => e = r ∧ Below w.heap.size w w') : Calls P f args w fun e w' => e = r ∧ Upd 0 0 w w' := by
  refine h.mono ?_
  rintro e w' ⟨he, hb⟩
  exact ⟨he, Upd.of_below hb _ _⟩
/-- The first cells of a block. -/
def Held (w : World) (g : Nat) (cs : List Value) : Prop := g < w.heap.size ∧ ∀ j v, cs[j]? = some v → w.cell? ⟨g, j, none⟩ = some v
theorem held_new (w : World) (cs : List Value) (t : TypeId) : Held (w.alloc (.cells cs.toArray t)) w.heap.size cs := by
  refine ⟨by simp, fun j v h => ?_⟩
  rw [World.cell?_alloc_at _ _ _ _ rfl]; simpa using h
theorem Held.upd {w w' : World} {g c e : Nat} {cs : List Value} (h : Held w g cs) (u : Upd c e w w') (hd : g + 1 ≤ c ∨ e ≤ g) : Held w' g cs := by
  refine ⟨Nat.lt_of_lt_of_le h.1 u.size, fun j v hj => ?_⟩
  rw [World.cell?_of_block (w := w) (a := ⟨g, j, none⟩) (u.block g h.1 (by omega))]
  exact h.2 j v hj
theorem Held.keep {w w' : World} {g : Nat} {cs : List Value} (h : Held w g cs) (u : Upd 0 0 w w') : Held w' g cs := h.upd u (.inr (Nat.zero_le _))
def InI (zs : List Int) : Prop := ∀ j, -9223372036854775808 ≤ zs.getD j 0 ∧ zs.getD j 0 ≤ 9223372036854775807
end Go.Proofs.YthkppcncajmniaaDoor

/- The walks of the laws' own helpers on byte strings: a copy, whether two are equal, marksB. -/
namespace Go.Proofs.YthkppcncajmniaaDoor
open Go.RowKit

def byts (zs : List Int) : List Value := zs.map (.int .u8)
theorem byts_length (zs : List Int) : (byts zs).length = zs.length := by simp [byts]
abbrev OwnY (w : World) (a b : Nat) (v : Value) (zs : List Int) : Prop := Own 5 1 w a b v zs.length (byts zs)
abbrev ArgY (w : World) (ad : Option Addr) (zs : List Int) : Prop := ReadK .u8 w ad zs
/-- A byte string as a value that can be read. -/
def RdY (w : World) (v : Value) (zs : List Int) : Prop := ∃ ad cap, v = .slice ad zs.length cap ∧ ArgY w ad zs
theorem RdY.below {w w' : World} {v : Value} {zs : List Int} (h : RdY w v zs) (hb : Below w.heap.size w w') : RdY w' v zs := by
  obtain ⟨ad, cap, e, h⟩ := h
  exact ⟨ad, cap, e, h.below hb⟩
theorem OwnY.rd {w : World} {a b : Nat} {v : Value} {zs : List Int} (h : OwnY w a b v zs) : RdY w v zs := readK_of_own h

def partY (zs : List Int) (k : Nat) : List Value := byts (zs.take k) ++ List.replicate (zs.length - k) (.int .u8 0)
theorem partY_zero (zs : List Int) : partY zs 0 = List.replicate zs.length (.int .u8 0) := by unfold partY byts; simp
theorem partY_all (zs : List Int) : partY zs zs.length = byts zs := by unfold partY byts; simp
theorem partY_set (zs : List Int) (k : Nat) (h : k < zs.length) : (partY zs k).set k (.int .u8 (zs.getD k 0)) = partY zs (k + 1) := by
  unfold partY byts
  rw [take_snoc_getD zs 0 k h, List.map_append, List.set_append, if_neg (by simp; omega), List.append_assoc]
  congr 1
  have : zs.length - k = (zs.length - (k + 1)) + 1 := by omega
  rw [this, List.replicate_succ]
  simp [Nat.min_eq_left (Nat.le_of_lt h)]
theorem partY_length (zs : List Int) (k : Nat) (h : k ≤ zs.length) : (partY zs k).length = zs.length := by unfold partY byts; simp; omega

end Go.Proofs.YthkppcncajmniaaDoor

/- Plain: depths of samples, rows of samples packed into bytes. -/
namespace Go.Proofs.YthkppcncajmniaaDoor
open Go.RowKit

def depthOk (d : Int) : Bool := d == 1 || d == 2 || d == 4 || d == 8 || d == 16
theorem depthOk_cases {d : Int} (h : depthOk d = true) : d = 1 ∨ d = 2 ∨ d = 4 ∨ d = 8 ∨ d = 16 := by
  unfold depthOk at h; simp at h; omega
theorem depthOk_nat {d : Int} (h : depthOk d = true) : ∃ D : Nat, d = (D : Int) ∧ 1 ≤ D ∧ D ≤ 16 := by
  rcases depthOk_cases h with e | e | e | e | e <;> subst e
  · exact ⟨1, rfl, by omega, by omega⟩
  · exact ⟨2, rfl, by omega, by omega⟩
  · exact ⟨4, rfl, by omega, by omega⟩
  · exact ⟨8, rfl, by omega, by omega⟩
  · exact ⟨16, rfl, by omega, by omega⟩
theorem two_pow_16 {D : Nat} (h : D ≤ 16) : (0 : Int) < (2 : Int) ^ D ∧ (2 : Int) ^ D ≤ 65536 := by
  have h1 : 2 ^ D ≤ 2 ^ 16 := Nat.pow_le_pow_right (by omega) h
  have h2 : 0 < 2 ^ D := Nat.pow_pos (by omega)
  have e : (2 : Int) ^ D = ((2 ^ D : Nat) : Int) := by simp
  rw [e]; generalize 2 ^ D = y at h1 h2; omega
theorem two_pow_n {D : Nat} : (2 : Int) ^ D = ((2 ^ D : Nat) : Int) := by simp
/-- All samples are in the range of a depth. -/
def SmpOk (zs : List Int) (d : Int) : Prop := ∀ j, j < zs.length → 0 ≤ zs.getD j 0 ∧ zs.getD j 0 < 2 ^ d.toNat
def RowOk (zs : List Int) (d : Int) : Prop := depthOk d = true ∧ zs.length ≤ 4096 ∧ SmpOk zs d
def rowFs (zs : List Int) (d : Int) : List (Int × Int) := zs.map fun x => (d, x)
@[simp] theorem rowFs_length (zs : List Int) (d : Int) : (rowFs zs d).length = zs.length := by simp [rowFs]
theorem rowFs_at (zs : List Int) (d : Int) (k : Nat) (h : k < zs.length) : (rowFs zs d).getD k (0, 0) = (d, zs.getD k 0) := by
  unfold rowFs
  rw [List.getD_eq_getElem?_getD, List.getD_eq_getElem?_getD, List.getElem?_map, List.getElem?_eq_getElem h]; rfl
theorem rowFs_ok {d : Int} (h : depthOk d = true) (zs : List Int) (k : Nat) (hk : k < zs.length) : okF ((rowFs zs d).getD k (0, 0)) := by
  rw [rowFs_at zs d k hk]
  obtain ⟨D, rfl, h1, h2⟩ := depthOk_nat h
  exact ⟨by simp, by simp; omega⟩
noncomputable def rowB (zs : List Int) (d : Int) : List Nat := open Classical in if RowOk zs d then (packTo true (rowFs zs d) zs.length).1 else []
theorem rowB_yes {zs : List Int} {d : Int} (h : RowOk zs d) : rowB zs d = (packTo true (rowFs zs d) zs.length).1 := by unfold rowB; exact if_pos h
theorem rowB_no {zs : List Int} {d : Int} (h : ¬ RowOk zs d) : rowB zs d = [] := by unfold rowB; exact if_neg h
noncomputable def rowF (zs : List Int) (d : Int) : List Int := (rowB zs d).map fun b : Nat => (b : Int)
theorem rowF_no {zs : List Int} {d : Int} (h : ¬ RowOk zs d) : rowF zs d = [] := by unfold rowF; rw [rowB_no h]; rfl
theorem rowF_length (zs : List Int) (d : Int) : (rowF zs d).length = (rowB zs d).length := by simp [rowF]
theorem rowF_byts (zs : List Int) (d : Int) : byts (rowF zs d) = vals (rowB zs d) := by unfold rowF byts vals; simp
theorem row_inv {d : Int} (h : depthOk d = true) (zs : List Int) (k : Nat) (hk : k ≤ zs.length) : Inv true (packTo true (rowFs zs d) k).1 (packTo true (rowFs zs d) k).2 ∧ (packTo true (rowFs zs d) k).2 ≤ 64 * k :=
  packTo_inv true (rowFs zs d) k (by simpa using hk) (fun j hj => rowFs_ok h zs j (by omega))
theorem row_step {zs : List Int} {D : Nat} {k : Nat} (hk : k < zs.length) (u : Nat) (hu : zs.getD k 0 = (u : Int)) :
    (packTo true (rowFs zs D) (k + 1)).1 = ft true u D (packTo true (rowFs zs D) k).1 (packTo true (rowFs zs D) k).2 D ∧ (packTo true (rowFs zs D) (k + 1)).2 = (packTo true (rowFs zs D) k).2 + D := by
  rw [packTo_succ true _ k (by simpa using hk), rowFs_at zs D k hk]
  unfold packStep
  rw [hu]
  exact ⟨rfl, rfl⟩
theorem rowF_len (zs : List Int) (d : Int) : (rowF zs d).length ≤ 1048576 := by
  rw [rowF_length]
  by_cases h : RowOk zs d
  · rw [rowB_yes h]
    have h1 := row_inv h.1 zs zs.length (Nat.le_refl _)
    have h2 := h1.1.1
    have := h.2.1
    omega
  · rw [rowB_no h]; simp
end Go.Proofs.YthkppcncajmniaaDoor

/- Lists of ints, as values of the call's own and as values that can be read. -/
namespace Go.Proofs.YthkppcncajmniaaDoor
open Go.RowKit

theorem infoI : (Tryd.prog.info? 3).map (fun i => (i.zero, i.size, i.bytes)) = some (some (.int .i64 0), 1, 8) := by kernel_rfl
def ints (zs : List Int) : List Value := zs.map (.int .i64)
theorem ints_length (zs : List Int) : (ints zs).length = zs.length := by simp [ints]
abbrev OwnI (w : World) (a b : Nat) (v : Value) (zs : List Int) : Prop := Own 3 1 w a b v zs.length (ints zs)
abbrev ArgI (w : World) (ad : Option Addr) (zs : List Int) : Prop := ReadK .i64 w ad zs
/-- A list of ints as a value that can be read. -/
def RdI (w : World) (v : Value) (zs : List Int) : Prop := ∃ ad cap, v = .slice ad zs.length cap ∧ ArgI w ad zs
theorem RdI.below {w w' : World} {v : Value} {zs : List Int} (h : RdI w v zs) (hb : Below w.heap.size w w') : RdI w' v zs := by
  obtain ⟨ad, cap, e, h⟩ := h
  exact ⟨ad, cap, e, h.below hb⟩
theorem OwnI.rd {w : World} {a b : Nat} {v : Value} {zs : List Int} (h : OwnI w a b v zs) : RdI w v zs := readK_of_own h

end Go.Proofs.YthkppcncajmniaaDoor

/- The walks of the laws' own helpers on lists of ints: a copy, whether two are equal, marks. -/
namespace Go.Proofs.YthkppcncajmniaaDoor
open Go.RowKit

def partI (zs : List Int) (k : Nat) : List Value := ints (zs.take k) ++ List.replicate (zs.length - k) (.int .i64 0)
theorem partI_zero (zs : List Int) : partI zs 0 = List.replicate zs.length (.int .i64 0) := by unfold partI ints; simp
theorem partI_all (zs : List Int) : partI zs zs.length = ints zs := by unfold partI ints; simp
theorem partI_set (zs : List Int) (k : Nat) (h : k < zs.length) : (partI zs k).set k (.int .i64 (zs.getD k 0)) = partI zs (k + 1) := by
  unfold partI ints
  rw [take_snoc_getD zs 0 k h, List.map_append, List.set_append, if_neg (by simp; omega), List.append_assoc]
  congr 1
  have : zs.length - k = (zs.length - (k + 1)) + 1 := by omega
  rw [this, List.replicate_succ]
  simp [Nat.min_eq_left (Nat.le_of_lt h)]
theorem partI_length (zs : List Int) (k : Nat) (h : k ≤ zs.length) : (partI zs k).length = zs.length := by unfold partI ints; simp; omega

set_option maxHeartbeats 1000000 in
theorem toIntS_own (ad : Option Addr) (cap : Nat) (zs : List Int) (w : World) (hn : zs.length ≤ 1048576) (hA : ArgI w ad zs) :
    Calls Tryd.prog 24 #[.slice ad zs.length cap] w fun e w' =>
      ∃ v, e = .returned v ∧ OwnI w' w.heap.size w'.heap.size v zs ∧ Upd 0 0 w w' := by
  obtain ⟨i0, hi, hz0, hz1, hz2⟩ := info_parts infoI
  replace hA := hide hA
  go_enter Tryd.func24, Tryd.ntmps24
  go_wp2_with (at_make; refine wpList_make_full _ rfl _ _ 22 rfl w.heap.size 3 i0 (.int .i64 0) 1 Tryd.underlying22 hi hz0 hz1 .i64 .i64 _ _ zs.length rfl rfl (by omega) (by omega) (by rw [hz2]; omega) (by unfold maxLen; omega) (Nat.le_refl _) ?_; intro w1 hown hgrow)
  have hbel := (Below.refl w.heap.size w).grown hgrow (Nat.le_refl _) (by simp)
  have hown0 : w1.ownsRow w.heap.size 3 1 (.slice (some ⟨w.heap.size, 0, none⟩) zs.length zs.length) zs.length (partI zs 0) := by
    rw [partI_zero]; simpa [toList_madeCells_one, Value.cells] using hown
  clear hown hgrow
  go_loopw [4] (fun i wr => ∃ k : Nat, k ≤ zs.length ∧ i = .int .i64 k ∧ wr.ownsRow w.heap.size 3 1 (.slice (some ⟨w.heap.size, 0, none⟩) zs.length zs.length) zs.length (partI zs k) ∧ Below w.heap.size w wr) (fun i _ => zs.length - (intOf i).toNat)
  case atStart => exact ⟨0, Nat.zero_le _, rfl, hown0, hbel⟩
  case round =>
    clear hown0 hbel
    obtain ⟨k, hk, rfl, hown, hbel⟩ := hrel
    by_cases hlt : k < zs.length
    · obtain ⟨b, off, rfl, hbl, hc⟩ := (unhide hA) (ne_of_lt_length hlt)
      have hck : wr.cell? ⟨b, off + k, none⟩ = some (.int .i64 (zs.getD k 0)) := (hbel.cell (by simpa using hbl)).trans (hc k hlt)
      have hps := partI_set zs k hlt
      generalize zs.getD k 0 = x at hck hps
      have hdst : ∃ u, wr.cell? ⟨w.heap.size, k, none⟩ = some u := by
        rw [hown.cellAt k (by omega)]; exact ⟨_, List.getElem?_eq_getElem (by have := hown.1; omega)⟩
      obtain ⟨u, hdst⟩ := hdst
      have hfz := hown.frozenAt k
      have hst := (hown.stored k (.int .i64 x)).1
      rw [hps] at hst
      have hb2 := hbel.setCell (p := ⟨w.heap.size, k, none⟩) (Nat.le_refl _) (.int .i64 x)
      replace hst := hide hst
      clear hown hps hc
      go_wp2
      go_roundw
      case rel => exact ⟨k + 1, by omega, by go_num, unhide hst, hb2⟩
      case measure => simp [intOf]; omega
    · have hkl : k = zs.length := by omega
      subst hkl
      rw [partI_all] at hown
      replace hown := hide (Own.of hown)
      go_wp2
      go_ret
      exact ⟨_, rfl, unhide hown, Upd.of_below hbel 0 0⟩

set_option maxHeartbeats 1000000 in
theorem eqIntS_rd (u v : Value) (zs : List Int) (w : World) (hn : zs.length ≤ 1048576) (hu : RdI w u zs) (hv : RdI w v zs) :
    Calls Tryd.prog 30 #[u, v] w fun e w' => e = .returned (.bool true) ∧ Upd 0 0 w w' := by
  obtain ⟨ad, cap, rfl, hA⟩ := hu
  obtain ⟨ad', cap', rfl, hA'⟩ := hv
  replace hA := hide hA
  replace hA' := hide hA'
  go_enter Tryd.func30, Tryd.ntmps30
  go_wp2
  go_loopw [5] (fun i wr => ∃ k : Nat, k ≤ zs.length ∧ i = .int .i64 k ∧ ∃ nq, wr = w.drewN nq) (fun i _ => zs.length - (intOf i).toNat)
  case atStart => exact ⟨0, Nat.zero_le _, rfl, 0, rfl⟩
  case round =>
    obtain ⟨k, hk, rfl, nq, rfl⟩ := hrel
    by_cases hlt : k < zs.length
    · obtain ⟨b, off, rfl, hbl, hc⟩ := (unhide hA) (ne_of_lt_length hlt)
      obtain ⟨b', off', rfl, hbl', hc'⟩ := (unhide hA') (ne_of_lt_length hlt)
      have hck := hc k hlt
      have hck' := hc' k hlt
      clear hc hc' hA hA'
      generalize zs.getD k 0 = x at hck hck'
      go_wp2
      go_quiet (fail)
      go_wp2
      go_roundw
      case rel => exact ⟨k + 1, by omega, by go_num, _, rfl⟩
      case measure => simp [intOf]; omega
    · have hkl : k = zs.length := by omega
      subst hkl
      go_wp2
      go_ret
      exact ⟨rfl, (Upd.refl 0 0 _).drewN _⟩

set_option maxHeartbeats 1000000 in
theorem markIntS_none (k : Nat) (w : World) : Calls Tryd.prog 33 #[.slice none 0 0, .int .i64 k] w fun e w' => e = .returned (.int .i64 (k : Int)) ∧ w' = w := by
  go_enter Tryd.func33, Tryd.ntmps33
  go_wp2
  go_loop [1, 5] (fun a i => a = .int .i64 k ∧ i = .int .i64 0) (fun _ _ => 0)
  case atStart => exact ⟨rfl, rfl⟩
  case round =>
    obtain ⟨rfl, rfl⟩ := hrel
    go_wp2
    go_ret
    exact ⟨rfl, rfl⟩

set_option maxHeartbeats 1000000 in
theorem markIntS_some (a g cap n k : Nat) (xs : List Value) (w : World) (hn : n ≤ 1048576) (hk : k ≤ 1099511627776) (h : w.ownsRow a 3 1 (.slice (some ⟨g, 0, none⟩) n cap) n xs) :
    Calls Tryd.prog 33 #[.slice (some ⟨g, 0, none⟩) n cap, .int .i64 k] w fun e w' => e = .returned (.int .i64 ((k + n : Nat) : Int)) ∧ w'.ownsRow a 3 1 (.slice (some ⟨g, 0, none⟩) n cap) n (ints (marks k n)) ∧ Upd g (g + 1) w w' := by
  have hxl : xs.length = n := by have := h.1; omega
  go_enter Tryd.func33, Tryd.ntmps33
  go_wp2
  go_loopw [1, 5] (fun c i wr => ∃ t : Nat, t ≤ n ∧ c = .int .i64 ((k + t : Nat) : Int) ∧ i = .int .i64 t ∧ wr.ownsRow a 3 1 (.slice (some ⟨g, 0, none⟩) n cap) n (partSet .i64 xs (marks k n) t) ∧ Upd g (g + 1) w wr) (fun _ i _ => n - (intOf i).toNat)
  case atStart => exact ⟨0, Nat.zero_le _, rfl, rfl, by rw [partSet_zero]; exact h, Upd.refl _ _ _⟩
  case round =>
    clear h
    obtain ⟨t, ht, rfl, rfl, hown, hupd⟩ := hrel
    have hlen : (partSet .i64 xs (marks k n) t).length = n := by rw [partSet_length _ _ _ _ (by simpa using ht) (by simpa using hxl)]; simp
    by_cases hlt : t < n
    · have hdst : wr.cell? ⟨g, t, none⟩ = some ((partSet .i64 xs (marks k n) t).getD t undef) := by
        rw [hown.cellAt t (by omega), List.getElem?_eq_getElem (by omega), List.getD_eq_getElem?_getD, List.getElem?_eq_getElem (by omega)]; rfl
      have hfz := hown.frozenAt t
      have hst := (hown.stored t (.int .i64 ((k + t : Nat) : Int))).1
      have hps := partSet_set .i64 xs (marks k n) t (by simpa using hlt) (by simpa using hxl)
      rw [marks_getD k n t hlt] at hps
      rw [hps] at hst
      generalize (partSet .i64 xs (marks k n) t).getD t undef = u at hdst
      have ho2 := hupd.setCell (r := g) ⟨Nat.le_refl _, by omega⟩ t (.int .i64 ((k + t : Nat) : Int))
      rw [show (((k + t : Nat) : Int)) = (k : Int) + (t : Int) by omega] at hst ho2
      replace hst := hide hst
      replace ho2 := hide ho2
      clear hown hupd hps hlen
      go_wp2
      go_roundw
      case rel => exact ⟨t + 1, by omega, by go_num, by go_num, unhide hst, unhide ho2⟩
      case measure => simp [intOf]; omega
    · have htn : t = n := by omega
      subst htn
      have hM : wr.ownsRow a 3 1 (.slice (some ⟨g, 0, none⟩) t cap) t (ints (marks k t)) := by
        have := partSet_all .i64 xs (marks k t) (by simpa using hxl)
        rw [marks_length] at this
        rw [this] at hown; exact hown
      replace hM := hide hM
      clear hown
      go_wp2
      go_ret
      exact ⟨rfl, unhide hM, hupd⟩
theorem markIntS_own (a b : Nat) (v : Value) (k : Nat) (zs : List Int) (w : World) (hn : zs.length ≤ 1048576) (hk : k ≤ 1099511627776) (h : OwnI w a b v zs) :
    Calls Tryd.prog 33 #[v, .int .i64 k] w fun e w' => e = .returned (.int .i64 ((k + zs.length : Nat) : Int)) ∧ OwnI w' a b v (marks k zs.length) ∧ Upd a b w w' := by
  rcases h.1.2 with ⟨rfl, h0⟩ | ⟨g, cap, cur, rfl, h1, h2, h3⟩
  · refine (markIntS_none k w).mono ?_
    rintro e w' ⟨rfl, rfl⟩
    rw [h0]
    exact ⟨rfl, ⟨World.ownsRow_nil _ _ _ _, fun k hk => by simp [Value.ownBlock] at hk⟩, Upd.refl _ _ _⟩
  · have hb := h.2 g rfl
    refine (markIntS_some a g cap zs.length k _ w hn hk h.1).mono ?_
    rintro e w' ⟨rfl, ho, hu⟩
    refine ⟨rfl, ⟨?_, h.2⟩, ⟨hu.os, hu.tape, hu.output, hu.size, fun i hi hn => hu.block i hi (by omega)⟩⟩
    rw [marks_length]; exact ho

set_option maxHeartbeats 1000000 in
theorem heldIntS_own (a b : Nat) (v : Value) (k n : Nat) (w : World) (hn : n ≤ 1048576) (hk : k ≤ 1099511627776) (h : OwnI w a b v (marks k n)) :
    Calls Tryd.prog 35 #[v, .int .i64 k] w fun e w' => e = .returned (.int .i64 ((k + n : Nat) : Int)) ∧ w' = w := by
  obtain ⟨ad, cap, rfl, hA⟩ := h.rd
  rw [marks_length]
  replace hA := hide hA
  clear h
  go_enter Tryd.func35, Tryd.ntmps35
  go_wp2
  go_loop [1, 5] (fun a i => ∃ t : Nat, t ≤ n ∧ a = .int .i64 ((k + t : Nat) : Int) ∧ i = .int .i64 t) (fun _ i => n - (intOf i).toNat)
  case atStart => exact ⟨0, Nat.zero_le _, rfl, rfl⟩
  case round =>
    obtain ⟨t, ht, rfl, rfl⟩ := hrel
    by_cases hlt : t < n
    · obtain ⟨b', off, rfl, hbl, hc⟩ := (unhide hA) (ne_of_lt_length (k := t) (by simpa using hlt))
      have hck := hc t (by simpa using hlt)
      rw [marks_getD k n t hlt, show (((k + t : Nat) : Int)) = (k : Int) + (t : Int) by omega] at hck
      clear hc hA
      go_wp2
      go_round
      case rel => exact ⟨t + 1, by omega, by go_num, by go_num⟩
      case measure => simp [intOf]; omega
    · have htn : t = n := by omega
      subst htn
      go_wp2
      go_ret
      exact ⟨rfl, rfl⟩
end Go.Proofs.YthkppcncajmniaaDoor

/- How much a list of ints holds. -/
namespace Go.Proofs.YthkppcncajmniaaDoor
open Go.RowKit

theorem bcellU {W w1 : World} (hb : Upd 0 0 W w1) : (∀ b o, b < W.heap.size → w1.cell? ⟨b, o, none⟩ = W.cell? ⟨b, o, none⟩) ∧ (∀ b o, b < W.heap.size → w1.frozen? ⟨b, o, none⟩ = W.frozen? ⟨b, o, none⟩) :=
  ⟨fun b o h => hb.none.cell (p := ⟨b, o, none⟩) h, fun b o h => hb.none.frozen (p := ⟨b, o, none⟩) h⟩

theorem Upd.drew1 (w : World) : Upd 0 0 w w.drew := ⟨rfl, rfl, rfl, Nat.le_refl _, fun _ _ _ => rfl⟩
theorem Own.set {e : TypeId} {s : Nat} {w : World} {a b : Nat} {v : Value} {n : Nat} {xs : List Value} (h : Own e s w a b v n xs) {c : Nat} (hc : c < a) (o : Nat) (u : Value) : Own e s (w.setCell ⟨c, o, none⟩ u) a b v n xs :=
  ⟨ownsRow_setCell_below h.1 hc u, h.2⟩

set_option maxHeartbeats 1000000 in
theorem szIntS_any (ad : Option Addr) (n cap : Nat) (left : Int) (w : World) (h0 : 0 ≤ left) (h1 : left ≤ 1099511627776) (hn : n ≤ 9223372036854775807) :
    Calls Tryd.prog 17 #[.slice ad n cap, .int .i64 left] w fun e w' => e = .returned (.int .i64 (if left < n then -1 else left - n)) ∧ w' = w := by
  by_cases hlt : left < n
  · rw [if_pos hlt]
    go_enter Tryd.func17, Tryd.ntmps17
    go_wp2
    go_ret
    exact ⟨rfl, rfl⟩
  · rw [if_neg hlt]
    go_enter Tryd.func17, Tryd.ntmps17
    go_wp2
    go_ret
    exact ⟨rfl, rfl⟩

end Go.Proofs.YthkppcncajmniaaDoor

/- Images as arguments and answers: four numbers and a list; the walks of the laws' own helpers on them. -/
namespace Go.Proofs.YthkppcncajmniaaDoor
open Go.RowKit

abbrev Im := Int × Int × Int × Int × List Int
abbrev imv (d : Im) (vl : Value) : Value := .agg #[.int .i64 d.1, .int .i64 d.2.1, .int .i64 d.2.2.1, .int .i64 d.2.2.2.1, vl]
abbrev imc (d : Im) (vl : Value) : List Value := [.int .i64 d.1, .int .i64 d.2.1, .int .i64 d.2.2.1, .int .i64 d.2.2.2.1, vl]
abbrev ims (d : Im) : List Int := d.2.2.2.2
def RdIm (w : World) (v : Value) (d : Im) : Prop := ∃ vl, v = imv d vl ∧ RdI w vl (ims d)
def OwnIm (w : World) (a b : Nat) (v : Value) (d : Im) : Prop := ∃ vl, v = imv d vl ∧ OwnI w a b vl (ims d)
theorem OwnIm.rd {w : World} {a b : Nat} {v : Value} {d : Im} (h : OwnIm w a b v d) : RdIm w v d := by
  obtain ⟨vl, rfl, h⟩ := h
  exact ⟨vl, rfl, h.rd⟩
theorem RdIm.below {w w' : World} {v : Value} {d : Im} (h : RdIm w v d) (hb : Below w.heap.size w w') : RdIm w' v d := by
  obtain ⟨vl, rfl, h⟩ := h
  exact ⟨vl, rfl, h.below hb⟩
theorem OwnIm.upd {w w' : World} {a b c e : Nat} {v : Value} {d : Im} (h : OwnIm w a b v d) (u : Upd c e w w') (hd : b ≤ c ∨ e ≤ a) : OwnIm w' a b v d := by
  obtain ⟨vl, rfl, h⟩ := h
  exact ⟨vl, rfl, h.upd u hd⟩
theorem OwnIm.keep {w w' : World} {a b : Nat} {v : Value} {d : Im} (h : OwnIm w a b v d) (u : Upd 0 0 w w') : OwnIm w' a b v d := h.upd u (.inr (Nat.zero_le _))
theorem OwnIm.form {w : World} {a b : Nat} {v : Value} {d : Im} (h : OwnIm w a b v d) : ∃ ad cap, v = imv d (.slice ad (ims d).length cap) := by
  obtain ⟨vl, rfl, h⟩ := h
  obtain ⟨ad, cap, rfl, _⟩ := h.rd
  exact ⟨ad, cap, rfl⟩
/-- All numbers fit. -/
def InIm (d : Im) : Prop := (-9223372036854775808 ≤ d.1 ∧ d.1 ≤ 9223372036854775807) ∧ (-9223372036854775808 ≤ d.2.1 ∧ d.2.1 ≤ 9223372036854775807) ∧ (-9223372036854775808 ≤ d.2.2.1 ∧ d.2.2.1 ≤ 9223372036854775807) ∧ (-9223372036854775808 ≤ d.2.2.2.1 ∧ d.2.2.2.1 ≤ 9223372036854775807) ∧ InI (ims d)
def imCount (d : Im) : Nat := (ims d).length
def imMarked (k : Nat) (d : Im) : Im := (d.1, d.2.1, d.2.2.1, d.2.2.2.1, marks k (ims d).length)

set_option maxHeartbeats 1000000 in
theorem szImage_any (x0 x1 x2 x3 : Int) (ad : Option Addr) (n cap : Nat) (left : Int) (w : World) (h0 : 0 ≤ left) (h1 : left ≤ 1099511627776) (hn : n ≤ 9223372036854775807) :
    Calls Tryd.prog 16 #[.agg #[.int .i64 x0, .int .i64 x1, .int .i64 x2, .int .i64 x3, .slice ad n cap], .int .i64 left] w fun e w' => e = .returned (.int .i64 (if left < n then -1 else left - n)) ∧ Upd 0 0 w w' := by
  have hS := hide (fun W => szIntS_any ad n cap left W h0 h1 hn)
  have hB := hide (Upd.of_below ((Below.refl w.heap.size w).alloc (Nat.le_refl _) (.cells #[.int .i64 x0, .int .i64 x1, .int .i64 x2, .int .i64 x3, .slice ad n cap] 24)) 0 0)
  by_cases hlt : left < n
  · rw [if_pos hlt] at hS ⊢
    go_enter Tryd.func16, Tryd.ntmps16
    go_wp2_with fail
    refine (unhide hS _).mono ?_
    rintro e w1 ⟨rfl, rfl⟩
    go_wp2
    go_ret
    exact ⟨rfl, unhide hB⟩
  · rw [if_neg hlt] at hS ⊢
    have q : decide (left - (n : Int) < 0) = false := by simp; omega
    go_enter Tryd.func16, Tryd.ntmps16
    go_wp2_with fail
    refine (unhide hS _).mono ?_
    rintro e w1 ⟨rfl, rfl⟩
    go_wp2
    go_ret
    exact ⟨rfl, unhide hB⟩

set_option maxHeartbeats 2000000 in
set_option maxRecDepth 100000 in
theorem toImage_own (v : Value) (d : Im) (w : World) (hn : (ims d).length ≤ 1048576) (hv : RdIm w v d) :
    Calls Tryd.prog 23 #[v] w fun e w' => ∃ u, e = .returned u ∧ OwnIm w' w.heap.size w'.heap.size u d ∧ Upd 0 0 w w' := by
  obtain ⟨vl, rfl, h⟩ := hv
  obtain ⟨ad, cap, rfl, hA⟩ := h
  obtain ⟨x0, x1, x2, x3, zs⟩ := d
  simp only [ims, imv] at hn hA ⊢
  have hB' := (((Below.refl w.heap.size w).alloc (Nat.le_refl _) (.cells #[.int .i64 x0, .int .i64 x1, .int .i64 x2, .int .i64 x3, .slice ad zs.length cap] 24)).alloc (by simp) (.cells #[.int .i64 0, .int .i64 0, .int .i64 0, .int .i64 0, .slice none 0 0] 30)).alloc (by simp; omega) (.cells #[.int .i64 x0, .int .i64 x1, .int .i64 x2, .int .i64 x3, .slice none 0 0] 30)
  have hT := hide (toIntS_own ad cap zs _ hn (hA.below hB'))
  replace hB' := hide hB'
  clear hA
  go_enter Tryd.func23, Tryd.ntmps23
  go_wp2_with fail
  refine (unhide hT).mono ?_
  rintro e w1 ⟨u, rfl, ho, hu⟩
  obtain ⟨hc, hf⟩ := bcellU hu
  obtain ⟨ad', cap', rfl, _⟩ := ho.rd
  have hsz := hu.size
  simp at hsz
  replace ho := hide ho
  have huB := hide ((Upd.of_below (unhide hB') 0 0).trans hu)
  clear hT hu hB'
  go_wp2
  have hbl := (unhide huB).none
  refine bodyPost_ret (v := .agg #[.int .i64 x0, .int .i64 x1, .int .i64 x2, .int .i64 x3, .slice ad' zs.length cap']) (by simp [results, Tryd.results23, go_sem, hc]) rfl ⟨_, rfl, ⟨_, rfl, own_mono ((((((unhide ho).set (by simp) _ _).set (by simp) _ _).set (by simp) _ _).set (by simp) _ _).set (by simp) _ _ |>.set (by simp) _ _) (by simp; omega) (by simp)⟩, Upd.of_below (((((((hbl.setCell (by simp; omega) _).setCell (by simp) _).setCell (by simp) _).setCell (by simp) _).setCell (by simp) _).setCell (by simp) _)) 0 0⟩

set_option maxHeartbeats 2000000 in
set_option maxRecDepth 100000 in
theorem eqImage_rd (u v : Value) (d : Im) (w : World) (hn : (ims d).length ≤ 1048576) (hu : RdIm w u d) (hv : RdIm w v d) :
    Calls Tryd.prog 12 #[u, v] w fun e w' => e = .returned (.bool true) ∧ Upd 0 0 w w' := by
  obtain ⟨ul, rfl, hu⟩ := hu
  obtain ⟨vl, rfl, hv⟩ := hv
  obtain ⟨x0, x1, x2, x3, zs⟩ := d
  obtain ⟨ad, cap, rfl, hA⟩ := hu
  obtain ⟨ad', cap', rfl, hA'⟩ := hv
  simp only [ims, imv] at hn hA hA' ⊢
  have hB := (((Below.refl w.heap.size w).alloc (Nat.le_refl _) (.cells #[.int .i64 x0, .int .i64 x1, .int .i64 x2, .int .i64 x3, .slice ad zs.length cap] 30)).alloc (by simp) (.cells #[.int .i64 x0, .int .i64 x1, .int .i64 x2, .int .i64 x3, .slice ad' zs.length cap'] 30))
  have hE := hide (eqIntS_rd _ _ zs _ hn ⟨ad, cap, rfl, hA.below hB⟩ ⟨ad', cap', rfl, hA'.below hB⟩)
  replace hB := hide hB
  clear hA hA'
  go_enter Tryd.func12, Tryd.ntmps12
  go_wp2_with fail
  refine (unhide hE).mono ?_
  rintro e w1 ⟨rfl, hu⟩
  replace hu := hide ((Upd.of_below (unhide hB) 0 0).trans hu)
  clear hE
  go_wp2
  go_ret
  exact ⟨rfl, unhide hu⟩

set_option maxHeartbeats 1000000 in
theorem markImage_own {w : World} {a b : Nat} {v : Value} {d : Im} (k : Nat) (hL : (ims d).length ≤ 1048576) (hk : k ≤ 1099511627776) (hv : OwnIm w a b v d) :
    Calls Tryd.prog 14 #[v, .int .i64 k] w fun e w' => e = .returned (.int .i64 ((k + imCount d : Nat) : Int)) ∧ OwnIm w' a b v (imMarked k d) ∧ Upd a b w w' := by
  obtain ⟨vl, rfl, hv⟩ := hv
  obtain ⟨x0, x1, x2, x3, zs⟩ := d
  simp only [ims, imv, imCount, imMarked] at hL hv ⊢
  have hB := Upd.of_below ((Below.refl w.heap.size w).alloc (Nat.le_refl _) (.cells #[.int .i64 x0, .int .i64 x1, .int .i64 x2, .int .i64 x3, vl] 30)) a b
  have hv1 := hv.keep (Upd.of_below ((Below.refl w.heap.size w).alloc (Nat.le_refl _) (.cells #[.int .i64 x0, .int .i64 x1, .int .i64 x2, .int .i64 x3, vl] 30)) 0 0)
  have hM := hide (markIntS_own a b vl k zs _ hL hk hv1)
  replace hB := hide hB
  clear hv1 hv
  go_enter Tryd.func14, Tryd.ntmps14
  go_wp2_with fail
  refine (unhide hM).mono ?_
  rintro e' w1 ⟨rfl, ho, hu⟩
  replace hu := hide ((unhide hB).trans hu)
  replace ho := hide ho
  clear hM
  go_wp2
  go_ret
  exact ⟨rfl, ⟨vl, rfl, unhide ho⟩, unhide hu⟩

set_option maxHeartbeats 1000000 in
theorem heldImage_own {w : World} {a b : Nat} {v : Value} {d : Im} (k : Nat) (hL : (ims d).length ≤ 1048576) (hk : k ≤ 1099511627776) (hv : OwnIm w a b v (imMarked k d)) :
    Calls Tryd.prog 15 #[v, .int .i64 k] w fun e w' => e = .returned (.int .i64 ((k + imCount d : Nat) : Int)) ∧ Upd 0 0 w w' := by
  obtain ⟨vl, rfl, hv⟩ := hv
  obtain ⟨x0, x1, x2, x3, zs⟩ := d
  simp only [ims, imv, imCount, imMarked] at hL hv ⊢
  have hB := Upd.of_below ((Below.refl w.heap.size w).alloc (Nat.le_refl _) (.cells #[.int .i64 x0, .int .i64 x1, .int .i64 x2, .int .i64 x3, vl] 30)) 0 0
  have hv1 := hv.keep hB
  have hM := hide (heldIntS_own a b vl k zs.length _ hL hk hv1)
  replace hB := hide hB
  clear hv1 hv
  go_enter Tryd.func15, Tryd.ntmps15
  go_wp2_with fail
  refine (unhide hM).mono ?_
  rintro e' w1 ⟨rfl, hw⟩
  subst hw
  clear hM
  go_wp2
  go_ret
  exact ⟨rfl, unhide hB⟩
end Go.Proofs.YthkppcncajmniaaDoor

/- Plain: good images. -/
namespace Go.Proofs.YthkppcncajmniaaDoor
open Go.RowKit

/-- Sides, planes and depth. -/
def ShapeOk (w h p dp : Int) : Prop := (1 ≤ w ∧ w ≤ 512) ∧ (1 ≤ h ∧ h ≤ 512) ∧ w * h ≤ 4096 ∧ (1 ≤ p ∧ p ≤ 4) ∧ depthOk dp = true ∧ (p = 1 ∨ 8 ≤ dp)
instance (w h p dp : Int) : Decidable (ShapeOk w h p dp) := by unfold ShapeOk; infer_instance
def shapeB (w h p dp : Int) : Bool := decide (ShapeOk w h p dp)
theorem shapeB_yes {w h p dp : Int} (a : ShapeOk w h p dp) : shapeB w h p dp = true := decide_eq_true a
theorem shapeB_no {w h p dp : Int} (a : ¬ ShapeOk w h p dp) : shapeB w h p dp = false := decide_eq_false a
def GoodIm (d : Im) : Prop := ShapeOk d.1 d.2.1 d.2.2.1 d.2.2.2.1 ∧ (d.2.2.2.2.length : Int) = d.1 * d.2.1 * d.2.2.1 ∧ SmpOk d.2.2.2.2 d.2.2.2.1
noncomputable def goodImB (d : Im) : Bool := open Classical in decide (GoodIm d)
theorem goodImB_yes {d : Im} (h : GoodIm d) : goodImB d = true := by unfold goodImB; simpa using h
theorem goodImB_no {d : Im} (h : ¬ GoodIm d) : goodImB d = false := by unfold goodImB; simpa using h
theorem prod_bd {w h : Int} (hw : 1 ≤ w ∧ w ≤ 512) (hh : 1 ≤ h ∧ h ≤ 512) : ∃ P : Int, w * h = P ∧ 1 ≤ P ∧ P ≤ 262144 := by
  obtain ⟨W, rfl⟩ := Int.eq_ofNat_of_zero_le (show 0 ≤ w by omega)
  obtain ⟨H, rfl⟩ := Int.eq_ofNat_of_zero_le (show 0 ≤ h by omega)
  have h1 : W * H ≤ 512 * 512 := Nat.mul_le_mul (by omega) (by omega)
  have h2 : 1 * 1 ≤ W * H := Nat.mul_le_mul (by omega) (by omega)
  exact ⟨((W * H : Nat) : Int), by simp, by omega, by omega⟩
theorem prod3_bd {P p : Int} (hP : 1 ≤ P ∧ P ≤ 4096) (hp : 1 ≤ p ∧ p ≤ 4) : ∃ Q : Int, P * p = Q ∧ 1 ≤ Q ∧ Q ≤ 16384 := by
  obtain ⟨W, rfl⟩ := Int.eq_ofNat_of_zero_le (show 0 ≤ P by omega)
  obtain ⟨H, rfl⟩ := Int.eq_ofNat_of_zero_le (show 0 ≤ p by omega)
  have h1 : W * H ≤ 4096 * 4 := Nat.mul_le_mul (by omega) (by omega)
  have h2 : 1 * 1 ≤ W * H := Nat.mul_le_mul (by omega) (by omega)
  exact ⟨((W * H : Nat) : Int), by simp, by omega, by omega⟩
end Go.Proofs.YthkppcncajmniaaDoor

/- What a step that only lays new blocks keeps of a row of the call's own. -/
namespace Go.Proofs.YthkppcncajmniaaDoor
open Go.RowKit

theorem ownsP_below {w w' : World} {base : Nat} {e : TypeId} {size n : Nat} {v : Value} {xs : List Value} (h : w.ownsRow base e size v n xs) (hb : Below w.heap.size w w') : w'.ownsRow base e size v n xs :=
  ((Own.of h).keep (Upd.of_below hb 0 0)).1
end Go.Proofs.YthkppcncajmniaaDoor

/- Lists of Passs: 6 numbers each; the walks of the laws' own helpers on them. -/
namespace Go.Proofs.YthkppcncajmniaaDoor
open Go.RowKit

abbrev Ps := Int × Int × Int × Int × Int × Int
abbrev Ps0 : Ps := (0, 0, 0, 0, 0, 0)
def cellsPs (ps : List Ps) : List Value := ps.flatMap fun p => [.int .i64 p.1, .int .i64 p.2.1, .int .i64 p.2.2.1, .int .i64 p.2.2.2.1, .int .i64 p.2.2.2.2.1, .int .i64 p.2.2.2.2.2]
theorem cellsPs_length (ps : List Ps) : (cellsPs ps).length = ps.length * 6 := by
  induction ps with
  | nil => rfl
  | cons p ps ih => unfold cellsPs at ih ⊢; rw [List.flatMap_cons, List.length_append, ih]; simp; omega
theorem cellsPs_snoc (ps : List Ps) (p : Ps) : cellsPs (ps ++ [p]) = cellsPs ps ++ [.int .i64 p.1, .int .i64 p.2.1, .int .i64 p.2.2.1, .int .i64 p.2.2.2.1, .int .i64 p.2.2.2.2.1, .int .i64 p.2.2.2.2.2] := by unfold cellsPs; simp
def RowPs (ys : List Value) (ps : List Ps) (k : Nat) : Prop := ∀ j, j < k → ys[j * 6]? = some (.int .i64 (ps.getD j Ps0).1) ∧ ys[j * 6 + 1]? = some (.int .i64 (ps.getD j Ps0).2.1) ∧ ys[j * 6 + 2]? = some (.int .i64 (ps.getD j Ps0).2.2.1) ∧ ys[j * 6 + 3]? = some (.int .i64 (ps.getD j Ps0).2.2.2.1) ∧ ys[j * 6 + 4]? = some (.int .i64 (ps.getD j Ps0).2.2.2.2.1) ∧ ys[j * 6 + 5]? = some (.int .i64 (ps.getD j Ps0).2.2.2.2.2)
theorem cellsPs_at (ps : List Ps) : RowPs (cellsPs ps) ps ps.length := by
  induction ps with
  | nil => intro j hj; simp at hj
  | cons p ps ih =>
    intro j hj
    have e : cellsPs (p :: ps) = [.int .i64 p.1, .int .i64 p.2.1, .int .i64 p.2.2.1, .int .i64 p.2.2.2.1, .int .i64 p.2.2.2.2.1, .int .i64 p.2.2.2.2.2] ++ cellsPs ps := by unfold cellsPs; simp
    rw [e]
    cases j with
    | zero => exact ⟨rfl, rfl, rfl, rfl, rfl, rfl⟩
    | succ j =>
      have h := ih j (by simpa using hj)
      rw [List.getElem?_append_right (by simp; omega), List.getElem?_append_right (by simp; omega), List.getElem?_append_right (by simp; omega), List.getElem?_append_right (by simp; omega), List.getElem?_append_right (by simp; omega), List.getElem?_append_right (by simp; omega)]
      simp only [List.length_cons, List.length_nil, List.getD_cons_succ]
      rw [show (j + 1) * 6 - (0 + 1 + 1 + 1 + 1 + 1 + 1) = j * 6 by omega, show (j + 1) * 6 + 1 - (0 + 1 + 1 + 1 + 1 + 1 + 1) = j * 6 + 1 by omega, show (j + 1) * 6 + 2 - (0 + 1 + 1 + 1 + 1 + 1 + 1) = j * 6 + 2 by omega, show (j + 1) * 6 + 3 - (0 + 1 + 1 + 1 + 1 + 1 + 1) = j * 6 + 3 by omega, show (j + 1) * 6 + 4 - (0 + 1 + 1 + 1 + 1 + 1 + 1) = j * 6 + 4 by omega, show (j + 1) * 6 + 5 - (0 + 1 + 1 + 1 + 1 + 1 + 1) = j * 6 + 5 by omega]
      exact h
theorem cellsPs_of {ys : List Value} {ps : List Ps} (hl : ys.length = ps.length * 6) (h : RowPs ys ps ps.length) : ys = cellsPs ps := by
  apply List.ext_getElem?
  intro i
  by_cases hi : i < ps.length * 6
  · have h1 := h (i / 6) (by omega)
    have h2 := cellsPs_at ps (i / 6) (by omega)
    rcases (show i = i / 6 * 6 ∨ i = i / 6 * 6 + 1 ∨ i = i / 6 * 6 + 2 ∨ i = i / 6 * 6 + 3 ∨ i = i / 6 * 6 + 4 ∨ i = i / 6 * 6 + 5 by omega) with e | e | e | e | e | e
    · rw [e, h1.1, h2.1]
    · rw [e, h1.2.1, h2.2.1]
    · rw [e, h1.2.2.1, h2.2.2.1]
    · rw [e, h1.2.2.2.1, h2.2.2.2.1]
    · rw [e, h1.2.2.2.2.1, h2.2.2.2.2.1]
    · rw [e, h1.2.2.2.2.2, h2.2.2.2.2.2]
  · rw [List.getElem?_eq_none (by omega), List.getElem?_eq_none (by rw [cellsPs_length]; omega)]
def AtPs (w : World) (b off : Nat) (ps : List Ps) : Prop := ∀ j, j < ps.length → w.cell? ⟨b, off + j * 6, none⟩ = some (.int .i64 (ps.getD j Ps0).1) ∧ w.cell? ⟨b, off + j * 6 + 1, none⟩ = some (.int .i64 (ps.getD j Ps0).2.1) ∧ w.cell? ⟨b, off + j * 6 + 2, none⟩ = some (.int .i64 (ps.getD j Ps0).2.2.1) ∧ w.cell? ⟨b, off + j * 6 + 3, none⟩ = some (.int .i64 (ps.getD j Ps0).2.2.2.1) ∧ w.cell? ⟨b, off + j * 6 + 4, none⟩ = some (.int .i64 (ps.getD j Ps0).2.2.2.2.1) ∧ w.cell? ⟨b, off + j * 6 + 5, none⟩ = some (.int .i64 (ps.getD j Ps0).2.2.2.2.2)
def InPs (ps : List Ps) : Prop := ∀ j, (-9223372036854775808 ≤ (ps.getD j Ps0).1 ∧ (ps.getD j Ps0).1 ≤ 9223372036854775807) ∧ (-9223372036854775808 ≤ (ps.getD j Ps0).2.1 ∧ (ps.getD j Ps0).2.1 ≤ 9223372036854775807) ∧ (-9223372036854775808 ≤ (ps.getD j Ps0).2.2.1 ∧ (ps.getD j Ps0).2.2.1 ≤ 9223372036854775807) ∧ (-9223372036854775808 ≤ (ps.getD j Ps0).2.2.2.1 ∧ (ps.getD j Ps0).2.2.2.1 ≤ 9223372036854775807) ∧ (-9223372036854775808 ≤ (ps.getD j Ps0).2.2.2.2.1 ∧ (ps.getD j Ps0).2.2.2.2.1 ≤ 9223372036854775807) ∧ (-9223372036854775808 ≤ (ps.getD j Ps0).2.2.2.2.2 ∧ (ps.getD j Ps0).2.2.2.2.2 ≤ 9223372036854775807)
def ArgPs (w : World) (ad : Option Addr) (ps : List Ps) : Prop := ps ≠ [] → ∃ b off, ad = some ⟨b, off, none⟩ ∧ b < w.heap.size ∧ AtPs w b off ps
theorem ArgPs.below {w w' : World} {ad : Option Addr} {ps : List Ps} (h : ArgPs w ad ps) (hb : Below w.heap.size w w') : ArgPs w' ad ps := by
  intro hne
  obtain ⟨b, off, e, hl, hc⟩ := h hne
  exact ⟨b, off, e, Nat.lt_of_lt_of_le hl hb.size, fun j hj => ⟨(hb.cell (by simpa using hl)).trans (hc j hj).1, (hb.cell (by simpa using hl)).trans (hc j hj).2.1, (hb.cell (by simpa using hl)).trans (hc j hj).2.2.1, (hb.cell (by simpa using hl)).trans (hc j hj).2.2.2.1, (hb.cell (by simpa using hl)).trans (hc j hj).2.2.2.2.1, (hb.cell (by simpa using hl)).trans (hc j hj).2.2.2.2.2⟩⟩
def RdPs (w : World) (v : Value) (ps : List Ps) : Prop := ∃ ad cap, v = .slice ad ps.length cap ∧ ArgPs w ad ps
theorem RdPs.below {w w' : World} {v : Value} {ps : List Ps} (h : RdPs w v ps) (hb : Below w.heap.size w w') : RdPs w' v ps := by
  obtain ⟨ad, cap, e, h⟩ := h
  exact ⟨ad, cap, e, h.below hb⟩
abbrev OwnPs (w : World) (a b : Nat) (v : Value) (ps : List Ps) : Prop := Own 73 6 w a b v ps.length (cellsPs ps)
theorem OwnPs.rd {w : World} {a b : Nat} {v : Value} {ps : List Ps} (h : OwnPs w a b v ps) : RdPs w v ps := by
  rcases h.1.2 with ⟨rfl, hn⟩ | ⟨g, cap, cur, rfl, h1, h2, h3⟩
  · refine ⟨none, 0, by rw [hn], fun hne => absurd (List.length_eq_zero_iff.1 hn) hne⟩
  · refine ⟨some ⟨g, 0, none⟩, cap, rfl, fun _ => ⟨g, 0, rfl, (h.1.lt g rfl).2, fun j hj => ?_⟩⟩
    have := cellsPs_at ps j hj
    rw [Nat.zero_add, h.1.cellAt _ (by omega), h.1.cellAt _ (by omega), h.1.cellAt _ (by omega), h.1.cellAt _ (by omega), h.1.cellAt _ (by omega), h.1.cellAt _ (by omega)]
    exact this
def marksPs (k n : Nat) : List Ps := (List.range n).map fun j => (((k + 6 * j : Nat) : Int), ((k + 6 * j + 1 : Nat) : Int), ((k + 6 * j + 2 : Nat) : Int), ((k + 6 * j + 3 : Nat) : Int), ((k + 6 * j + 4 : Nat) : Int), ((k + 6 * j + 5 : Nat) : Int))
@[simp] theorem marksPs_length (k n : Nat) : (marksPs k n).length = n := by simp [marksPs]
theorem marksPs_at (k n j : Nat) (h : j < n) : (marksPs k n).getD j Ps0 = (((k + 6 * j : Nat) : Int), ((k + 6 * j + 1 : Nat) : Int), ((k + 6 * j + 2 : Nat) : Int), ((k + 6 * j + 3 : Nat) : Int), ((k + 6 * j + 4 : Nat) : Int), ((k + 6 * j + 5 : Nat) : Int)) := by
  unfold marksPs; rw [List.getD_eq_getElem?_getD, List.getElem?_map, List.getElem?_range h]; rfl
theorem infoPs : (Tryd.prog.info? 73).map (fun i => (i.zero, i.size, i.bytes)) = some (some (.agg #[.int .i64 0, .int .i64 0, .int .i64 0, .int .i64 0, .int .i64 0, .int .i64 0]), 6, 48) := by kernel_rfl
theorem own_nilPs (w : World) (a b : Nat) : OwnPs w a b (.slice none 0 0) [] := ⟨World.ownsRow_nil _ _ _ _, fun k hk => by simp [Value.ownBlock] at hk⟩

end Go.Proofs.YthkppcncajmniaaDoor

/- Plain: the passes of a picture of so many columns and rows. -/
namespace Go.Proofs.YthkppcncajmniaaDoor
open Go.RowKit

def cntF (n from_ step : Int) : Int := if n ≤ from_ then 0 else (n - from_ + step - 1) / step
def passT : List (Int × Int × Int × Int) := [(0, 0, 8, 8), (4, 0, 8, 8), (0, 4, 4, 8), (2, 0, 4, 4), (0, 2, 2, 4), (1, 0, 2, 2), (0, 1, 1, 2)]
def passAt (k : Nat) : Int × Int × Int × Int := passT.getD k (0, 0, 0, 0)
theorem passAt_bd (k : Nat) (h : k < 7) : (0 ≤ (passAt k).1 ∧ (passAt k).1 ≤ 4) ∧ (0 ≤ (passAt k).2.1 ∧ (passAt k).2.1 ≤ 4) ∧ (1 ≤ (passAt k).2.2.1 ∧ (passAt k).2.2.1 ≤ 8) ∧ (1 ≤ (passAt k).2.2.2 ∧ (passAt k).2.2.2 ≤ 8) ∧ (passAt k).1 < (passAt k).2.2.1 ∧ (passAt k).2.1 < (passAt k).2.2.2 := by
  rcases (show k = 0 ∨ k = 1 ∨ k = 2 ∨ k = 3 ∨ k = 4 ∨ k = 5 ∨ k = 6 by omega) with e | e | e | e | e | e | e <;> subst e <;> decide
def passOne (w h : Int) (k : Nat) : Ps := ((passAt k).1, (passAt k).2.1, (passAt k).2.2.1, (passAt k).2.2.2, cntF w (passAt k).1 (passAt k).2.2.1, cntF h (passAt k).2.1 (passAt k).2.2.2)
def passAdd (w h : Int) (k : Nat) : List Ps := if 0 < cntF w (passAt k).1 (passAt k).2.2.1 ∧ 0 < cntF h (passAt k).2.1 (passAt k).2.2.2 then [passOne w h k] else []
def passTo (w h : Int) : Nat → List Ps
  | 0 => []
  | k + 1 => passTo w h k ++ passAdd w h k
theorem passTo_len (w h : Int) (k : Nat) : (passTo w h k).length ≤ k := by
  induction k with
  | zero => simp [passTo]
  | succ k ih => rw [passTo, List.length_append]; unfold passAdd; split <;> simp <;> omega
theorem cntF_bd {n f s : Int} (hn : n ≤ 1048576) (hf : 0 ≤ f) (hs : 1 ≤ s ∧ s ≤ 8) : 0 ≤ cntF n f s ∧ cntF n f s ≤ 1048600 := by
  unfold cntF; split
  · omega
  · rename_i h
    obtain ⟨S, rfl⟩ := Int.eq_ofNat_of_zero_le (show 0 ≤ s by omega)
    rcases (show S = 1 ∨ S = 2 ∨ S = 3 ∨ S = 4 ∨ S = 5 ∨ S = 6 ∨ S = 7 ∨ S = 8 by omega) with e | e | e | e | e | e | e | e <;> subst e <;> omega
/-- As the program counts. -/
theorem cntF_steps {n f s : Int} (hn : 1 ≤ n) (hf : 0 ≤ f ∧ f < s) (hs : 1 ≤ s ∧ s ≤ 8) : (n - f + s - 1) / s = cntF n f s := by
  unfold cntF; split
  · obtain ⟨S, rfl⟩ := Int.eq_ofNat_of_zero_le (show 0 ≤ s by omega)
    rcases (show S = 1 ∨ S = 2 ∨ S = 3 ∨ S = 4 ∨ S = 5 ∨ S = 6 ∨ S = 7 ∨ S = 8 by omega) with e | e | e | e | e | e | e | e <;> subst e <;> omega
  · rfl
def passesF (w h : Int) : List Ps := if (1 ≤ w ∧ w ≤ 512) ∧ 1 ≤ h ∧ h ≤ 512 then passTo w h 7 else []
theorem passesF_yes {w h : Int} (a : 1 ≤ w ∧ w ≤ 512) (b : 1 ≤ h ∧ h ≤ 512) : passesF w h = passTo w h 7 := if_pos ⟨a, b⟩
theorem passesF_no {w h : Int} (a : ¬ ((1 ≤ w ∧ w ≤ 512) ∧ 1 ≤ h ∧ h ≤ 512)) : passesF w h = [] := if_neg a
theorem passesF_len (w h : Int) : (passesF w h).length ≤ 1048576 := by
  unfold passesF; split
  · have := passTo_len w h 7; omega
  · simp
theorem six_new (w : World) (x0 x1 x2 x3 x4 x5 : Value) (t : TypeId) : ∀ j v, [x0, x1, x2, x3, x4, x5][j]? = some v → (w.alloc (.cells #[x0, x1, x2, x3, x4, x5] t)).cell? ((⟨w.heap.size, 0, none⟩ : Addr).add j) = some v := by
  intro j v hj
  match j, hj with
  | 0, hj => simp at hj; subst hj; simp [Addr.add]
  | 1, hj => simp at hj; subst hj; simp [Addr.add]
  | 2, hj => simp at hj; subst hj; simp [Addr.add]
  | 3, hj => simp at hj; subst hj; simp [Addr.add]
  | 4, hj => simp at hj; subst hj; simp [Addr.add]
  | 5, hj => simp at hj; subst hj; simp [Addr.add]
theorem six_one (x0 x1 x2 x3 x4 x5 : Int) : ∀ u ∈ [Value.int .i64 x0, .int .i64 x1, .int .i64 x2, .int .i64 x3, .int .i64 x4, .int .i64 x5], u.oneCell' = true := by
  intro u hu
  simp at hu
  rcases hu with h | h | h | h | h | h <;> subst h <;> rfl
end Go.Proofs.YthkppcncajmniaaDoor

/- Chunks, plainly: a number in four bytes, what a name is, the bytes of a chunk; no program is named here. -/
namespace Go.Proofs.YthkppcncajmniaaDoor
open Go.RowKit

def four (n : Nat) : List Nat := [n / 16777216 % 256, n / 65536 % 256, n / 256 % 256, n % 256]
theorem byte_step (v : Nat) (zs : List Nat) (d : Nat) (hd : d % 8 = 0) (h32 : d + 8 ≤ 32) (hz : (ft true v 32 [] 0 d) = zs) (hl : zs.length = d / 8) :
    ft true v 32 [] 0 (d + 8) = zs ++ [v / 2 ^ (24 - d) % 256] := by
  have h := ft_chunk (h := true) (v := v) (n := 32) (zs := []) (L := 0) (inv_nil true) d 7 (by omega) (by omega)
  rw [hz] at h
  have ho : opn zs (0 + d) = zs ++ [0] := by unfold opn; rw [if_pos (by omega)]
  rw [ho] at h
  have hi : (0 + d) / 8 = zs.length := by omega
  rw [hi] at h
  rw [h, List.set_append, if_neg (by omega)]
  have e0 : (zs ++ [0]).getD zs.length 0 = 0 := getD_snoc_last zs 0
  rw [e0]
  have e1 : (0 + d) % 8 = 0 := by omega
  rw [e1]
  simp [chunk, cex, show 32 - d - 8 = 24 - d by omega]
theorem packF_four (n : Nat) : packF true [(32, (n : Int))] = four n := by
  rw [packF_good _ _ (by simp) (by intro j hj; simp at hj; subst hj; unfold okF; simp)]
  have hp : (packTo true [(32, (n : Int))] [(32, (n : Int))].length).1 = ft true n 32 [] 0 32 := by
    simp [packTo, packStep]
  refine hp.trans ?_
  have h1 := byte_step n [] 0 rfl (by omega) rfl rfl
  have h2 := byte_step n _ 8 rfl (by omega) h1 rfl
  have h3 := byte_step n _ 16 rfl (by omega) h2 rfl
  have h4 := byte_step n _ 24 rfl (by omega) h3 rfl
  rw [h4]
  unfold four
  simp
theorem four_length (n : Nat) : (four n).length = 4 := rfl

/-- The bytes of a text. -/
def strB (s : ByteArray) : List Int := s.data.toList.map fun b => (b.toNat : Int)
theorem strB_length (s : ByteArray) : (strB s).length = s.size := by simp [strB]
theorem strB_getD (s : ByteArray) (k : Nat) (h : k < s.size) : (strB s).getD k 0 = ((s[k]'h).toNat : Int) := by
  unfold strB
  rw [List.getD_eq_getElem?_getD, List.getElem?_map, List.getElem?_eq_getElem (by simpa using h)]
  rfl
def letterI (x : Int) : Bool := (decide (97 ≤ x) && decide (x ≤ 122)) || (decide (65 ≤ x) && decide (x ≤ 90))
def nameOk (s : ByteArray) : Prop := s.size = 4 ∧ ∀ k, k < s.size → letterI ((strB s).getD k 0) = true
noncomputable def nameB (s : ByteArray) : Bool := open Classical in decide (nameOk s)
theorem nameB_yes {s : ByteArray} (h : nameOk s) : nameB s = true := by unfold nameB; simpa using h
theorem nameB_no {s : ByteArray} (h : ¬ nameOk s) : nameB s = false := by unfold nameB; simpa using h
theorem crcF_nat (zs : List Int) : ∃ n : Nat, crcF zs = (n : Int) ∧ n < 4294967296 := by
  have h := crcTo_lt zs zs.length
  refine ⟨4294967295 - crcTo zs zs.length, ?_, by omega⟩
  unfold crcF; omega
noncomputable def chunkF (s : ByteArray) (zs : List Int) : List Int :=
  open Classical in if nameOk s ∧ zs.length ≤ 60000 then (four zs.length).map (fun n : Nat => (n : Int)) ++ (strB s ++ zs) ++ (four (crcF (strB s ++ zs)).toNat).map (fun n : Nat => (n : Int)) else []
theorem chunkF_len (s : ByteArray) (zs : List Int) : (chunkF s zs).length ≤ 1048576 := by
  unfold chunkF; split
  · rename_i h
    simp [strB_length, four_length]; have := h.1.1; omega
  · simp
theorem chunkF_yes {s : ByteArray} {zs : List Int} (h1 : nameOk s) (h2 : zs.length ≤ 60000) (n : Nat) (hn : crcF (strB s ++ zs) = (n : Int)) :
    chunkF s zs = (four zs.length).map (fun n : Nat => (n : Int)) ++ (strB s ++ zs) ++ (four n).map (fun n : Nat => (n : Int)) := by
  unfold chunkF; rw [if_pos ⟨h1, h2⟩, hn, Int.toNat_natCast]
theorem chunkF_name {s : ByteArray} {zs : List Int} (h1 : ¬ nameOk s) : chunkF s zs = [] := by unfold chunkF; rw [if_neg (fun h => h1 h.1)]
theorem chunkF_long {s : ByteArray} {zs : List Int} (h2 : ¬ zs.length ≤ 60000) : chunkF s zs = [] := by unfold chunkF; rw [if_neg (fun h => h2 h.2)]
end Go.Proofs.YthkppcncajmniaaDoor

/- Cells of a block that may be written, known one by one. -/
namespace Go.Proofs.YthkppcncajmniaaDoor
open Go.RowKit

def HeldF (w : World) (g : Nat) (cs : List Value) : Prop := Held w g cs ∧ ∀ j, w.frozen? ⟨g, j, none⟩ = false
theorem heldF_new (w : World) (cs : List Value) (t : TypeId) : HeldF (w.alloc (.cells cs.toArray t)) w.heap.size cs :=
  ⟨held_new w cs t, fun _ => World.frozen?_alloc_at _ _ _ _ rfl⟩
theorem HeldF.upd {w w' : World} {g c e : Nat} {cs : List Value} (h : HeldF w g cs) (u : Upd c e w w') (hd : g + 1 ≤ c ∨ e ≤ g) : HeldF w' g cs :=
  ⟨h.1.upd u hd, fun j => (World.frozen?_of_block (a := ⟨g, j, none⟩) (u.block g h.1.1 (by omega))).trans (h.2 j)⟩
theorem HeldF.keep {w w' : World} {g : Nat} {cs : List Value} (h : HeldF w g cs) (u : Upd 0 0 w w') : HeldF w' g cs := h.upd u (.inr (Nat.zero_le _))
theorem HeldF.other {w : World} {g : Nat} {cs : List Value} (h : HeldF w g cs) {g' : Nat} (hne : g' ≠ g) (o : Nat) (u : Value) : HeldF (w.setCell ⟨g', o, none⟩ u) g cs := by
  refine ⟨⟨by simpa using h.1.1, fun j v hj => ?_⟩, fun j => ?_⟩
  · rw [World.cell?_setCell_other _ _ _ _ (by simp_all; try omega)]; exact h.1.2 j v hj
  · rw [World.frozen?_setCell]; exact h.2 j
theorem HeldF.set {w : World} {g : Nat} {cs : List Value} (h : HeldF w g cs) (o : Nat) (u : Value) (ho : o < cs.length) : HeldF (w.setCell ⟨g, o, none⟩ u) g (cs.set o u) := by
  refine ⟨⟨by simpa using h.1.1, fun j v hj => ?_⟩, fun j => ?_⟩
  · by_cases e : o = j
    · subst e
      rw [List.getElem?_set_self ho] at hj
      cases hj
      exact World.cell?_setCell_same _ _ _ (h.1.2 o _ (List.getElem?_eq_getElem ho))
    · rw [List.getElem?_set_ne e] at hj
      rw [World.cell?_setCell_other _ _ _ _ (by simp_all; try omega)]; exact h.1.2 j v hj
  · rw [World.frozen?_setCell]; exact h.2 j
theorem Own.set' {e : TypeId} {s : Nat} {w : World} {a b : Nat} {v : Value} {n : Nat} {xs : List Value} (h : Own e s w a b v n xs) {c : Nat} (hc : c < a) (o : Nat) (u : Value) : Own e s (w.setCell ⟨c, o, none⟩ u) a b v n xs :=
  ⟨ownsRow_setCell_below h.1 hc u, h.2⟩
end Go.Proofs.YthkppcncajmniaaDoor

/- Lists of Notes: 2 numbers each; the walks of the laws' own helpers on them. -/
namespace Go.Proofs.YthkppcncajmniaaDoor
open Go.RowKit

abbrev Nt := ByteArray × ByteArray
abbrev Nt0 : Nt := (⟨#[]⟩, ⟨#[]⟩)
def cellsNt (ps : List Nt) : List Value := ps.flatMap fun p => [.string p.1, .string p.2]
theorem cellsNt_length (ps : List Nt) : (cellsNt ps).length = ps.length * 2 := by
  induction ps with
  | nil => rfl
  | cons p ps ih => unfold cellsNt at ih ⊢; rw [List.flatMap_cons, List.length_append, ih]; simp; omega
theorem cellsNt_snoc (ps : List Nt) (p : Nt) : cellsNt (ps ++ [p]) = cellsNt ps ++ [.string p.1, .string p.2] := by unfold cellsNt; simp
def RowNt (ys : List Value) (ps : List Nt) (k : Nat) : Prop := ∀ j, j < k → ys[j * 2]? = some (.string (ps.getD j Nt0).1) ∧ ys[j * 2 + 1]? = some (.string (ps.getD j Nt0).2)
theorem cellsNt_at (ps : List Nt) : RowNt (cellsNt ps) ps ps.length := by
  induction ps with
  | nil => intro j hj; simp at hj
  | cons p ps ih =>
    intro j hj
    have e : cellsNt (p :: ps) = [.string p.1, .string p.2] ++ cellsNt ps := by unfold cellsNt; simp
    rw [e]
    cases j with
    | zero => exact ⟨rfl, rfl⟩
    | succ j =>
      have h := ih j (by simpa using hj)
      rw [List.getElem?_append_right (by simp; omega), List.getElem?_append_right (by simp; omega)]
      simp only [List.length_cons, List.length_nil, List.getD_cons_succ]
      rw [show (j + 1) * 2 - (0 + 1 + 1) = j * 2 by omega, show (j + 1) * 2 + 1 - (0 + 1 + 1) = j * 2 + 1 by omega]
      exact h
theorem cellsNt_of {ys : List Value} {ps : List Nt} (hl : ys.length = ps.length * 2) (h : RowNt ys ps ps.length) : ys = cellsNt ps := by
  apply List.ext_getElem?
  intro i
  by_cases hi : i < ps.length * 2
  · have h1 := h (i / 2) (by omega)
    have h2 := cellsNt_at ps (i / 2) (by omega)
    rcases (show i = i / 2 * 2 ∨ i = i / 2 * 2 + 1 by omega) with e | e
    · rw [e, h1.1, h2.1]
    · rw [e, h1.2, h2.2]
  · rw [List.getElem?_eq_none (by omega), List.getElem?_eq_none (by rw [cellsNt_length]; omega)]
def AtNt (w : World) (b off : Nat) (ps : List Nt) : Prop := ∀ j, j < ps.length → w.cell? ⟨b, off + j * 2, none⟩ = some (.string (ps.getD j Nt0).1) ∧ w.cell? ⟨b, off + j * 2 + 1, none⟩ = some (.string (ps.getD j Nt0).2)
def InNt (ps : List Nt) : Prop := ∀ j, (ps.getD j Nt0).1.size ≤ 9223372036854775807 ∧ (ps.getD j Nt0).2.size ≤ 9223372036854775807
def ArgNt (w : World) (ad : Option Addr) (ps : List Nt) : Prop := ps ≠ [] → ∃ b off, ad = some ⟨b, off, none⟩ ∧ b < w.heap.size ∧ AtNt w b off ps
theorem ArgNt.below {w w' : World} {ad : Option Addr} {ps : List Nt} (h : ArgNt w ad ps) (hb : Below w.heap.size w w') : ArgNt w' ad ps := by
  intro hne
  obtain ⟨b, off, e, hl, hc⟩ := h hne
  exact ⟨b, off, e, Nat.lt_of_lt_of_le hl hb.size, fun j hj => ⟨(hb.cell (by simpa using hl)).trans (hc j hj).1, (hb.cell (by simpa using hl)).trans (hc j hj).2⟩⟩
def RdNt (w : World) (v : Value) (ps : List Nt) : Prop := ∃ ad cap, v = .slice ad ps.length cap ∧ ArgNt w ad ps
theorem RdNt.below {w w' : World} {v : Value} {ps : List Nt} (h : RdNt w v ps) (hb : Below w.heap.size w w') : RdNt w' v ps := by
  obtain ⟨ad, cap, e, h⟩ := h
  exact ⟨ad, cap, e, h.below hb⟩
abbrev OwnNt (w : World) (a b : Nat) (v : Value) (ps : List Nt) : Prop := Own 47 2 w a b v ps.length (cellsNt ps)
theorem OwnNt.rd {w : World} {a b : Nat} {v : Value} {ps : List Nt} (h : OwnNt w a b v ps) : RdNt w v ps := by
  rcases h.1.2 with ⟨rfl, hn⟩ | ⟨g, cap, cur, rfl, h1, h2, h3⟩
  · refine ⟨none, 0, by rw [hn], fun hne => absurd (List.length_eq_zero_iff.1 hn) hne⟩
  · refine ⟨some ⟨g, 0, none⟩, cap, rfl, fun _ => ⟨g, 0, rfl, (h.1.lt g rfl).2, fun j hj => ?_⟩⟩
    have := cellsNt_at ps j hj
    rw [Nat.zero_add, h.1.cellAt _ (by omega), h.1.cellAt _ (by omega)]
    exact this
theorem infoNt : (Tryd.prog.info? 47).map (fun i => (i.zero, i.size, i.bytes)) = some (some (.agg #[.string ⟨#[]⟩, .string ⟨#[]⟩]), 2, 32) := by kernel_rfl
theorem own_nilNt (w : World) (a b : Nat) : OwnNt w a b (.slice none 0 0) [] := ⟨World.ownsRow_nil _ _ _ _, fun k hk => by simp [Value.ownBlock] at hk⟩

set_option maxHeartbeats 1000000 in
theorem toNote_any (x0 : ByteArray) (x1 : ByteArray) (w : World) :
    Calls Tryd.prog 41 #[.agg #[.string x0, .string x1]] w fun e w' => e = .returned (.agg #[.string x0, .string x1]) ∧ Below w.heap.size w w' := by
  go_enter Tryd.func41, Tryd.ntmps41
  go_wp2
  refine bodyPost_ret (v := .agg #[.string x0, .string x1]) (by simp [results, Tryd.results41, go_sem]) rfl ⟨rfl, ?_⟩
  repeat (first | exact Below.refl _ _ | refine Below.setCell ?_ (by simp) _ | refine Below.alloc ?_ (by first | exact Nat.le_refl _ | (simp; done) | (simp; omega)) _)

set_option maxHeartbeats 1000000 in
theorem eqNote_eq (x0 : ByteArray) (x1 : ByteArray) (w : World) :
    Calls Tryd.prog 52 #[.agg #[.string x0, .string x1], .agg #[.string x0, .string x1]] w fun e w' => e = .returned (.bool true) ∧ Below w.heap.size w w' := by
  go_enter Tryd.func52, Tryd.ntmps52
  go_wp2
  go_ret
  refine ⟨rfl, ?_⟩
  repeat (first | exact Below.refl _ _ | refine Below.setCell ?_ (by simp) _ | refine Below.alloc ?_ (by first | exact Nat.le_refl _ | (simp; done) | (simp; omega)) _)


set_option maxHeartbeats 4000000 in
theorem toNoteS_own (ad : Option Addr) (cap : Nat) (ps : List Nt) (w : World) (hn : ps.length ≤ 1048576) (hA : ArgNt w ad ps) :
    Calls Tryd.prog 25 #[.slice ad ps.length cap] w fun e w' =>
      ∃ v, e = .returned v ∧ OwnNt w' w.heap.size w'.heap.size v ps ∧ Upd 0 0 w w' := by
  obtain ⟨i0, hi, hz0, hz1, hz2⟩ := info_parts infoNt
  replace hA := hide hA
  go_enter Tryd.func25, Tryd.ntmps25
  go_wp2_with (at_make; refine wpList_make_full _ rfl _ _ 31 rfl w.heap.size 47 i0 (.agg #[.string ⟨#[]⟩, .string ⟨#[]⟩]) 2 Tryd.underlying31 hi hz0 hz1 .i64 .i64 _ _ ps.length rfl rfl (by omega) (by omega) (by rw [hz2]; omega) (by unfold maxLen; omega) (Nat.le_refl _) ?_; intro w1 hown hgrow)
  have hbel := (Below.refl w.heap.size w).grown hgrow (Nat.le_refl _) (by simp)
  generalize (madeCells (Value.cells (.agg #[.string ⟨#[]⟩, .string ⟨#[]⟩])) (ps.length * 2)).toList = ys0 at hown
  clear hgrow
  go_loopw [4] (fun i wr => ∃ k : Nat, ∃ ys, k ≤ ps.length ∧ i = .int .i64 k ∧ wr.ownsRow w.heap.size 47 2 (.slice (some ⟨w.heap.size, 0, none⟩) ps.length ps.length) ps.length ys ∧ Hid (RowNt ys ps k) ∧ Below w.heap.size w wr) (fun i _ => ps.length - (intOf i).toNat)
  case atStart => exact ⟨0, ys0, Nat.zero_le _, rfl, hown, fun j hj => by omega, hbel⟩
  case round =>
    clear hown hbel
    obtain ⟨k, ys, hk, rfl, hown, hrow, hbel⟩ := hrel
    by_cases hlt : k < ps.length
    · obtain ⟨b, off, rfl, hbl, hc⟩ := (unhide hA) (ne_of_lt_length hlt)
      have hl : ys.length = ps.length * 2 := hown.1
      have d0 := (hbel.cell (p := ⟨b, off + k * 2, none⟩) (by simpa using hbl)).trans (hc k hlt).1
      have d1 := (hbel.cell (p := ⟨b, off + k * 2 + 1, none⟩) (by simpa using hbl)).trans (hc k hlt).2
      generalize hf : ps.getD k Nt0 = f at d0 d1
      replace hf := hide hf
      obtain ⟨x0, x1⟩ := f
      simp only at d0 d1
      replace hc := hide hc
      go_wp2_with fail
      refine (toNote_any x0 x1 wr).mono ?_
      rintro e w2 ⟨rfl, hb2⟩
      have hown2 := ownsP_below hown hb2
      have hbel2 := hbel.trans (hb2.mono hbel.size)
      clear hown hbel hb2 d0 d1 hc
      have e0 : ∃ a, w2.cell? ⟨w.heap.size, k * 2, none⟩ = some a := by rw [hown2.cellAt _ (by omega)]; exact ⟨_, List.getElem?_eq_getElem (by omega)⟩
      have e1 : ∃ a, w2.cell? ⟨w.heap.size, k * 2 + 1, none⟩ = some a := by rw [hown2.cellAt _ (by omega)]; exact ⟨_, List.getElem?_eq_getElem (by omega)⟩
      obtain ⟨a0, e0⟩ := e0
      obtain ⟨a1, e1⟩ := e1
      have f0 := hown2.frozenAt (k * 2)
      have f1 := hown2.frozenAt (k * 2 + 1)
      have hst := hide (((hown2.stored (k * 2) (.string x0)).1.stored (k * 2 + 1) (.string x1)).1)
      have hB2 := hide (((hbel2.setCell (p := ⟨w.heap.size, k * 2, none⟩) (Nat.le_refl _) (.string x0)).setCell (p := ⟨w.heap.size, k * 2 + 1, none⟩) (Nat.le_refl _) (.string x1)))
      have hrow2 : Hid (RowNt ((ys.set (k * 2) (.string x0)).set (k * 2 + 1) (.string x1)) ps (k + 1)) := by
        intro j hj
        by_cases e : j = k
        · subst e
          rw [unhide hf]
          refine ⟨?_, ?_⟩
          · rw [List.getElem?_set_ne (by omega), List.getElem?_set_self (by first | omega | (simp; omega))]
          · rw [List.getElem?_set_self (by first | omega | (simp; omega))]
        · have := unhide hrow j (by omega)
          refine ⟨?_, ?_⟩
          · rw [List.getElem?_set_ne (by omega), List.getElem?_set_ne (by omega)]; exact this.1
          · rw [List.getElem?_set_ne (by omega), List.getElem?_set_ne (by omega)]; exact this.2
      clear hown2 hbel2 hrow hf
      go_wp2
      go_roundw
      case rel => exact ⟨k + 1, _, by omega, by go_num, unhide hst, hrow2, unhide hB2⟩
      case measure => simp [intOf]; omega
    · have hkl : k = ps.length := by omega
      subst hkl
      have he := cellsNt_of hown.1 (unhide hrow)
      rw [he] at hown
      replace hown := hide (Own.of hown)
      clear hrow he
      go_wp2
      go_ret
      exact ⟨_, rfl, unhide hown, Upd.of_below hbel 0 0⟩

set_option maxHeartbeats 8000000 in
theorem eqNoteS_rd (u v : Value) (ps : List Nt) (w : World) (hn : ps.length ≤ 1048576) (hu : RdNt w u ps) (hv : RdNt w v ps) :
    Calls Tryd.prog 31 #[u, v] w fun e w' => e = .returned (.bool true) ∧ Upd 0 0 w w' := by
  obtain ⟨ad, cap, rfl, hA⟩ := hu
  obtain ⟨ad', cap', rfl, hA'⟩ := hv
  replace hA := hide hA
  replace hA' := hide hA'
  go_enter Tryd.func31, Tryd.ntmps31
  go_wp2
  go_loopw [5] (fun i wr => ∃ k : Nat, k ≤ ps.length ∧ i = .int .i64 k ∧ Below w.heap.size w wr) (fun i _ => ps.length - (intOf i).toNat)
  case atStart => exact ⟨0, Nat.zero_le _, rfl, Below.refl _ _⟩
  case round =>
    obtain ⟨k, hk, rfl, hbel⟩ := hrel
    by_cases hlt : k < ps.length
    · obtain ⟨b, off, rfl, hbl, hc⟩ := ((unhide hA).below hbel) (ne_of_lt_length hlt)
      obtain ⟨b', off', rfl, hbl', hc'⟩ := ((unhide hA').below hbel) (ne_of_lt_length hlt)
      obtain ⟨d0, d1⟩ := hc k hlt
      obtain ⟨g0, g1⟩ := hc' k hlt
      clear hc hc' hbl hbl'
      generalize ps.getD k Nt0 = f at d0 d1 g0 g1
      obtain ⟨x0, x1⟩ := f
      simp only at d0 d1 g0 g1
      have hk0 : (0 : Int) ≤ (k : Int) := by omega
      have hk1 : (k : Int) < (ps.length : Int) := by omega
      go_wp2_with fail
      go_region_with (go_at_call 52; refine (eqNote_eq x0 x1 _).mono ?_; rintro e w2 ⟨rfl, hb2⟩)
      all_goals
        have hb3 := hbel.drew.trans (hb2.mono (show w.heap.size ≤ _ from hbel.size))
        clear hb2
        go_wp2
        go_roundw
        case rel => exact ⟨k + 1, by omega, by go_num, hb3⟩
        case measure => simp [intOf]; omega
    · have hkl : k = ps.length := by omega
      subst hkl
      go_wp2
      go_ret
      exact ⟨rfl, Upd.of_below hbel 0 0⟩
end Go.Proofs.YthkppcncajmniaaDoor

/- Notes as arguments and answers; the walks of the laws' own helpers on them. -/
namespace Go.Proofs.YthkppcncajmniaaDoor
open Go.RowKit

abbrev N1 := ByteArray × ByteArray
abbrev N1v (d : N1) : Value := .agg #[.string d.1, .string d.2]
def RdN1 (_w : World) (v : Value) (d : N1) : Prop := v = N1v d
def OwnN1 (_w : World) (_a _b : Nat) (v : Value) (d : N1) : Prop := v = N1v d
theorem OwnN1.rd {w : World} {a b : Nat} {v : Value} {d : N1} (h : OwnN1 w a b v d) : RdN1 w v d := h
theorem RdN1.below {w w' : World} {v : Value} {d : N1} (h : RdN1 w v d) (_hb : Below w.heap.size w w') : RdN1 w' v d := h
theorem OwnN1.upd {w w' : World} {a b c e : Nat} {v : Value} {d : N1} (h : OwnN1 w a b v d) (_u : Upd c e w w') (_hd : b ≤ c ∨ e ≤ a) : OwnN1 w' a b v d := h
theorem OwnN1.keep {w w' : World} {a b : Nat} {v : Value} {d : N1} (h : OwnN1 w a b v d) (_u : Upd 0 0 w w') : OwnN1 w' a b v d := h
theorem OwnN1.form {w : World} {a b : Nat} {v : Value} {d : N1} (h : OwnN1 w a b v d) : v = N1v d := h
def N1Count (_d : N1) : Nat := 0
def N1Marked (_k : Nat) (d : N1) : N1 := d
/-- All numbers fit. -/
def InN1 (d : N1) : Prop := d.1.size ≤ 9223372036854775807 ∧ d.2.size ≤ 9223372036854775807

set_option maxHeartbeats 2000000 in
theorem szNote_any (x0 : ByteArray) (x1 : ByteArray) (left : Int) (w : World) (h0 : 0 ≤ left) (h1 : left ≤ 1099511627776) (hb0 : x0.size ≤ 9223372036854775807) (hb1 : x1.size ≤ 9223372036854775807) :
    Calls Tryd.prog 36 #[.agg #[.string x0, .string x1], .int .i64 left] w fun e w' => e = .returned (.int .i64 (if left < ((x0.size + x1.size : Nat) : Int) then -1 else left - ((x0.size + x1.size : Nat) : Int))) ∧ Upd 0 0 w w' := by
  have hB := hide (Upd.of_below ((Below.refl w.heap.size w).alloc (Nat.le_refl _) (.cells #[.string x0, .string x1] 61)) 0 0)
  by_cases hlt0 : left < ((x0.size : Nat) : Int)
  · rw [if_pos (by omega)]
    have q0 : decide (left - ((x0.size : Nat) : Int) < 0) = true := by simp; omega
    go_enter Tryd.func36, Tryd.ntmps36
    go_wp2
    go_ret
    exact ⟨by first | rfl | exact ret_int (by omega), unhide hB⟩
  · skip
    by_cases hlt1 : left < ((x0.size + x1.size : Nat) : Int)
    · rw [if_pos (by omega)]
      have q0 : decide (left - ((x0.size : Nat) : Int) < 0) = false := by simp; omega
      have q1 : decide (left - ((x0.size : Nat) : Int) - ((x1.size : Nat) : Int) < 0) = true := by simp; omega
      go_enter Tryd.func36, Tryd.ntmps36
      go_wp2
      go_ret
      exact ⟨by first | rfl | exact ret_int (by omega), unhide hB⟩
    · skip
      rw [if_neg (by omega)]
      have q0 : decide (left - ((x0.size : Nat) : Int) < 0) = false := by simp; omega
      have q1 : decide (left - ((x0.size : Nat) : Int) - ((x1.size : Nat) : Int) < 0) = false := by simp; omega
      go_enter Tryd.func36, Tryd.ntmps36
      go_wp2
      go_ret
      exact ⟨by first | rfl | exact ret_int (by omega), unhide hB⟩

set_option maxHeartbeats 2000000 in
set_option maxRecDepth 100000 in
theorem toNote_own (v : Value) (d : N1) (w : World) (hv : RdN1 w v d) :
    Calls Tryd.prog 41 #[v] w fun e w' => ∃ u, e = .returned u ∧ OwnN1 w' w.heap.size w'.heap.size u d ∧ Upd 0 0 w w' := by
  subst hv
  obtain ⟨x0, x1⟩ := d
  simp only [N1v]
  go_enter Tryd.func41, Tryd.ntmps41
  go_wp2
  refine bodyPost_ret (v := .agg #[.string x0, .string x1]) (by simp [results, Tryd.results41, go_sem]) rfl ⟨_, rfl, rfl, Upd.of_below ?_ 0 0⟩
  repeat (first | exact Below.refl _ _ | refine Below.setCell ?_ (by simp) _ | refine Below.alloc ?_ (by first | exact Nat.le_refl _ | (simp; done) | (simp; omega)) _)

set_option maxHeartbeats 2000000 in
set_option maxRecDepth 100000 in
theorem eqNote_rd (u v : Value) (d : N1) (w : World) (hu : RdN1 w u d) (hv : RdN1 w v d) :
    Calls Tryd.prog 52 #[u, v] w fun e w' => e = .returned (.bool true) ∧ Upd 0 0 w w' := by
  subst hu hv
  obtain ⟨x0, x1⟩ := d
  simp only [N1v]
  go_enter Tryd.func52, Tryd.ntmps52
  go_wp2
  go_ret
  refine ⟨rfl, Upd.of_below ?_ 0 0⟩
  repeat (first | exact Below.refl _ _ | refine Below.alloc ?_ (by first | exact Nat.le_refl _ | (simp; done) | (simp; omega)) _)
end Go.Proofs.YthkppcncajmniaaDoor

/- Lists of notes: how much they hold. -/
namespace Go.Proofs.YthkppcncajmniaaDoor
open Go.RowKit

def ntTo (ps : List Nt) (k : Nat) : Nat := ((ps.take k).map fun p => p.1.size + p.2.size).sum
def ntSize (ps : List Nt) : Nat := ps.length + ntTo ps ps.length
theorem ntTo_succ (ps : List Nt) (k : Nat) (h : k < ps.length) : ntTo ps (k + 1) = ntTo ps k + ((ps.getD k Nt0).1.size + (ps.getD k Nt0).2.size) := by
  unfold ntTo; rw [take_snoc_getD ps Nt0 k h]; simp
theorem ntTo_le (ps : List Nt) (k : Nat) : ntTo ps k ≤ ntTo ps ps.length := by
  have e : ntTo ps ps.length = ntTo ps k + ((ps.drop k).map fun p => p.1.size + p.2.size).sum := by
    unfold ntTo; rw [List.take_length, ← List.sum_append, ← List.map_append, List.take_append_drop]
  omega

set_option maxHeartbeats 4000000 in
theorem szNoteS_any (ad : Option Addr) (ps : List Nt) (cap : Nat) (left : Int) (w : World) (h0 : 0 ≤ left) (h1 : left ≤ 1099511627776) (hn : ps.length ≤ 9223372036854775807) (hI : InNt ps) (hA : ArgNt w ad ps) :
    Calls Tryd.prog 18 #[.slice ad ps.length cap, .int .i64 left] w fun e w' => e = .returned (.int .i64 (if left < ((ntSize ps : Nat) : Int) then -1 else left - ((ntSize ps : Nat) : Int))) ∧ Upd 0 0 w w' := by
  by_cases hlt : left < ps.length
  · have hc : left < ((ntSize ps : Nat) : Int) := by unfold ntSize; omega
    rw [if_pos hc]
    clear hA hI
    go_enter Tryd.func18, Tryd.ntmps18
    go_wp2
    go_ret
    exact ⟨rfl, Upd.refl _ _ _⟩
  · replace hA := hide hA
    replace hI := hide hI
    have q : decide (left - (ps.length : Int) < 0) = false := by simp; omega
    obtain ⟨R, hR⟩ : ∃ R : Int, R = if left < ((ntSize ps : Nat) : Int) then -1 else left - ((ntSize ps : Nat) : Int) := ⟨_, rfl⟩
    rw [← hR]
    replace hR := hide hR
    go_enter Tryd.func18, Tryd.ntmps18
    go_wp2
    go_loopw [1, 5] (fun l i wr => ∃ k : Nat, k ≤ ps.length ∧ i = .int .i64 k ∧ l = .int .i64 (left - (ps.length : Int) - ((ntTo ps k : Nat) : Int)) ∧ Hid (0 ≤ left - (ps.length : Int) - ((ntTo ps k : Nat) : Int)) ∧ Below w.heap.size w wr) (fun _ i _ => ps.length - (intOf i).toNat)
    case atStart => exact ⟨0, Nat.zero_le _, rfl, by simp [ntTo], hide (by simp [ntTo]; omega), Below.refl _ _⟩
    case round =>
      obtain ⟨k, hk, rfl, rfl, hp, hbel⟩ := hrel
      by_cases hk' : k < ps.length
      · obtain ⟨b, off, rfl, hbl, hc⟩ := ((unhide hA).below hbel) (ne_of_lt_length hk')
        obtain ⟨d0, d1⟩ := hc k hk'
        obtain ⟨b0, b1⟩ := unhide hI k
        have hs := hide (ntTo_succ ps k hk')
        have hle := hide (ntTo_le ps (k + 1))
        have hp' := unhide hp
        clear hc hbl
        generalize ps.getD k Nt0 = f at d0 d1 b0 b1 hs
        obtain ⟨x0, x1⟩ := f
        simp only at d0 d1 b0 b1
        change Hid (ntTo ps (k + 1) = ntTo ps k + (x0.size + x1.size)) at hs
        obtain ⟨l0, hl0⟩ : ∃ l0 : Int, l0 = left - (ps.length : Int) - ((ntTo ps k : Nat) : Int) := ⟨_, rfl⟩
        rw [← hl0] at hp' ⊢
        have hSz := hide (szNote_any x0 x1 l0 wr hp' (by omega) b0 b1)
        replace hl0 := hide hl0
        replace hp' := hide hp'
        clear hp b0 b1 hlt q h0 h1
        by_cases hx : l0 < ((x0.size + x1.size : Nat) : Int)
        · rw [if_pos hx] at hSz
          go_wp2_with fail
          refine (unhide hSz).mono ?_
          rintro e w2 ⟨rfl, hu⟩
          have hb2 := hide (below_upd hbel hu (Nat.le_refl _) (.inr (Nat.le_refl _)))
          have hE : R = -1 := by
            rw [unhide hR, if_pos]
            have := unhide hl0; have := unhide hs; have := unhide hle
            unfold ntSize; omega
          subst hE
          clear hu hSz
          go_wp2
          go_ret
          exact ⟨rfl, Upd.of_below (unhide hb2) 0 0⟩
        · rw [if_neg hx] at hSz
          have q2 : decide (l0 - ((x0.size + x1.size : Nat) : Int) < 0) = false := by simp; omega
          have hnx : Hid (0 ≤ l0 - ((x0.size + x1.size : Nat) : Int)) := hide (by omega)
          have he : Hid (l0 - ((x0.size + x1.size : Nat) : Int) = left - (ps.length : Int) - ((ntTo ps (k + 1) : Nat) : Int)) := hide (by have := unhide hl0; have := unhide hs; omega)
          obtain ⟨l1, hl1⟩ : ∃ l1 : Int, l1 = l0 - ((x0.size + x1.size : Nat) : Int) := ⟨_, rfl⟩
          rw [← hl1] at hSz q2 hnx he
          clear hl1 hx
          go_wp2_with fail
          refine (unhide hSz).mono ?_
          rintro e w2 ⟨rfl, hu⟩
          have hb2 := hide (below_upd hbel hu (Nat.le_refl _) (.inr (Nat.le_refl _)))
          clear hu hSz
          go_wp2
          go_roundw
          case rel => exact ⟨k + 1, by omega, by go_num, by rw [← unhide he], by rw [← unhide he]; exact hnx, unhide hb2⟩
          case measure => simp [intOf]; omega
      · have hkl : k = ps.length := by omega
        subst hkl
        have hE : R = left - (ps.length : Int) - ((ntTo ps ps.length : Nat) : Int) := by
          rw [unhide hR, if_neg]
          · unfold ntSize; omega
          · have := unhide hp; unfold ntSize; omega
        replace hbel := hide hbel
        rw [← hE] at hp ⊢
        clear hE hR hlt q
        go_wp2
        go_ret
        exact ⟨rfl, Upd.of_below (unhide hbel) 0 0⟩
end Go.Proofs.YthkppcncajmniaaDoor

/- Stills as arguments and answers; the walks of the laws' own helpers on them. -/
namespace Go.Proofs.YthkppcncajmniaaDoor
open Go.RowKit

abbrev St := Im × List Int × List Nt × Bool
abbrev Stv (d : St) (v0 v1 v2 : Value) : Value := .agg #[.int .i64 d.1.1, .int .i64 d.1.2.1, .int .i64 d.1.2.2.1, .int .i64 d.1.2.2.2.1, v0, v1, v2, .bool d.2.2.2]
def RdSt (w : World) (v : Value) (d : St) : Prop := ∃ v0 v1 v2, v = Stv d v0 v1 v2 ∧ RdI w v0 d.1.2.2.2.2 ∧ RdI w v1 d.2.1 ∧ RdNt w v2 d.2.2.1
def OwnSt (w : World) (a b : Nat) (v : Value) (d : St) : Prop := ∃ v0 v1 v2 a1 a2, v = Stv d v0 v1 v2 ∧ (a ≤ a1 ∧ a1 ≤ a2 ∧ a2 ≤ b) ∧ OwnI w a a1 v0 d.1.2.2.2.2 ∧ OwnI w a1 a2 v1 d.2.1 ∧ OwnNt w a2 b v2 d.2.2.1
theorem OwnSt.rd {w : World} {a b : Nat} {v : Value} {d : St} (h : OwnSt w a b v d) : RdSt w v d := by
  obtain ⟨v0, v1, v2, a1, a2, rfl, _, h0, h1, h2⟩ := h
  exact ⟨v0, v1, v2, rfl, h0.rd, h1.rd, h2.rd⟩
theorem RdSt.below {w w' : World} {v : Value} {d : St} (h : RdSt w v d) (hb : Below w.heap.size w w') : RdSt w' v d := by
  obtain ⟨v0, v1, v2, rfl, h0, h1, h2⟩ := h
  exact ⟨v0, v1, v2, rfl, h0.below hb, h1.below hb, h2.below hb⟩
theorem OwnSt.upd {w w' : World} {a b c e : Nat} {v : Value} {d : St} (h : OwnSt w a b v d) (u : Upd c e w w') (hd : b ≤ c ∨ e ≤ a) : OwnSt w' a b v d := by
  obtain ⟨v0, v1, v2, a1, a2, rfl, hch, h0, h1, h2⟩ := h
  exact ⟨v0, v1, v2, a1, a2, rfl, hch, h0.upd u (by omega), h1.upd u (by omega), h2.upd u (by omega)⟩
theorem OwnSt.keep {w w' : World} {a b : Nat} {v : Value} {d : St} (h : OwnSt w a b v d) (u : Upd 0 0 w w') : OwnSt w' a b v d := h.upd u (.inr (Nat.zero_le _))
theorem OwnSt.form {w : World} {a b : Nat} {v : Value} {d : St} (h : OwnSt w a b v d) : ∃ ad0 cap0 ad1 cap1 ad2 cap2, v = Stv d (.slice ad0 d.1.2.2.2.2.length cap0) (.slice ad1 d.2.1.length cap1) (.slice ad2 d.2.2.1.length cap2) := by
  obtain ⟨v0, v1, v2, a1, a2, rfl, _, h0, h1, h2⟩ := h
  obtain ⟨ad0, cap0, rfl, _⟩ := h0.rd
  obtain ⟨ad1, cap1, rfl, _⟩ := h1.rd
  obtain ⟨ad2, cap2, rfl, _⟩ := h2.rd
  exact ⟨ad0, cap0, ad1, cap1, ad2, cap2, rfl⟩
/-- All numbers fit. -/
def InSt (d : St) : Prop := InIm d.1 ∧ InI d.2.1 ∧ InNt d.2.2.1
def StSize (d : St) : Nat := d.1.2.2.2.2.length + d.2.1.length + ntSize d.2.2.1
def StCount (d : St) : Nat := d.1.2.2.2.2.length + d.2.1.length + 2 * d.2.2.1.length

set_option maxHeartbeats 8000000 in
set_option maxRecDepth 100000 in
theorem toStill_own (v : Value) (d : St) (w : World) (hn : StSize d ≤ 1048576) (hv : RdSt w v d) :
    Calls Tryd.prog 7 #[v] w fun e w' => ∃ u, e = .returned u ∧ OwnSt w' w.heap.size w'.heap.size u d ∧ Upd 0 0 w w' := by
  obtain ⟨l0, l1, l2, rfl, hr0, hr1, hr2⟩ := hv
  obtain ⟨⟨x0, x1, x2, x3, zs0⟩, zs1, zs2, x4⟩ := d
  simp only [Stv, StSize] at hn ⊢
  have hn0 : zs0.length ≤ 1048576 := by omega
  have hn1 : zs1.length ≤ 1048576 := by omega
  have hn2 : zs2.length ≤ 1048576 := by unfold ntSize at hn; omega
  have hB0 := (((Below.refl w.heap.size w).alloc (Nat.le_refl _) (.cells #[.int .i64 x0, .int .i64 x1, .int .i64 x2, .int .i64 x3, l0, l1, l2, .bool x4] 27)).alloc (by simp) (.cells #[.int .i64 0, .int .i64 0, .int .i64 0, .int .i64 0, .slice none 0 0, .slice none 0 0, .slice none 0 0, .bool false] 33)).alloc (by simp; omega) (.cells #[.int .i64 0, .int .i64 0, .int .i64 0, .int .i64 0, .slice none 0 0, .slice none 0 0, .slice none 0 0, .bool false] 33)
  have hbx := ((heldF_new w [.int .i64 x0, .int .i64 x1, .int .i64 x2, .int .i64 x3, l0, l1, l2, .bool x4] 27).keep (Upd.of_below ((Below.refl _ _).alloc (Nat.le_refl _) (.cells #[.int .i64 0, .int .i64 0, .int .i64 0, .int .i64 0, .slice none 0 0, .slice none 0 0, .slice none 0 0, .bool false] 33)) 0 0)).keep (Upd.of_below ((Below.refl _ _).alloc (Nat.le_refl _) (.cells #[.int .i64 0, .int .i64 0, .int .i64 0, .int .i64 0, .slice none 0 0, .slice none 0 0, .slice none 0 0, .bool false] 33)) 0 0)
  have hrs := (heldF_new (w.alloc (.cells #[.int .i64 x0, .int .i64 x1, .int .i64 x2, .int .i64 x3, l0, l1, l2, .bool x4] 27)) [.int .i64 0, .int .i64 0, .int .i64 0, .int .i64 0, .slice none 0 0, .slice none 0 0, .slice none 0 0, .bool false] 33).keep (Upd.of_below ((Below.refl _ _).alloc (Nat.le_refl _) (.cells #[.int .i64 0, .int .i64 0, .int .i64 0, .int .i64 0, .slice none 0 0, .slice none 0 0, .slice none 0 0, .bool false] 33)) 0 0)
  have hot := heldF_new ((w.alloc (.cells #[.int .i64 x0, .int .i64 x1, .int .i64 x2, .int .i64 x3, l0, l1, l2, .bool x4] 27)).alloc (.cells #[.int .i64 0, .int .i64 0, .int .i64 0, .int .i64 0, .slice none 0 0, .slice none 0 0, .slice none 0 0, .bool false] 33)) [.int .i64 0, .int .i64 0, .int .i64 0, .int .i64 0, .slice none 0 0, .slice none 0 0, .slice none 0 0, .bool false] 33
  have hsz : (((w.alloc (.cells #[.int .i64 x0, .int .i64 x1, .int .i64 x2, .int .i64 x3, l0, l1, l2, .bool x4] 27)).alloc (.cells #[.int .i64 0, .int .i64 0, .int .i64 0, .int .i64 0, .slice none 0 0, .slice none 0 0, .slice none 0 0, .bool false] 33)).alloc (.cells #[.int .i64 0, .int .i64 0, .int .i64 0, .int .i64 0, .slice none 0 0, .slice none 0 0, .slice none 0 0, .bool false] 33)).heap.size = w.heap.size + 3 := by simp
  have e1 : (w.alloc (.cells #[.int .i64 x0, .int .i64 x1, .int .i64 x2, .int .i64 x3, l0, l1, l2, .bool x4] 27)).heap.size = w.heap.size + 1 := by simp
  have e2 : ((w.alloc (.cells #[.int .i64 x0, .int .i64 x1, .int .i64 x2, .int .i64 x3, l0, l1, l2, .bool x4] 27)).alloc (.cells #[.int .i64 0, .int .i64 0, .int .i64 0, .int .i64 0, .slice none 0 0, .slice none 0 0, .slice none 0 0, .bool false] 33)).heap.size = w.heap.size + 2 := by simp
  rw [e1] at hrs
  rw [e2] at hot
  clear e1 e2
  replace hr0 := hide hr0
  replace hr1 := hide hr1
  replace hr2 := hide hr2
  go_enter Tryd.func7, Tryd.ntmps7
  go_wp2_with fail
  generalize (((w.alloc (.cells #[.int .i64 x0, .int .i64 x1, .int .i64 x2, .int .i64 x3, l0, l1, l2, .bool x4] 27)).alloc (.cells #[.int .i64 0, .int .i64 0, .int .i64 0, .int .i64 0, .slice none 0 0, .slice none 0 0, .slice none 0 0, .bool false] 33)).alloc (.cells #[.int .i64 0, .int .i64 0, .int .i64 0, .int .i64 0, .slice none 0 0, .slice none 0 0, .slice none 0 0, .bool false] 33)) = w0 at hB0 hbx hrs hot hsz ⊢
  have hB := hide hB0
  replace hbx := hide hbx
  replace hrs := hide hrs
  replace hot := hide hot
  have hs0 : w.heap.size + 3 ≤ w0.heap.size := by omega
  clear hsz hB0
  refine (toImage_own _ (x0, x1, x2, x3, zs0) w0 hn0 ⟨l0, rfl, (unhide hr0).below (unhide hB)⟩).mono ?_
  rintro e w1 ⟨u0, rfl, ho0, hu⟩
  obtain ⟨s0, rfl, ho0_0⟩ := ho0
  simp only [imv, ims] at ho0_0 ⊢
  obtain ⟨as0, cs0, rfl, _⟩ := ho0_0.rd
  replace ho0_0 := hide ho0_0
  replace hot := hide ((unhide hot).keep hu)
  replace hbx := hide ((unhide hbx).keep hu)
  replace hrs := hide ((unhide hrs).keep hu)
  replace hB := hide (below_upd (unhide hB) hu (Nat.le_refl _) (.inr (Nat.le_refl _)))
  have hs1 : w0.heap.size ≤ w1.heap.size := hu.size
  clear hu
  have cb0 := (unhide hbx).1.2 0 _ rfl
  have cb1 := (unhide hbx).1.2 1 _ rfl
  have cb2 := (unhide hbx).1.2 2 _ rfl
  have cb3 := (unhide hbx).1.2 3 _ rfl
  have cb4 := (unhide hbx).1.2 4 _ rfl
  have cb5 := (unhide hbx).1.2 5 _ rfl
  have cb6 := (unhide hbx).1.2 6 _ rfl
  have cb7 := (unhide hbx).1.2 7 _ rfl
  have cbl := (unhide hbx).1.1
  have co0 := (unhide hot).1.2 0 _ rfl
  have co1 := (unhide hot).1.2 1 _ rfl
  have co2 := (unhide hot).1.2 2 _ rfl
  have co3 := (unhide hot).1.2 3 _ rfl
  have co4 := (unhide hot).1.2 4 _ rfl
  have co5 := (unhide hot).1.2 5 _ rfl
  have co6 := (unhide hot).1.2 6 _ rfl
  have co7 := (unhide hot).1.2 7 _ rfl
  have col := (unhide hot).1.1
  have coz0 := (unhide hot).2 0
  have coz1 := (unhide hot).2 1
  have coz2 := (unhide hot).2 2
  have coz3 := (unhide hot).2 3
  have coz4 := (unhide hot).2 4
  have coz5 := (unhide hot).2 5
  have coz6 := (unhide hot).2 6
  have coz7 := (unhide hot).2 7
  go_wp2_with fail
  clear cb0 cb1 cb2 cb3 cb4 cb5 cb6 cb7 cbl co0 co1 co2 co3 co4 co5 co6 co7 col coz0 coz1 coz2 coz3 coz4 coz5 coz6 coz7
  replace hot := hide ((((((unhide hot).set 0 (.int .i64 x0) (by simp)).set 1 (.int .i64 x1) (by simp)).set 2 (.int .i64 x2) (by simp)).set 3 (.int .i64 x3) (by simp)).set 4 (.slice as0 zs0.length cs0) (by simp))
  replace hbx := hide ((((((unhide hbx).other (g' := w.heap.size + 2) (by omega) 0 (.int .i64 x0)).other (g' := w.heap.size + 2) (by omega) 1 (.int .i64 x1)).other (g' := w.heap.size + 2) (by omega) 2 (.int .i64 x2)).other (g' := w.heap.size + 2) (by omega) 3 (.int .i64 x3)).other (g' := w.heap.size + 2) (by omega) 4 (.slice as0 zs0.length cs0))
  replace hrs := hide ((((((unhide hrs).other (g' := w.heap.size + 2) (by omega) 0 (.int .i64 x0)).other (g' := w.heap.size + 2) (by omega) 1 (.int .i64 x1)).other (g' := w.heap.size + 2) (by omega) 2 (.int .i64 x2)).other (g' := w.heap.size + 2) (by omega) 3 (.int .i64 x3)).other (g' := w.heap.size + 2) (by omega) 4 (.slice as0 zs0.length cs0))
  replace hB := hide ((((((unhide hB).setCell (p := ⟨w.heap.size + 2, 0, none⟩) (by first | (simp; done) | (simp; omega)) (.int .i64 x0)).setCell (p := ⟨w.heap.size + 2, 1, none⟩) (by first | (simp; done) | (simp; omega)) (.int .i64 x1)).setCell (p := ⟨w.heap.size + 2, 2, none⟩) (by first | (simp; done) | (simp; omega)) (.int .i64 x2)).setCell (p := ⟨w.heap.size + 2, 3, none⟩) (by first | (simp; done) | (simp; omega)) (.int .i64 x3)).setCell (p := ⟨w.heap.size + 2, 4, none⟩) (by first | (simp; done) | (simp; omega)) (.slice as0 zs0.length cs0))
  simp only [List.set_cons_zero, List.set_cons_succ] at hot
  replace ho0_0 := hide ((((((unhide ho0_0).set' (c := w.heap.size + 2) (by omega) 0 (.int .i64 x0)).set' (c := w.heap.size + 2) (by omega) 1 (.int .i64 x1)).set' (c := w.heap.size + 2) (by omega) 2 (.int .i64 x2)).set' (c := w.heap.size + 2) (by omega) 3 (.int .i64 x3)).set' (c := w.heap.size + 2) (by omega) 4 (.slice as0 zs0.length cs0))
  have hsz1 : (((((w1.setCell ⟨w.heap.size + 2, 0, none⟩ (.int .i64 x0)).setCell ⟨w.heap.size + 2, 1, none⟩ (.int .i64 x1)).setCell ⟨w.heap.size + 2, 2, none⟩ (.int .i64 x2)).setCell ⟨w.heap.size + 2, 3, none⟩ (.int .i64 x3)).setCell ⟨w.heap.size + 2, 4, none⟩ (.slice as0 zs0.length cs0)).heap.size = w1.heap.size := by simp
  generalize (((((w1.setCell ⟨w.heap.size + 2, 0, none⟩ (.int .i64 x0)).setCell ⟨w.heap.size + 2, 1, none⟩ (.int .i64 x1)).setCell ⟨w.heap.size + 2, 2, none⟩ (.int .i64 x2)).setCell ⟨w.heap.size + 2, 3, none⟩ (.int .i64 x3)).setCell ⟨w.heap.size + 2, 4, none⟩ (.slice as0 zs0.length cs0)) = W1 at hot hbx hrs hB hsz1 ho0_0 ⊢
  have hs1b : w1.heap.size ≤ W1.heap.size := by omega
  obtain ⟨adx1, cpx1, hfx1, hax1⟩ := ((unhide hr1).below (unhide hB))
  rw [hfx1]
  refine (toIntS_own adx1 cpx1 zs1 W1 hn1 hax1).mono ?_
  rintro e w2 ⟨u1, rfl, ho1, hu⟩
  obtain ⟨as1, cs1, rfl, _⟩ := ho1.rd
  replace ho0_0 := hide ((unhide ho0_0).keep hu)
  replace ho1 := hide ho1
  replace hot := hide ((unhide hot).keep hu)
  replace hbx := hide ((unhide hbx).keep hu)
  replace hrs := hide ((unhide hrs).keep hu)
  replace hB := hide (below_upd (unhide hB) hu (Nat.le_refl _) (.inr (Nat.le_refl _)))
  have hs2 : W1.heap.size ≤ w2.heap.size := hu.size
  clear hu
  have cb0 := (unhide hbx).1.2 0 _ rfl
  have cb1 := (unhide hbx).1.2 1 _ rfl
  have cb2 := (unhide hbx).1.2 2 _ rfl
  have cb3 := (unhide hbx).1.2 3 _ rfl
  have cb4 := (unhide hbx).1.2 4 _ rfl
  have cb5 := (unhide hbx).1.2 5 _ rfl
  have cb6 := (unhide hbx).1.2 6 _ rfl
  have cb7 := (unhide hbx).1.2 7 _ rfl
  have cbl := (unhide hbx).1.1
  have co0 := (unhide hot).1.2 0 _ rfl
  have co1 := (unhide hot).1.2 1 _ rfl
  have co2 := (unhide hot).1.2 2 _ rfl
  have co3 := (unhide hot).1.2 3 _ rfl
  have co4 := (unhide hot).1.2 4 _ rfl
  have co5 := (unhide hot).1.2 5 _ rfl
  have co6 := (unhide hot).1.2 6 _ rfl
  have co7 := (unhide hot).1.2 7 _ rfl
  have col := (unhide hot).1.1
  have coz0 := (unhide hot).2 0
  have coz1 := (unhide hot).2 1
  have coz2 := (unhide hot).2 2
  have coz3 := (unhide hot).2 3
  have coz4 := (unhide hot).2 4
  have coz5 := (unhide hot).2 5
  have coz6 := (unhide hot).2 6
  have coz7 := (unhide hot).2 7
  go_wp2_with fail
  clear cb0 cb1 cb2 cb3 cb4 cb5 cb6 cb7 cbl co0 co1 co2 co3 co4 co5 co6 co7 col coz0 coz1 coz2 coz3 coz4 coz5 coz6 coz7
  replace hot := hide ((unhide hot).set 5 (.slice as1 zs1.length cs1) (by simp))
  replace hbx := hide ((unhide hbx).other (g' := w.heap.size + 2) (by omega) 5 (.slice as1 zs1.length cs1))
  replace hrs := hide ((unhide hrs).other (g' := w.heap.size + 2) (by omega) 5 (.slice as1 zs1.length cs1))
  replace hB := hide ((unhide hB).setCell (p := ⟨w.heap.size + 2, 5, none⟩) (by first | (simp; done) | (simp; omega)) (.slice as1 zs1.length cs1))
  simp only [List.set_cons_zero, List.set_cons_succ] at hot
  replace ho0_0 := hide ((unhide ho0_0).set' (c := w.heap.size + 2) (by omega) 5 (.slice as1 zs1.length cs1))
  replace ho1 := hide ((unhide ho1).set' (c := w.heap.size + 2) (by omega) 5 (.slice as1 zs1.length cs1))
  have hsz2 : (w2.setCell ⟨w.heap.size + 2, 5, none⟩ (.slice as1 zs1.length cs1)).heap.size = w2.heap.size := by simp
  generalize (w2.setCell ⟨w.heap.size + 2, 5, none⟩ (.slice as1 zs1.length cs1)) = W2 at hot hbx hrs hB hsz2 ho0_0 ho1 ⊢
  have hs2b : w2.heap.size ≤ W2.heap.size := by omega
  obtain ⟨adx2, cpx2, hfx2, hax2⟩ := ((unhide hr2).below (unhide hB))
  rw [hfx2]
  refine (toNoteS_own adx2 cpx2 zs2 W2 hn2 hax2).mono ?_
  rintro e w3 ⟨u2, rfl, ho2, hu⟩
  obtain ⟨as2, cs2, rfl, _⟩ := ho2.rd
  replace ho0_0 := hide ((unhide ho0_0).keep hu)
  replace ho1 := hide ((unhide ho1).keep hu)
  replace ho2 := hide ho2
  replace hot := hide ((unhide hot).keep hu)
  replace hbx := hide ((unhide hbx).keep hu)
  replace hrs := hide ((unhide hrs).keep hu)
  replace hB := hide (below_upd (unhide hB) hu (Nat.le_refl _) (.inr (Nat.le_refl _)))
  have hs3 : W2.heap.size ≤ w3.heap.size := hu.size
  clear hu
  have cb0 := (unhide hbx).1.2 0 _ rfl
  have cb1 := (unhide hbx).1.2 1 _ rfl
  have cb2 := (unhide hbx).1.2 2 _ rfl
  have cb3 := (unhide hbx).1.2 3 _ rfl
  have cb4 := (unhide hbx).1.2 4 _ rfl
  have cb5 := (unhide hbx).1.2 5 _ rfl
  have cb6 := (unhide hbx).1.2 6 _ rfl
  have cb7 := (unhide hbx).1.2 7 _ rfl
  have cbl := (unhide hbx).1.1
  have co0 := (unhide hot).1.2 0 _ rfl
  have co1 := (unhide hot).1.2 1 _ rfl
  have co2 := (unhide hot).1.2 2 _ rfl
  have co3 := (unhide hot).1.2 3 _ rfl
  have co4 := (unhide hot).1.2 4 _ rfl
  have co5 := (unhide hot).1.2 5 _ rfl
  have co6 := (unhide hot).1.2 6 _ rfl
  have co7 := (unhide hot).1.2 7 _ rfl
  have col := (unhide hot).1.1
  have coz0 := (unhide hot).2 0
  have coz1 := (unhide hot).2 1
  have coz2 := (unhide hot).2 2
  have coz3 := (unhide hot).2 3
  have coz4 := (unhide hot).2 4
  have coz5 := (unhide hot).2 5
  have coz6 := (unhide hot).2 6
  have coz7 := (unhide hot).2 7
  have cr0 := (unhide hrs).1.2 0 _ rfl
  have cr1 := (unhide hrs).1.2 1 _ rfl
  have cr2 := (unhide hrs).1.2 2 _ rfl
  have cr3 := (unhide hrs).1.2 3 _ rfl
  have cr4 := (unhide hrs).1.2 4 _ rfl
  have cr5 := (unhide hrs).1.2 5 _ rfl
  have cr6 := (unhide hrs).1.2 6 _ rfl
  have cr7 := (unhide hrs).1.2 7 _ rfl
  have crl := (unhide hrs).1.1
  have crz0 := (unhide hrs).2 0
  have crz1 := (unhide hrs).2 1
  have crz2 := (unhide hrs).2 2
  have crz3 := (unhide hrs).2 3
  have crz4 := (unhide hrs).2 4
  have crz5 := (unhide hrs).2 5
  have crz6 := (unhide hrs).2 6
  have crz7 := (unhide hrs).2 7
  go_wp2
  refine bodyPost_ret (v := .agg #[.int .i64 x0, .int .i64 x1, .int .i64 x2, .int .i64 x3, .slice as0 zs0.length cs0, .slice as1 zs1.length cs1, .slice as2 zs2.length cs2, .bool x4]) (by simp [results, Tryd.results7, go_sem, cr0, cr1, cr2, cr3, cr4, cr5, cr6, cr7]) rfl ⟨_, rfl, ⟨_, _, _, w1.heap.size, w2.heap.size, rfl, ⟨(by first | omega | (simp; done) | (simp; omega)), (by first | omega | (simp; done) | (simp; omega)), (by first | omega | (simp; done) | (simp; omega))⟩, own_mono (((((((((((unhide ho0_0).set' (c := w.heap.size + 2) (by omega) 6 _).set' (c := w.heap.size + 2) (by omega) 7 _).set' (c := w.heap.size + 1) (by omega) 0 _).set' (c := w.heap.size + 1) (by omega) 1 _).set' (c := w.heap.size + 1) (by omega) 2 _).set' (c := w.heap.size + 1) (by omega) 3 _).set' (c := w.heap.size + 1) (by omega) 4 _).set' (c := w.heap.size + 1) (by omega) 5 _).set' (c := w.heap.size + 1) (by omega) 6 _).set' (c := w.heap.size + 1) (by omega) 7 _) (by first | omega | (simp; done) | (simp; omega)) (by first | omega | (simp; done) | (simp; omega)), own_mono (((((((((((unhide ho1).set' (c := w.heap.size + 2) (by omega) 6 _).set' (c := w.heap.size + 2) (by omega) 7 _).set' (c := w.heap.size + 1) (by omega) 0 _).set' (c := w.heap.size + 1) (by omega) 1 _).set' (c := w.heap.size + 1) (by omega) 2 _).set' (c := w.heap.size + 1) (by omega) 3 _).set' (c := w.heap.size + 1) (by omega) 4 _).set' (c := w.heap.size + 1) (by omega) 5 _).set' (c := w.heap.size + 1) (by omega) 6 _).set' (c := w.heap.size + 1) (by omega) 7 _) (by first | omega | (simp; done) | (simp; omega)) (by first | omega | (simp; done) | (simp; omega)), own_mono (((((((((((unhide ho2).set' (c := w.heap.size + 2) (by omega) 6 _).set' (c := w.heap.size + 2) (by omega) 7 _).set' (c := w.heap.size + 1) (by omega) 0 _).set' (c := w.heap.size + 1) (by omega) 1 _).set' (c := w.heap.size + 1) (by omega) 2 _).set' (c := w.heap.size + 1) (by omega) 3 _).set' (c := w.heap.size + 1) (by omega) 4 _).set' (c := w.heap.size + 1) (by omega) 5 _).set' (c := w.heap.size + 1) (by omega) 6 _).set' (c := w.heap.size + 1) (by omega) 7 _) (by first | omega | (simp; done) | (simp; omega)) (by first | omega | (simp; done) | (simp; omega))⟩, Upd.of_below (((((((((((unhide hB).setCell (p := ⟨w.heap.size + 2, 6, none⟩) (by first | (simp; done) | (simp; omega)) _).setCell (p := ⟨w.heap.size + 2, 7, none⟩) (by first | (simp; done) | (simp; omega)) _).setCell (p := ⟨w.heap.size + 1, 0, none⟩) (by first | (simp; done) | (simp; omega)) _).setCell (p := ⟨w.heap.size + 1, 1, none⟩) (by first | (simp; done) | (simp; omega)) _).setCell (p := ⟨w.heap.size + 1, 2, none⟩) (by first | (simp; done) | (simp; omega)) _).setCell (p := ⟨w.heap.size + 1, 3, none⟩) (by first | (simp; done) | (simp; omega)) _).setCell (p := ⟨w.heap.size + 1, 4, none⟩) (by first | (simp; done) | (simp; omega)) _).setCell (p := ⟨w.heap.size + 1, 5, none⟩) (by first | (simp; done) | (simp; omega)) _).setCell (p := ⟨w.heap.size + 1, 6, none⟩) (by first | (simp; done) | (simp; omega)) _).setCell (p := ⟨w.heap.size + 1, 7, none⟩) (by first | (simp; done) | (simp; omega)) _) 0 0⟩

set_option maxHeartbeats 4000000 in
set_option maxRecDepth 100000 in
theorem szStill_any (x0 : Int) (x1 : Int) (x2 : Int) (x3 : Int) (zs0 : List Int) (zs1 : List Int) (zs2 : List Nt) (x4 : Bool) (ad0 : Option Addr) (cap0 : Nat) (ad1 : Option Addr) (cap1 : Nat) (ad2 : Option Addr) (cap2 : Nat) (left : Int) (w : World) (h0 : 0 ≤ left) (h1 : left ≤ 1099511627776) (hb0 : zs0.length ≤ 9223372036854775807) (hb1 : zs1.length ≤ 9223372036854775807) (hb2 : zs2.length ≤ 9223372036854775807) (hi2 : InNt zs2) (ha2 : ArgNt w ad2 zs2) :
    Calls Tryd.prog 5 #[.agg #[.int .i64 x0, .int .i64 x1, .int .i64 x2, .int .i64 x3, .slice ad0 zs0.length cap0, .slice ad1 zs1.length cap1, .slice ad2 zs2.length cap2, .bool x4], .int .i64 left] w fun e w' => e = .returned (.int .i64 (if left < ((zs0.length + zs1.length + ntSize zs2 : Nat) : Int) then -1 else left - ((zs0.length + zs1.length + ntSize zs2 : Nat) : Int))) ∧ Upd 0 0 w w' := by
  replace hi2 := hide hi2
  replace ha2 := hide ha2
  obtain ⟨R, hR⟩ : ∃ R : Int, (if left < ((zs0.length + zs1.length + ntSize zs2 : Nat) : Int) then -1 else left - ((zs0.length + zs1.length + ntSize zs2 : Nat) : Int)) = R := ⟨_, rfl⟩
  rw [hR]
  have hbx0 := heldF_new w [.int .i64 x0, .int .i64 x1, .int .i64 x2, .int .i64 x3, .slice ad0 zs0.length cap0, .slice ad1 zs1.length cap1, .slice ad2 zs2.length cap2, .bool x4] 27
  have hB0 := (Below.refl w.heap.size w).alloc (Nat.le_refl _) (.cells #[.int .i64 x0, .int .i64 x1, .int .i64 x2, .int .i64 x3, .slice ad0 zs0.length cap0, .slice ad1 zs1.length cap1, .slice ad2 zs2.length cap2, .bool x4] 27)
  obtain ⟨l0, e0⟩ : ∃ l : Int, l = left := ⟨_, rfl⟩
  rw [← e0] at hR h0 h1 ⊢
  subst e0
  skip
  obtain ⟨l1, e1⟩ : ∃ l : Int, l = l0 - ((((zs0.length) : Nat)) : Int) := ⟨_, rfl⟩
  by_cases c0 : l0 < ((((zs0.length) : Nat)) : Int)
  · have hRe : R = -1 := by rw [← hR, if_pos (by omega)]
    subst hRe
    replace hR := hide hR
    replace e1 := hide e1
    go_enter Tryd.func5, Tryd.ntmps5
    go_wp2_with fail
    generalize w.alloc (.cells #[.int .i64 x0, .int .i64 x1, .int .i64 x2, .int .i64 x3, .slice ad0 zs0.length cap0, .slice ad1 zs1.length cap1, .slice ad2 zs2.length cap2, .bool x4] 27) = w0 at hbx0 hB0 ⊢
    have hbx := hide hbx0
    have hB := hide hB0
    clear hbx0 hB0
    have hC := szImage_any x0 x1 x2 x3 ad0 zs0.length cap0 l0 w0 (by omega) (by omega) hb0
    rw [if_pos (by omega)] at hC
    replace hC := hide hC
    refine (unhide hC).mono ?_
    rintro e w1 ⟨rfl, hu⟩
    replace hbx := hide ((unhide hbx).keep hu)
    replace hB := hide (below_upd (unhide hB) hu (Nat.le_refl _) (.inr (Nat.le_refl _)))
    clear hu hC
    have cb0 := (unhide hbx).1.2 0 _ rfl
    have cb1 := (unhide hbx).1.2 1 _ rfl
    have cb2 := (unhide hbx).1.2 2 _ rfl
    have cb3 := (unhide hbx).1.2 3 _ rfl
    have cb4 := (unhide hbx).1.2 4 _ rfl
    have cb5 := (unhide hbx).1.2 5 _ rfl
    have cb6 := (unhide hbx).1.2 6 _ rfl
    have cb7 := (unhide hbx).1.2 7 _ rfl
    go_wp2
    go_ret
    exact ⟨by first | rfl | exact ret_int (by have := unhide hR; omega), Upd.of_below (unhide hB) 0 0⟩
  · skip
    have q0 : decide (l1 < 0) = false := by simp; omega
    have n0 : 0 ≤ l1 := by omega
    have m0 : l1 ≤ 1099511627776 := by omega
    obtain ⟨l2, e2⟩ : ∃ l : Int, l = l1 - ((((zs1.length) : Nat)) : Int) := ⟨_, rfl⟩
    by_cases c1 : l1 < ((((zs1.length) : Nat)) : Int)
    · have hRe : R = -1 := by rw [← hR, if_pos (by omega)]
      subst hRe
      replace hR := hide hR
      replace e1 := hide e1
      replace e2 := hide e2
      go_enter Tryd.func5, Tryd.ntmps5
      go_wp2_with fail
      generalize w.alloc (.cells #[.int .i64 x0, .int .i64 x1, .int .i64 x2, .int .i64 x3, .slice ad0 zs0.length cap0, .slice ad1 zs1.length cap1, .slice ad2 zs2.length cap2, .bool x4] 27) = w0 at hbx0 hB0 ⊢
      have hbx := hide hbx0
      have hB := hide hB0
      clear hbx0 hB0
      have hC := szImage_any x0 x1 x2 x3 ad0 zs0.length cap0 l0 w0 (by omega) (by omega) hb0
      rw [if_neg (by omega)] at hC
      rw [← unhide e1] at hC
      replace hC := hide hC
      refine (unhide hC).mono ?_
      rintro e w1 ⟨rfl, hu⟩
      replace hbx := hide ((unhide hbx).keep hu)
      replace hB := hide (below_upd (unhide hB) hu (Nat.le_refl _) (.inr (Nat.le_refl _)))
      clear hu hC
      have cb0 := (unhide hbx).1.2 0 _ rfl
      have cb1 := (unhide hbx).1.2 1 _ rfl
      have cb2 := (unhide hbx).1.2 2 _ rfl
      have cb3 := (unhide hbx).1.2 3 _ rfl
      have cb4 := (unhide hbx).1.2 4 _ rfl
      have cb5 := (unhide hbx).1.2 5 _ rfl
      have cb6 := (unhide hbx).1.2 6 _ rfl
      have cb7 := (unhide hbx).1.2 7 _ rfl
      go_wp2_with fail
      clear cb0 cb1 cb2 cb3 cb4 cb5 cb6 cb7
      have hC := upd_of_same (szIntS_any ad1 zs1.length cap1 l1 w1 (by omega) (by omega) hb1)
      rw [if_pos (by omega)] at hC
      replace hC := hide hC
      refine (unhide hC).mono ?_
      rintro e w2 ⟨rfl, hu⟩
      replace hbx := hide ((unhide hbx).keep hu)
      replace hB := hide (below_upd (unhide hB) hu (Nat.le_refl _) (.inr (Nat.le_refl _)))
      clear hu hC
      have cb0 := (unhide hbx).1.2 0 _ rfl
      have cb1 := (unhide hbx).1.2 1 _ rfl
      have cb2 := (unhide hbx).1.2 2 _ rfl
      have cb3 := (unhide hbx).1.2 3 _ rfl
      have cb4 := (unhide hbx).1.2 4 _ rfl
      have cb5 := (unhide hbx).1.2 5 _ rfl
      have cb6 := (unhide hbx).1.2 6 _ rfl
      have cb7 := (unhide hbx).1.2 7 _ rfl
      go_wp2
      go_ret
      exact ⟨by first | rfl | exact ret_int (by have := unhide hR; omega), Upd.of_below (unhide hB) 0 0⟩
    · skip
      have q1 : decide (l2 < 0) = false := by simp; omega
      have n1 : 0 ≤ l2 := by omega
      have m1 : l2 ≤ 1099511627776 := by omega
      obtain ⟨l3, e3⟩ : ∃ l : Int, l = l2 - ((((ntSize zs2) : Nat)) : Int) := ⟨_, rfl⟩
      by_cases c2 : l2 < ((((ntSize zs2) : Nat)) : Int)
      · have hRe : R = -1 := by rw [← hR, if_pos (by omega)]
        subst hRe
        replace hR := hide hR
        replace e1 := hide e1
        replace e2 := hide e2
        replace e3 := hide e3
        go_enter Tryd.func5, Tryd.ntmps5
        go_wp2_with fail
        generalize w.alloc (.cells #[.int .i64 x0, .int .i64 x1, .int .i64 x2, .int .i64 x3, .slice ad0 zs0.length cap0, .slice ad1 zs1.length cap1, .slice ad2 zs2.length cap2, .bool x4] 27) = w0 at hbx0 hB0 ⊢
        have hbx := hide hbx0
        have hB := hide hB0
        clear hbx0 hB0
        have hC := szImage_any x0 x1 x2 x3 ad0 zs0.length cap0 l0 w0 (by omega) (by omega) hb0
        rw [if_neg (by omega)] at hC
        rw [← unhide e1] at hC
        replace hC := hide hC
        refine (unhide hC).mono ?_
        rintro e w1 ⟨rfl, hu⟩
        replace hbx := hide ((unhide hbx).keep hu)
        replace hB := hide (below_upd (unhide hB) hu (Nat.le_refl _) (.inr (Nat.le_refl _)))
        clear hu hC
        have cb0 := (unhide hbx).1.2 0 _ rfl
        have cb1 := (unhide hbx).1.2 1 _ rfl
        have cb2 := (unhide hbx).1.2 2 _ rfl
        have cb3 := (unhide hbx).1.2 3 _ rfl
        have cb4 := (unhide hbx).1.2 4 _ rfl
        have cb5 := (unhide hbx).1.2 5 _ rfl
        have cb6 := (unhide hbx).1.2 6 _ rfl
        have cb7 := (unhide hbx).1.2 7 _ rfl
        go_wp2_with fail
        clear cb0 cb1 cb2 cb3 cb4 cb5 cb6 cb7
        have hC := upd_of_same (szIntS_any ad1 zs1.length cap1 l1 w1 (by omega) (by omega) hb1)
        rw [if_neg (by omega)] at hC
        rw [← unhide e2] at hC
        replace hC := hide hC
        refine (unhide hC).mono ?_
        rintro e w2 ⟨rfl, hu⟩
        replace hbx := hide ((unhide hbx).keep hu)
        replace hB := hide (below_upd (unhide hB) hu (Nat.le_refl _) (.inr (Nat.le_refl _)))
        clear hu hC
        have cb0 := (unhide hbx).1.2 0 _ rfl
        have cb1 := (unhide hbx).1.2 1 _ rfl
        have cb2 := (unhide hbx).1.2 2 _ rfl
        have cb3 := (unhide hbx).1.2 3 _ rfl
        have cb4 := (unhide hbx).1.2 4 _ rfl
        have cb5 := (unhide hbx).1.2 5 _ rfl
        have cb6 := (unhide hbx).1.2 6 _ rfl
        have cb7 := (unhide hbx).1.2 7 _ rfl
        go_wp2_with fail
        clear cb0 cb1 cb2 cb3 cb4 cb5 cb6 cb7
        have hC := szNoteS_any ad2 zs2 cap2 l2 w2 (by omega) (by omega) hb2 (unhide hi2) ((unhide ha2).below (unhide hB))
        rw [if_pos (by omega)] at hC
        replace hC := hide hC
        refine (unhide hC).mono ?_
        rintro e w3 ⟨rfl, hu⟩
        replace hbx := hide ((unhide hbx).keep hu)
        replace hB := hide (below_upd (unhide hB) hu (Nat.le_refl _) (.inr (Nat.le_refl _)))
        clear hu hC
        have cb0 := (unhide hbx).1.2 0 _ rfl
        have cb1 := (unhide hbx).1.2 1 _ rfl
        have cb2 := (unhide hbx).1.2 2 _ rfl
        have cb3 := (unhide hbx).1.2 3 _ rfl
        have cb4 := (unhide hbx).1.2 4 _ rfl
        have cb5 := (unhide hbx).1.2 5 _ rfl
        have cb6 := (unhide hbx).1.2 6 _ rfl
        have cb7 := (unhide hbx).1.2 7 _ rfl
        go_wp2
        go_ret
        exact ⟨by first | rfl | exact ret_int (by have := unhide hR; omega), Upd.of_below (unhide hB) 0 0⟩
      · skip
        have q2 : decide (l3 < 0) = false := by simp; omega
        have n2 : 0 ≤ l3 := by omega
        have m2 : l3 ≤ 1099511627776 := by omega
        have hRe : R = l3 := by rw [← hR, if_neg (by omega)]; omega
        subst hRe
        replace hR := hide hR
        replace e1 := hide e1
        replace e2 := hide e2
        replace e3 := hide e3
        go_enter Tryd.func5, Tryd.ntmps5
        go_wp2_with fail
        generalize w.alloc (.cells #[.int .i64 x0, .int .i64 x1, .int .i64 x2, .int .i64 x3, .slice ad0 zs0.length cap0, .slice ad1 zs1.length cap1, .slice ad2 zs2.length cap2, .bool x4] 27) = w0 at hbx0 hB0 ⊢
        have hbx := hide hbx0
        have hB := hide hB0
        clear hbx0 hB0
        have hC := szImage_any x0 x1 x2 x3 ad0 zs0.length cap0 l0 w0 (by omega) (by omega) hb0
        rw [if_neg (by omega)] at hC
        rw [← unhide e1] at hC
        replace hC := hide hC
        refine (unhide hC).mono ?_
        rintro e w1 ⟨rfl, hu⟩
        replace hbx := hide ((unhide hbx).keep hu)
        replace hB := hide (below_upd (unhide hB) hu (Nat.le_refl _) (.inr (Nat.le_refl _)))
        clear hu hC
        have cb0 := (unhide hbx).1.2 0 _ rfl
        have cb1 := (unhide hbx).1.2 1 _ rfl
        have cb2 := (unhide hbx).1.2 2 _ rfl
        have cb3 := (unhide hbx).1.2 3 _ rfl
        have cb4 := (unhide hbx).1.2 4 _ rfl
        have cb5 := (unhide hbx).1.2 5 _ rfl
        have cb6 := (unhide hbx).1.2 6 _ rfl
        have cb7 := (unhide hbx).1.2 7 _ rfl
        go_wp2_with fail
        clear cb0 cb1 cb2 cb3 cb4 cb5 cb6 cb7
        have hC := upd_of_same (szIntS_any ad1 zs1.length cap1 l1 w1 (by omega) (by omega) hb1)
        rw [if_neg (by omega)] at hC
        rw [← unhide e2] at hC
        replace hC := hide hC
        refine (unhide hC).mono ?_
        rintro e w2 ⟨rfl, hu⟩
        replace hbx := hide ((unhide hbx).keep hu)
        replace hB := hide (below_upd (unhide hB) hu (Nat.le_refl _) (.inr (Nat.le_refl _)))
        clear hu hC
        have cb0 := (unhide hbx).1.2 0 _ rfl
        have cb1 := (unhide hbx).1.2 1 _ rfl
        have cb2 := (unhide hbx).1.2 2 _ rfl
        have cb3 := (unhide hbx).1.2 3 _ rfl
        have cb4 := (unhide hbx).1.2 4 _ rfl
        have cb5 := (unhide hbx).1.2 5 _ rfl
        have cb6 := (unhide hbx).1.2 6 _ rfl
        have cb7 := (unhide hbx).1.2 7 _ rfl
        go_wp2_with fail
        clear cb0 cb1 cb2 cb3 cb4 cb5 cb6 cb7
        have hC := szNoteS_any ad2 zs2 cap2 l2 w2 (by omega) (by omega) hb2 (unhide hi2) ((unhide ha2).below (unhide hB))
        rw [if_neg (by omega)] at hC
        rw [← unhide e3] at hC
        replace hC := hide hC
        refine (unhide hC).mono ?_
        rintro e w3 ⟨rfl, hu⟩
        replace hbx := hide ((unhide hbx).keep hu)
        replace hB := hide (below_upd (unhide hB) hu (Nat.le_refl _) (.inr (Nat.le_refl _)))
        clear hu hC
        have cb0 := (unhide hbx).1.2 0 _ rfl
        have cb1 := (unhide hbx).1.2 1 _ rfl
        have cb2 := (unhide hbx).1.2 2 _ rfl
        have cb3 := (unhide hbx).1.2 3 _ rfl
        have cb4 := (unhide hbx).1.2 4 _ rfl
        have cb5 := (unhide hbx).1.2 5 _ rfl
        have cb6 := (unhide hbx).1.2 6 _ rfl
        have cb7 := (unhide hbx).1.2 7 _ rfl
        go_wp2
        go_ret
        exact ⟨by first | rfl | exact ret_int (by have := unhide hR; omega), Upd.of_below (unhide hB) 0 0⟩

set_option maxHeartbeats 4000000 in
set_option maxRecDepth 100000 in
theorem eqStill_rd (u v : Value) (d : St) (w : World) (hn : StSize d ≤ 1048576) (hu : RdSt w u d) (hv : RdSt w v d) :
    Calls Tryd.prog 9 #[u, v] w fun e w' => e = .returned (.bool true) ∧ Upd 0 0 w w' := by
  obtain ⟨p0, p1, p2, rfl, hu0, hu1, hu2⟩ := hu
  obtain ⟨v0, v1, v2, rfl, hv0, hv1, hv2⟩ := hv
  obtain ⟨⟨x0, x1, x2, x3, zs0⟩, zs1, zs2, x4⟩ := d
  simp only [Stv, StSize] at hn ⊢
  have hn0 : zs0.length ≤ 1048576 := by omega
  have hn1 : zs1.length ≤ 1048576 := by omega
  have hn2 : zs2.length ≤ 1048576 := by unfold ntSize at hn; omega
  replace hu0 := hide hu0
  replace hv0 := hide hv0
  replace hu1 := hide hu1
  replace hv1 := hide hv1
  replace hu2 := hide hu2
  replace hv2 := hide hv2
  have hB0 := ((Below.refl w.heap.size w).alloc (Nat.le_refl _) (.cells #[.int .i64 x0, .int .i64 x1, .int .i64 x2, .int .i64 x3, p0, p1, p2, .bool x4] 33)).alloc (by simp) (.cells #[.int .i64 x0, .int .i64 x1, .int .i64 x2, .int .i64 x3, v0, v1, v2, .bool x4] 33)
  have hbx0 := (heldF_new w [.int .i64 x0, .int .i64 x1, .int .i64 x2, .int .i64 x3, p0, p1, p2, .bool x4] 33).keep (Upd.of_below ((Below.refl _ _).alloc (Nat.le_refl _) (.cells #[.int .i64 x0, .int .i64 x1, .int .i64 x2, .int .i64 x3, v0, v1, v2, .bool x4] 33)) 0 0)
  have hby0 := heldF_new (w.alloc (.cells #[.int .i64 x0, .int .i64 x1, .int .i64 x2, .int .i64 x3, p0, p1, p2, .bool x4] 33)) [.int .i64 x0, .int .i64 x1, .int .i64 x2, .int .i64 x3, v0, v1, v2, .bool x4] 33
  have e1 : (w.alloc (.cells #[.int .i64 x0, .int .i64 x1, .int .i64 x2, .int .i64 x3, p0, p1, p2, .bool x4] 33)).heap.size = w.heap.size + 1 := by simp
  rw [e1] at hby0
  clear e1
  go_enter Tryd.func9, Tryd.ntmps9
  go_wp2_with fail
  generalize (w.alloc (.cells #[.int .i64 x0, .int .i64 x1, .int .i64 x2, .int .i64 x3, p0, p1, p2, .bool x4] 33)).alloc (.cells #[.int .i64 x0, .int .i64 x1, .int .i64 x2, .int .i64 x3, v0, v1, v2, .bool x4] 33) = w0 at hbx0 hby0 hB0 ⊢
  have hbx := hide hbx0
  have hby := hide hby0
  have hB := hide hB0
  clear hbx0 hby0 hB0
  refine (eqImage_rd _ _ (x0, x1, x2, x3, zs0) w0 hn0 ⟨p0, rfl, (unhide hu0).below (unhide hB)⟩ ⟨v0, rfl, (unhide hv0).below (unhide hB)⟩).mono ?_
  rintro e w1 ⟨rfl, hu⟩
  replace hbx := hide ((unhide hbx).keep hu)
  replace hby := hide ((unhide hby).keep hu)
  replace hB := hide (below_upd (unhide hB) hu (Nat.le_refl _) (.inr (Nat.le_refl _)))
  clear hu
  have cb0 := (unhide hbx).1.2 0 _ rfl
  have cd0 := (unhide hby).1.2 0 _ rfl
  have cb1 := (unhide hbx).1.2 1 _ rfl
  have cd1 := (unhide hby).1.2 1 _ rfl
  have cb2 := (unhide hbx).1.2 2 _ rfl
  have cd2 := (unhide hby).1.2 2 _ rfl
  have cb3 := (unhide hbx).1.2 3 _ rfl
  have cd3 := (unhide hby).1.2 3 _ rfl
  have cb4 := (unhide hbx).1.2 4 _ rfl
  have cd4 := (unhide hby).1.2 4 _ rfl
  have cb5 := (unhide hbx).1.2 5 _ rfl
  have cd5 := (unhide hby).1.2 5 _ rfl
  have cb6 := (unhide hbx).1.2 6 _ rfl
  have cd6 := (unhide hby).1.2 6 _ rfl
  have cb7 := (unhide hbx).1.2 7 _ rfl
  have cd7 := (unhide hby).1.2 7 _ rfl
  go_wp2_with fail
  clear cb0 cd0 cb1 cd1 cb2 cd2 cb3 cd3 cb4 cd4 cb5 cd5 cb6 cd6 cb7 cd7
  refine (eqIntS_rd _ _ zs1 w1 hn1 ((unhide hu1).below (unhide hB)) ((unhide hv1).below (unhide hB))).mono ?_
  rintro e w2 ⟨rfl, hu⟩
  replace hbx := hide ((unhide hbx).keep hu)
  replace hby := hide ((unhide hby).keep hu)
  replace hB := hide (below_upd (unhide hB) hu (Nat.le_refl _) (.inr (Nat.le_refl _)))
  clear hu
  have cb0 := (unhide hbx).1.2 0 _ rfl
  have cd0 := (unhide hby).1.2 0 _ rfl
  have cb1 := (unhide hbx).1.2 1 _ rfl
  have cd1 := (unhide hby).1.2 1 _ rfl
  have cb2 := (unhide hbx).1.2 2 _ rfl
  have cd2 := (unhide hby).1.2 2 _ rfl
  have cb3 := (unhide hbx).1.2 3 _ rfl
  have cd3 := (unhide hby).1.2 3 _ rfl
  have cb4 := (unhide hbx).1.2 4 _ rfl
  have cd4 := (unhide hby).1.2 4 _ rfl
  have cb5 := (unhide hbx).1.2 5 _ rfl
  have cd5 := (unhide hby).1.2 5 _ rfl
  have cb6 := (unhide hbx).1.2 6 _ rfl
  have cd6 := (unhide hby).1.2 6 _ rfl
  have cb7 := (unhide hbx).1.2 7 _ rfl
  have cd7 := (unhide hby).1.2 7 _ rfl
  go_wp2_with fail
  clear cb0 cd0 cb1 cd1 cb2 cd2 cb3 cd3 cb4 cd4 cb5 cd5 cb6 cd6 cb7 cd7
  refine (eqNoteS_rd _ _ zs2 w2 hn2 ((unhide hu2).below (unhide hB)) ((unhide hv2).below (unhide hB))).mono ?_
  rintro e w3 ⟨rfl, hu⟩
  replace hbx := hide ((unhide hbx).keep hu)
  replace hby := hide ((unhide hby).keep hu)
  replace hB := hide (below_upd (unhide hB) hu (Nat.le_refl _) (.inr (Nat.le_refl _)))
  clear hu
  have cb0 := (unhide hbx).1.2 0 _ rfl
  have cd0 := (unhide hby).1.2 0 _ rfl
  have cb1 := (unhide hbx).1.2 1 _ rfl
  have cd1 := (unhide hby).1.2 1 _ rfl
  have cb2 := (unhide hbx).1.2 2 _ rfl
  have cd2 := (unhide hby).1.2 2 _ rfl
  have cb3 := (unhide hbx).1.2 3 _ rfl
  have cd3 := (unhide hby).1.2 3 _ rfl
  have cb4 := (unhide hbx).1.2 4 _ rfl
  have cd4 := (unhide hby).1.2 4 _ rfl
  have cb5 := (unhide hbx).1.2 5 _ rfl
  have cd5 := (unhide hby).1.2 5 _ rfl
  have cb6 := (unhide hbx).1.2 6 _ rfl
  have cd6 := (unhide hby).1.2 6 _ rfl
  have cb7 := (unhide hbx).1.2 7 _ rfl
  have cd7 := (unhide hby).1.2 7 _ rfl
  go_wp2
  go_ret
  exact ⟨rfl, Upd.of_below (unhide hB) 0 0⟩

end Go.Proofs.YthkppcncajmniaaDoor

/- Plain: good stills. -/
namespace Go.Proofs.YthkppcncajmniaaDoor
open Go.RowKit

def rowOf (w p d : Int) : Int := (w * p * d + 7) / 8
def sidesOf (a b : Int) (wv : Bool) : List (Int × Int) := if wv then (passTo a b 7).map (fun q : Ps => (q.2.2.2.2.1, q.2.2.2.2.2)) else [(a, b)]
def totTo (l : List (Int × Int)) (p d : Int) (k : Nat) : Int := ((l.take k).map fun x => x.2 * (1 + rowOf x.1 p d)).sum
def totOf (m : Im) (wv : Bool) : Int := totTo (sidesOf m.1 m.2.1 wv) m.2.2.1 m.2.2.2.1 (sidesOf m.1 m.2.1 wv).length
theorem totTo_succ (l : List (Int × Int)) (p d : Int) (k : Nat) (h : k < l.length) : totTo l p d (k + 1) = totTo l p d k + (l.getD k (0, 0)).2 * (1 + rowOf (l.getD k (0, 0)).1 p d) := by
  unfold totTo; rw [take_snoc_getD l (0, 0) k h]; simp
def InSide (l : List (Int × Int)) : Prop := ∀ j, j < l.length → (1 ≤ (l.getD j (0, 0)).1 ∧ (l.getD j (0, 0)).1 ≤ 512) ∧ (1 ≤ (l.getD j (0, 0)).2 ∧ (l.getD j (0, 0)).2 ≤ 512)

theorem cntK_bd {n : Int} (hn : 1 ≤ n ∧ n ≤ 512) (k : Nat) (hk : k < 7) : cntF n (passAt k).1 (passAt k).2.2.1 ≤ 512 ∧ cntF n (passAt k).2.1 (passAt k).2.2.2 ≤ 512 := by
  match k, hk with
  | 0, _ | 1, _ | 2, _ | 3, _ | 4, _ | 5, _ | 6, _ =>
    constructor <;> (unfold cntF passAt passT; simp; try (split <;> omega))
theorem passTo_in {a b : Int} (ha : 1 ≤ a ∧ a ≤ 512) (hb : 1 ≤ b ∧ b ≤ 512) (k : Nat) (hk : k ≤ 7) : ∀ q ∈ passTo a b k, (1 ≤ q.2.2.2.2.1 ∧ q.2.2.2.2.1 ≤ 512) ∧ (1 ≤ q.2.2.2.2.2 ∧ q.2.2.2.2.2 ≤ 512) := by
  induction k with
  | zero => intro q hq; simp [passTo] at hq
  | succ k ih =>
    intro q hq
    rw [passTo, List.mem_append] at hq
    rcases hq with hq | hq
    · exact ih (by omega) q hq
    · unfold passAdd at hq
      split at hq
      · rename_i h
        have h1 := (cntK_bd ha k (by omega)).1
        have h2 := (cntK_bd hb k (by omega)).2
        simp [passOne] at hq
        subst hq
        exact ⟨⟨by simp only; omega, by simp only; omega⟩, by simp only; omega, by simp only; omega⟩
      · simp at hq
theorem sidesOf_in {a b : Int} (wv : Bool) (ha : 1 ≤ a ∧ a ≤ 512) (hb : 1 ≤ b ∧ b ≤ 512) : InSide (sidesOf a b wv) := by
  intro j hj
  cases wv with
  | false => simp [sidesOf] at hj ⊢; subst hj; simp; omega
  | true =>
    simp only [sidesOf, if_true] at hj ⊢
    rw [List.getD_eq_getElem?_getD, List.getElem?_eq_getElem hj]
    have := passTo_in ha hb 7 (Nat.le_refl _) _ (List.getElem_mem (by simpa using hj : j < (passTo a b 7).length))
    simpa using this
theorem sidesOf_len (a b : Int) (wv : Bool) : (sidesOf a b wv).length ≤ 7 := by
  cases wv with
  | false => simp [sidesOf]
  | true => simp [sidesOf]; exact passTo_len a b 7
theorem rowOf_bd {w p d : Int} (hw : 1 ≤ w ∧ w ≤ 512) (hp : 1 ≤ p ∧ p ≤ 4) (hd : 1 ≤ d ∧ d ≤ 16) : ∃ x y : Int, w * p = x ∧ x * d = y ∧ (1 ≤ x ∧ x ≤ 2048) ∧ 1 ≤ y ∧ y ≤ 32768 ∧ rowOf w p d = (y + 7) / 8 := by
  obtain ⟨W, rfl⟩ := Int.eq_ofNat_of_zero_le (show 0 ≤ w by omega)
  obtain ⟨P, rfl⟩ := Int.eq_ofNat_of_zero_le (show 0 ≤ p by omega)
  obtain ⟨D, rfl⟩ := Int.eq_ofNat_of_zero_le (show 0 ≤ d by omega)
  have h1 : W * P ≤ 512 * 4 := Nat.mul_le_mul (by omega) (by omega)
  have h2 : 1 * 1 ≤ W * P := Nat.mul_le_mul (by omega) (by omega)
  have h3 : W * P * D ≤ 2048 * 16 := Nat.mul_le_mul (by omega) (by omega)
  have h4 : 1 * 1 ≤ W * P * D := Nat.mul_le_mul (by omega) (by omega)
  refine ⟨((W * P : Nat) : Int), ((W * P * D : Nat) : Int), by simp, by simp, ⟨by omega, by omega⟩, by omega, by omega, ?_⟩
  unfold rowOf; simp
theorem part_bd {h r : Int} (hh : 1 ≤ h ∧ h ≤ 512) (hr : 1 ≤ r ∧ r ≤ 4097) : ∃ y : Int, h * (1 + r) = y ∧ 1 ≤ y ∧ y ≤ 4000000 := by
  obtain ⟨H, rfl⟩ := Int.eq_ofNat_of_zero_le (show 0 ≤ h by omega)
  obtain ⟨R, hR⟩ := Int.eq_ofNat_of_zero_le (show 0 ≤ 1 + r by omega)
  have h1 : H * R ≤ 512 * 4098 := Nat.mul_le_mul (by omega) (by omega)
  have h2 : 1 * 1 ≤ H * R := Nat.mul_le_mul (by omega) (by omega)
  exact ⟨((H * R : Nat) : Int), by rw [hR]; simp, by omega, by omega⟩
theorem totTo_bd {l : List (Int × Int)} {p d : Int} (hl : InSide l) (hp : 1 ≤ p ∧ p ≤ 4) (hd : 1 ≤ d ∧ d ≤ 16) (k : Nat) (hk : k ≤ l.length) : 0 ≤ totTo l p d k ∧ totTo l p d k ≤ 4000000 * k := by
  induction k with
  | zero => simp [totTo]
  | succ k ih =>
    have := ih (by omega)
    rw [totTo_succ l p d k (by omega)]
    obtain ⟨h1, h2⟩ := hl k (by omega)
    obtain ⟨x, y, _, _, _, y1, y2, hr⟩ := rowOf_bd h1 hp hd
    obtain ⟨z, hz, z1, z2⟩ := part_bd h2 (r := rowOf (l.getD k (0, 0)).1 p d) (by omega)
    rw [hz]; omega

def ColOk (zs : List Int) : Prop := zs.length ≤ 256 ∧ ∀ j, j < zs.length → 0 ≤ zs.getD j 0 ∧ zs.getD j 0 ≤ 16777215
def SmpIn (zs : List Int) (n : Nat) : Prop := ∀ j, j < zs.length → zs.getD j 0 < (n : Int)
def PalOk (d : St) : Prop := 0 < d.2.1.length → d.1.2.2.1 = 1 ∧ d.1.2.2.2.1 ≤ 8 ∧ SmpIn (ims d.1) d.2.1.length
def KeyOk (s : ByteArray) : Prop := (1 ≤ s.size ∧ s.size ≤ 40) ∧ ∀ k, k < s.size → 32 ≤ (strB s).getD k 0 ∧ (strB s).getD k 0 ≤ 126
def ValOk (s : ByteArray) : Prop := s.size ≤ 1000 ∧ ∀ k, k < s.size → (strB s).getD k 0 ≠ 0
def NoteOk (n : Nt) : Prop := KeyOk n.1 ∧ ValOk n.2
def NotesOk (ps : List Nt) : Prop := ps.length ≤ 20 ∧ ∀ j, j < ps.length → NoteOk (ps.getD j Nt0)
def GoodSt (d : St) : Prop := GoodIm d.1 ∧ ColOk d.2.1 ∧ PalOk d ∧ NotesOk d.2.2.1 ∧ totOf d.1 d.2.2.2 ≤ 6000
noncomputable def pB (p : Prop) : Bool := open Classical in decide p
theorem pB_yes {p : Prop} (h : p) : pB p = true := by unfold pB; simpa using h
theorem pB_no {p : Prop} (h : ¬ p) : pB p = false := by unfold pB; simpa using h
end Go.Proofs.YthkppcncajmniaaDoor

/- Good stills, as the specification has them: colours and notes. -/
namespace Go.Proofs.YthkppcncajmniaaDoor
open Go.RowKit

set_option maxHeartbeats 2000000 in
theorem specL5Colours (v : Value) (zs : List Int) (w : World) (hn : zs.length ≤ 1048576) (hv : RdI w v zs) :
    Calls Tryd.prog 20 #[v] w fun e w' => e = .returned (.bool (pB (ColOk zs))) ∧ w' = w := by
  obtain ⟨ad, cap, rfl, hA⟩ := hv
  replace hA := hide hA
  have hBad : Hid (∀ k, k < zs.length → ¬ (0 ≤ zs.getD k 0 ∧ zs.getD k 0 ≤ 16777215) → pB (ColOk zs) = false) := hide (fun k hk hb => pB_no (fun h => hb (h.2 k hk)))
  have hGood : Hid ((∀ k, k < zs.length → (0 ≤ zs.getD k 0 ∧ zs.getD k 0 ≤ 16777215)) → zs.length ≤ 256 → pB (ColOk zs) = true) := hide (fun h h2 => pB_yes ⟨h2, h⟩)
  have hLong : Hid (256 < zs.length → pB (ColOk zs) = false) := hide (fun h => pB_no (fun h' => by have := h'.1; omega))
  go_enter Tryd.func20, Tryd.ntmps20
  go_wp2
  go_loop [7] (fun i => ∃ k : Nat, k ≤ zs.length ∧ i = .int .i64 k ∧ Hid (∀ j, j < k → (0 ≤ zs.getD j 0 ∧ zs.getD j 0 ≤ 16777215))) (fun i => zs.length - (intOf i).toNat)
  case atStart => exact ⟨0, Nat.zero_le _, rfl, fun j hj => by omega⟩
  case round =>
    obtain ⟨k, hk', rfl, hok⟩ := hrel
    by_cases hlt : k < zs.length
    · obtain ⟨b, off, rfl, hbl, hcl⟩ := (unhide hA) (ne_of_lt_length hlt)
      have hck := hcl k hlt
      have hbad := hide (unhide hBad k hlt)
      have hOk : Hid ((0 ≤ zs.getD k 0 ∧ zs.getD k 0 ≤ 16777215) → ∀ j, j < k + 1 → (0 ≤ zs.getD j 0 ∧ zs.getD j 0 ≤ 16777215)) := hide (fun h j hj => by
        rcases Nat.lt_or_eq_of_le (Nat.le_of_lt_succ hj) with h' | h'
        · exact unhide hok j h'
        · subst h'; exact h)
      clear hcl hbl
      generalize zs.getD k 0 = x at hck hbad hOk
      by_cases h1 : x < 0
      · have hB := hide (unhide hbad (fun h => by have := h.1; omega))
        clear hbad hOk
        go_wp2
        go_ret
        exact ⟨by rw [unhide hB]; rfl, rfl⟩
      · by_cases h2 : x ≤ 16777215
        · have hok2 := hide (unhide hOk ⟨by omega, h2⟩)
          clear hbad hOk
          go_wp2
          all_goals
            go_round
            case rel => exact ⟨k + 1, by omega, by go_num, unhide hok2⟩
            case measure => simp [intOf]; omega
        · have hB := hide (unhide hbad (fun h => h2 h.2))
          have h3 : 16777215 < x := by omega
          clear hbad hOk
          go_wp2
          go_ret
          exact ⟨by rw [unhide hB]; rfl, rfl⟩
    · have hkl : k = zs.length := by omega
      subst hkl
      by_cases h2 : zs.length ≤ 256
      · have hs := hide (unhide hGood (unhide hok) h2)
        go_wp2
        go_ret
        exact ⟨by rw [unhide hs]; simp; omega, rfl⟩
      · have hs := hide (unhide hLong (by omega))
        go_wp2
        go_ret
        exact ⟨by rw [unhide hs]; simp; omega, rfl⟩

set_option maxHeartbeats 4000000 in
theorem specL5Note (n : Nt) (w : World) (h1 : n.1.size ≤ 1048576) (h2 : n.2.size ≤ 1048576) :
    Calls Tryd.prog 21 #[.agg #[.string n.1, .string n.2]] w fun e w' => e = .returned (.bool (pB (NoteOk n))) ∧ Upd 0 0 w w' := by
  obtain ⟨s, t⟩ := n
  simp only at h1 h2 ⊢
  have hB := hide (Upd.of_below ((Below.refl w.heap.size w).alloc (Nat.le_refl _) (.cells #[.string s, .string t] 47)) 0 0)
  by_cases hs : 1 ≤ s.size
  · by_cases hs2 : s.size ≤ 40
    · by_cases ht : t.size ≤ 1000
      · have hBad1 : Hid (∀ k, (h : k < s.size) → ¬ ((32 : Int) ≤ ((s[k]'h).toNat : Int) ∧ ((s[k]'h).toNat : Int) ≤ 126) → pB (NoteOk (s, t)) = false) := hide (fun k hk hb => pB_no (fun h => hb (by have := h.1.2 k hk; rw [strB_getD s k hk] at this; exact this)))
        have hBad2 : Hid (∀ k, (h : k < t.size) → ((t[k]'h).toNat : Int) = 0 → pB (NoteOk (s, t)) = false) := hide (fun k hk hb => pB_no (fun h => by have := h.2.2 k hk; rw [strB_getD t k hk] at this; exact this hb))
        have hGood : Hid ((∀ k, (h : k < s.size) → ((32 : Int) ≤ ((s[k]'h).toNat : Int) ∧ ((s[k]'h).toNat : Int) ≤ 126)) → (∀ k, (h : k < t.size) → ¬ ((t[k]'h).toNat : Int) = 0) → pB (NoteOk (s, t)) = true) := hide (fun a b => pB_yes ⟨⟨⟨hs, hs2⟩, fun k hk => by rw [strB_getD s k hk]; exact a k hk⟩, ht, fun k hk => by rw [strB_getD t k hk]; exact b k hk⟩)
        go_enter Tryd.func21, Tryd.ntmps21
        go_wp2
        go_loop [3] (fun i => ∃ k : Nat, k ≤ s.size ∧ i = .int .i64 k ∧ Hid (∀ j, (h : j < s.size) → j < k → ((32 : Int) ≤ ((s[j]'h).toNat : Int) ∧ ((s[j]'h).toNat : Int) ≤ 126))) (fun i => s.size - (intOf i).toNat)
        case atStart => exact ⟨0, Nat.zero_le _, rfl, fun j hj hlt => by omega⟩
        case round =>
          obtain ⟨k, hk, rfl, hok⟩ := hrel
          by_cases hlt : k < s.size
          · have hb := hide (unhide hBad1 k hlt)
            have ho := hide (fun (h : (32 : Int) ≤ ((s[k]'hlt).toNat : Int) ∧ ((s[k]'hlt).toNat : Int) ≤ 126) => show ∀ j, (h : j < s.size) → j < k + 1 → ((32 : Int) ≤ ((s[j]'h).toNat : Int) ∧ ((s[j]'h).toNat : Int) ≤ 126) from fun j hj hjk => by
              rcases Nat.lt_or_eq_of_le (Nat.le_of_lt_succ hjk) with h' | h'
              · exact unhide hok j hj h'
              · subst h'; exact h)
            by_cases c1 : ((s[k]'hlt).toNat : Int) < 32
            · have hb2 := hide (unhide hb (by omega))
              clear hb ho
              go_wp2
              go_ret
              exact ⟨by rw [unhide hb2]; rfl, unhide hB⟩
            · by_cases c2 : ((s[k]'hlt).toNat : Int) ≤ 126
              · have ho2 := hide (unhide ho ⟨by omega, c2⟩)
                clear hb ho
                go_wp2
                go_round
                case rel => exact ⟨k + 1, by omega, by go_num, unhide ho2⟩
                case measure => simp [intOf]; omega
              · have hb2 := hide (unhide hb (by omega))
                have c3 : (126 : Int) < ((s[k]'hlt).toNat : Int) := by omega
                clear hb ho
                go_wp2
                go_ret
                exact ⟨by rw [unhide hb2]; rfl, unhide hB⟩
          · have hkl : k = s.size := by omega
            subst hkl
            have hall := hide (unhide hGood (fun j h => unhide hok j h h))
            clear hok
            go_wp2
            go_loop [4] (fun i => ∃ k : Nat, k ≤ t.size ∧ i = .int .i64 k ∧ Hid (∀ j, (h : j < t.size) → j < k → ¬ ((t[j]'h).toNat : Int) = 0)) (fun i => t.size - (intOf i).toNat)
            case atStart => exact ⟨0, Nat.zero_le _, rfl, fun j hj hlt => by omega⟩
            case round =>
              obtain ⟨k, hk, rfl, hok⟩ := hrel
              by_cases hlt : k < t.size
              · have hb := hide (unhide hBad2 k hlt)
                have ho := hide (fun (h : ¬ ((t[k]'hlt).toNat : Int) = 0) => show ∀ j, (h : j < t.size) → j < k + 1 → ¬ ((t[j]'h).toNat : Int) = 0 from fun j hj hjk => by
                  rcases Nat.lt_or_eq_of_le (Nat.le_of_lt_succ hjk) with h' | h'
                  · exact unhide hok j hj h'
                  · subst h'; exact h)
                by_cases c1 : ((t[k]'hlt).toNat : Int) = 0
                · have hb2 := hide (unhide hb c1)
                  have q : (((t[k]'hlt).toNat : Int) == 0) = true := by rw [c1]; rfl
                  clear hb ho
                  go_wp2
                  go_ret
                  exact ⟨by rw [unhide hb2]; rfl, unhide hB⟩
                · have ho2 := hide (unhide ho c1)
                  have q : (((t[k]'hlt).toNat : Int) == 0) = false := by simpa using c1
                  clear hb ho
                  go_wp2
                  go_round
                  case rel => exact ⟨k + 1, by omega, by go_num, unhide ho2⟩
                  case measure => simp [intOf]; omega
              · have hkl : k = t.size := by omega
                subst hkl
                have hg := hide (unhide hall (fun j h => unhide hok j h h))
                clear hok
                go_wp2
                go_ret
                exact ⟨by rw [unhide hg]; rfl, unhide hB⟩
      · have hE := hide (pB_no (p := NoteOk (s, t)) (fun h => ht h.2.1))
        go_enter Tryd.func21, Tryd.ntmps21
        have h3 : 1000 < t.size := by omega
        go_wp2
        go_ret
        exact ⟨by rw [unhide hE]; rfl, unhide hB⟩
    · have hE := hide (pB_no (p := NoteOk (s, t)) (fun h => hs2 h.1.1.2))
      have h3 : 40 < s.size := by omega
      go_enter Tryd.func21, Tryd.ntmps21
      go_wp2
      go_ret
      exact ⟨by rw [unhide hE]; rfl, unhide hB⟩
  · have hE := hide (pB_no (p := NoteOk (s, t)) (fun h => hs h.1.1.1))
    have h3 : (s.size : Int) < 1 := by omega
    go_enter Tryd.func21, Tryd.ntmps21
    go_wp2
    go_ret
    exact ⟨by rw [unhide hE]; rfl, unhide hB⟩

set_option maxHeartbeats 1000000 in
theorem specL5RowBytes (a b p d : Int) (ad : Option Addr) (n cap : Nat) (w : World) (ha : 1 ≤ a ∧ a ≤ 512) (hp : 1 ≤ p ∧ p ≤ 4) (hd : 1 ≤ d ∧ d ≤ 16) :
    Calls Tryd.prog 40 #[.agg #[.int .i64 a, .int .i64 b, .int .i64 p, .int .i64 d, .slice ad n cap]] w fun e w' => e = .returned (.int .i64 (rowOf a p d)) ∧ Upd 0 0 w w' := by
  obtain ⟨x, y, hx, hy, hx1, hy1, hy2, hr⟩ := rowOf_bd ha hp hd
  have hB := hide (Upd.of_below ((Below.refl w.heap.size w).alloc (Nat.le_refl _) (.cells #[.int .i64 a, .int .i64 b, .int .i64 p, .int .i64 d, .slice ad n cap] 30)) 0 0)
  obtain ⟨x1, x2⟩ := hx1
  rw [hr]
  clear hr
  go_enter Tryd.func40, Tryd.ntmps40
  go_wp2
  go_ret
  exact ⟨by simp, unhide hB⟩
end Go.Proofs.YthkppcncajmniaaDoor

/- The walk of the specification's test of sides. -/
namespace Go.Proofs.YthkppcncajmniaaDoor
open Go.RowKit

set_option maxHeartbeats 1000000 in
theorem specL4Sides (a b : Int) (w : World) : Calls Tryd.prog 37 #[.int .i64 a, .int .i64 b] w fun e w' => e = .returned (.bool (sidesB a b)) ∧ w' = w := by
  by_cases ha : 1 ≤ a ∧ a ≤ 512
  · have hE : sidesB a b = sideB b := by unfold sidesB; rw [sideB_yes ha]; rfl
    rw [hE]
    obtain ⟨a1, a2⟩ := ha
    by_cases hb : 1 ≤ b ∧ b ≤ 512
    · rw [sideB_yes hb]
      obtain ⟨b1, b2⟩ := hb
      clear hE
      go_enter Tryd.func37, Tryd.ntmps37
      go_wp2
      go_ret
      exact ⟨rfl, rfl⟩
    · rw [sideB_no hb]
      clear hE
      by_cases h1 : b < 1
      · have q1 : decide (1 ≤ b) = false := by simp; omega
        clear hb
        go_enter Tryd.func37, Tryd.ntmps37
        go_wp2
        go_ret
        exact ⟨rfl, rfl⟩
      · have q1 : decide (1 ≤ b) = true := by simp; omega
        have q2 : decide (b ≤ 512) = false := by simp; omega
        clear hb
        go_enter Tryd.func37, Tryd.ntmps37
        go_wp2
        go_ret
        exact ⟨rfl, rfl⟩
  · have hE : sidesB a b = false := by unfold sidesB; rw [sideB_no ha]; rfl
    rw [hE]
    clear hE
    by_cases h1 : a < 1
    · have q1 : decide (1 ≤ a) = false := by simp; omega
      clear ha
      go_enter Tryd.func37, Tryd.ntmps37
      go_wp2
      go_ret
      exact ⟨rfl, rfl⟩
    · have q1 : decide (1 ≤ a) = true := by simp; omega
      have q2 : decide (a ≤ 512) = false := by simp; omega
      clear ha
      go_enter Tryd.func37, Tryd.ntmps37
      go_wp2
      go_ret
      exact ⟨rfl, rfl⟩

end Go.Proofs.YthkppcncajmniaaDoor
