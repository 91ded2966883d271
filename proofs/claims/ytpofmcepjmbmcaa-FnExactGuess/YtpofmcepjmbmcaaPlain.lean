/- Plain arithmetic and lists behind chapter 1: what a check sum is after some bytes, what folding and unfolding a number gives, what the bits of words are; no program is named here. -/
import Derived.Laws.BitsAll
import Derived.WalkKit
namespace Go.Proofs.Ytpofmcepjmbmcaa
open Go.RowKit

theorem take_snoc_getD {α : Type} (zs : List α) (d : α) (k : Nat) (h : k < zs.length) : zs.take (k + 1) = zs.take k ++ [zs.getD k d] := by
  rw [List.take_succ_eq_append_getElem h, List.getD_eq_getElem?_getD, List.getElem?_eq_getElem h]; rfl

theorem hide {p : Prop} (h : p) : Hid p := h
theorem unhide {p : Prop} (h : Hid p) : p := h
theorem ret_int {k : IntKind} {a b : Int} (h : a = b) : Ending.returned (.int k a) = .returned (.int k b) := by rw [h]

/-! ### Adler -/
def adStep (p : Int × Int) (x : Int) : Int × Int := ((p.1 + x) % 65521, (p.2 + (p.1 + x) % 65521) % 65521)
def adTo (zs : List Int) (k : Nat) : Int × Int := (zs.take k).foldl adStep (1, 0)
def adlerF (zs : List Int) : Int := (65536 * (adTo zs zs.length).2 + (adTo zs zs.length).1) % 4294967296
theorem adTo_succ (zs : List Int) (k : Nat) (h : k < zs.length) : adTo zs (k + 1) = adStep (adTo zs k) (zs.getD k 0) := by
  unfold adTo; rw [take_snoc_getD zs 0 k h, List.foldl_append]; rfl
theorem adTo_succ1 (zs : List Int) (k : Nat) (h : k < zs.length) : (adTo zs (k + 1)).1 = ((adTo zs k).1 + zs.getD k 0) % 65521 := by rw [adTo_succ zs k h]; rfl
theorem adTo_succ2 (zs : List Int) (k : Nat) (h : k < zs.length) : (adTo zs (k + 1)).2 = ((adTo zs k).2 + ((adTo zs k).1 + zs.getD k 0) % 65521) % 65521 := by rw [adTo_succ zs k h]; rfl
theorem adStep_bd (p : Int × Int) (x : Int) : (0 ≤ (adStep p x).1 ∧ (adStep p x).1 < 65521) ∧ 0 ≤ (adStep p x).2 ∧ (adStep p x).2 < 65521 := by
  unfold adStep; simp only; omega
theorem adTo_bd (zs : List Int) (k : Nat) : (0 ≤ (adTo zs k).1 ∧ (adTo zs k).1 < 65521) ∧ 0 ≤ (adTo zs k).2 ∧ (adTo zs k).2 < 65521 := by
  unfold adTo
  rcases List.eq_nil_or_concat (zs.take k) with h | ⟨l, x, h⟩
  · rw [h]; simp
  · rw [h, List.concat_eq_append, List.foldl_append]; exact adStep_bd _ _

/-! ### Crc -/
def crcBit (r : Nat) : Nat := if r % 2 = 1 then (r / 2) ^^^ 3988292384 else r / 2
def crcIt : Nat → Nat → Nat
  | 0, r => r
  | m + 1, r => crcBit (crcIt m r)
def crcStep (r : Nat) (x : Int) : Nat := crcIt 8 (r ^^^ x.toNat)
def crcTo (zs : List Int) (k : Nat) : Nat := (zs.take k).foldl (fun r x => crcIt 8 (r ^^^ (x.toNat % 256))) 4294967295
def crcF (zs : List Int) : Int := 4294967295 - (crcTo zs zs.length : Nat)
theorem crcBit_lt (r : Nat) (h : r < 4294967296) : crcBit r < 4294967296 := by
  unfold crcBit; split
  · exact Nat.xor_lt_two_pow (n := 32) (by omega) (by omega)
  · omega
theorem crcIt_lt (m r : Nat) (h : r < 4294967296) : crcIt m r < 4294967296 := by
  induction m with
  | zero => exact h
  | succ m ih => exact crcBit_lt _ ih
theorem u32_and_one (y : Nat) (h : y < 4294967296) : bits .and .u32 (y : Int) 1 = ((y % 2 : Nat) : Int) := by go_bits2
theorem crcBit_odd (y : Nat) (h : y < 4294967296) (ho : y % 2 = 1) : bits .xor .u32 ((y : Int) / 2) 3988292384 = (crcBit y : Nat) := by
  have := u32_xor_nat (y / 2) 3988292384 (by omega) (by omega)
  unfold crcBit; rw [if_pos ho, ← this]; rfl
theorem crcBit_even (y : Nat) (ho : ¬ y % 2 = 1) : (y : Int) / 2 = (crcBit y : Nat) := by
  unfold crcBit; rw [if_neg ho]; omega
theorem crcTo_succ (zs : List Int) (k : Nat) (h : k < zs.length) : crcTo zs (k + 1) = crcIt 8 (crcTo zs k ^^^ ((zs.getD k 0).toNat % 256)) := by
  unfold crcTo; rw [take_snoc_getD zs 0 k h, List.foldl_append]; rfl
theorem crcTo_lt (zs : List Int) (k : Nat) : crcTo zs k < 4294967296 := by
  unfold crcTo
  generalize zs.take k = l
  suffices H : ∀ r, r < 4294967296 → l.foldl (fun r x => crcIt 8 (r ^^^ (x.toNat % 256))) r < 4294967296 from H _ (by omega)
  induction l with
  | nil => intro r h; exact h
  | cons x l ih => intro r h; exact ih _ (crcIt_lt _ _ (Nat.xor_lt_two_pow (n := 32) (by omega) (by omega)))

theorem xor_half (a b : Nat) : (a ^^^ b) / 2 = a / 2 ^^^ b / 2 := Nat.xor_div_two_pow (n := 1)
theorem xor_par (a b : Nat) : (a ^^^ b) % 2 = (a % 2 ^^^ b % 2) := Nat.xor_mod_two_pow (n := 1)
theorem crcBit_xor (a b : Nat) : crcBit (a ^^^ b) = crcBit a ^^^ crcBit b := by
  unfold crcBit
  rw [xor_par, xor_half]
  rcases Nat.mod_two_eq_zero_or_one a with ha | ha <;> rcases Nat.mod_two_eq_zero_or_one b with hb | hb
  · rw [ha, hb]; simp
  · rw [ha, hb]; simp only [show ((0 : Nat) ^^^ 1) = 1 from rfl, if_true, show ¬ ((0 : Nat) = 1) by omega, if_false]
    rw [Nat.xor_assoc]
  · rw [ha, hb]; simp only [show ((1 : Nat) ^^^ 0) = 1 from rfl, if_true, show ¬ ((0 : Nat) = 1) by omega, if_false]
    rw [Nat.xor_assoc, Nat.xor_assoc, Nat.xor_comm (b / 2)]
  · rw [ha, hb]; simp only [show ((1 : Nat) ^^^ 1) = 0 from rfl, if_true, show ¬ ((0 : Nat) = 1) by omega, if_false]
    rw [Nat.xor_assoc, ← Nat.xor_assoc 3988292384 (b / 2), Nat.xor_comm 3988292384 (b / 2), Nat.xor_assoc (b / 2), Nat.xor_self, Nat.xor_zero]
theorem crcIt_xor (m a b : Nat) : crcIt m (a ^^^ b) = crcIt m a ^^^ crcIt m b := by
  induction m with
  | zero => rfl
  | succ m ih => show crcBit _ = crcBit _ ^^^ crcBit _; rw [ih, crcBit_xor]
theorem crcIt_shift (m h : Nat) : crcIt m (2 ^ m * h) = h := by
  induction m generalizing h with
  | zero => show 2 ^ 0 * h = h; omega
  | succ m ih =>
    show crcBit (crcIt m (2 ^ (m + 1) * h)) = h
    rw [Nat.pow_succ, Nat.mul_assoc, ih]
    unfold crcBit; rw [if_neg (by omega)]; omega
theorem split_xor (r : Nat) : r = (256 * (r / 256)) ^^^ (r % 256) := by
  have h1 : ((256 * (r / 256)) ^^^ (r % 256)) / 256 = (256 * (r / 256)) / 256 ^^^ (r % 256) / 256 := Nat.xor_div_two_pow (n := 8)
  have h2 : ((256 * (r / 256)) ^^^ (r % 256)) % 256 = (256 * (r / 256)) % 256 ^^^ (r % 256) % 256 := Nat.xor_mod_two_pow (n := 8)
  rw [show 256 * (r / 256) / 256 = r / 256 by omega, show r % 256 / 256 = 0 by omega, Nat.xor_zero] at h1
  rw [show 256 * (r / 256) % 256 = 0 by omega, show r % 256 % 256 = r % 256 by omega, Nat.zero_xor] at h2
  omega
theorem crc_table (r x : Nat) : crcIt 8 (r ^^^ x) = r / 256 ^^^ crcIt 8 ((r % 256) ^^^ x) := by
  have h := crcIt_shift 8 (r / 256)
  rw [show (2 : Nat) ^ 8 = 256 from rfl] at h
  have e : r ^^^ x = (256 * (r / 256)) ^^^ ((r % 256) ^^^ x) := by
    rw [← Nat.xor_assoc, ← split_xor r]
  rw [e, crcIt_xor, h]
theorem nat_xor_ones32 (x : Nat) (h : x < 4294967296) : 4294967295 ^^^ x = 4294967295 - x := by
  have e : (BitVec.allOnes 32 ^^^ BitVec.ofNat 32 x).toNat = 4294967295 - x := by
    rw [BitVec.allOnes_xor, BitVec.toNat_not, BitVec.toNat_ofNat, Nat.mod_eq_of_lt (by omega)]
  rw [← e, BitVec.toNat_xor, BitVec.toNat_ofNat, Nat.mod_eq_of_lt (by omega), BitVec.toNat_allOnes]
theorem crcF_bits (zs : List Int) : bits .xor .u32 4294967295 (crcTo zs zs.length : Nat) = crcF zs := by
  have hb := crcTo_lt zs zs.length
  have := u32_xor_nat 4294967295 (crcTo zs zs.length) (by omega) hb
  rw [nat_xor_ones32 _ hb] at this
  unfold crcF
  rw [show (4294967295 : Int) - (crcTo zs zs.length : Nat) = ((4294967295 - crcTo zs zs.length : Nat) : Int) by omega, ← this]; rfl

/-! ### Fold, Unfold -/
def foldF (n : Int) : Int := if n < 0 then -2 * n - 1 else 2 * n
def unfoldF (n : Int) : Int := if n % 2 = 1 then -(n / 2) - 1 else n / 2
theorem nat_xor_ones (x : Nat) (h : x < 18446744073709551616) : x ^^^ 18446744073709551615 = 18446744073709551615 - x := by
  have e : (BitVec.ofNat 64 x ^^^ BitVec.allOnes 64).toNat = 18446744073709551615 - x := by
    rw [BitVec.xor_allOnes, BitVec.toNat_not, BitVec.toNat_ofNat, Nat.mod_eq_of_lt (by omega)]
  rw [← e, BitVec.toNat_xor, BitVec.toNat_ofNat, Nat.mod_eq_of_lt (by omega), BitVec.toNat_allOnes]
theorem fold_bits (n : Int) (h0 : -9223372036854775808 ≤ n) (h1 : n ≤ 9223372036854775807) :
    bits .xor .u64 (IntKind.u64.wrap (wrap64 (n * 2))) (IntKind.u64.wrap (n / 9223372036854775808)) = foldF n := by
  rw [IntKind.wrap_u64, IntKind.wrap_u64]
  unfold foldF
  rw [u64_xor _ _ (by omega) (by omega) (by omega) (by omega)]
  split
  · have e1 : (wrap64 (n * 2) % 18446744073709551616).toNat = (2 * n + 18446744073709551616).toNat := by unfold wrap64; omega
    have e2 : (n / 9223372036854775808 % 18446744073709551616).toNat = 18446744073709551615 := by omega
    rw [e1, e2, nat_xor_ones _ (by omega)]; omega
  · have e1 : (wrap64 (n * 2) % 18446744073709551616).toNat = (2 * n).toNat := by unfold wrap64; omega
    have e2 : (n / 9223372036854775808 % 18446744073709551616).toNat = 0 := by omega
    rw [e1, e2, Nat.xor_zero]; omega
theorem unfold_bits (n : Int) (h0 : 0 ≤ n) (h1 : n ≤ 18446744073709551615) :
    bits .xor .i64 (n / 2) (wrap64 (-wrap64 (bits .and .u64 n 1))) = unfoldF n := by
  have e : bits .and .u64 n 1 = n % 2 := by go_bits2
  rw [e]
  unfold unfoldF
  obtain ⟨m, hm⟩ := Int.eq_ofNat_of_zero_le (show 0 ≤ n / 2 by omega)
  split
  · have e1 : wrap64 (-wrap64 (n % 2)) = -1 := by unfold wrap64; omega
    rw [e1, hm]
    show IntKind.i64.wrap ((BitVec.ofInt 64 (m : Int) ^^^ BitVec.ofInt 64 (-1)).toNat : Int) = _
    have e3 : BitVec.ofInt 64 (-1) = BitVec.allOnes 64 := by decide
    rw [e3, BitVec.xor_allOnes, BitVec.toNat_not, ofInt_u64 m (by omega)]
    simp [IntKind.wrap, IntKind.bits, IntKind.signed]
    omega
  · have e1 : wrap64 (-wrap64 (n % 2)) = 0 := by unfold wrap64; omega
    rw [e1, hm]
    show IntKind.i64.wrap ((BitVec.ofInt 64 (m : Int) ^^^ BitVec.ofInt 64 0).toNat : Int) = _
    have e3 : BitVec.ofInt 64 0 = 0#64 := by decide
    rw [e3, BitVec.xor_zero, ofInt_u64 m (by omega)]
    simp [IntKind.wrap, IntKind.bits, IntKind.signed]
    omega
end Go.Proofs.Ytpofmcepjmbmcaa
