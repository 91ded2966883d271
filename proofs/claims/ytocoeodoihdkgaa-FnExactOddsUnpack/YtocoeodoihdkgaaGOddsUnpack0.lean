/- The texts behind FnExactOddsUnpack, part 0: what each of them says stands at its head. -/
import Derived.Laws.BitsAll
import Derived.WalkKit
import Derived.Lib.BitFns
import Derived.Test.YtocoeodoihdkgaaRows
import Derived.WalkSpells
import Derived.WalkLawsBesides
import Derived.BigQuiet
import Derived.Deep.QuietTactic
import Derived.Deep.RegionWith
import Derived.Maps.AppendAt
import Derived.RangeFuncBox
import Derived.BigRegion
import Derived.Deep.RegionHeld
import Derived.Deep.RegionHeld3
import Derived.StillTailTactics
/- Plain arithmetic and lists behind chapter 1: what a check sum is after some bytes, what folding and unfolding a number gives, what the bits of words are; no program is named here. -/
namespace Go.Proofs.Ytocoeodoihdkgaa
open Go.RowKit

theorem take_snoc_getD {α : Type} (zs : List α) (d : α) (k : Nat) (h : k < zs.length) : zs.take (k + 1) = zs.take k ++ [zs.getD k d] := by
  rw [List.take_succ_eq_append_getElem h, List.getD_eq_getElem?_getD, List.getElem?_eq_getElem h]; rfl

theorem hide {p : Prop} (h : p) : Hid p := h
theorem unhide {p : Prop} (h : Hid p) : p := h
theorem ret_int {k : IntKind} {a b : Int} (h : a = b) : Ending.returned (.int k a) = .returned (.int k b) := by rw [h]

/-! ### Adler -/
def adStep (p : Int × Int) (x : Int) : Int × Int := ((p.1 + x) % 65521, (p.2 + (p.1 + x) % 65521) % 65521)
def adTo (zs : List Int) (k : Nat) : Int × Int := (zs.take k).foldl adStep (1, 0)
def adlerF (zs : List Int) : Int := (65536 * (adTo zs zs.length).2 + (adTo zs zs.length).1) % 4294967296
theorem adTo_succ (zs : List Int) (k : Nat) (h : k < zs.length) : adTo zs (k + 1) = adStep (adTo zs k) (zs.getD k 0) := by
  unfold adTo; rw [take_snoc_getD zs 0 k h, List.foldl_append]; rfl
theorem adTo_succ1 (zs : List Int) (k : Nat) (h : k < zs.length) : (adTo zs (k + 1)).1 = ((adTo zs k).1 + zs.getD k 0) % 65521 := by rw [adTo_succ zs k h]; rfl
theorem adTo_succ2 (zs : List Int) (k : Nat) (h : k < zs.length) : (adTo zs (k + 1)).2 = ((adTo zs k).2 + ((adTo zs k).1 + zs.getD k 0) % 65521) % 65521 := by rw [adTo_succ zs k h]; rfl
theorem adStep_bd (p : Int × Int) (x : Int) : (0 ≤ (adStep p x).1 ∧ (adStep p x).1 < 65521) ∧ 0 ≤ (adStep p x).2 ∧ (adStep p x).2 < 65521 := by
  unfold adStep; simp only; omega
theorem adTo_bd (zs : List Int) (k : Nat) : (0 ≤ (adTo zs k).1 ∧ (adTo zs k).1 < 65521) ∧ 0 ≤ (adTo zs k).2 ∧ (adTo zs k).2 < 65521 := by
  unfold adTo
  rcases List.eq_nil_or_concat (zs.take k) with h | ⟨l, x, h⟩
  · rw [h]; simp
  · rw [h, List.concat_eq_append, List.foldl_append]; exact adStep_bd _ _

/-! ### Crc -/
def crcBit (r : Nat) : Nat := if r % 2 = 1 then (r / 2) ^^^ 3988292384 else r / 2
def crcIt : Nat → Nat → Nat
  | 0, r => r
  | m + 1, r => crcBit (crcIt m r)
def crcStep (r : Nat) (x : Int) : Nat := crcIt 8 (r ^^^ x.toNat)
def crcTo (zs : List Int) (k : Nat) : Nat := (zs.take k).foldl (fun r x => crcIt 8 (r ^^^ (x.toNat % 256))) 4294967295
def crcF (zs : List Int) : Int := 4294967295 - (crcTo zs zs.length : Nat)
theorem crcBit_lt (r : Nat) (h : r < 4294967296) : crcBit r < 4294967296 := by
  unfold crcBit; split
  · exact Nat.xor_lt_two_pow (n := 32) (by omega) (by omega)
  · omega
theorem crcIt_lt (m r : Nat) (h : r < 4294967296) : crcIt m r < 4294967296 := by
  induction m with
  | zero => exact h
  | succ m ih => exact crcBit_lt _ ih
theorem u32_and_one (y : Nat) (h : y < 4294967296) : bits .and .u32 (y : Int) 1 = ((y % 2 : Nat) : Int) := by go_bits2
theorem crcBit_odd (y : Nat) (h : y < 4294967296) (ho : y % 2 = 1) : bits .xor .u32 ((y : Int) / 2) 3988292384 = (crcBit y : Nat) := by
  have := u32_xor_nat (y / 2) 3988292384 (by omega) (by omega)
  unfold crcBit; rw [if_pos ho, ← this]; rfl
theorem crcBit_even (y : Nat) (ho : ¬ y % 2 = 1) : (y : Int) / 2 = (crcBit y : Nat) := by
  unfold crcBit; rw [if_neg ho]; omega
theorem crcTo_succ (zs : List Int) (k : Nat) (h : k < zs.length) : crcTo zs (k + 1) = crcIt 8 (crcTo zs k ^^^ ((zs.getD k 0).toNat % 256)) := by
  unfold crcTo; rw [take_snoc_getD zs 0 k h, List.foldl_append]; rfl
theorem crcTo_lt (zs : List Int) (k : Nat) : crcTo zs k < 4294967296 := by
  unfold crcTo
  generalize zs.take k = l
  suffices H : ∀ r, r < 4294967296 → l.foldl (fun r x => crcIt 8 (r ^^^ (x.toNat % 256))) r < 4294967296 from H _ (by omega)
  induction l with
  | nil => intro r h; exact h
  | cons x l ih => intro r h; exact ih _ (crcIt_lt _ _ (Nat.xor_lt_two_pow (n := 32) (by omega) (by omega)))

theorem xor_half (a b : Nat) : (a ^^^ b) / 2 = a / 2 ^^^ b / 2 := Nat.xor_div_two_pow (n := 1)
theorem xor_par (a b : Nat) : (a ^^^ b) % 2 = (a % 2 ^^^ b % 2) := Nat.xor_mod_two_pow (n := 1)
theorem crcBit_xor (a b : Nat) : crcBit (a ^^^ b) = crcBit a ^^^ crcBit b := by
  unfold crcBit
  rw [xor_par, xor_half]
  rcases Nat.mod_two_eq_zero_or_one a with ha | ha <;> rcases Nat.mod_two_eq_zero_or_one b with hb | hb
  · rw [ha, hb]; simp
  · rw [ha, hb]; simp only [show ((0 : Nat) ^^^ 1) = 1 from rfl, if_true, show ¬ ((0 : Nat) = 1) by omega, if_false]
    rw [Nat.xor_assoc]
  · rw [ha, hb]; simp only [show ((1 : Nat) ^^^ 0) = 1 from rfl, if_true, show ¬ ((0 : Nat) = 1) by omega, if_false]
    rw [Nat.xor_assoc, Nat.xor_assoc, Nat.xor_comm (b / 2)]
  · rw [ha, hb]; simp only [show ((1 : Nat) ^^^ 1) = 0 from rfl, if_true, show ¬ ((0 : Nat) = 1) by omega, if_false]
    rw [Nat.xor_assoc, ← Nat.xor_assoc 3988292384 (b / 2), Nat.xor_comm 3988292384 (b / 2), Nat.xor_assoc (b / 2), Nat.xor_self, Nat.xor_zero]
theorem crcIt_xor (m a b : Nat) : crcIt m (a ^^^ b) = crcIt m a ^^^ crcIt m b := by
  induction m with
  | zero => rfl
  | succ m ih => show crcBit _ = crcBit _ ^^^ crcBit _; rw [ih, crcBit_xor]
theorem crcIt_shift (m h : Nat) : crcIt m (2 ^ m * h) = h := by
  induction m generalizing h with
  | zero => show 2 ^ 0 * h = h; omega
  | succ m ih =>
    show crcBit (crcIt m (2 ^ (m + 1) * h)) = h
    rw [Nat.pow_succ, Nat.mul_assoc, ih]
    unfold crcBit; rw [if_neg (by omega)]; omega
theorem split_xor (r : Nat) : r = (256 * (r / 256)) ^^^ (r % 256) := by
  have h1 : ((256 * (r / 256)) ^^^ (r % 256)) / 256 = (256 * (r / 256)) / 256 ^^^ (r % 256) / 256 := Nat.xor_div_two_pow (n := 8)
  have h2 : ((256 * (r / 256)) ^^^ (r % 256)) % 256 = (256 * (r / 256)) % 256 ^^^ (r % 256) % 256 := Nat.xor_mod_two_pow (n := 8)
  rw [show 256 * (r / 256) / 256 = r / 256 by omega, show r % 256 / 256 = 0 by omega, Nat.xor_zero] at h1
  rw [show 256 * (r / 256) % 256 = 0 by omega, show r % 256 % 256 = r % 256 by omega, Nat.zero_xor] at h2
  omega
theorem crc_table (r x : Nat) : crcIt 8 (r ^^^ x) = r / 256 ^^^ crcIt 8 ((r % 256) ^^^ x) := by
  have h := crcIt_shift 8 (r / 256)
  rw [show (2 : Nat) ^ 8 = 256 from rfl] at h
  have e : r ^^^ x = (256 * (r / 256)) ^^^ ((r % 256) ^^^ x) := by
    rw [← Nat.xor_assoc, ← split_xor r]
  rw [e, crcIt_xor, h]
theorem nat_xor_ones32 (x : Nat) (h : x < 4294967296) : 4294967295 ^^^ x = 4294967295 - x := by
  have e : (BitVec.allOnes 32 ^^^ BitVec.ofNat 32 x).toNat = 4294967295 - x := by
    rw [BitVec.allOnes_xor, BitVec.toNat_not, BitVec.toNat_ofNat, Nat.mod_eq_of_lt (by omega)]
  rw [← e, BitVec.toNat_xor, BitVec.toNat_ofNat, Nat.mod_eq_of_lt (by omega), BitVec.toNat_allOnes]
theorem crcF_bits (zs : List Int) : bits .xor .u32 4294967295 (crcTo zs zs.length : Nat) = crcF zs := by
  have hb := crcTo_lt zs zs.length
  have := u32_xor_nat 4294967295 (crcTo zs zs.length) (by omega) hb
  rw [nat_xor_ones32 _ hb] at this
  unfold crcF
  rw [show (4294967295 : Int) - (crcTo zs zs.length : Nat) = ((4294967295 - crcTo zs zs.length : Nat) : Int) by omega, ← this]; rfl

/-! ### Fold, Unfold -/
def foldF (n : Int) : Int := if n < 0 then -2 * n - 1 else 2 * n
def unfoldF (n : Int) : Int := if n % 2 = 1 then -(n / 2) - 1 else n / 2
theorem nat_xor_ones (x : Nat) (h : x < 18446744073709551616) : x ^^^ 18446744073709551615 = 18446744073709551615 - x := by
  have e : (BitVec.ofNat 64 x ^^^ BitVec.allOnes 64).toNat = 18446744073709551615 - x := by
    rw [BitVec.xor_allOnes, BitVec.toNat_not, BitVec.toNat_ofNat, Nat.mod_eq_of_lt (by omega)]
  rw [← e, BitVec.toNat_xor, BitVec.toNat_ofNat, Nat.mod_eq_of_lt (by omega), BitVec.toNat_allOnes]
theorem fold_bits (n : Int) (h0 : -9223372036854775808 ≤ n) (h1 : n ≤ 9223372036854775807) :
    bits .xor .u64 (IntKind.u64.wrap (wrap64 (n * 2))) (IntKind.u64.wrap (n / 9223372036854775808)) = foldF n := by
  rw [IntKind.wrap_u64, IntKind.wrap_u64]
  unfold foldF
  rw [u64_xor _ _ (by omega) (by omega) (by omega) (by omega)]
  split
  · have e1 : (wrap64 (n * 2) % 18446744073709551616).toNat = (2 * n + 18446744073709551616).toNat := by unfold wrap64; omega
    have e2 : (n / 9223372036854775808 % 18446744073709551616).toNat = 18446744073709551615 := by omega
    rw [e1, e2, nat_xor_ones _ (by omega)]; omega
  · have e1 : (wrap64 (n * 2) % 18446744073709551616).toNat = (2 * n).toNat := by unfold wrap64; omega
    have e2 : (n / 9223372036854775808 % 18446744073709551616).toNat = 0 := by omega
    rw [e1, e2, Nat.xor_zero]; omega
theorem unfold_bits (n : Int) (h0 : 0 ≤ n) (h1 : n ≤ 18446744073709551615) :
    bits .xor .i64 (n / 2) (wrap64 (-wrap64 (bits .and .u64 n 1))) = unfoldF n := by
  have e : bits .and .u64 n 1 = n % 2 := by go_bits2
  rw [e]
  unfold unfoldF
  obtain ⟨m, hm⟩ := Int.eq_ofNat_of_zero_le (show 0 ≤ n / 2 by omega)
  split
  · have e1 : wrap64 (-wrap64 (n % 2)) = -1 := by unfold wrap64; omega
    rw [e1, hm]
    show IntKind.i64.wrap ((BitVec.ofInt 64 (m : Int) ^^^ BitVec.ofInt 64 (-1)).toNat : Int) = _
    have e3 : BitVec.ofInt 64 (-1) = BitVec.allOnes 64 := by decide
    rw [e3, BitVec.xor_allOnes, BitVec.toNat_not, ofInt_u64 m (by omega)]
    simp [IntKind.wrap, IntKind.bits, IntKind.signed]
    omega
  · have e1 : wrap64 (-wrap64 (n % 2)) = 0 := by unfold wrap64; omega
    rw [e1, hm]
    show IntKind.i64.wrap ((BitVec.ofInt 64 (m : Int) ^^^ BitVec.ofInt 64 0).toNat : Int) = _
    have e3 : BitVec.ofInt 64 0 = 0#64 := by decide
    rw [e3, BitVec.xor_zero, ofInt_u64 m (by omega)]
    simp [IntKind.wrap, IntKind.bits, IntKind.signed]
    omega
end Go.Proofs.Ytocoeodoihdkgaa

/- Plain: marks of numbers: choices by how many bits a number has; no program is named here. -/
namespace Go.Proofs.Ytocoeodoihdkgaa
open Go.RowKit

theorem bitLen_one : Lib.bitLen 1 = 1 := by decide
/-- A number between 2^b and 2^(b+1) has b + 1 bits. -/
theorem bitLen_between (x b : Nat) (h0 : 2 ^ b ≤ x) (h1 : x < 2 ^ (b + 1)) (hx : x < 2 ^ 64) : Lib.bitLen x = b + 1 := by
  have hp : 0 < 2 ^ b := Nat.two_pow_pos b
  have hq : x / 2 ^ b = 1 := by
    rw [Nat.pow_succ] at h1
    exact Nat.div_eq_of_lt_le (by omega) (by omega)
  rw [Lib.bitLen_shift b x h0 hx, hq, bitLen_one]
theorem exists_between : ∀ x : Nat, 0 < x → ∃ b, 2 ^ b ≤ x ∧ x < 2 ^ (b + 1)
  | 1, _ => ⟨0, by decide, by decide⟩
  | x + 2, _ => by
    obtain ⟨b, h0, h1⟩ := exists_between ((x + 2) / 2) (by omega)
    refine ⟨b + 1, ?_, ?_⟩
    · rw [Nat.pow_succ]; omega
    · rw [Nat.pow_succ]; omega
theorem bitLen_bd (x : Nat) (h0 : 0 < x) (hx : x < 2 ^ 64) : 1 ≤ Lib.bitLen x ∧ 2 ^ (Lib.bitLen x - 1) ≤ x ∧ x < 2 ^ Lib.bitLen x := by
  obtain ⟨b, h1, h2⟩ := exists_between x h0
  rw [bitLen_between x b h1 h2 hx]
  exact ⟨by omega, by simpa using h1, h2⟩

def mkAt (n f : Int) (b j : Nat) : Int × Int :=
  if j < b then (f + j, 1) else if j = b then (f + b, 0) else (f + 20 + ((2 * b - j : Nat) : Int), (n + 1) / 2 ^ (2 * b - j) % 2)
def marksTo (n f : Int) (b k : Nat) : List (Int × Int) := (List.range k).map (mkAt n f b)
@[simp] theorem marksTo_length (n f : Int) (b k : Nat) : (marksTo n f b k).length = k := by simp [marksTo]
theorem marksTo_succ (n f : Int) (b k : Nat) : marksTo n f b (k + 1) = marksTo n f b k ++ [mkAt n f b k] := by simp [marksTo, List.range_succ]
def markBits (n : Int) : Nat := Lib.bitLen (n + 1).toNat - 1
abbrev MkOk (n f : Int) : Prop := 0 ≤ n ∧ n ≤ 65535 ∧ 0 ≤ f ∧ f ≤ 472

def marksL (n f : Int) : List (Int × Int) := marksTo n f (markBits n) (2 * markBits n + 1)
def marksF (n f : Int) : List (Int × Int) := if MkOk n f then marksL n f else []
theorem markBits_bd (n : Int) (h : 0 ≤ n ∧ n ≤ 65535) : 2 ^ markBits n ≤ (n + 1).toNat ∧ (n + 1).toNat < 2 ^ (markBits n + 1) ∧ markBits n ≤ 16 := by
  have h1 := bitLen_bd (n + 1).toNat (by omega) (by omega)
  have h2 : Lib.bitLen (n + 1).toNat - 1 + 1 = Lib.bitLen (n + 1).toNat := by omega
  refine ⟨h1.2.1, ?_, ?_⟩
  · unfold markBits; rw [h2]; exact h1.2.2
  · have : Lib.bitLen (n + 1).toNat ≤ 17 := Lib.bitLen_le _ 17 (by omega) (by omega)
    unfold markBits; omega
/-- The bits are found by shifting. -/
theorem markBits_of (n : Int) (b : Nat) (h : 0 ≤ n ∧ n ≤ 65535) (h0 : 2 ^ b ≤ (n + 1).toNat) (h1 : (n + 1).toNat < 2 ^ (b + 1)) : markBits n = b := by
  unfold markBits; rw [bitLen_between _ b h0 h1 (by omega)]; rfl
theorem marksF_len (n f : Int) : (marksF n f).length ≤ 33 := by
  unfold marksF
  split
  · rename_i h
    have := markBits_bd n ⟨h.1, h.2.1⟩
    unfold marksL; simp; omega
  · simp
theorem marksF_big (n f : Int) : (marksF n f).length ≤ 1048576 := by have := marksF_len n f; omega
theorem mkAt_lt (n f : Int) (b j : Nat) (h : j < b) : mkAt n f b j = (f + j, 1) := by simp [mkAt, h]
theorem mkAt_eq (n f : Int) (b : Nat) : mkAt n f b b = (f + b, 0) := by simp [mkAt]
theorem mkAt_gt (n f : Int) (b i : Nat) (h : i < b) : mkAt n f b (2 * b - i) = (f + 20 + i, (n + 1) / 2 ^ i % 2) := by
  have h1 : ¬ (2 * b - i < b) := by omega
  have h2 : ¬ (2 * b - i = b) := by omega
  have h3 : 2 * b - (2 * b - i) = i := by omega
  simp only [mkAt, if_neg h1, if_neg h2, h3]
end Go.Proofs.Ytocoeodoihdkgaa

/- Plain: odds of places, what choices by them cost; no program is named here. -/
namespace Go.Proofs.Ytocoeodoihdkgaa
open Go.RowKit

/-- Odds behind a bit. -/
def learnF (o b : Int) : Int := if b = 0 then o + (4096 - o) / 32 else o - o / 32
theorem learnF_bd (o b : Int) (h : 31 ≤ o ∧ o ≤ 4065) : 31 ≤ learnF o b ∧ learnF o b ≤ 4065 := by
  unfold learnF; split <;> omega
def oddsSet (s : Int → Int) (c : Int × Int) : Int → Int := fun p => if p = c.1 then learnF (s p) c.2 else s p
/-- The odds of all places behind the first k choices. -/
def oddsK (cs : List (Int × Int)) : Nat → Int → Int
  | 0 => fun _ => 2048
  | k + 1 => oddsSet (oddsK cs k) (cs.getD k (0, 0))
theorem oddsK_succ (cs : List (Int × Int)) (k : Nat) : oddsK cs (k + 1) = oddsSet (oddsK cs k) (cs.getD k (0, 0)) := rfl
theorem oddsK_bd (cs : List (Int × Int)) : ∀ (k : Nat) (p : Int), 31 ≤ oddsK cs k p ∧ oddsK cs k p ≤ 4065
  | 0, p => by simp [oddsK]
  | k + 1, p => by
    have h := oddsK_bd cs k p
    rw [oddsK_succ]
    unfold oddsSet
    split
    · exact learnF_bd _ _ h
    · exact h
/-- What choices may be. -/
def ChsOk (places : Int) (cs : List (Int × Int)) : Prop := ∀ j, j < cs.length → (0 ≤ (cs.getD j (0, 0)).1 ∧ (cs.getD j (0, 0)).1 < places) ∧ 0 ≤ (cs.getD j (0, 0)).2 ∧ (cs.getD j (0, 0)).2 ≤ 1
def chB (places : Int) (c : Int × Int) : Bool := decide (0 ≤ c.1) && decide (c.1 < places) && decide (0 ≤ c.2) && decide (c.2 ≤ 1)
def chsB (places : Int) (cs : List (Int × Int)) : Bool := cs.all (chB places)
theorem chB_iff (places : Int) (c : Int × Int) : chB places c = true ↔ (0 ≤ c.1 ∧ c.1 < places) ∧ 0 ≤ c.2 ∧ c.2 ≤ 1 := by
  simp [chB, and_assoc]
theorem chsB_iff (places : Int) (cs : List (Int × Int)) : chsB places cs = true ↔ ChsOk places cs := by
  unfold chsB ChsOk
  rw [List.all_eq_true]
  constructor
  · intro h j hj
    rw [List.getD_eq_getElem?_getD, List.getElem?_eq_getElem hj]
    exact (chB_iff _ _).1 (h _ (List.getElem_mem hj))
  · intro h c hc
    obtain ⟨j, hj, rfl⟩ := List.mem_iff_getElem.1 hc
    have := h j hj
    rw [List.getD_eq_getElem?_getD, List.getElem?_eq_getElem hj] at this
    exact (chB_iff _ _).2 this
/-- The whole of what both sides ask of places and choices. -/
def oddsB (places : Int) (cs : List (Int × Int)) : Bool := decide (1 ≤ places) && decide (places ≤ 512) && decide (cs.length ≤ 20000) && chsB places cs
theorem oddsB_iff (places : Int) (cs : List (Int × Int)) : oddsB places cs = true ↔ (1 ≤ places ∧ places ≤ 512) ∧ cs.length ≤ 20000 ∧ ChsOk places cs := by
  unfold oddsB
  simp only [Bool.and_eq_true, decide_eq_true_eq, chsB_iff, and_assoc]

/-- L of so many parts. -/
def logF (v : Int) : Int :=
  let u := max v 1
  let b := Lib.bitLen u.toNat - 1
  256 * (8 - (b : Int)) - 256 * (u - 2 ^ b) / 2 ^ b
def partsF (o b : Int) : Int := ((if b = 1 then 4096 - o else o) + 8) / 16
def costF (o b : Int) : Int := logF (partsF o b)
def costK (cs : List (Int × Int)) : Nat → Int
  | 0 => 0
  | k + 1 => costK cs k + costF (oddsK cs k (cs.getD k (0, 0)).1) (cs.getD k (0, 0)).2
theorem costK_succ (cs : List (Int × Int)) (k : Nat) : costK cs (k + 1) = costK cs k + costF (oddsK cs k (cs.getD k (0, 0)).1) (cs.getD k (0, 0)).2 := rfl
def oddsCost (places : Int) (cs : List (Int × Int)) : Int := if oddsB places cs = true then costK cs cs.length else -1
theorem partsF_bd (o b : Int) (h : 31 ≤ o ∧ o ≤ 4065) : 2 ≤ partsF o b ∧ partsF o b ≤ 254 := by
  unfold partsF; split <;> omega
theorem logF_all : ∀ v : Fin 257, 0 ≤ logF v.val ∧ logF v.val ≤ 2048 := by decide +kernel
theorem costF_bd (o b : Int) (h : 31 ≤ o ∧ o ≤ 4065) : 0 ≤ costF o b ∧ costF o b ≤ 2048 := by
  have hb := partsF_bd o b h
  have := logF_all ⟨(partsF o b).toNat, by omega⟩
  have e : (((partsF o b).toNat : Nat) : Int) = partsF o b := by omega
  simp only [e] at this
  exact this
theorem costK_bd (cs : List (Int × Int)) : ∀ k, 0 ≤ costK cs k ∧ costK cs k ≤ 2048 * k
  | 0 => by simp [costK]
  | k + 1 => by
    have h := costK_bd cs k
    have := costF_bd _ (cs.getD k (0, 0)).2 (oddsK_bd cs k (cs.getD k (0, 0)).1)
    rw [costK_succ]
    omega

/-! ### A range, its low end, what was told of it -/
/-- Add 1 to the number that the first k bytes are. -/
def carryTo (xs : List Int) : Nat → List Int
  | 0 => xs
  | k + 1 => if (xs.getD k 0 + 1) % 256 ≠ 0 then xs.set k ((xs.getD k 0 + 1) % 256) else carryTo (xs.set k ((xs.getD k 0 + 1) % 256)) k
theorem carryTo_len : ∀ (k : Nat) (xs : List Int), (carryTo xs k).length = xs.length
  | 0, _ => rfl
  | k + 1, xs => by
    unfold carryTo
    split
    · simp
    · rw [carryTo_len k]; simp
def carryF (xs : List Int) : List Int := carryTo xs xs.length
def carryIf (low : Int) (xs : List Int) : List Int := if 4294967296 ≤ low then carryF xs else xs
theorem carryIf_len (low : Int) (xs : List Int) : (carryIf low xs).length = xs.length := by
  unfold carryIf carryF; split
  · exact carryTo_len _ _
  · rfl
/-- low, range, and what was told, as the document has them: a carry waits in low. -/
structure Rg where
  low : Int
  rng : Int
  out : List Int
def shiftF (r : Rg) : Rg := ⟨r.low % 16777216 * 256, r.rng, carryIf r.low r.out ++ [r.low / 16777216 % 256]⟩
def splitF (rng o : Int) : Int := rng / 4096 * o
def bitF (r : Rg) (o b : Int) : Rg := if b = 0 then ⟨r.low, splitF r.rng o, r.out⟩ else ⟨r.low + splitF r.rng o, r.rng - splitF r.rng o, r.out⟩
def widenF (r : Rg) : Rg := if r.rng < 16777216 then shiftF ⟨r.low, r.rng * 256, r.out⟩ else r
def putF (r : Rg) (o b : Int) : Rg := widenF (bitF r o b)
def rg0 : Rg := ⟨0, 4294967295, []⟩
def rgK (cs : List (Int × Int)) : Nat → Rg
  | 0 => rg0
  | k + 1 => putF (rgK cs k) (oddsK cs k (cs.getD k (0, 0)).1) (cs.getD k (0, 0)).2
theorem rgK_succ (cs : List (Int × Int)) (k : Nat) : rgK cs (k + 1) = putF (rgK cs k) (oddsK cs k (cs.getD k (0, 0)).1) (cs.getD k (0, 0)).2 := rfl
/-- What holds of a range between two choices. -/
structure RgOk (r : Rg) : Prop where
  low0 : 0 ≤ r.low
  rng0 : 16777216 ≤ r.rng
  rng1 : r.rng ≤ 4294967295
  sum : r.low + r.rng ≤ 8589934592
theorem split_bd (rng o : Int) (ho : 31 ≤ o ∧ o ≤ 4065) (h0 : 16777216 ≤ rng) : 65536 ≤ splitF rng o ∧ splitF rng o + 65536 ≤ rng := by
  unfold splitF
  have hq : 4096 ≤ rng / 4096 := by omega
  have h1 : rng / 4096 * 31 ≤ rng / 4096 * o := Int.mul_le_mul_of_nonneg_left ho.1 (by omega)
  have h2 : rng / 4096 * o ≤ rng / 4096 * 4065 := Int.mul_le_mul_of_nonneg_left ho.2 (by omega)
  omega
/-- Behind a choice, ahead of the widening. -/
theorem bitF_bd (r : Rg) (o b : Int) (hr : RgOk r) (ho : 31 ≤ o ∧ o ≤ 4065) :
    0 ≤ (bitF r o b).low ∧ 65536 ≤ (bitF r o b).rng ∧ (bitF r o b).rng ≤ 4294967295 ∧ (bitF r o b).low + (bitF r o b).rng ≤ 8589934592 := by
  have hs := split_bd r.rng o ho hr.rng0
  have := hr.low0; have := hr.rng1; have := hr.sum
  unfold bitF
  split
  · exact ⟨by simp; omega, by simp; omega, by simp; omega, by simp; omega⟩
  · exact ⟨by simp; omega, by simp; omega, by simp; omega, by simp; omega⟩
theorem widenF_ok (r : Rg) (h0 : 0 ≤ r.low) (h1 : 65536 ≤ r.rng) (h2 : r.rng ≤ 4294967295) (h3 : r.low + r.rng ≤ 8589934592) : RgOk (widenF r) := by
  unfold widenF shiftF
  split
  · exact ⟨by simp; omega, by simp; omega, by simp; omega, by simp; omega⟩
  · exact ⟨h0, by omega, h2, h3⟩
theorem putF_ok (r : Rg) (o b : Int) (hr : RgOk r) (ho : 31 ≤ o ∧ o ≤ 4065) : RgOk (putF r o b) := by
  have h := bitF_bd r o b hr ho
  exact widenF_ok _ h.1 h.2.1 h.2.2.1 h.2.2.2
theorem rgK_ok (cs : List (Int × Int)) : ∀ k, RgOk (rgK cs k)
  | 0 => by unfold rgK rg0; exact ⟨by simp, by simp, by simp, by simp⟩
  | k + 1 => putF_ok _ _ _ (rgK_ok cs k) (oddsK_bd cs k _)
theorem bitF_out (r : Rg) (o b : Int) : (bitF r o b).out = r.out := by unfold bitF; split <;> rfl
theorem widenF_len (r : Rg) : (widenF r).out.length ≤ r.out.length + 1 := by
  unfold widenF shiftF; split
  · simp [carryIf_len]
  · omega
theorem rgK_len (cs : List (Int × Int)) : ∀ k, (rgK cs k).out.length ≤ k
  | 0 => by simp [rgK, rg0]
  | k + 1 => by
    have := rgK_len cs k
    have h := widenF_len (bitF (rgK cs k) (oddsK cs k (cs.getD k (0, 0)).1) (cs.getD k (0, 0)).2)
    rw [bitF_out] at h
    rw [rgK_succ]; unfold putF; omega
def shiftsF (r : Rg) : Nat → Rg
  | 0 => r
  | k + 1 => shiftF (shiftsF r k)
theorem shiftsF_succ (r : Rg) (k : Nat) : shiftsF r (k + 1) = shiftF (shiftsF r k) := rfl
theorem shiftsF_len (r : Rg) : ∀ k, (shiftsF r k).out.length = r.out.length + k
  | 0 => rfl
  | k + 1 => by rw [shiftsF_succ]; unfold shiftF; simp [carryIf_len, shiftsF_len r k]; omega
theorem shiftsF_low (r : Rg) (h0 : 0 ≤ r.low) (h1 : r.low < 8589934592) : ∀ k, 0 ≤ (shiftsF r k).low ∧ (shiftsF r k).low < 8589934592
  | 0 => ⟨h0, h1⟩
  | k + 1 => by rw [shiftsF_succ]; unfold shiftF; simp; omega
def packL (cs : List (Int × Int)) : List Int := (shiftsF (rgK cs cs.length) 4).out
def oddsPack (places : Int) (cs : List (Int × Int)) : List Int := if oddsB places cs = true then packL cs else []
theorem packL_len (cs : List (Int × Int)) : (packL cs).length ≤ cs.length + 4 := by
  unfold packL; rw [shiftsF_len]; have := rgK_len cs cs.length; omega
theorem oddsPack_len (places : Int) (cs : List (Int × Int)) : (oddsPack places cs).length ≤ 20004 := by
  unfold oddsPack
  split
  · rename_i h
    have := ((oddsB_iff _ _).1 h).2.1
    have := packL_len cs
    omega
  · simp

theorem oddsPack_big (places : Int) (cs : List (Int × Int)) : (oddsPack places cs).length ≤ 1048576 := by have := oddsPack_len places cs; omega
/-! ### The program's: a carry is told at once -/
def toldF (r : Rg) : List Int := carryIf r.low r.out
def lowF (r : Rg) : Int := r.low % 4294967296
theorem shiftF_told (r : Rg) : toldF (shiftF r) = toldF r ++ [lowF r / 16777216] ∧ lowF (shiftF r) = lowF r * 256 % 4294967296 := by
  unfold toldF lowF shiftF
  constructor
  · simp only [carryIf]
    rw [if_neg (show ¬ (4294967296 ≤ r.low % 16777216 * 256) by omega), show r.low / 16777216 % 256 = r.low % 4294967296 / 16777216 by omega]
  · simp only; omega
theorem bitF_told (r : Rg) (o b : Int) (hr : RgOk r) (ho : 31 ≤ o ∧ o ≤ 4065) :
    (b = 0 → toldF (bitF r o b) = toldF r ∧ lowF (bitF r o b) = lowF r) ∧
    (b ≠ 0 → lowF (bitF r o b) = (lowF r + splitF r.rng o) % 4294967296 ∧
      toldF (bitF r o b) = if (lowF r + splitF r.rng o) % 4294967296 < splitF r.rng o then carryF (toldF r) else toldF r) := by
  have hs := split_bd r.rng o ho hr.rng0
  have h0 := hr.low0; have h2 := hr.rng1; have h3 := hr.sum
  refine ⟨fun h => ?_, fun h => ?_⟩
  · unfold bitF; rw [if_pos h]; exact ⟨rfl, rfl⟩
  · unfold bitF; rw [if_neg h]
    unfold lowF toldF carryIf
    simp only
    generalize splitF r.rng o = s at hs ⊢
    refine ⟨by omega, ?_⟩
    by_cases hl : 4294967296 ≤ r.low
    · rw [if_pos hl, if_pos (by omega), if_neg (by omega)]
    · rw [if_neg hl]
      by_cases hl2 : 4294967296 ≤ r.low + s
      · rw [if_pos hl2, if_pos (by omega)]
      · rw [if_neg hl2, if_neg (by omega)]
theorem told_end (r : Rg) (k : Nat) (hk : 0 < k) : toldF (shiftsF r k) = (shiftsF r k).out := by
  obtain ⟨j, rfl⟩ : ∃ j, k = j + 1 := ⟨k - 1, by omega⟩
  rw [shiftsF_succ]
  unfold toldF carryIf shiftF
  simp only
  rw [if_neg (by omega)]
end Go.Proofs.Ytocoeodoihdkgaa

/- Plain: choices read back by their odds; no program is named here. -/
namespace Go.Proofs.Ytocoeodoihdkgaa
open Go.RowKit

structure Rd where
  rng : Int
  code : Int
  at_ : Nat
  err : Int
def byteF (ds : List Int) (r : Rd) : Rd := if ds.length ≤ r.at_ then ⟨r.rng, r.code, r.at_, if r.err = 0 then 2 else r.err⟩ else ⟨r.rng, r.code * 256 + ds.getD r.at_ 0, r.at_ + 1, r.err⟩
def rd0 : Rd := ⟨4294967295, 0, 0, 0⟩
def openK (ds : List Int) : Nat → Rd
  | 0 => rd0
  | k + 1 => byteF ds (openK ds k)
theorem openK_succ (ds : List Int) (k : Nat) : openK ds (k + 1) = byteF ds (openK ds k) := rfl
def codeF (r : Rd) : Rd := if r.err = 0 ∧ r.rng ≤ r.code then ⟨r.rng, r.code, r.at_, 4⟩ else r
def openR (ds : List Int) : Rd := codeF (openK ds 4)
def bitOf (r : Rd) (o : Int) : Int := if r.code < splitF r.rng o then 0 else 1
def halfR (r : Rd) (o : Int) : Rd := if r.code < splitF r.rng o then ⟨splitF r.rng o, r.code, r.at_, r.err⟩ else ⟨r.rng - splitF r.rng o, r.code - splitF r.rng o, r.at_, r.err⟩
def wideR (ds : List Int) (r : Rd) : Rd := if r.rng < 16777216 then byteF ds ⟨r.rng * 256, r.code, r.at_, r.err⟩ else r
def takeR (ds : List Int) (r : Rd) (o : Int) : Rd := wideR ds (halfR r o)
def stR (ds ps : List Int) : Nat → (Int → Int) × Rd
  | 0 => (fun _ => 2048, openR ds)
  | k + 1 => if (stR ds ps k).2.err ≠ 0 then stR ds ps k else
      (oddsSet (stR ds ps k).1 (ps.getD k 0, bitOf (stR ds ps k).2 ((stR ds ps k).1 (ps.getD k 0))), takeR ds (stR ds ps k).2 ((stR ds ps k).1 (ps.getD k 0)))
def bitK (ds ps : List Int) (k : Nat) : Int := if (stR ds ps k).2.err ≠ 0 then 0 else bitOf (stR ds ps k).2 ((stR ds ps k).1 (ps.getD k 0))
def bitsR (ds ps : List Int) (k : Nat) : List Int := (List.range k).map (bitK ds ps)
@[simp] theorem bitsR_len (ds ps : List Int) (k : Nat) : (bitsR ds ps k).length = k := by simp [bitsR]
theorem bitsR_succ (ds ps : List Int) (k : Nat) : bitsR ds ps (k + 1) = bitsR ds ps k ++ [bitK ds ps k] := by simp [bitsR, List.range_succ]
theorem stR_bad (ds ps : List Int) (k : Nat) (h : (stR ds ps k).2.err ≠ 0) : stR ds ps (k + 1) = stR ds ps k := by
  show (if (stR ds ps k).2.err ≠ 0 then stR ds ps k else _) = _
  rw [if_pos h]
theorem stR_good (ds ps : List Int) (k : Nat) (h : (stR ds ps k).2.err = 0) : stR ds ps (k + 1) = (oddsSet (stR ds ps k).1 (ps.getD k 0, bitOf (stR ds ps k).2 ((stR ds ps k).1 (ps.getD k 0))), takeR ds (stR ds ps k).2 ((stR ds ps k).1 (ps.getD k 0))) := by
  show (if (stR ds ps k).2.err ≠ 0 then stR ds ps k else _) = _
  rw [if_neg (by simpa using h)]
theorem stR_stays (ds ps : List Int) (k : Nat) (h : (stR ds ps k).2.err ≠ 0) : ∀ d, stR ds ps (k + d) = stR ds ps k
  | 0 => rfl
  | d + 1 => by
    have ih := stR_stays ds ps k h d
    rw [← Nat.add_assoc, stR_bad ds ps (k + d) (by rw [ih]; exact h), ih]
/-- What holds of a reader's numbers. -/
structure RdOk (ds : List Int) (r : Rd) : Prop where
  at0 : r.at_ ≤ ds.length
  code0 : 0 ≤ r.code
  code1 : r.code ≤ 4294967295
  rng1 : r.rng ≤ 4294967295
  errs : r.err = 0 ∨ r.err = 2 ∨ r.err = 4
  good : r.err = 0 → 16777216 ≤ r.rng ∧ r.code < r.rng
def ByteOk (ds : List Int) : Prop := ∀ j, 0 ≤ ds.getD j 0 ∧ ds.getD j 0 ≤ 255
theorem openK_ok (ds : List Int) (hd : ByteOk ds) : ∀ k, k ≤ 4 → (openK ds k).at_ ≤ ds.length ∧ 0 ≤ (openK ds k).code ∧ (openK ds k).code < 2 ^ (8 * k) ∧ (openK ds k).rng = 4294967295 ∧ ((openK ds k).err = 0 ∨ (openK ds k).err = 2)
  | 0, _ => by simp [openK, rd0]
  | k + 1, hk => by
    obtain ⟨h1, h2, h3, h4, h5⟩ := openK_ok ds hd k (by omega)
    have hp : (2 : Int) ^ (8 * (k + 1)) = 2 ^ (8 * k) * 256 := by rw [show 8 * (k + 1) = 8 * k + 8 by omega, Int.pow_add]; rfl
    have hp0 : (0 : Int) < 2 ^ (8 * k) := Int.pow_pos (by omega)
    have hb := hd (openK ds k).at_
    rw [openK_succ]
    unfold byteF
    split
    · refine ⟨h1, h2, by rw [hp]; simp only; omega, h4, ?_⟩
      simp only
      split
      · exact .inr rfl
      · exact h5
    · refine ⟨by simp only; omega, by simp only; omega, by rw [hp]; simp only; omega, h4, h5⟩
theorem openR_ok (ds : List Int) (hd : ByteOk ds) : RdOk ds (openR ds) := by
  obtain ⟨h1, h2, h3, h4, h5⟩ := openK_ok ds hd 4 (by omega)
  unfold openR codeF
  have h3' : (openK ds 4).code ≤ 4294967295 := by have : (2 : Int) ^ (8 * 4) = 4294967296 := by decide
                                                  omega
  split
  · exact ⟨h1, h2, h3', by simp only; omega, .inr (.inr rfl), fun h => by simp at h⟩
  · rename_i h
    refine ⟨h1, h2, h3', by omega, h5.elim .inl (fun h => .inr (.inl h)), fun he => ⟨by omega, ?_⟩⟩
    rcases Int.lt_or_le (openK ds 4).code (openK ds 4).rng with hl | hl
    · exact hl
    · exact absurd ⟨he, hl⟩ h
theorem halfR_bd (ds : List Int) (r : Rd) (o : Int) (hr : RdOk ds r) (he : r.err = 0) (ho : 31 ≤ o ∧ o ≤ 4065) : 65536 ≤ (halfR r o).rng ∧ (halfR r o).rng ≤ 4294967295 ∧ 0 ≤ (halfR r o).code ∧ (halfR r o).code < (halfR r o).rng ∧ (halfR r o).at_ = r.at_ ∧ (halfR r o).err = 0 := by
  obtain ⟨g0, g1⟩ := hr.good he
  have hs := split_bd r.rng o ho g0
  have := hr.code0; have := hr.rng1
  unfold halfR
  split
  · exact ⟨by simp only; omega, by simp only; omega, by simp only; omega, by simp only; omega, rfl, he⟩
  · exact ⟨by simp only; omega, by simp only; omega, by simp only; omega, by simp only; omega, rfl, he⟩
theorem takeR_ok (ds : List Int) (hd : ByteOk ds) (r : Rd) (o : Int) (hr : RdOk ds r) (he : r.err = 0) (ho : 31 ≤ o ∧ o ≤ 4065) : RdOk ds (takeR ds r o) := by
  obtain ⟨h1, h2, h3, h4, h5, h6⟩ := halfR_bd ds r o hr he ho
  have ha := hr.at0
  have hb := hd (halfR r o).at_
  unfold takeR wideR
  split
  · unfold byteF
    split
    · exact ⟨by simp only; omega, h3, by simp only; omega, by simp only; omega, by simp, fun h => by simp at h⟩
    · exact ⟨by simp only at *; omega, by simp only; omega, by simp only; omega, by simp only; omega, .inl h6, fun _ => ⟨by simp only; omega, by simp only; omega⟩⟩
  · exact ⟨by omega, h3, by omega, h2, .inl h6, fun _ => ⟨by omega, h4⟩⟩
theorem stR_ok (ds ps : List Int) (hd : ByteOk ds) : ∀ k, RdOk ds (stR ds ps k).2 ∧ ∀ q, 31 ≤ (stR ds ps k).1 q ∧ (stR ds ps k).1 q ≤ 4065
  | 0 => ⟨openR_ok ds hd, fun q => by simp [stR]⟩
  | k + 1 => by
    have ih := stR_ok ds ps hd k
    by_cases he : (stR ds ps k).2.err = 0
    · rw [stR_good ds ps k he]
      refine ⟨takeR_ok ds hd _ _ ih.1 he (ih.2 _), fun q => ?_⟩
      simp only [oddsSet]
      split
      · exact learnF_bd _ _ (ih.2 _)
      · exact ih.2 q
    · rw [stR_bad ds ps k he]; exact ih
theorem bitOf_bd (r : Rd) (o : Int) : 0 ≤ bitOf r o ∧ bitOf r o ≤ 1 := by unfold bitOf; split <;> omega
def PsOk (places : Int) (ps : List Int) : Prop := ∀ j, j < ps.length → 0 ≤ ps.getD j 0 ∧ ps.getD j 0 < places
def pB (places p : Int) : Bool := decide (0 ≤ p) && decide (p < places)
def psB (places : Int) (ps : List Int) : Bool := ps.all (pB places)
theorem pB_iff (places p : Int) : pB places p = true ↔ 0 ≤ p ∧ p < places := by simp [pB]
theorem psB_iff (places : Int) (ps : List Int) : psB places ps = true ↔ PsOk places ps := by
  unfold psB PsOk
  rw [List.all_eq_true]
  constructor
  · intro h j hj
    rw [List.getD_eq_getElem?_getD, List.getElem?_eq_getElem hj]
    exact (pB_iff _ _).1 (h _ (List.getElem_mem hj))
  · intro h c hc
    obtain ⟨j, hj, rfl⟩ := List.mem_iff_getElem.1 hc
    have := h j hj
    rw [List.getD_eq_getElem?_getD, List.getElem?_eq_getElem hj] at this
    exact (pB_iff _ _).2 this
def unpB (places : Int) (ps : List Int) : Bool := decide (1 ≤ places) && decide (places ≤ 512) && decide (ps.length ≤ 20000) && psB places ps
def oddsUnpack (places : Int) (ds ps : List Int) : Int × List Int × Int :=
  if unpB places ps = true then
    if (stR ds ps ps.length).2.err ≠ 0 then ((stR ds ps ps.length).2.err, [], 0) else (0, bitsR ds ps ps.length, ((stR ds ps ps.length).2.at_ : Int))
  else (1, [], 0)
end Go.Proofs.Ytocoeodoihdkgaa

/- The walks of the laws' own helpers on byte strings: a copy, and whether two are equal. -/
namespace Go.Proofs.Ytocoeodoihdkgaa
open Go.RowKit

theorem below_drewN {B : Nat} {a w : World} (h : Below B a w) (n : Nat) : Below B a (w.drewN n) := h.trans ⟨rfl, rfl, rfl, Nat.le_refl _, fun _ _ => rfl⟩
theorem infoB : (Try.prog.info? 5).map (fun i => (i.zero, i.size, i.bytes)) = some (some (.int .u8 0), 1, 1) := by kernel_rfl

/-- What a byte string is, as the walks hand it on: its bytes, all in range, in the cells of a block. -/
def BytesAt (w : World) (b off : Nat) (zs : List Int) : Prop := ∀ j, j < zs.length → w.cell? ⟨b, off + j, none⟩ = some (.int .u8 (zs.getD j 0))
def InB (zs : List Int) : Prop := ∀ j, 0 ≤ zs.getD j 0 ∧ zs.getD j 0 < 256

theorem getD_map_int (zs : List Int) (k : IntKind) (j : Nat) (h : j < zs.length) : (zs.map (Value.int k))[j]? = some (.int k (zs.getD j 0)) := by
  rw [List.getElem?_map, List.getD_eq_getElem?_getD, List.getElem?_eq_getElem h]; rfl

def partCopy (zs : List Int) (k : Nat) : List Value := (zs.take k).map (Value.int .u8) ++ List.replicate (zs.length - k) (.int .u8 0)
theorem partCopy_zero (zs : List Int) : partCopy zs 0 = List.replicate zs.length (.int .u8 0) := by unfold partCopy; simp
theorem partCopy_all (zs : List Int) : partCopy zs zs.length = zs.map (.int .u8) := by unfold partCopy; simp
theorem partCopy_set (zs : List Int) (k : Nat) (h : k < zs.length) : (partCopy zs k).set k (.int .u8 (zs.getD k 0)) = partCopy zs (k + 1) := by
  unfold partCopy
  rw [take_snoc_getD zs 0 k h, List.map_append, List.set_append, if_neg (by simp; omega), List.append_assoc]
  congr 1
  have : zs.length - k = (zs.length - (k + 1)) + 1 := by omega
  rw [this, List.replicate_succ]
  simp [Nat.min_eq_left (Nat.le_of_lt h)]

set_option maxHeartbeats 1000000 in
theorem toByteS_any (b off len cap : Nat) (zs : List Int) (w : World) (hlen : zs.length = len) (hn : len ≤ 1048576) (hbl : b < w.heap.size) (hz : InB zs) (hc : BytesAt w b off zs) :
    Calls Try.prog 48 #[.slice (some ⟨b, off, none⟩) len cap] w fun e w' =>
      ∃ g, e = .returned (.slice (some ⟨g, 0, none⟩) len len) ∧ w.heap.size ≤ g ∧ w'.ownsRow w.heap.size 5 1 (.slice (some ⟨g, 0, none⟩) len len) len (zs.map (.int .u8)) ∧ Below w.heap.size w w' := by
  subst hlen
  obtain ⟨i0, hi, hz0, hz1, hz2⟩ := info_parts infoB
  replace hc := hide hc
  replace hz := hide hz
  go_enter Try.func48, Try.ntmps48
  go_wp2_with (at_make; refine wpList_make_full _ rfl _ _ 22 rfl w.heap.size 5 i0 (.int .u8 0) 1 Try.underlying22 hi hz0 hz1 .i64 .i64 _ _ zs.length rfl rfl (by omega) (by omega) (by rw [hz2]; omega) (by unfold maxLen; omega) (Nat.le_refl _) ?_; intro w1 hown hgrow)
  have hbel := (Below.refl w.heap.size w).grown hgrow (Nat.le_refl _) (by simp)
  have hown0 : w1.ownsRow w.heap.size 5 1 (.slice (some ⟨w.heap.size, 0, none⟩) zs.length zs.length) zs.length (partCopy zs 0) := by
    rw [partCopy_zero]; simpa [toList_madeCells_one, Value.cells] using hown
  clear hown hgrow
  go_loopw [4] (fun i wr => ∃ k : Nat, k ≤ zs.length ∧ i = .int .i64 k ∧ wr.ownsRow w.heap.size 5 1 (.slice (some ⟨w.heap.size, 0, none⟩) zs.length zs.length) zs.length (partCopy zs k) ∧ Below w.heap.size w wr) (fun i _ => zs.length - (intOf i).toNat)
  case atStart => exact ⟨0, Nat.zero_le _, rfl, hown0, hbel⟩
  case round =>
    clear hown0 hbel
    obtain ⟨k, hk, rfl, hown, hbel⟩ := hrel
    by_cases hlt : k < zs.length
    · have hck : wr.cell? ⟨b, off + k, none⟩ = some (.int .u8 (zs.getD k 0)) := (hbel.cell (by simpa using hbl)).trans (unhide hc k hlt)
      have hps := partCopy_set zs k hlt
      generalize zs.getD k 0 = x at hck hps
      have hdst : ∃ u, wr.cell? ⟨w.heap.size, k, none⟩ = some u := by
        rw [hown.cellAt k (by omega)]; exact ⟨_, List.getElem?_eq_getElem (by have := hown.1; omega)⟩
      obtain ⟨u, hdst⟩ := hdst
      have hfz := hown.frozenAt k
      have hst := (hown.stored k (.int .u8 x)).1
      rw [hps] at hst
      have hb2 := hbel.setCell (p := ⟨w.heap.size, k, none⟩) (Nat.le_refl _) (.int .u8 x)
      replace hst := hide hst
      clear hown hps
      go_wp2
      go_roundw
      case rel => exact ⟨k + 1, by omega, by go_num, unhide hst, hb2⟩
      case measure => simp [intOf]; omega
    · have hkl : k = zs.length := by omega
      subst hkl
      rw [partCopy_all] at hown
      replace hown := hide hown
      go_wp2
      go_ret
      exact ⟨_, rfl, Nat.le_refl _, unhide hown, hbel⟩

set_option maxHeartbeats 1000000 in
theorem toByteS_empty (ad : Option Addr) (cap : Nat) (w : World) :
    Calls Try.prog 48 #[.slice ad 0 cap] w fun e w' =>
      ∃ g, e = .returned (.slice (some ⟨g, 0, none⟩) 0 0) ∧ w.heap.size ≤ g ∧ w'.ownsRow w.heap.size 5 1 (.slice (some ⟨g, 0, none⟩) 0 0) 0 [] ∧ Below w.heap.size w w' := by
  obtain ⟨i0, hi, hz0, hz1, hz2⟩ := info_parts infoB
  go_enter Try.func48, Try.ntmps48
  go_wp2_with (at_make; refine wpList_make_full _ rfl _ _ 22 rfl w.heap.size 5 i0 (.int .u8 0) 1 Try.underlying22 hi hz0 hz1 .i64 .i64 _ _ 0 rfl rfl (by simp) (by simp) (by rw [hz2]; omega) (by unfold maxLen; omega) (Nat.le_refl _) ?_; intro w1 hown hgrow)
  have hbel := (Below.refl w.heap.size w).grown hgrow (Nat.le_refl _) (by simp)
  have hown0 : w1.ownsRow w.heap.size 5 1 (.slice (some ⟨w.heap.size, 0, none⟩) 0 0) 0 [] := by simpa [toList_madeCells_one, Value.cells] using hown
  clear hown hgrow
  replace hown0 := hide hown0
  go_loopw [4] (fun i wr => i = .int .i64 0 ∧ wr = w1) (fun _ _ => 0)
  case atStart => exact ⟨rfl, rfl⟩
  case round =>
    obtain ⟨rfl, rfl⟩ := hrel
    go_wp2
    go_ret
    exact ⟨_, rfl, Nat.le_refl _, unhide hown0, hbel⟩

set_option maxHeartbeats 1000000 in
theorem eqByteS_eq (b off cap b' off' cap' len : Nat) (zs : List Int) (w : World) (hlen : zs.length = len) (hn : len ≤ 1048576) (hc : BytesAt w b off zs) (hc' : BytesAt w b' off' zs) :
    Calls Try.prog 42 #[.slice (some ⟨b, off, none⟩) len cap, .slice (some ⟨b', off', none⟩) len cap'] w fun e w' => e = .returned (.bool true) ∧ ∃ nq, w' = w.drewN nq := by
  subst hlen
  replace hc := hide hc
  replace hc' := hide hc'
  go_enter Try.func42, Try.ntmps42
  go_wp2
  go_loopw [5] (fun i wr => ∃ k : Nat, k ≤ zs.length ∧ i = .int .i64 k ∧ ∃ nq, wr = w.drewN nq) (fun i _ => zs.length - (intOf i).toNat)
  case atStart => exact ⟨0, Nat.zero_le _, rfl, 0, rfl⟩
  case round =>
    obtain ⟨k, hk, rfl, nq, rfl⟩ := hrel
    by_cases hlt : k < zs.length
    · have hck := unhide hc k hlt
      have hck' := unhide hc' k hlt
      generalize zs.getD k 0 = x at hck hck'
      go_wp2
      go_quiet (fail)
      go_wp2
      go_roundw
      case rel => exact ⟨k + 1, by omega, by go_num, _, rfl⟩
      case measure => simp [intOf]; omega
    · have hkl : k = zs.length := by omega
      subst hkl
      go_wp2
      go_ret
      exact ⟨rfl, _, rfl⟩
end Go.Proofs.Ytocoeodoihdkgaa

/- Memory of the call's own, by the blocks in which it lies: what a step keeps, and what a value in such blocks reads as. -/
namespace Go.Proofs.Ytocoeodoihdkgaa
open Go.RowKit

/-- The world is as it was but for the blocks from a on, below b, and for what is new. -/
structure Upd (a b : Nat) (w w' : World) : Prop where
  os : w'.os = w.os
  tape : w'.tape = w.tape
  output : w'.output = w.output
  size : w.heap.size ≤ w'.heap.size
  block : ∀ k, k < w.heap.size → (k < a ∨ b ≤ k) → w'.heap[k]? = w.heap[k]?
theorem Upd.refl (a b : Nat) (w : World) : Upd a b w w := ⟨rfl, rfl, rfl, Nat.le_refl _, fun _ _ _ => rfl⟩
theorem Upd.trans {a b : Nat} {x w w' : World} (h : Upd a b x w) (k : Upd a b w w') : Upd a b x w' :=
  ⟨k.os.trans h.os, k.tape.trans h.tape, k.output.trans h.output, Nat.le_trans h.size k.size, fun i hi hn => (k.block i (Nat.lt_of_lt_of_le hi h.size) hn).trans (h.block i hi hn)⟩
theorem Upd.drewN {a b : Nat} {x w : World} (h : Upd a b x w) (n : Nat) : Upd a b x (w.drewN n) := h.trans ⟨rfl, rfl, rfl, Nat.le_refl _, fun _ _ _ => rfl⟩
theorem Upd.setCell {a b : Nat} {x w : World} (h : Upd a b x w) {r : Nat} (hr : a ≤ r ∧ r < b) (o : Nat) (u : Value) : Upd a b x (w.setCell ⟨r, o, none⟩ u) :=
  h.trans ⟨rfl, rfl, rfl, by simp, fun k _ hk => Below.heap_setCell w ⟨r, o, none⟩ u k (by simp; omega)⟩
theorem Upd.of_below {w w' : World} (h : Below w.heap.size w w') (a b : Nat) : Upd a b w w' := ⟨h.os, h.tape, h.output, h.size, fun k hk _ => h.block k hk⟩
theorem Upd.below {B a b : Nat} {w w' : World} (h : Upd a b w w') (hB : B ≤ w.heap.size) (ha : B ≤ a ∨ b ≤ a) : Below B w w' :=
  ⟨h.os, h.tape, h.output, h.size, fun k hk => h.block k (by omega) (by omega)⟩
theorem Upd.none {w w' : World} (h : Upd 0 0 w w') : Below w.heap.size w w' := h.below (Nat.le_refl _) (.inr (Nat.le_refl _))
theorem below_upd {B a b : Nat} {x w w' : World} (h : Below B x w) (k : Upd a b w w') (hx : B ≤ x.heap.size) (ha : B ≤ a ∨ b ≤ a) : Below B x w' :=
  h.trans (k.below (Nat.le_trans hx h.size) ha)

/-- A value of the call's own: its elements lie in a block from a on, below b. -/
def Own (e : TypeId) (s : Nat) (w : World) (a b : Nat) (v : Value) (n : Nat) (xs : List Value) : Prop := w.ownsRow a e s v n xs ∧ ∀ k, v.ownBlock = some k → k < b
theorem Own.of {e : TypeId} {s : Nat} {w : World} {a : Nat} {v : Value} {n : Nat} {xs : List Value} (h : w.ownsRow a e s v n xs) : Own e s w a w.heap.size v n xs := ⟨h, fun k hk => (h.lt k hk).2⟩
theorem Own.upd {e : TypeId} {s : Nat} {w w' : World} {a b c d : Nat} {v : Value} {n : Nat} {xs : List Value} (h : Own e s w a b v n xs) (u : Upd c d w w') (hd : b ≤ c ∨ d ≤ a) : Own e s w' a b v n xs := by
  refine ⟨⟨h.1.1, ?_⟩, h.2⟩
  rcases h.1.2 with hn | ⟨g, cap, cur, rfl, h1, h2, h3⟩
  · exact .inl hn
  · have hl := h.1.lt g rfl
    have hb := h.2 g rfl
    exact .inr ⟨g, cap, cur, rfl, h1, by rw [u.block g hl.2 (by omega)]; exact h2, h3⟩
theorem Own.keep {e : TypeId} {s : Nat} {w w' : World} {a b : Nat} {v : Value} {n : Nat} {xs : List Value} (h : Own e s w a b v n xs) (u : Upd 0 0 w w') : Own e s w' a b v n xs := h.upd u (.inr (Nat.zero_le _))

theorem own_mono {e : TypeId} {s : Nat} {w : World} {a b a' b' : Nat} {v : Value} {n : Nat} {xs : List Value} (h : Own e s w a b v n xs) (ha : a' ≤ a) (hb : b ≤ b') : Own e s w a' b' v n xs := by
  refine ⟨⟨h.1.1, ?_⟩, fun k hk => Nat.lt_of_lt_of_le (h.2 k hk) hb⟩
  rcases h.1.2 with hn | ⟨g, cap, cur, rfl, h1, h2, h3⟩
  · exact .inl hn
  · exact .inr ⟨g, cap, cur, rfl, Nat.le_trans ha h1, h2, h3⟩

/-- Cells of numbers of a kind. -/
def KindAt (k : IntKind) (w : World) (b off : Nat) (zs : List Int) : Prop := ∀ j, j < zs.length → w.cell? ⟨b, off + j, none⟩ = some (.int k (zs.getD j 0))
/-- Numbers that can be read: where there are any, in the cells of a block. -/
def ReadK (k : IntKind) (w : World) (ad : Option Addr) (zs : List Int) : Prop := zs ≠ [] → ∃ b off, ad = some ⟨b, off, none⟩ ∧ b < w.heap.size ∧ KindAt k w b off zs
theorem ReadK.below {k : IntKind} {w w' : World} {ad : Option Addr} {zs : List Int} (h : ReadK k w ad zs) (hb : Below w.heap.size w w') : ReadK k w' ad zs := by
  intro hne
  obtain ⟨b, off, e, hl, hc⟩ := h hne
  exact ⟨b, off, e, Nat.lt_of_lt_of_le hl hb.size, fun j hj => (hb.cell (by simpa using hl)).trans (hc j hj)⟩
theorem ne_of_lt_length {α : Type} {k : Nat} {zs : List α} (h : k < zs.length) : zs ≠ [] := by rintro rfl; simp at h
theorem readK_of_own {k : IntKind} {e : TypeId} {w : World} {a b : Nat} {v : Value} {zs : List Int} (h : Own e 1 w a b v zs.length (zs.map (.int k))) :
    ∃ ad cap, v = .slice ad zs.length cap ∧ ReadK k w ad zs := by
  rcases h.1.2 with ⟨rfl, hn⟩ | ⟨g, cap, cur, rfl, h1, h2, h3⟩
  · refine ⟨none, 0, by rw [hn], fun hne => absurd (List.length_eq_zero_iff.1 hn) hne⟩
  · refine ⟨some ⟨g, 0, none⟩, cap, rfl, fun _ => ⟨g, 0, rfl, (h.1.lt g rfl).2, fun j hj => ?_⟩⟩
    rw [Nat.zero_add, h.1.cellAt j (by omega)]
    exact getD_map_int zs k j hj
/-- The numbers that a marking leaves. -/
def marks (k n : Nat) : List Int := (List.range n).map fun j => ((k + j : Nat) : Int)
def marksB (k n : Nat) : List Int := (List.range n).map fun j => (((k + j) % 256 : Nat) : Int)
@[simp] theorem marks_length (k n : Nat) : (marks k n).length = n := by simp [marks]
@[simp] theorem marksB_length (k n : Nat) : (marksB k n).length = n := by simp [marksB]
theorem marks_getD (k n j : Nat) (h : j < n) : (marks k n).getD j 0 = ((k + j : Nat) : Int) := by simp [marks, h]
theorem marksB_getD (k n j : Nat) (h : j < n) : (marksB k n).getD j 0 = (((k + j) % 256 : Nat) : Int) := by simp [marksB, h]
/-- A row of which the first t elements are new. -/
def partSet (k : IntKind) (xs : List Value) (zs : List Int) (t : Nat) : List Value := (zs.take t).map (.int k) ++ xs.drop t
theorem partSet_zero (k : IntKind) (xs : List Value) (zs : List Int) : partSet k xs zs 0 = xs := by simp [partSet]
theorem partSet_all (k : IntKind) (xs : List Value) (zs : List Int) (h : xs.length = zs.length) : partSet k xs zs zs.length = zs.map (.int k) := by
  unfold partSet; rw [List.take_length, ← h, List.drop_length, List.append_nil]
theorem partSet_set (k : IntKind) (xs : List Value) (zs : List Int) (t : Nat) (h : t < zs.length) (hl : xs.length = zs.length) : (partSet k xs zs t).set t (.int k (zs.getD t 0)) = partSet k xs zs (t + 1) := by
  unfold partSet
  rw [take_snoc_getD zs 0 t h, List.map_append, List.set_append, if_neg (by simp; omega), List.append_assoc]
  congr 1
  have e : (xs.drop t) = xs[t] :: xs.drop (t + 1) := by rw [List.drop_eq_getElem_cons]
  simp [Nat.min_eq_left (Nat.le_of_lt h)]
  rw [e]; rfl
theorem partSet_length (k : IntKind) (xs : List Value) (zs : List Int) (t : Nat) (h : t ≤ zs.length) (hl : xs.length = zs.length) : (partSet k xs zs t).length = zs.length := by
  unfold partSet; simp; omega
theorem upd_of_same {P : Program} {f : FuncId} {args : Array Value} {w : World} {r : Ending} (h : Calls P f args w fun e w' => e = r ∧ w' = w) : Calls P f args w fun e w' => e = r ∧ Upd 0 0 w w' := by
  refine h.mono ?_
  rintro e w' ⟨rfl, rfl⟩
  exact ⟨rfl, Upd.refl _ _ _⟩
theorem upd_of_belowC {P : Program} {f : FuncId} {args : Array Value} {w : World} {r : Ending} (h : Calls P f args w fun e w' => e = r ∧ Below w.heap.size w w') : Calls P f args w fun e w' => e = r ∧ Upd 0 0 w w' := by
  refine h.mono ?_
  rintro e w' ⟨he, hb⟩
  exact ⟨he, Upd.of_below hb _ _⟩
/-- The first cells of a block. -/
def Held (w : World) (g : Nat) (cs : List Value) : Prop := g < w.heap.size ∧ ∀ j v, cs[j]? = some v → w.cell? ⟨g, j, none⟩ = some v
theorem held_new (w : World) (cs : List Value) (t : TypeId) : Held (w.alloc (.cells cs.toArray t)) w.heap.size cs := by
  refine ⟨by simp, fun j v h => ?_⟩
  rw [World.cell?_alloc_at _ _ _ _ rfl]; simpa using h
theorem Held.upd {w w' : World} {g c e : Nat} {cs : List Value} (h : Held w g cs) (u : Upd c e w w') (hd : g + 1 ≤ c ∨ e ≤ g) : Held w' g cs := by
  refine ⟨Nat.lt_of_lt_of_le h.1 u.size, fun j v hj => ?_⟩
  rw [World.cell?_of_block (w := w) (a := ⟨g, j, none⟩) (u.block g h.1 (by omega))]
  exact h.2 j v hj
theorem Held.keep {w w' : World} {g : Nat} {cs : List Value} (h : Held w g cs) (u : Upd 0 0 w w') : Held w' g cs := h.upd u (.inr (Nat.zero_le _))
def InI (zs : List Int) : Prop := ∀ j, -9223372036854775808 ≤ zs.getD j 0 ∧ zs.getD j 0 ≤ 9223372036854775807
end Go.Proofs.Ytocoeodoihdkgaa

/- Lists of ints, as values of the call's own and as values that can be read. -/
namespace Go.Proofs.Ytocoeodoihdkgaa
open Go.RowKit

theorem infoI : (Try.prog.info? 3).map (fun i => (i.zero, i.size, i.bytes)) = some (some (.int .i64 0), 1, 8) := by kernel_rfl
def ints (zs : List Int) : List Value := zs.map (.int .i64)
theorem ints_length (zs : List Int) : (ints zs).length = zs.length := by simp [ints]
abbrev OwnI (w : World) (a b : Nat) (v : Value) (zs : List Int) : Prop := Own 3 1 w a b v zs.length (ints zs)
abbrev ArgI (w : World) (ad : Option Addr) (zs : List Int) : Prop := ReadK .i64 w ad zs
/-- A list of ints as a value that can be read. -/
def RdI (w : World) (v : Value) (zs : List Int) : Prop := ∃ ad cap, v = .slice ad zs.length cap ∧ ArgI w ad zs
theorem RdI.below {w w' : World} {v : Value} {zs : List Int} (h : RdI w v zs) (hb : Below w.heap.size w w') : RdI w' v zs := by
  obtain ⟨ad, cap, e, h⟩ := h
  exact ⟨ad, cap, e, h.below hb⟩
theorem OwnI.rd {w : World} {a b : Nat} {v : Value} {zs : List Int} (h : OwnI w a b v zs) : RdI w v zs := readK_of_own h

end Go.Proofs.Ytocoeodoihdkgaa

/- The walks of the laws' own helpers on lists of ints: a copy, whether two are equal, marks. -/
namespace Go.Proofs.Ytocoeodoihdkgaa
open Go.RowKit

def partI (zs : List Int) (k : Nat) : List Value := ints (zs.take k) ++ List.replicate (zs.length - k) (.int .i64 0)
theorem partI_zero (zs : List Int) : partI zs 0 = List.replicate zs.length (.int .i64 0) := by unfold partI ints; simp
theorem partI_all (zs : List Int) : partI zs zs.length = ints zs := by unfold partI ints; simp
theorem partI_set (zs : List Int) (k : Nat) (h : k < zs.length) : (partI zs k).set k (.int .i64 (zs.getD k 0)) = partI zs (k + 1) := by
  unfold partI ints
  rw [take_snoc_getD zs 0 k h, List.map_append, List.set_append, if_neg (by simp; omega), List.append_assoc]
  congr 1
  have : zs.length - k = (zs.length - (k + 1)) + 1 := by omega
  rw [this, List.replicate_succ]
  simp [Nat.min_eq_left (Nat.le_of_lt h)]
theorem partI_length (zs : List Int) (k : Nat) (h : k ≤ zs.length) : (partI zs k).length = zs.length := by unfold partI ints; simp; omega

set_option maxHeartbeats 1000000 in
theorem toIntS_own (ad : Option Addr) (cap : Nat) (zs : List Int) (w : World) (hn : zs.length ≤ 1048576) (hA : ArgI w ad zs) :
    Calls Try.prog 31 #[.slice ad zs.length cap] w fun e w' =>
      ∃ v, e = .returned v ∧ OwnI w' w.heap.size w'.heap.size v zs ∧ Upd 0 0 w w' := by
  obtain ⟨i0, hi, hz0, hz1, hz2⟩ := info_parts infoI
  replace hA := hide hA
  go_enter Try.func31, Try.ntmps31
  go_wp2_with (at_make; refine wpList_make_full _ rfl _ _ 23 rfl w.heap.size 3 i0 (.int .i64 0) 1 Try.underlying23 hi hz0 hz1 .i64 .i64 _ _ zs.length rfl rfl (by omega) (by omega) (by rw [hz2]; omega) (by unfold maxLen; omega) (Nat.le_refl _) ?_; intro w1 hown hgrow)
  have hbel := (Below.refl w.heap.size w).grown hgrow (Nat.le_refl _) (by simp)
  have hown0 : w1.ownsRow w.heap.size 3 1 (.slice (some ⟨w.heap.size, 0, none⟩) zs.length zs.length) zs.length (partI zs 0) := by
    rw [partI_zero]; simpa [toList_madeCells_one, Value.cells] using hown
  clear hown hgrow
  go_loopw [4] (fun i wr => ∃ k : Nat, k ≤ zs.length ∧ i = .int .i64 k ∧ wr.ownsRow w.heap.size 3 1 (.slice (some ⟨w.heap.size, 0, none⟩) zs.length zs.length) zs.length (partI zs k) ∧ Below w.heap.size w wr) (fun i _ => zs.length - (intOf i).toNat)
  case atStart => exact ⟨0, Nat.zero_le _, rfl, hown0, hbel⟩
  case round =>
    clear hown0 hbel
    obtain ⟨k, hk, rfl, hown, hbel⟩ := hrel
    by_cases hlt : k < zs.length
    · obtain ⟨b, off, rfl, hbl, hc⟩ := (unhide hA) (ne_of_lt_length hlt)
      have hck : wr.cell? ⟨b, off + k, none⟩ = some (.int .i64 (zs.getD k 0)) := (hbel.cell (by simpa using hbl)).trans (hc k hlt)
      have hps := partI_set zs k hlt
      generalize zs.getD k 0 = x at hck hps
      have hdst : ∃ u, wr.cell? ⟨w.heap.size, k, none⟩ = some u := by
        rw [hown.cellAt k (by omega)]; exact ⟨_, List.getElem?_eq_getElem (by have := hown.1; omega)⟩
      obtain ⟨u, hdst⟩ := hdst
      have hfz := hown.frozenAt k
      have hst := (hown.stored k (.int .i64 x)).1
      rw [hps] at hst
      have hb2 := hbel.setCell (p := ⟨w.heap.size, k, none⟩) (Nat.le_refl _) (.int .i64 x)
      replace hst := hide hst
      clear hown hps hc
      go_wp2
      go_roundw
      case rel => exact ⟨k + 1, by omega, by go_num, unhide hst, hb2⟩
      case measure => simp [intOf]; omega
    · have hkl : k = zs.length := by omega
      subst hkl
      rw [partI_all] at hown
      replace hown := hide (Own.of hown)
      go_wp2
      go_ret
      exact ⟨_, rfl, unhide hown, Upd.of_below hbel 0 0⟩

set_option maxHeartbeats 1000000 in
theorem eqIntS_rd (u v : Value) (zs : List Int) (w : World) (hn : zs.length ≤ 1048576) (hu : RdI w u zs) (hv : RdI w v zs) :
    Calls Try.prog 33 #[u, v] w fun e w' => e = .returned (.bool true) ∧ Upd 0 0 w w' := by
  obtain ⟨ad, cap, rfl, hA⟩ := hu
  obtain ⟨ad', cap', rfl, hA'⟩ := hv
  replace hA := hide hA
  replace hA' := hide hA'
  go_enter Try.func33, Try.ntmps33
  go_wp2
  go_loopw [5] (fun i wr => ∃ k : Nat, k ≤ zs.length ∧ i = .int .i64 k ∧ ∃ nq, wr = w.drewN nq) (fun i _ => zs.length - (intOf i).toNat)
  case atStart => exact ⟨0, Nat.zero_le _, rfl, 0, rfl⟩
  case round =>
    obtain ⟨k, hk, rfl, nq, rfl⟩ := hrel
    by_cases hlt : k < zs.length
    · obtain ⟨b, off, rfl, hbl, hc⟩ := (unhide hA) (ne_of_lt_length hlt)
      obtain ⟨b', off', rfl, hbl', hc'⟩ := (unhide hA') (ne_of_lt_length hlt)
      have hck := hc k hlt
      have hck' := hc' k hlt
      clear hc hc' hA hA'
      generalize zs.getD k 0 = x at hck hck'
      go_wp2
      go_quiet (fail)
      go_wp2
      go_roundw
      case rel => exact ⟨k + 1, by omega, by go_num, _, rfl⟩
      case measure => simp [intOf]; omega
    · have hkl : k = zs.length := by omega
      subst hkl
      go_wp2
      go_ret
      exact ⟨rfl, (Upd.refl 0 0 _).drewN _⟩

set_option maxHeartbeats 1000000 in
theorem markIntS_none (k : Nat) (w : World) : Calls Try.prog 34 #[.slice none 0 0, .int .i64 k] w fun e w' => e = .returned (.int .i64 (k : Int)) ∧ w' = w := by
  go_enter Try.func34, Try.ntmps34
  go_wp2
  go_loop [1, 5] (fun a i => a = .int .i64 k ∧ i = .int .i64 0) (fun _ _ => 0)
  case atStart => exact ⟨rfl, rfl⟩
  case round =>
    obtain ⟨rfl, rfl⟩ := hrel
    go_wp2
    go_ret
    exact ⟨rfl, rfl⟩

set_option maxHeartbeats 1000000 in
theorem markIntS_some (a g cap n k : Nat) (xs : List Value) (w : World) (hn : n ≤ 1048576) (hk : k ≤ 1099511627776) (h : w.ownsRow a 3 1 (.slice (some ⟨g, 0, none⟩) n cap) n xs) :
    Calls Try.prog 34 #[.slice (some ⟨g, 0, none⟩) n cap, .int .i64 k] w fun e w' => e = .returned (.int .i64 ((k + n : Nat) : Int)) ∧ w'.ownsRow a 3 1 (.slice (some ⟨g, 0, none⟩) n cap) n (ints (marks k n)) ∧ Upd g (g + 1) w w' := by
  have hxl : xs.length = n := by have := h.1; omega
  go_enter Try.func34, Try.ntmps34
  go_wp2
  go_loopw [1, 5] (fun c i wr => ∃ t : Nat, t ≤ n ∧ c = .int .i64 ((k + t : Nat) : Int) ∧ i = .int .i64 t ∧ wr.ownsRow a 3 1 (.slice (some ⟨g, 0, none⟩) n cap) n (partSet .i64 xs (marks k n) t) ∧ Upd g (g + 1) w wr) (fun _ i _ => n - (intOf i).toNat)
  case atStart => exact ⟨0, Nat.zero_le _, rfl, rfl, by rw [partSet_zero]; exact h, Upd.refl _ _ _⟩
  case round =>
    clear h
    obtain ⟨t, ht, rfl, rfl, hown, hupd⟩ := hrel
    have hlen : (partSet .i64 xs (marks k n) t).length = n := by rw [partSet_length _ _ _ _ (by simpa using ht) (by simpa using hxl)]; simp
    by_cases hlt : t < n
    · have hdst : wr.cell? ⟨g, t, none⟩ = some ((partSet .i64 xs (marks k n) t).getD t undef) := by
        rw [hown.cellAt t (by omega), List.getElem?_eq_getElem (by omega), List.getD_eq_getElem?_getD, List.getElem?_eq_getElem (by omega)]; rfl
      have hfz := hown.frozenAt t
      have hst := (hown.stored t (.int .i64 ((k + t : Nat) : Int))).1
      have hps := partSet_set .i64 xs (marks k n) t (by simpa using hlt) (by simpa using hxl)
      rw [marks_getD k n t hlt] at hps
      rw [hps] at hst
      generalize (partSet .i64 xs (marks k n) t).getD t undef = u at hdst
      have ho2 := hupd.setCell (r := g) ⟨Nat.le_refl _, by omega⟩ t (.int .i64 ((k + t : Nat) : Int))
      rw [show (((k + t : Nat) : Int)) = (k : Int) + (t : Int) by omega] at hst ho2
      replace hst := hide hst
      replace ho2 := hide ho2
      clear hown hupd hps hlen
      go_wp2
      go_roundw
      case rel => exact ⟨t + 1, by omega, by go_num, by go_num, unhide hst, unhide ho2⟩
      case measure => simp [intOf]; omega
    · have htn : t = n := by omega
      subst htn
      have hM : wr.ownsRow a 3 1 (.slice (some ⟨g, 0, none⟩) t cap) t (ints (marks k t)) := by
        have := partSet_all .i64 xs (marks k t) (by simpa using hxl)
        rw [marks_length] at this
        rw [this] at hown; exact hown
      replace hM := hide hM
      clear hown
      go_wp2
      go_ret
      exact ⟨rfl, unhide hM, hupd⟩
theorem markIntS_own (a b : Nat) (v : Value) (k : Nat) (zs : List Int) (w : World) (hn : zs.length ≤ 1048576) (hk : k ≤ 1099511627776) (h : OwnI w a b v zs) :
    Calls Try.prog 34 #[v, .int .i64 k] w fun e w' => e = .returned (.int .i64 ((k + zs.length : Nat) : Int)) ∧ OwnI w' a b v (marks k zs.length) ∧ Upd a b w w' := by
  rcases h.1.2 with ⟨rfl, h0⟩ | ⟨g, cap, cur, rfl, h1, h2, h3⟩
  · refine (markIntS_none k w).mono ?_
    rintro e w' ⟨rfl, rfl⟩
    rw [h0]
    exact ⟨rfl, ⟨World.ownsRow_nil _ _ _ _, fun k hk => by simp [Value.ownBlock] at hk⟩, Upd.refl _ _ _⟩
  · have hb := h.2 g rfl
    refine (markIntS_some a g cap zs.length k _ w hn hk h.1).mono ?_
    rintro e w' ⟨rfl, ho, hu⟩
    refine ⟨rfl, ⟨?_, h.2⟩, ⟨hu.os, hu.tape, hu.output, hu.size, fun i hi hn => hu.block i hi (by omega)⟩⟩
    rw [marks_length]; exact ho

set_option maxHeartbeats 1000000 in
theorem heldIntS_own (a b : Nat) (v : Value) (k n : Nat) (w : World) (hn : n ≤ 1048576) (hk : k ≤ 1099511627776) (h : OwnI w a b v (marks k n)) :
    Calls Try.prog 39 #[v, .int .i64 k] w fun e w' => e = .returned (.int .i64 ((k + n : Nat) : Int)) ∧ w' = w := by
  obtain ⟨ad, cap, rfl, hA⟩ := h.rd
  rw [marks_length]
  replace hA := hide hA
  clear h
  go_enter Try.func39, Try.ntmps39
  go_wp2
  go_loop [1, 5] (fun a i => ∃ t : Nat, t ≤ n ∧ a = .int .i64 ((k + t : Nat) : Int) ∧ i = .int .i64 t) (fun _ i => n - (intOf i).toNat)
  case atStart => exact ⟨0, Nat.zero_le _, rfl, rfl⟩
  case round =>
    obtain ⟨t, ht, rfl, rfl⟩ := hrel
    by_cases hlt : t < n
    · obtain ⟨b', off, rfl, hbl, hc⟩ := (unhide hA) (ne_of_lt_length (k := t) (by simpa using hlt))
      have hck := hc t (by simpa using hlt)
      rw [marks_getD k n t hlt, show (((k + t : Nat) : Int)) = (k : Int) + (t : Int) by omega] at hck
      clear hc hA
      go_wp2
      go_round
      case rel => exact ⟨t + 1, by omega, by go_num, by go_num⟩
      case measure => simp [intOf]; omega
    · have htn : t = n := by omega
      subst htn
      go_wp2
      go_ret
      exact ⟨rfl, rfl⟩
end Go.Proofs.Ytocoeodoihdkgaa

/- What a step that only lays new blocks keeps of a row of the call's own. -/
namespace Go.Proofs.Ytocoeodoihdkgaa
open Go.RowKit

theorem ownsP_below {w w' : World} {base : Nat} {e : TypeId} {size n : Nat} {v : Value} {xs : List Value} (h : w.ownsRow base e size v n xs) (hb : Below w.heap.size w w') : w'.ownsRow base e size v n xs :=
  ((Own.of h).keep (Upd.of_below hb 0 0)).1
end Go.Proofs.Ytocoeodoihdkgaa

/- Lists of Choices: 2 numbers each; the walks of the laws' own helpers on them. -/
namespace Go.Proofs.Ytocoeodoihdkgaa
open Go.RowKit

abbrev Ch := Int × Int
abbrev Ch0 : Ch := (0, 0)
def cellsCh (ps : List Ch) : List Value := ps.flatMap fun p => [.int .i64 p.1, .int .i64 p.2]
theorem cellsCh_length (ps : List Ch) : (cellsCh ps).length = ps.length * 2 := by
  induction ps with
  | nil => rfl
  | cons p ps ih => unfold cellsCh at ih ⊢; rw [List.flatMap_cons, List.length_append, ih]; simp; omega
theorem cellsCh_snoc (ps : List Ch) (p : Ch) : cellsCh (ps ++ [p]) = cellsCh ps ++ [.int .i64 p.1, .int .i64 p.2] := by unfold cellsCh; simp
def RowCh (ys : List Value) (ps : List Ch) (k : Nat) : Prop := ∀ j, j < k → ys[j * 2]? = some (.int .i64 (ps.getD j Ch0).1) ∧ ys[j * 2 + 1]? = some (.int .i64 (ps.getD j Ch0).2)
theorem cellsCh_at (ps : List Ch) : RowCh (cellsCh ps) ps ps.length := by
  induction ps with
  | nil => intro j hj; simp at hj
  | cons p ps ih =>
    intro j hj
    have e : cellsCh (p :: ps) = [.int .i64 p.1, .int .i64 p.2] ++ cellsCh ps := by unfold cellsCh; simp
    rw [e]
    cases j with
    | zero => exact ⟨rfl, rfl⟩
    | succ j =>
      have h := ih j (by simpa using hj)
      rw [List.getElem?_append_right (by simp; omega), List.getElem?_append_right (by simp; omega)]
      simp only [List.length_cons, List.length_nil, List.getD_cons_succ]
      rw [show (j + 1) * 2 - (0 + 1 + 1) = j * 2 by omega, show (j + 1) * 2 + 1 - (0 + 1 + 1) = j * 2 + 1 by omega]
      exact h
theorem cellsCh_of {ys : List Value} {ps : List Ch} (hl : ys.length = ps.length * 2) (h : RowCh ys ps ps.length) : ys = cellsCh ps := by
  apply List.ext_getElem?
  intro i
  by_cases hi : i < ps.length * 2
  · have h1 := h (i / 2) (by omega)
    have h2 := cellsCh_at ps (i / 2) (by omega)
    rcases (show i = i / 2 * 2 ∨ i = i / 2 * 2 + 1 by omega) with e | e
    · rw [e, h1.1, h2.1]
    · rw [e, h1.2, h2.2]
  · rw [List.getElem?_eq_none (by omega), List.getElem?_eq_none (by rw [cellsCh_length]; omega)]
def AtCh (w : World) (b off : Nat) (ps : List Ch) : Prop := ∀ j, j < ps.length → w.cell? ⟨b, off + j * 2, none⟩ = some (.int .i64 (ps.getD j Ch0).1) ∧ w.cell? ⟨b, off + j * 2 + 1, none⟩ = some (.int .i64 (ps.getD j Ch0).2)
def InCh (ps : List Ch) : Prop := ∀ j, (-9223372036854775808 ≤ (ps.getD j Ch0).1 ∧ (ps.getD j Ch0).1 ≤ 9223372036854775807) ∧ (-9223372036854775808 ≤ (ps.getD j Ch0).2 ∧ (ps.getD j Ch0).2 ≤ 9223372036854775807)
def ArgCh (w : World) (ad : Option Addr) (ps : List Ch) : Prop := ps ≠ [] → ∃ b off, ad = some ⟨b, off, none⟩ ∧ b < w.heap.size ∧ AtCh w b off ps
theorem ArgCh.below {w w' : World} {ad : Option Addr} {ps : List Ch} (h : ArgCh w ad ps) (hb : Below w.heap.size w w') : ArgCh w' ad ps := by
  intro hne
  obtain ⟨b, off, e, hl, hc⟩ := h hne
  exact ⟨b, off, e, Nat.lt_of_lt_of_le hl hb.size, fun j hj => ⟨(hb.cell (by simpa using hl)).trans (hc j hj).1, (hb.cell (by simpa using hl)).trans (hc j hj).2⟩⟩
def RdCh (w : World) (v : Value) (ps : List Ch) : Prop := ∃ ad cap, v = .slice ad ps.length cap ∧ ArgCh w ad ps
theorem RdCh.below {w w' : World} {v : Value} {ps : List Ch} (h : RdCh w v ps) (hb : Below w.heap.size w w') : RdCh w' v ps := by
  obtain ⟨ad, cap, e, h⟩ := h
  exact ⟨ad, cap, e, h.below hb⟩
abbrev OwnCh (w : World) (a b : Nat) (v : Value) (ps : List Ch) : Prop := Own 38 2 w a b v ps.length (cellsCh ps)
theorem OwnCh.rd {w : World} {a b : Nat} {v : Value} {ps : List Ch} (h : OwnCh w a b v ps) : RdCh w v ps := by
  rcases h.1.2 with ⟨rfl, hn⟩ | ⟨g, cap, cur, rfl, h1, h2, h3⟩
  · refine ⟨none, 0, by rw [hn], fun hne => absurd (List.length_eq_zero_iff.1 hn) hne⟩
  · refine ⟨some ⟨g, 0, none⟩, cap, rfl, fun _ => ⟨g, 0, rfl, (h.1.lt g rfl).2, fun j hj => ?_⟩⟩
    have := cellsCh_at ps j hj
    rw [Nat.zero_add, h.1.cellAt _ (by omega), h.1.cellAt _ (by omega)]
    exact this
def marksCh (k n : Nat) : List Ch := (List.range n).map fun j => (((k + 2 * j : Nat) : Int), ((k + 2 * j + 1 : Nat) : Int))
@[simp] theorem marksCh_length (k n : Nat) : (marksCh k n).length = n := by simp [marksCh]
theorem marksCh_at (k n j : Nat) (h : j < n) : (marksCh k n).getD j Ch0 = (((k + 2 * j : Nat) : Int), ((k + 2 * j + 1 : Nat) : Int)) := by
  unfold marksCh; rw [List.getD_eq_getElem?_getD, List.getElem?_map, List.getElem?_range h]; rfl
theorem infoCh : (Try.prog.info? 38).map (fun i => (i.zero, i.size, i.bytes)) = some (some (.agg #[.int .i64 0, .int .i64 0]), 2, 16) := by kernel_rfl
theorem own_nilCh (w : World) (a b : Nat) : OwnCh w a b (.slice none 0 0) [] := ⟨World.ownsRow_nil _ _ _ _, fun k hk => by simp [Value.ownBlock] at hk⟩

set_option maxHeartbeats 1000000 in
theorem toChoice_any (x0 : Int) (x1 : Int) (w : World) :
    Calls Try.prog 87 #[.agg #[.int .i64 x0, .int .i64 x1]] w fun e w' => e = .returned (.agg #[.int .i64 x0, .int .i64 x1]) ∧ Below w.heap.size w w' := by
  go_enter Try.func87, Try.ntmps87
  go_wp2
  refine bodyPost_ret (v := .agg #[.int .i64 x0, .int .i64 x1]) (by simp [results, Try.results87, go_sem]) rfl ⟨rfl, ?_⟩
  repeat (first | exact Below.refl _ _ | refine Below.setCell ?_ (by simp) _ | refine Below.alloc ?_ (by first | exact Nat.le_refl _ | (simp; done) | (simp; omega)) _)

set_option maxHeartbeats 1000000 in
theorem eqChoice_eq (x0 : Int) (x1 : Int) (w : World) :
    Calls Try.prog 88 #[.agg #[.int .i64 x0, .int .i64 x1], .agg #[.int .i64 x0, .int .i64 x1]] w fun e w' => e = .returned (.bool true) ∧ Below w.heap.size w w' := by
  go_enter Try.func88, Try.ntmps88
  go_wp2
  go_ret
  refine ⟨rfl, ?_⟩
  repeat (first | exact Below.refl _ _ | refine Below.setCell ?_ (by simp) _ | refine Below.alloc ?_ (by first | exact Nat.le_refl _ | (simp; done) | (simp; omega)) _)

set_option maxHeartbeats 1000000 in
theorem szChoiceS_any (ad : Option Addr) (n cap : Nat) (left : Int) (w : World) (h0 : 0 ≤ left) (h1 : left ≤ 1099511627776) (hn : n ≤ 9223372036854775807) :
    Calls Try.prog 40 #[.slice ad n cap, .int .i64 left] w fun e w' => e = .returned (.int .i64 (if left < n then -1 else left - n)) ∧ w' = w := by
  by_cases hlt : left < n
  · rw [if_pos hlt]
    go_enter Try.func40, Try.ntmps40
    go_wp2
    go_ret
    exact ⟨rfl, rfl⟩
  · rw [if_neg hlt]
    go_enter Try.func40, Try.ntmps40
    go_wp2
    go_ret
    exact ⟨rfl, rfl⟩

set_option maxHeartbeats 4000000 in
theorem toChoiceS_own (ad : Option Addr) (cap : Nat) (ps : List Ch) (w : World) (hn : ps.length ≤ 1048576) (hA : ArgCh w ad ps) :
    Calls Try.prog 41 #[.slice ad ps.length cap] w fun e w' =>
      ∃ v, e = .returned v ∧ OwnCh w' w.heap.size w'.heap.size v ps ∧ Upd 0 0 w w' := by
  obtain ⟨i0, hi, hz0, hz1, hz2⟩ := info_parts infoCh
  replace hA := hide hA
  go_enter Try.func41, Try.ntmps41
  go_wp2_with (at_make; refine wpList_make_full _ rfl _ _ 32 rfl w.heap.size 38 i0 (.agg #[.int .i64 0, .int .i64 0]) 2 Try.underlying32 hi hz0 hz1 .i64 .i64 _ _ ps.length rfl rfl (by omega) (by omega) (by rw [hz2]; omega) (by unfold maxLen; omega) (Nat.le_refl _) ?_; intro w1 hown hgrow)
  have hbel := (Below.refl w.heap.size w).grown hgrow (Nat.le_refl _) (by simp)
  generalize (madeCells (Value.cells (.agg #[.int .i64 0, .int .i64 0])) (ps.length * 2)).toList = ys0 at hown
  clear hgrow
  go_loopw [4] (fun i wr => ∃ k : Nat, ∃ ys, k ≤ ps.length ∧ i = .int .i64 k ∧ wr.ownsRow w.heap.size 38 2 (.slice (some ⟨w.heap.size, 0, none⟩) ps.length ps.length) ps.length ys ∧ Hid (RowCh ys ps k) ∧ Below w.heap.size w wr) (fun i _ => ps.length - (intOf i).toNat)
  case atStart => exact ⟨0, ys0, Nat.zero_le _, rfl, hown, fun j hj => by omega, hbel⟩
  case round =>
    clear hown hbel
    obtain ⟨k, ys, hk, rfl, hown, hrow, hbel⟩ := hrel
    by_cases hlt : k < ps.length
    · obtain ⟨b, off, rfl, hbl, hc⟩ := (unhide hA) (ne_of_lt_length hlt)
      have hl : ys.length = ps.length * 2 := hown.1
      have d0 := (hbel.cell (p := ⟨b, off + k * 2, none⟩) (by simpa using hbl)).trans (hc k hlt).1
      have d1 := (hbel.cell (p := ⟨b, off + k * 2 + 1, none⟩) (by simpa using hbl)).trans (hc k hlt).2
      generalize hf : ps.getD k Ch0 = f at d0 d1
      replace hf := hide hf
      obtain ⟨x0, x1⟩ := f
      simp only at d0 d1
      replace hc := hide hc
      go_wp2_with fail
      refine (toChoice_any x0 x1 wr).mono ?_
      rintro e w2 ⟨rfl, hb2⟩
      have hown2 := ownsP_below hown hb2
      have hbel2 := hbel.trans (hb2.mono hbel.size)
      clear hown hbel hb2 d0 d1 hc
      have e0 : ∃ a, w2.cell? ⟨w.heap.size, k * 2, none⟩ = some a := by rw [hown2.cellAt _ (by omega)]; exact ⟨_, List.getElem?_eq_getElem (by omega)⟩
      have e1 : ∃ a, w2.cell? ⟨w.heap.size, k * 2 + 1, none⟩ = some a := by rw [hown2.cellAt _ (by omega)]; exact ⟨_, List.getElem?_eq_getElem (by omega)⟩
      obtain ⟨a0, e0⟩ := e0
      obtain ⟨a1, e1⟩ := e1
      have f0 := hown2.frozenAt (k * 2)
      have f1 := hown2.frozenAt (k * 2 + 1)
      have hst := hide (((hown2.stored (k * 2) (.int .i64 x0)).1.stored (k * 2 + 1) (.int .i64 x1)).1)
      have hB2 := hide (((hbel2.setCell (p := ⟨w.heap.size, k * 2, none⟩) (Nat.le_refl _) (.int .i64 x0)).setCell (p := ⟨w.heap.size, k * 2 + 1, none⟩) (Nat.le_refl _) (.int .i64 x1)))
      have hrow2 : Hid (RowCh ((ys.set (k * 2) (.int .i64 x0)).set (k * 2 + 1) (.int .i64 x1)) ps (k + 1)) := by
        intro j hj
        by_cases e : j = k
        · subst e
          rw [unhide hf]
          refine ⟨?_, ?_⟩
          · rw [List.getElem?_set_ne (by omega), List.getElem?_set_self (by first | omega | (simp; omega))]
          · rw [List.getElem?_set_self (by first | omega | (simp; omega))]
        · have := unhide hrow j (by omega)
          refine ⟨?_, ?_⟩
          · rw [List.getElem?_set_ne (by omega), List.getElem?_set_ne (by omega)]; exact this.1
          · rw [List.getElem?_set_ne (by omega), List.getElem?_set_ne (by omega)]; exact this.2
      clear hown2 hbel2 hrow hf
      go_wp2
      go_roundw
      case rel => exact ⟨k + 1, _, by omega, by go_num, unhide hst, hrow2, unhide hB2⟩
      case measure => simp [intOf]; omega
    · have hkl : k = ps.length := by omega
      subst hkl
      have he := cellsCh_of hown.1 (unhide hrow)
      rw [he] at hown
      replace hown := hide (Own.of hown)
      clear hrow he
      go_wp2
      go_ret
      exact ⟨_, rfl, unhide hown, Upd.of_below hbel 0 0⟩

set_option maxHeartbeats 8000000 in
theorem eqChoiceS_rd (u v : Value) (ps : List Ch) (w : World) (hn : ps.length ≤ 1048576) (hu : RdCh w u ps) (hv : RdCh w v ps) :
    Calls Try.prog 43 #[u, v] w fun e w' => e = .returned (.bool true) ∧ Upd 0 0 w w' := by
  obtain ⟨ad, cap, rfl, hA⟩ := hu
  obtain ⟨ad', cap', rfl, hA'⟩ := hv
  replace hA := hide hA
  replace hA' := hide hA'
  go_enter Try.func43, Try.ntmps43
  go_wp2
  go_loopw [5] (fun i wr => ∃ k : Nat, k ≤ ps.length ∧ i = .int .i64 k ∧ Below w.heap.size w wr) (fun i _ => ps.length - (intOf i).toNat)
  case atStart => exact ⟨0, Nat.zero_le _, rfl, Below.refl _ _⟩
  case round =>
    obtain ⟨k, hk, rfl, hbel⟩ := hrel
    by_cases hlt : k < ps.length
    · obtain ⟨b, off, rfl, hbl, hc⟩ := ((unhide hA).below hbel) (ne_of_lt_length hlt)
      obtain ⟨b', off', rfl, hbl', hc'⟩ := ((unhide hA').below hbel) (ne_of_lt_length hlt)
      obtain ⟨d0, d1⟩ := hc k hlt
      obtain ⟨g0, g1⟩ := hc' k hlt
      clear hc hc' hbl hbl'
      generalize ps.getD k Ch0 = f at d0 d1 g0 g1
      obtain ⟨x0, x1⟩ := f
      simp only at d0 d1 g0 g1
      have hk0 : (0 : Int) ≤ (k : Int) := by omega
      have hk1 : (k : Int) < (ps.length : Int) := by omega
      go_wp2_with fail
      go_region_with (go_at_call 88; refine (eqChoice_eq x0 x1 _).mono ?_; rintro e w2 ⟨rfl, hb2⟩)
      all_goals
        have hb3 := hbel.drew.trans (hb2.mono (show w.heap.size ≤ _ from hbel.size))
        clear hb2
        go_wp2
        go_roundw
        case rel => exact ⟨k + 1, by omega, by go_num, hb3⟩
        case measure => simp [intOf]; omega
    · have hkl : k = ps.length := by omega
      subst hkl
      go_wp2
      go_ret
      exact ⟨rfl, Upd.of_below hbel 0 0⟩
end Go.Proofs.Ytocoeodoihdkgaa

/- Odds: what places and choices may be: both sides. -/
namespace Go.Proofs.Ytocoeodoihdkgaa
open Go.RowKit

theorem chsOk_take {places : Int} {cs : List (Int × Int)} (h : ∀ j, j < cs.length → chB places (cs.getD j (0, 0)) = true) : chsB places cs = true :=
  (chsB_iff _ _).2 fun j hj => (chB_iff _ _).1 (h j hj)
theorem chsB_no {places : Int} {cs : List (Int × Int)} (j : Nat) (hj : j < cs.length) (h : chB places (cs.getD j (0, 0)) = false) : chsB places cs = false := by
  cases he : chsB places cs with
  | false => rfl
  | true =>
    have := (chB_iff _ _).2 ((chsB_iff _ _).1 he j hj)
    rw [h] at this; exact this.symm
theorem oddsB_no {places : Int} {cs : List (Int × Int)} (h : chsB places cs = false) : oddsB places cs = false := by
  unfold oddsB; rw [h, Bool.and_false]
theorem chB_cases (places x y : Int) : (chB places (x, y) = true ∧ 0 ≤ x ∧ x < places ∧ 0 ≤ y ∧ y ≤ 1) ∨ (chB places (x, y) = false ∧ (x < 0 ∨ (0 ≤ x ∧ places ≤ x) ∨ (0 ≤ x ∧ x < places ∧ y < 0) ∨ (0 ≤ x ∧ x < places ∧ 0 ≤ y ∧ 1 < y))) := by
  by_cases h : (0 ≤ x ∧ x < places) ∧ 0 ≤ y ∧ y ≤ 1
  · exact .inl ⟨(chB_iff _ _).2 h, h.1.1, h.1.2, h.2⟩
  · refine .inr ⟨?_, by omega⟩
    cases he : chB places (x, y) with
    | false => rfl
    | true => exact absurd ((chB_iff _ _).1 he) h
set_option maxRecDepth 100000 in
set_option maxHeartbeats 8000000 in
theorem specL12Ok (p : Int) (v : Value) (cs : List Ch) (w : World) (hn : cs.length ≤ 1048576) (hv : RdCh w v cs) :
    Calls Try.prog 62 #[.int .i64 p, v] w fun e w' => e = .returned (.bool (oddsB p cs)) ∧ Upd 0 0 w w' := by
  obtain ⟨ad, cap, rfl, hA⟩ := hv
  replace hA := hide hA
  go_enter Try.func62, Try.ntmps62
  go_wp2_with fail
  go_loopw [6, 9] (fun _ i wr => ∃ (j : Nat), i = .int .i64 (j : Int) ∧ j ≤ cs.length ∧ Hid (∀ k, k < j → chB p (cs.getD k (0, 0)) = true) ∧ Hid (Below w.heap.size w wr)) (fun _ i _ => cs.length - (intOf i).toNat)
  case atStart => exact ⟨0, rfl, by omega, hide (fun k hk => by omega), hide (Below.refl _ _)⟩
  case round =>
    obtain ⟨j, rfl, hj, hst, hbel⟩ := hrel
    by_cases hjl : j < cs.length
    · obtain ⟨bb, off, rfl, hbl, hcl⟩ := (unhide hA) (ne_of_lt_length hjl)
      obtain ⟨c0, c1⟩ := hcl j hjl
      rw [show cs.getD j Ch0 = cs.getD j (0, 0) from rfl] at c0 c1
      generalize hx : cs.getD j (0, 0) = c at c0 c1
      obtain ⟨x, y⟩ := c
      have c0 : wr.cell? ⟨bb, off + j * 2, none⟩ = some (.int .i64 x) := ((unhide hbel).cell (by simpa using hbl)).trans c0
      have c1 : wr.cell? ⟨bb, off + j * 2 + 1, none⟩ = some (.int .i64 y) := ((unhide hbel).cell (by simpa using hbl)).trans c1
      have hb2 := hide ((unhide hbel).alloc (unhide hbel).size (.cells #[.int .i64 x, .int .i64 y] 38))
      replace hA := hide hA
      clear hcl
      rcases chB_cases p x y with ⟨hcb, x0, x1, y0, y1⟩ | ⟨hcb, hbad⟩
      · have hst2 := hide (show ∀ k, k < j + 1 → chB p (cs.getD k (0, 0)) = true from fun k hk => by
          rcases Nat.lt_or_ge k j with h | h
          · exact unhide hst k h
          · rw [show k = j by omega, hx]; exact hcb)
        clear hst hx hcb
        go_wp2_with fail
        go_roundw
        case rel => exact ⟨j + 1, by go_num, by omega, hst2, hb2⟩
        case measure => simp [intOf]; omega
      · have hno := hide (oddsB_no (chsB_no (places := p) j hjl (by rw [hx]; exact hcb)))
        have hfin := hide (Upd.of_below (unhide hb2) 0 0)
        clear hst hx hcb
        rcases hbad with h | ⟨h, h'⟩ | ⟨h, h', h''⟩ | ⟨h, h', h'', h3⟩
        all_goals
          go_wp2
          go_ret
          exact ⟨by rw [unhide hno]; rfl, unhide hfin⟩
    · obtain rfl : j = cs.length := by omega
      have hyes := hide (chsOk_take (places := p) (unhide hst))
      clear hst hjl
      have hE := hide (show oddsB p cs = (decide (1 ≤ p) && decide (p ≤ 512) && decide (cs.length ≤ 20000)) by unfold oddsB; rw [unhide hyes, Bool.and_true])
      have hfin := hide (Upd.of_below (unhide hbel) 0 0)
      clear hyes hbel
      rcases (show p < 1 ∨ (1 ≤ p ∧ 512 < p) ∨ (1 ≤ p ∧ p ≤ 512 ∧ 20000 < cs.length) ∨ (1 ≤ p ∧ p ≤ 512 ∧ cs.length ≤ 20000) by omega) with h | ⟨h, h'⟩ | ⟨h, h', h''⟩ | ⟨h, h', h''⟩
      · replace hE := hide (show oddsB p cs = false by rw [unhide hE, decide_eq_false (by omega)]; rfl)
        go_wp2
        go_ret
        exact ⟨by rw [unhide hE]; rfl, unhide hfin⟩
      · replace hE := hide (show oddsB p cs = false by rw [unhide hE, decide_eq_false (show ¬ p ≤ 512 by omega), Bool.and_false]; rfl)
        go_wp2
        go_ret
        exact ⟨by rw [unhide hE]; rfl, unhide hfin⟩
      · replace hE := hide (show oddsB p cs = false by rw [unhide hE, decide_eq_false (show ¬ cs.length ≤ 20000 by omega), Bool.and_false])
        have d : decide ((cs.length : Int) ≤ 20000) = false := decide_eq_false (by omega)
        go_wp2
        go_ret
        exact ⟨by rw [unhide hE]; rfl, unhide hfin⟩
      · replace hE := hide (show oddsB p cs = true by rw [unhide hE, decide_eq_true h, decide_eq_true h', decide_eq_true h'']; rfl)
        have d : decide ((cs.length : Int) ≤ 20000) = true := decide_eq_true (by omega)
        go_wp2
        go_ret
        exact ⟨by rw [unhide hE]; rfl, unhide hfin⟩
def placesB (p : Int) : Bool := decide (1 ≤ p) && decide (p ≤ 512)
set_option maxHeartbeats 4000000 in
theorem implGoodPlaces (p : Int) (w : World) : Calls Try.prog 67 #[.int .i64 p] w fun e w' => e = .returned (.bool (placesB p)) ∧ w' = w := by
  rcases (show p < 1 ∨ (1 ≤ p ∧ 512 < p) ∨ (1 ≤ p ∧ p ≤ 512) by omega) with h | ⟨h, h'⟩ | ⟨h, h'⟩
  · have hE := hide (show placesB p = false by unfold placesB; rw [decide_eq_false (by omega)]; rfl)
    go_enter Try.func67, Try.ntmps67
    go_wp2
    go_ret
    exact ⟨by rw [unhide hE]; rfl, rfl⟩
  · have hE := hide (show placesB p = false by unfold placesB; rw [decide_eq_false (show ¬ p ≤ 512 by omega), Bool.and_false])
    have d : decide (p ≤ 512) = false := decide_eq_false (by omega)
    go_enter Try.func67, Try.ntmps67
    go_wp2
    go_ret
    exact ⟨by rw [unhide hE]; rfl, rfl⟩
  · have hE := hide (show placesB p = true by unfold placesB; rw [decide_eq_true h, decide_eq_true h']; rfl)
    have d : decide (p ≤ 512) = true := decide_eq_true h'
    go_enter Try.func67, Try.ntmps67
    go_wp2
    go_ret
    exact ⟨by rw [unhide hE]; rfl, rfl⟩
set_option maxRecDepth 100000 in
set_option maxHeartbeats 8000000 in
theorem implGoodChoices (p : Int) (v : Value) (cs : List Ch) (w : World) (hn : cs.length ≤ 1048576) (hv : RdCh w v cs) :
    Calls Try.prog 58 #[.int .i64 p, v] w fun e w' => e = .returned (.bool (oddsB p cs)) ∧ Upd 0 0 w w' := by
  obtain ⟨ad, cap, rfl, hA⟩ := hv
  have hP := hide (implGoodPlaces p w)
  by_cases hpl : placesB p = true
  case neg =>
    have hpl : placesB p = false := by simpa using hpl
    have hE := hide (show oddsB p cs = false by unfold oddsB; unfold placesB at hpl; rw [hpl]; rfl)
    rw [hpl] at hP
    clear hpl hA
    go_enter Try.func58, Try.ntmps58
    go_wp2_with fail
    refine (unhide hP).mono ?_
    rintro e w1 ⟨rfl, rfl⟩
    go_wp2
    go_ret
    exact ⟨by rw [unhide hE]; rfl, Upd.refl _ _ _⟩
  by_cases hlen : 20000 < cs.length
  · have hE := hide (show oddsB p cs = false by unfold oddsB; rw [decide_eq_false (show ¬ cs.length ≤ 20000 by omega), Bool.and_false]; rfl)
    rw [hpl] at hP
    clear hpl hA
    go_enter Try.func58, Try.ntmps58
    go_wp2_with fail
    refine (unhide hP).mono ?_
    rintro e w1 ⟨rfl, rfl⟩
    go_wp2
    go_ret
    exact ⟨by rw [unhide hE]; rfl, Upd.refl _ _ _⟩
  have hE0 := hide (show oddsB p cs = chsB p cs by unfold oddsB; unfold placesB at hpl; rw [hpl, decide_eq_true (show cs.length ≤ 20000 by omega)]; rfl)
  rw [hpl] at hP
  clear hpl
  replace hA := hide hA
  go_enter Try.func58, Try.ntmps58
  go_wp2_with fail
  refine (unhide hP).mono ?_
  rintro e w1 ⟨rfl, hw1⟩
  obtain rfl : w = w1 := hw1.symm
  clear hP
  go_wp2_with fail
  go_loopw [6, 17] (fun _ i wr => ∃ (j : Nat), i = .int .i64 (j : Int) ∧ j ≤ cs.length ∧ Hid (∀ k, k < j → chB p (cs.getD k (0, 0)) = true) ∧ Hid (Below w.heap.size w wr)) (fun _ i _ => cs.length - (intOf i).toNat)
  case atStart => exact ⟨0, rfl, by omega, hide (fun k hk => by omega), hide (Below.refl _ _)⟩
  case round =>
    obtain ⟨j, rfl, hj, hst, hbel⟩ := hrel
    by_cases hjl : j < cs.length
    · obtain ⟨bb, off, rfl, hbl, hcl⟩ := (unhide hA) (ne_of_lt_length hjl)
      obtain ⟨c0, c1⟩ := hcl j hjl
      rw [show cs.getD j Ch0 = cs.getD j (0, 0) from rfl] at c0 c1
      generalize hx : cs.getD j (0, 0) = c at c0 c1
      obtain ⟨x, y⟩ := c
      have c0 : wr.cell? ⟨bb, off + j * 2, none⟩ = some (.int .i64 x) := ((unhide hbel).cell (by simpa using hbl)).trans c0
      have c1 : wr.cell? ⟨bb, off + j * 2 + 1, none⟩ = some (.int .i64 y) := ((unhide hbel).cell (by simpa using hbl)).trans c1
      have hb2 := hide ((unhide hbel).alloc (unhide hbel).size (.cells #[.int .i64 x, .int .i64 y] 38))
      replace hA := hide hA
      clear hcl
      rcases chB_cases p x y with ⟨hcb, x0, x1, y0, y1⟩ | ⟨hcb, hbad⟩
      · have hst2 := hide (show ∀ k, k < j + 1 → chB p (cs.getD k (0, 0)) = true from fun k hk => by
          rcases Nat.lt_or_ge k j with h | h
          · exact unhide hst k h
          · rw [show k = j by omega, hx]; exact hcb)
        clear hst hx hcb
        go_wp2_with fail
        go_roundw
        case rel => exact ⟨j + 1, by go_num, by omega, hst2, hb2⟩
        case measure => simp [intOf]; omega
      · have hno := hide (oddsB_no (chsB_no (places := p) j hjl (by rw [hx]; exact hcb)))
        have hfin := hide (Upd.of_below (unhide hb2) 0 0)
        clear hst hx hcb
        rcases hbad with h | ⟨h, h'⟩ | ⟨h, h', h''⟩ | ⟨h, h', h'', h3⟩
        all_goals
          go_wp2
          go_ret
          exact ⟨by rw [unhide hno]; rfl, unhide hfin⟩
    · obtain rfl : j = cs.length := by omega
      have hyes := hide (chsOk_take (places := p) (unhide hst))
      clear hst hjl
      have hfin := hide (Upd.of_below (unhide hbel) 0 0)
      clear hbel
      go_wp2
      go_ret
      exact ⟨by rw [unhide hE0, unhide hyes]; rfl, unhide hfin⟩
end Go.Proofs.Ytocoeodoihdkgaa

/- The specification's marks. -/
namespace Go.Proofs.Ytocoeodoihdkgaa
open Go.RowKit

theorem i64_and_1m (n : Int) : bits .and .i64 n 1 = n % 2 := by
  have h1 : (BitVec.ofInt 64 1).toNat = 2 ^ 1 - 1 := by decide
  have key : (BitVec.ofInt 64 n &&& BitVec.ofInt 64 1).toNat = (n % ((2 ^ 64 : Nat) : Int)).toNat % 2 ^ 1 := by
    rw [BitVec.toNat_and, BitVec.toNat_ofInt, h1, Nat.and_two_pow_sub_one_eq_mod]
  show IntKind.i64.wrap ((BitVec.ofInt 64 n &&& BitVec.ofInt 64 1).toNat : Nat) = _
  rw [key, IntKind.wrap_i64]
  omega
theorem shr_pos (m b : Nat) (h : 2 ^ (b + 1) ≤ m) : (0 : Int) < (m : Int) / 2 ^ (b + 1) := by
  have hp : 0 < 2 ^ (b + 1) := Nat.two_pow_pos _
  rw [show ((m : Int) / 2 ^ (b + 1)) = ((m / 2 ^ (b + 1) : Nat) : Int) by simp]
  have : 1 ≤ m / 2 ^ (b + 1) := (Nat.le_div_iff_mul_le hp).2 (by omega)
  omega
theorem shr_zero (m b : Nat) (h : ¬ 2 ^ (b + 1) ≤ m) : ¬ (0 : Int) < (m : Int) / 2 ^ (b + 1) := by
  rw [show ((m : Int) / 2 ^ (b + 1)) = ((m / 2 ^ (b + 1) : Nat) : Int) by simp, Nat.div_eq_of_lt (by omega)]
  simp
theorem shr_16 (m b : Nat) (h : 2 ^ (b + 1) ≤ m) (hm : m ≤ 65536) : b < 16 := by
  rcases Nat.lt_or_ge b 16 with h1 | h1
  · exact h1
  · have : 2 ^ 17 ≤ 2 ^ (b + 1) := Nat.pow_le_pow_right (by omega) (by omega)
    omega
theorem twoNewM (w : World) (u u' : Value) (t : TypeId) : ∀ j v, [u, u'][j]? = some v → (w.alloc (.cells #[u, u'] t)).cell? ((⟨w.heap.size, 0, none⟩ : Addr).add j) = some v := by
  intro j v hj
  match j, hj with
  | 0, hj => simp at hj; subst hj; simp [Addr.add]
  | 1, hj => simp at hj; subst hj; simp [Addr.add]
theorem twoOneM (q q' : IntKind) (a b : Int) : ∀ u ∈ [Value.int q a, Value.int q' b], u.oneCell' = true := by
  intro u hu; simp at hu; rcases hu with rfl | rfl <;> rfl
set_option maxRecDepth 100000 in
set_option maxHeartbeats 4000000 in
theorem specL12Marks (n f : Int) (w : World) (h0 : 0 ≤ n) (h1 : n ≤ 65535) (h2 : 0 ≤ f) (h3 : f ≤ 472) :
    Calls Try.prog 74 #[.int .i64 n, .int .i64 f] w fun e w' => ∃ v, e = .returned v ∧ OwnCh w' w.heap.size w'.heap.size v (marksL n f) ∧ Upd 0 0 w w' := by
  obtain ⟨m, hm⟩ : ∃ m : Nat, n + 1 = (m : Int) := ⟨(n + 1).toNat, by omega⟩
  have hm1 : 1 ≤ m ∧ m ≤ 65536 := by omega
  have hw : IntKind.i64.wrap (n + 1) = (m : Int) := by rw [hm]; simp [IntKind.wrap, IntKind.bits, IntKind.signed]; omega
  go_enter Try.func74, Try.ntmps74
  go_wp2_with fail
  go_loopw [6] (fun r wr => ∃ (b : Nat), r = .int .i64 (b : Int) ∧ b ≤ 16 ∧ 2 ^ b ≤ m ∧ w = wr) (fun r _ => 64 - (intOf r).toNat)
  case atStart => exact ⟨0, rfl, by omega, by simpa using hm1.1, rfl⟩
  case round =>
    obtain ⟨b, rfl, hb, hbm, rfl⟩ := hrel
    have hb0 : (0 : Int) ≤ (b : Int) + 1 := by omega
    have hb1 : (b : Int) + 1 ≤ 64 := by omega
    replace hbm := hide hbm
    replace hm := hide hm
    clear hw
    by_cases hq : 2 ^ (b + 1) ≤ m
    · have hd : (0 : Int) < (m : Int) / 2 ^ (b + 1) := shr_pos m b hq
      have hgt : decide ((0 : Int) < (m : Int) / 2 ^ (b + 1)) = true := decide_eq_true hd
      have hb16 := shr_16 m b hq hm1.2
      replace hd := hide hd
      replace hq := hide hq
      go_wp2_with fail
      go_roundw
      case rel => exact ⟨b + 1, by simp, by omega, unhide hq, trivial⟩
      case measure => simp [intOf]; omega
    · have hd : ¬ ((0 : Int) < (m : Int) / 2 ^ (b + 1)) := shr_zero m b hq
      have hgt : decide ((0 : Int) < (m : Int) / 2 ^ (b + 1)) = false := decide_eq_false hd
      replace hd := hide hd
      have hbb := hide (markBits_of n b ⟨h0, h1⟩ (by have := unhide hm; have := unhide hbm; omega) (by have := unhide hm; omega))
      clear hq
      go_wp2_with fail
      go_loopw [7, 8] (fun r i wr => ∃ (j : Nat) (ad2 : Option Addr) (cp : Nat) (L : List Ch), r = .slice ad2 L.length cp ∧ i = .int .i64 (j : Int) ∧ j ≤ b ∧ L.length = j ∧ Hid (marksTo n f b j = L) ∧ Hid (wr.ownsRow w.heap.size 38 2 (.slice ad2 L.length cp) L.length (cellsCh L)) ∧ Hid (Below w.heap.size w wr)) (fun _ i _ => b - (intOf i).toNat)
      case atStart => exact ⟨0, none, 0, [], rfl, rfl, by omega, rfl, hide rfl, hide (World.ownsRow_nil _ _ _ _), hide (Below.refl _ _)⟩
      case round =>
        obtain ⟨j, ad2, cp, L, rfl, rfl, hj, hLj, hst, hrow, hbel⟩ := hrel
        by_cases hjb : j < b
        · have hjt : decide ((j : Int) < (b : Int)) = true := decide_eq_true (by omega)
          have hnx := hide (show marksTo n f b (j + 1) = L ++ [(f + (j : Int), 1)] by rw [marksTo_succ, unhide hst, mkAt_lt n f b j hjb])
          clear hst
          replace hLj := hide hLj
          have hLl : L.length ≤ 16 := by have := unhide hLj; omega
          have hrow1 := unhide hrow
          have hbel1 := unhide hbel
          have hsz := hbel1.size
          obtain ⟨i0, hi, hz0, hz1, hz2⟩ := info_parts infoCh
          have hb1 : L.length + 1 ≤ maxLen := by unfold maxLen; omega
          have hb2 : (L.length + 1) * 16 ≤ 140737488355328 := by omega
          have hb3 : w.heap.size ≤ (wr.alloc (.cells #[.int .i64 (f + (j : Int)), .int .i64 1] 38)).heap.size := by simp; omega
          go_wp2_with (at_builtin; refine wpList_append_own_at _ rfl (.tmp 25) (.tmp 30) 32 rfl w.heap.size 38 i0 (.agg #[.int .i64 0, .int .i64 0]) 2 16 Try.underlying32 hi hz0 hz1 hz2 rfl (by decide) (.slice ad2 L.length cp) L.length (cellsCh L) rfl (hrow1.alloc _) ⟨wr.heap.size, 0, none⟩ 1 1 [.int .i64 (f + (j : Int)), .int .i64 1] rfl rfl (twoNewM _ _ _ _) (twoOneM _ _ _ _) hb1 hb2 hb3 ?_)
          intro v' w2 hown' hgrow _ _
          have hbel2 := hide ((hbel1.alloc hsz (.cells #[.int .i64 (f + (j : Int)), .int .i64 1] 38)).grown hgrow (by simp; omega) (fun k hk => (hrow1.lt k hk).1))
          obtain ⟨ad3, cp3, rfl⟩ : ∃ ad3 cp3, v' = .slice ad3 (L.length + 1) cp3 := by
            obtain ⟨g, c, e⟩ := ownsRow_succ hown'
            exact ⟨_, _, e⟩
          have hrow2 : Hid (w2.ownsRow w.heap.size 38 2 (.slice ad3 (L ++ [((f + (j : Int)), 1)]).length cp3) (L ++ [((f + (j : Int)), 1)]).length (cellsCh (L ++ [((f + (j : Int)), 1)]))) := hide (by
            rw [cellsCh_snoc, List.length_append]; exact hown')
          rw [show L.length + 1 = (L ++ [((f + (j : Int)), 1)]).length by simp]
          generalize hLn : L ++ [((f + (j : Int)), 1)] = L2 at hrow2 ⊢
          clear hown' hgrow hrow1 hbel1 hsz hb1 hb2 hb3
          rw [hLn] at hnx
          have hl2 : L2.length = j + 1 := by rw [← hLn, List.length_append, unhide hLj]; rfl
          go_wp2_with fail
          go_roundw
          case rel => exact ⟨j + 1, _, _, L2, rfl, by go_num, by omega, hl2, hnx, hrow2, hbel2⟩
          case measure => simp [intOf]; omega
        · have hjt : decide ((j : Int) < (b : Int)) = false := decide_eq_false (by omega)
          obtain rfl : j = b := by omega
          have hnx := hide (show marksTo n f j (j + 1 + 0) = L ++ [(f + (j : Int), 0)] by rw [Nat.add_zero, marksTo_succ, unhide hst, mkAt_eq n f j])
          clear hst hjb
          replace hLj := hide hLj
          have hLl : L.length ≤ 16 := by have := unhide hLj; omega
          have hrow1 := unhide hrow
          have hbel1 := unhide hbel
          have hsz := hbel1.size
          obtain ⟨i0, hi, hz0, hz1, hz2⟩ := info_parts infoCh
          have hb1 : L.length + 1 ≤ maxLen := by unfold maxLen; omega
          have hb2 : (L.length + 1) * 16 ≤ 140737488355328 := by omega
          have hb3 : w.heap.size ≤ (wr.alloc (.cells #[.int .i64 (f + (j : Int)), .int .i64 0] 38)).heap.size := by simp; omega
          go_wp2_with (at_builtin; refine wpList_append_own_at _ rfl (.tmp 32) (.tmp 37) 32 rfl w.heap.size 38 i0 (.agg #[.int .i64 0, .int .i64 0]) 2 16 Try.underlying32 hi hz0 hz1 hz2 rfl (by decide) (.slice ad2 L.length cp) L.length (cellsCh L) rfl (hrow1.alloc _) ⟨wr.heap.size, 0, none⟩ 1 1 [.int .i64 (f + (j : Int)), .int .i64 0] rfl rfl (twoNewM _ _ _ _) (twoOneM _ _ _ _) hb1 hb2 hb3 ?_)
          intro v' w2 hown' hgrow _ _
          have hbel2 := hide ((hbel1.alloc hsz (.cells #[.int .i64 (f + (j : Int)), .int .i64 0] 38)).grown hgrow (by simp; omega) (fun k hk => (hrow1.lt k hk).1))
          obtain ⟨ad3, cp3, rfl⟩ : ∃ ad3 cp3, v' = .slice ad3 (L.length + 1) cp3 := by
            obtain ⟨g, c, e⟩ := ownsRow_succ hown'
            exact ⟨_, _, e⟩
          have hrow2 : Hid (w2.ownsRow w.heap.size 38 2 (.slice ad3 (L ++ [((f + (j : Int)), 0)]).length cp3) (L ++ [((f + (j : Int)), 0)]).length (cellsCh (L ++ [((f + (j : Int)), 0)]))) := hide (by
            rw [cellsCh_snoc, List.length_append]; exact hown')
          rw [show L.length + 1 = (L ++ [((f + (j : Int)), 0)]).length by simp]
          generalize hLn : L ++ [((f + (j : Int)), 0)] = L2 at hrow2 ⊢
          clear hown' hgrow hrow1 hbel1 hsz hb1 hb2 hb3
          rw [hLn] at hnx
          have hl2 : L2.length = j + 1 + 0 := by rw [← hLn, List.length_append, unhide hLj]; rfl
          clear hLj hLn hLl hrow hbel hjt
          go_wp2_with fail
          rename_i wq
          go_loopw [7, 9] (fun r i wr => ∃ (k : Nat) (ad2 : Option Addr) (cp : Nat) (L : List Ch), r = .slice ad2 L.length cp ∧ i = .int .i64 ((j : Int) - 1 - (k : Int)) ∧ k ≤ j ∧ L.length = j + 1 + k ∧ Hid (marksTo n f j (j + 1 + k) = L) ∧ Hid (wr.ownsRow w.heap.size 38 2 (.slice ad2 L.length cp) L.length (cellsCh L)) ∧ Hid (Below w.heap.size w wr)) (fun _ i _ => (intOf i + 1).toNat)
          case atStart => exact ⟨0, _, _, L2, rfl, by go_num, by omega, hl2, hnx, hrow2, hbel2⟩
          case round =>
            clear hnx hrow2 hbel2 hl2
            obtain ⟨k, ad2, cp, L, rfl, rfl, hk, hLj, hst, hrow, hbel⟩ := hrel
            by_cases hkb : k < j
            · obtain ⟨i, hij⟩ : ∃ i : Nat, j = i + 1 + k := ⟨j - 1 - k, by omega⟩
              have e1 : (j : Int) - 1 - (k : Int) = (i : Int) := by omega
              rw [e1]
              have hjt : decide ((0 : Int) ≤ (i : Int)) = true := decide_eq_true (by omega)
              have hjt2 : decide ((i : Int) < 0) = false := decide_eq_false (by omega)
              have hbit : bits .and .i64 ((m : Int) / 2 ^ i) 1 = (m : Int) / 2 ^ i % 2 := i64_and_1m _
              have hnx := hide (show marksTo n f j (j + 1 + (k + 1)) = L ++ [(f + 20 + (i : Int), (m : Int) / 2 ^ i % 2)] by
                rw [show j + 1 + (k + 1) = j + 1 + k + 1 by omega, marksTo_succ, unhide hst, show j + 1 + k = 2 * j - i by omega, mkAt_gt n f j i (by omega), unhide hm])
              have hi16 : (i : Int) ≤ 16 := by omega
              have hi0 : (0 : Int) ≤ (i : Int) := by omega
              replace hij := hide hij
              have hy : 0 ≤ (m : Int) / 2 ^ i % 2 ∧ (m : Int) / 2 ^ i % 2 ≤ 1 := by
                generalize (m : Int) / 2 ^ i = z
                omega
              generalize (m : Int) / 2 ^ i % 2 = y at hbit hnx hy
              clear hst e1
              replace hLj := hide hLj
              have hLl : L.length ≤ 33 := by have := unhide hLj; omega
              have hrow1 := unhide hrow
              have hbel1 := unhide hbel
              have hsz := hbel1.size
              obtain ⟨i0, hi, hz0, hz1, hz2⟩ := info_parts infoCh
              have hb1 : L.length + 1 ≤ maxLen := by unfold maxLen; omega
              have hb2 : (L.length + 1) * 16 ≤ 140737488355328 := by omega
              have hb3 : w.heap.size ≤ (wr.alloc (.cells #[.int .i64 (f + 20 + (i : Int)), .int .i64 y] 38)).heap.size := by simp; omega
              go_wp2_with (at_builtin; refine wpList_append_own_at _ rfl (.tmp 45) (.tmp 56) 32 rfl w.heap.size 38 i0 (.agg #[.int .i64 0, .int .i64 0]) 2 16 Try.underlying32 hi hz0 hz1 hz2 rfl (by decide) (.slice ad2 L.length cp) L.length (cellsCh L) rfl (hrow1.alloc _) ⟨wr.heap.size, 0, none⟩ 1 1 [.int .i64 (f + 20 + (i : Int)), .int .i64 y] rfl rfl (twoNewM _ _ _ _) (twoOneM _ _ _ _) hb1 hb2 hb3 ?_)
              intro v' w2 hown' hgrow _ _
              have hbel2 := hide ((hbel1.alloc hsz (.cells #[.int .i64 (f + 20 + (i : Int)), .int .i64 y] 38)).grown hgrow (by simp; omega) (fun k hk => (hrow1.lt k hk).1))
              obtain ⟨ad3, cp3, rfl⟩ : ∃ ad3 cp3, v' = .slice ad3 (L.length + 1) cp3 := by
                obtain ⟨g, c, e⟩ := ownsRow_succ hown'
                exact ⟨_, _, e⟩
              have hrow2 : Hid (w2.ownsRow w.heap.size 38 2 (.slice ad3 (L ++ [((f + 20 + (i : Int)), y)]).length cp3) (L ++ [((f + 20 + (i : Int)), y)]).length (cellsCh (L ++ [((f + 20 + (i : Int)), y)]))) := hide (by
                rw [cellsCh_snoc, List.length_append]; exact hown')
              rw [show L.length + 1 = (L ++ [((f + 20 + (i : Int)), y)]).length by simp]
              generalize hLn : L ++ [((f + 20 + (i : Int)), y)] = L2 at hrow2 ⊢
              clear hown' hgrow hrow1 hbel1 hsz hb1 hb2 hb3
              rw [hLn] at hnx
              have hl2 : L2.length = j + 1 + (k + 1) := by rw [← hLn, List.length_append, unhide hLj]; rfl
              replace hij := unhide hij
              go_wp2_with fail
              go_roundw
              case rel => exact ⟨k + 1, _, _, L2, rfl, by first | (congr 1; omega) | go_num, by omega, hl2, hnx, hrow2, hbel2⟩
              case measure => first | (simp [intOf]; done) | (simp [intOf]; omega)
            · obtain rfl : k = j := by omega
              have hjt : decide ((0 : Int) ≤ (k : Int) - 1 - (k : Int)) = false := decide_eq_false (by omega)
              have hF := hide (show marksL n f = L by unfold marksL; rw [unhide hbb, ← unhide hst]; congr 1; omega)
              clear hst hkb
              have hlj := hide hLj
              clear hLj
              go_wp2
              go_ret
              exact ⟨_, rfl, by rw [unhide hF]; exact Own.of (unhide hrow), Upd.of_below (unhide hbel) 0 0⟩
set_option maxRecDepth 100000 in
set_option maxHeartbeats 4000000 in
theorem specMarks (n f : Int) (w : World) (hn0 : -9223372036854775808 ≤ n) (hn1 : n ≤ 9223372036854775807) (hf0 : -9223372036854775808 ≤ f) (hf1 : f ≤ 9223372036854775807) :
    Calls Try.prog 24 #[.int .i64 n, .int .i64 f] w fun e w' => ∃ v, e = .returned v ∧ OwnCh w' w.heap.size w'.heap.size v (marksF n f) ∧ Upd 0 0 w w' := by
  by_cases h1 : MkOk n f
  · obtain ⟨a0, a1, a2, a3⟩ := h1
    have hE : Hid (marksF n f = marksL n f) := hide (by unfold marksF; rw [if_pos ⟨a0, a1, a2, a3⟩])
    have hC := hide (fun X => specL12Marks n f X a0 a1 a2 a3)
    go_enter Try.func24, Try.ntmps24
    go_wp2_with fail
    refine (unhide hC _).mono ?_
    rintro e w1 ⟨v, rfl, ho, hu⟩
    have ho2 := hide ho
    have hu2 := hide hu
    clear ho hu
    go_wp2
    go_ret
    exact ⟨_, rfl, by rw [unhide hE]; exact unhide ho2, unhide hu2⟩
  · have hE : Hid (marksF n f = []) := hide (by unfold marksF; rw [if_neg h1])
    rcases (show n < 0 ∨ (0 ≤ n ∧ 65535 < n) ∨ (0 ≤ n ∧ n ≤ 65535 ∧ f < 0) ∨ (0 ≤ n ∧ n ≤ 65535 ∧ 0 ≤ f ∧ 472 < f) by unfold MkOk at h1; omega) with h | ⟨h, h'⟩ | ⟨h, h', h''⟩ | ⟨h, h', h'', h3⟩
    all_goals
      clear h1
      go_enter Try.func24, Try.ntmps24
      go_wp2
      go_ret
      exact ⟨_, rfl, by rw [unhide hE]; exact own_nilCh _ _ _, Upd.refl _ _ _⟩
end Go.Proofs.Ytocoeodoihdkgaa

/- Plain: a number of some bits taken out of bytes, bit by bit and part by part, in either order. -/
namespace Go.Proofs.Ytocoeodoihdkgaa
open Go.RowKit

def byteAt (zs : List Int) (i : Nat) : Nat := (zs.getD i 0).toNat
def bitLow (zs : List Int) (i : Nat) : Nat := byteAt zs (i / 8) / 2 ^ (i % 8) % 2
def bitHigh (zs : List Int) (i : Nat) : Nat := byteAt zs (i / 8) / 2 ^ (7 - i % 8) % 2
def lowTo (zs : List Int) (p : Nat) : Nat → Nat
  | 0 => 0
  | k + 1 => lowTo zs p k + bitLow zs (p + k) * 2 ^ k
def highTo (zs : List Int) (p : Nat) : Nat → Nat
  | 0 => 0
  | k + 1 => 2 * highTo zs p k + bitHigh zs (p + k)
theorem lowTo_lt (zs : List Int) (p k : Nat) : lowTo zs p k < 2 ^ k := by
  induction k with
  | zero => show 0 < 1; omega
  | succ k ih =>
    have hb : bitLow zs (p + k) ≤ 1 := by unfold bitLow; omega
    have := Nat.mul_le_mul_right (2 ^ k) hb
    show lowTo zs p k + bitLow zs (p + k) * 2 ^ k < 2 ^ (k + 1)
    rw [Nat.pow_succ]; omega
theorem highTo_lt (zs : List Int) (p k : Nat) : highTo zs p k < 2 ^ k := by
  induction k with
  | zero => show 0 < 1; omega
  | succ k ih =>
    have hb : bitHigh zs (p + k) ≤ 1 := by unfold bitHigh; omega
    show 2 * highTo zs p k + bitHigh zs (p + k) < 2 ^ (k + 1)
    rw [Nat.pow_succ]; omega
theorem mod_pow_step (x n : Nat) : x % 2 ^ (n + 1) = x % 2 ^ n + x / 2 ^ n % 2 * 2 ^ n := by
  rw [Nat.pow_succ, Nat.mod_mul, Nat.mul_comm (2 ^ n)]
theorem low_part (zs : List Int) (p d n : Nat) (h : (p + d) % 8 + n ≤ 8) :
    lowTo zs p (d + n) = lowTo zs p d + byteAt zs ((p + d) / 8) / 2 ^ ((p + d) % 8) % 2 ^ n * 2 ^ d := by
  induction n with
  | zero => simp [Nat.mod_one]
  | succ n ih =>
    show lowTo zs p (d + n) + bitLow zs (p + (d + n)) * 2 ^ (d + n) = _
    rw [ih (by omega), mod_pow_step, Nat.add_mul, Nat.add_assoc]
    congr 1
    unfold bitLow
    have e1 : (p + (d + n)) / 8 = (p + d) / 8 := by omega
    have e2 : (p + (d + n)) % 8 = (p + d) % 8 + n := by omega
    rw [e1, e2, Nat.pow_add, ← Nat.div_div_eq_div_mul]
    congr 1
    rw [Nat.mul_assoc, ← Nat.pow_add, Nat.add_comm n d]
theorem high_part (zs : List Int) (p d n : Nat) (h : (p + d) % 8 + n ≤ 8) :
    highTo zs p (d + n) = highTo zs p d * 2 ^ n + byteAt zs ((p + d) / 8) / 2 ^ (8 - (p + d) % 8 - n) % 2 ^ n := by
  induction n with
  | zero => simp [Nat.mod_one]
  | succ n ih =>
    show 2 * highTo zs p (d + n) + bitHigh zs (p + (d + n)) = _
    rw [ih (by omega)]
    unfold bitHigh
    have e1 : (p + (d + n)) / 8 = (p + d) / 8 := by omega
    have e2 : 7 - (p + (d + n)) % 8 = 8 - (p + d) % 8 - (n + 1) := by omega
    have e3 : 8 - (p + d) % 8 - n = (8 - (p + d) % 8 - (n + 1)) + 1 := by omega
    rw [e1, e2, e3, Nat.pow_succ 2 (8 - (p + d) % 8 - (n + 1)), ← Nat.div_div_eq_div_mul]
    generalize byteAt zs ((p + d) / 8) / 2 ^ (8 - (p + d) % 8 - (n + 1)) = y
    have e4 : y % 2 ^ (n + 1) = y % 2 + 2 * (y / 2 % 2 ^ n) := by
      rw [Nat.pow_succ, Nat.mul_comm, Nat.mod_mul]
    rw [e4, Nat.pow_succ]
    generalize highTo zs p d = a
    have : a * (2 ^ n * 2) = 2 * (a * 2 ^ n) := by rw [← Nat.mul_assoc, Nat.mul_comm]
    omega

theorem bit_of_u8 (x s : Nat) (hx : x < 256) : bits .and .u64 (IntKind.u64.wrap ((x : Int) / 2 ^ s)) 1 = ((x / 2 ^ s % 2 : Nat) : Int) := by
  have h := Nat.div_le_self x (2 ^ s)
  rw [show ((x : Int) / 2 ^ s) = ((x / 2 ^ s : Nat) : Int) by simp, IntKind.wrap_u64]
  generalize x / 2 ^ s = y at h ⊢
  rw [show ((y : Int) % 18446744073709551616) = (y : Int) by omega]
  go_bits2
theorem or_bit (v b k : Nat) (hv : v < 2 ^ k) (hb : b ≤ 1) (hk : k < 64) : bits .or .u64 (v : Int) (IntKind.u64.wrap ((b : Int) * 2 ^ k)) = ((v + b * 2 ^ k : Nat) : Int) := by
  have h1 : 2 ^ k ≤ 2 ^ 63 := Nat.pow_le_pow_right (by omega) (by omega)
  have h2 := Nat.mul_le_mul_right (2 ^ k) hb
  have e : IntKind.u64.wrap ((b : Int) * 2 ^ k) = ((b * 2 ^ k : Nat) : Int) := by
    rw [IntKind.wrap_u64, show ((b : Int) * 2 ^ k) = ((b * 2 ^ k : Nat) : Int) by simp]
    omega
  rw [e, u64_or_nat _ _ (by omega) (by omega), Nat.or_comm, nat_join k _ _ (Nat.mul_mod_left _ _) hv, Nat.add_comm]
theorem twice_bit (v b k : Nat) (hv : v < 2 ^ k) (hb : b ≤ 1) (hk : k < 64) : IntKind.u64.wrap (IntKind.u64.wrap ((v : Int) * 2) + (b : Int)) = ((2 * v + b : Nat) : Int) := by
  have h1 : 2 ^ k ≤ 2 ^ 63 := Nat.pow_le_pow_right (by omega) (by omega)
  rw [IntKind.wrap_u64, IntKind.wrap_u64]; omega
theorem mask_bits (v n : Nat) (hv : v < 18446744073709551616) (hn : n ≤ 63) : bits .and .u64 (v : Int) (IntKind.u64.wrap (IntKind.u64.wrap (2 ^ n) - 1)) = ((v % 2 ^ n : Nat) : Int) := by
  have h1 : 2 ^ n ≤ 2 ^ 63 := Nat.pow_le_pow_right (by omega) hn
  have h2 : 0 < 2 ^ n := Nat.pow_pos (by omega)
  have e : IntKind.u64.wrap (IntKind.u64.wrap (2 ^ n) - 1) = ((2 ^ n - 1 : Nat) : Int) := by
    rw [IntKind.wrap_u64, IntKind.wrap_u64, show ((2 : Int) ^ n) = ((2 ^ n : Nat) : Int) by simp]; omega
  rw [e, u64_and_nat _ _ hv (by omega), Nat.and_two_pow_sub_one_eq_mod]
theorem or_part (v c d m : Nat) (hv : v < 2 ^ d) (hc : c < 2 ^ m) (h : d + m ≤ 64) : bits .or .u64 (v : Int) (IntKind.u64.wrap ((c : Int) * 2 ^ d)) = ((v + c * 2 ^ d : Nat) : Int) := by
  have h1 : 2 ^ (d + m) ≤ 2 ^ 64 := Nat.pow_le_pow_right (by omega) h
  have h2 : (c + 1) * 2 ^ d ≤ 2 ^ m * 2 ^ d := Nat.mul_le_mul_right _ (by omega)
  rw [Nat.add_mul, Nat.one_mul, ← Nat.pow_add, Nat.add_comm m d] at h2
  have e : IntKind.u64.wrap ((c : Int) * 2 ^ d) = ((c * 2 ^ d : Nat) : Int) := by
    rw [IntKind.wrap_u64, show ((c : Int) * 2 ^ d) = ((c * 2 ^ d : Nat) : Int) by simp]
    omega
  rw [e, u64_or_nat _ _ (by omega) (by omega), Nat.or_comm, nat_join d _ _ (Nat.mul_mod_left _ _) hv, Nat.add_comm]
theorem part_or (v c d m : Nat) (hv : v < 2 ^ d) (hc : c < 2 ^ m) (h : d + m ≤ 64) : bits .or .u64 (IntKind.u64.wrap ((v : Int) * 2 ^ m)) (c : Int) = ((v * 2 ^ m + c : Nat) : Int) := by
  have h1 : 2 ^ (d + m) ≤ 2 ^ 64 := Nat.pow_le_pow_right (by omega) h
  have h2 : (v + 1) * 2 ^ m ≤ 2 ^ d * 2 ^ m := Nat.mul_le_mul_right _ (by omega)
  rw [Nat.add_mul, Nat.one_mul, ← Nat.pow_add] at h2
  have e : IntKind.u64.wrap ((v : Int) * 2 ^ m) = ((v * 2 ^ m : Nat) : Int) := by
    rw [IntKind.wrap_u64, show ((v : Int) * 2 ^ m) = ((v * 2 ^ m : Nat) : Int) by simp]
    omega
  rw [e, u64_or_nat _ _ (by omega) (by omega), nat_join m _ _ (Nat.mul_mod_left _ _) hc]
def goodAt (len : Nat) (p bits : Int) : Bool := decide (0 ≤ bits) && decide (bits ≤ 64) && decide (0 ≤ p) && decide (p ≤ 8 * len - bits)
end Go.Proofs.Ytocoeodoihdkgaa

/- Plain: sides of pictures. -/
namespace Go.Proofs.Ytocoeodoihdkgaa
open Go.RowKit

def sideB (w : Int) : Bool := decide (1 ≤ w ∧ w ≤ 512)
def sidesB (w h : Int) : Bool := sideB w && sideB h
theorem sideB_yes {w : Int} (h : 1 ≤ w ∧ w ≤ 512) : sideB w = true := decide_eq_true h
theorem sideB_no {w : Int} (h : ¬ (1 ≤ w ∧ w ≤ 512)) : sideB w = false := decide_eq_false h
theorem sideB_iff {w : Int} : sideB w = true ↔ 1 ≤ w ∧ w ≤ 512 := by unfold sideB; simp
theorem sidesB_yes {w h : Int} (a : 1 ≤ w ∧ w ≤ 512) (b : 1 ≤ h ∧ h ≤ 512) : sidesB w h = true := by unfold sidesB; rw [sideB_yes a, sideB_yes b]; rfl
theorem sidesB_no {w h : Int} (a : ¬ ((1 ≤ w ∧ w ≤ 512) ∧ 1 ≤ h ∧ h ≤ 512)) : sidesB w h = false := by
  unfold sidesB
  by_cases h1 : 1 ≤ w ∧ w ≤ 512
  · rw [sideB_yes h1, sideB_no (fun h2 => a ⟨h1, h2⟩)]; rfl
  · rw [sideB_no h1]; rfl
end Go.Proofs.Ytocoeodoihdkgaa

/- A byte string that came in, or that the call itself has copied: what the walks know of it. -/
namespace Go.Proofs.Ytocoeodoihdkgaa
open Go.RowKit

/-- A byte string handed in: its bytes in range, and, where there are any, in the cells of an old block. -/
def ArgB (w : World) (ad : Option Addr) (zs : List Int) : Prop := InB zs ∧ (zs ≠ [] → ∃ b off, ad = some ⟨b, off, none⟩ ∧ b < w.heap.size ∧ BytesAt w b off zs)
/-- A byte string of the call's own: at the head of a block. -/
def OwnB (w : World) (g : Nat) (zs : List Int) : Prop := g < w.heap.size ∧ BytesAt w g 0 zs

theorem ArgB.below {w w' : World} {ad : Option Addr} {zs : List Int} (h : ArgB w ad zs) (hb : Below w.heap.size w w') : ArgB w' ad zs := by
  refine ⟨h.1, fun hne => ?_⟩
  obtain ⟨b, off, e, hl, hc⟩ := h.2 hne
  exact ⟨b, off, e, Nat.lt_of_lt_of_le hl hb.size, fun j hj => (hb.cell (by simpa using hl)).trans (hc j hj)⟩
theorem OwnB.below {w w' : World} {g : Nat} {zs : List Int} (h : OwnB w g zs) (hb : Below w.heap.size w w') : OwnB w' g zs :=
  ⟨Nat.lt_of_lt_of_le h.1 hb.size, fun j hj => (hb.cell (by simpa using h.1)).trans (h.2 j hj)⟩
theorem ownB_of_owns {w : World} {base g n cap : Nat} {zs : List Int} (hn : zs.length = n) (h : w.ownsRow base 5 1 (.slice (some ⟨g, 0, none⟩) n cap) n (zs.map (.int .u8))) : OwnB w g zs := by
  subst hn
  refine ⟨(h.lt g rfl).2, fun j hj => ?_⟩
  rw [Nat.zero_add, h.cellAt j (by omega)]
  exact getD_map_int zs .u8 j hj

theorem toByteS_arg (ad : Option Addr) (cap : Nat) (zs : List Int) (w : World) (h : ArgB w ad zs) (hn : zs.length ≤ 1048576) :
    Calls Try.prog 48 #[.slice ad zs.length cap] w fun e w' => ∃ g, e = .returned (.slice (some ⟨g, 0, none⟩) zs.length zs.length) ∧ OwnB w' g zs ∧ Below w.heap.size w w' := by
  by_cases hne : zs = []
  · subst hne
    refine (toByteS_empty ad cap w).mono ?_
    rintro e w' ⟨g, rfl, hg, hown, hb⟩
    exact ⟨g, rfl, ownB_of_owns rfl hown, hb⟩
  · obtain ⟨b, off, rfl, hl, hc⟩ := h.2 hne
    refine (toByteS_any b off zs.length cap zs w rfl hn hl h.1 hc).mono ?_
    rintro e w' ⟨g, rfl, hg, hown, hb⟩
    exact ⟨g, rfl, ownB_of_owns rfl hown, hb⟩
theorem eqByteS_own (g g' cap cap' : Nat) (zs : List Int) (w : World) (hn : zs.length ≤ 1048576) (h : OwnB w g zs) (h' : OwnB w g' zs) :
    Calls Try.prog 42 #[.slice (some ⟨g, 0, none⟩) zs.length cap, .slice (some ⟨g', 0, none⟩) zs.length cap'] w fun e w' => e = .returned (.bool true) ∧ Below w.heap.size w w' := by
  refine (eqByteS_eq g 0 cap g' 0 cap' zs.length zs w rfl hn h.2 h'.2).mono ?_
  rintro e w' ⟨rfl, nq, rfl⟩
  exact ⟨rfl, below_drewN (Below.refl _ _) nq⟩
end Go.Proofs.Ytocoeodoihdkgaa

/- The walks of TakeLow and TakeHigh: the program's small parts. -/
namespace Go.Proofs.Ytocoeodoihdkgaa
open Go.RowKit

/-- The reader in the variable at block r. -/
def ReaderAt (w : World) (r : Nat) (o : Int) (s : Value) (p : Int) : Prop := r < w.heap.size ∧ w.cell? ⟨r, 0, none⟩ = some (.int .i64 o) ∧ w.cell? ⟨r, 1, none⟩ = some s ∧ w.cell? ⟨r, 2, none⟩ = some (.int .i64 p)

/-- The world is as it was but for block r, and for what is new. -/
structure OnlyAt (r : Nat) (w w' : World) : Prop where
  os : w'.os = w.os
  tape : w'.tape = w.tape
  output : w'.output = w.output
  size : w.heap.size ≤ w'.heap.size
  block : ∀ k, k < w.heap.size → k ≠ r → w'.heap[k]? = w.heap[k]?
theorem OnlyAt.refl (r : Nat) (w : World) : OnlyAt r w w := ⟨rfl, rfl, rfl, Nat.le_refl _, fun _ _ _ => rfl⟩
theorem OnlyAt.trans {r : Nat} {a w w' : World} (h : OnlyAt r a w) (k : OnlyAt r w w') : OnlyAt r a w' :=
  ⟨k.os.trans h.os, k.tape.trans h.tape, k.output.trans h.output, Nat.le_trans h.size k.size, fun i hi hn => (k.block i (Nat.lt_of_lt_of_le hi h.size) hn).trans (h.block i hi hn)⟩
theorem OnlyAt.drewN {r : Nat} {a w : World} (h : OnlyAt r a w) (n : Nat) : OnlyAt r a (w.drewN n) := h.trans ⟨rfl, rfl, rfl, Nat.le_refl _, fun _ _ _ => rfl⟩
theorem OnlyAt.setCell {r : Nat} {a w : World} (h : OnlyAt r a w) (o : Nat) (u : Value) : OnlyAt r a (w.setCell ⟨r, o, none⟩ u) :=
  h.trans ⟨rfl, rfl, rfl, by simp, fun k _ hk => Below.heap_setCell w ⟨r, o, none⟩ u k hk⟩
theorem OnlyAt.cell {r : Nat} {w w' : World} (h : OnlyAt r w w') {p : Addr} (hp : p.block < w.heap.size) (hr : p.block ≠ r) : w'.cell? p = w.cell? p := World.cell?_of_block (h.block p.block hp hr)
theorem OnlyAt.frozen {r : Nat} {w w' : World} (h : OnlyAt r w w') {p : Addr} (hp : p.block < w.heap.size) (hr : p.block ≠ r) : w'.frozen? p = w.frozen? p := World.frozen?_of_block (h.block p.block hp hr)
theorem OnlyAt.below {r B : Nat} {w w' : World} (h : OnlyAt r w w') (hB : B ≤ r) (hs : B ≤ w.heap.size) : Below B w w' :=
  ⟨h.os, h.tape, h.output, h.size, fun k hk => h.block k (by omega) (by omega)⟩
theorem ReaderAt.drewN {w : World} {r : Nat} {o : Int} {s : Value} {p : Int} (h : ReaderAt w r o s p) (nq : Nat) : ReaderAt (w.drewN nq) r o s p := h
theorem ReaderAt.moved {w : World} {r : Nat} {o : Int} {s : Value} {p : Int} (h : ReaderAt w r o s p) (q : Int) : ReaderAt (w.setCell ⟨r, 2, none⟩ (.int .i64 q)) r o s q := by
  obtain ⟨h0, h1, h2, h3⟩ := h
  refine ⟨by simpa using h0, ?_, ?_, ?_⟩
  · rw [World.cell?_setCell_other _ _ _ _ (by simp)]; exact h1
  · rw [World.cell?_setCell_other _ _ _ _ (by simp)]; exact h2
  · exact World.cell?_setCell_same _ _ _ h3

end Go.Proofs.Ytocoeodoihdkgaa

/- Plain: bits put one behind the other into bytes, in either order; a part of a number put at once is as many bits. -/
namespace Go.Proofs.Ytocoeodoihdkgaa
open Go.RowKit

def opn (zs : List Nat) (L : Nat) : List Nat := if L % 8 = 0 then zs ++ [0] else zs
def ex (h : Bool) (r : Nat) : Nat := if h then 7 - r else r
def addBit (h : Bool) (zs : List Nat) (L b : Nat) : List Nat := (opn zs L).set (L / 8) ((opn zs L).getD (L / 8) 0 + b * 2 ^ ex h (L % 8))
def fbit (h : Bool) (v n k : Nat) : Nat := if h then v / 2 ^ (n - 1 - k) % 2 else v / 2 ^ k % 2
def ft (h : Bool) (v n : Nat) (zs : List Nat) (L : Nat) : Nat → List Nat
  | 0 => zs
  | k + 1 => addBit h (ft h v n zs L k) (L + k) (fbit h v n k)

/-- The bytes hold so many bits, and the bits that are left in the last one are 0. -/
def Inv (h : Bool) (zs : List Nat) (L : Nat) : Prop :=
  zs.length = (L + 7) / 8 ∧ (∀ j, zs.getD j 0 < 256) ∧ (L % 8 ≠ 0 → if h then zs.getD (L / 8) 0 % 2 ^ (8 - L % 8) = 0 else zs.getD (L / 8) 0 < 2 ^ (L % 8))

theorem opn_len {h : Bool} {zs : List Nat} {L : Nat} (hi : Inv h zs L) : (opn zs L).length = L / 8 + 1 := by
  unfold opn; have := hi.1
  split
  · simp; omega
  · omega
theorem getD_snoc_last (zs : List Nat) (a : Nat) : (zs ++ [a]).getD zs.length 0 = a := by
  rw [List.getD_eq_getElem?_getD, List.getElem?_append_right (Nat.le_refl _), Nat.sub_self]; rfl
theorem getD_snoc (zs : List Nat) (j : Nat) : (zs ++ [0]).getD j 0 = zs.getD j 0 := by
  rw [List.getD_eq_getElem?_getD, List.getD_eq_getElem?_getD]
  rcases Nat.lt_trichotomy j zs.length with h | h | h
  · rw [List.getElem?_append_left h]
  · subst h; rw [List.getElem?_append_right (Nat.le_refl _), Nat.sub_self, List.getElem?_eq_none (Nat.le_refl _)]; rfl
  · rw [List.getElem?_eq_none (by simp; omega), List.getElem?_eq_none (by omega)]
theorem opn_getD (zs : List Nat) (L j : Nat) : (opn zs L).getD j 0 = zs.getD j 0 := by
  unfold opn; split
  · exact getD_snoc zs j
  · rfl
theorem opn_x {h : Bool} {zs : List Nat} {L : Nat} (hi : Inv h zs L) : (opn zs L).getD (L / 8) 0 < 256 ∧ (if h then (opn zs L).getD (L / 8) 0 % 2 ^ (8 - L % 8) = 0 else (opn zs L).getD (L / 8) 0 < 2 ^ (L % 8)) := by
  rw [opn_getD]
  refine ⟨hi.2.1 _, ?_⟩
  by_cases h0 : L % 8 = 0
  · have hz : zs.getD (L / 8) 0 = 0 := by
      rw [List.getD_eq_getElem?_getD, List.getElem?_eq_none (by have := hi.1; omega)]; rfl
    rw [hz, h0]; cases h <;> simp
  · exact hi.2.2 h0
theorem getD_set_same (zs : List Nat) (i a : Nat) (hi : i < zs.length) : (zs.set i a).getD i 0 = a := by
  rw [List.getD_eq_getElem?_getD, List.getElem?_set_self hi]; rfl
theorem getD_set_other (zs : List Nat) (i j a : Nat) (h : i ≠ j) : (zs.set i a).getD j 0 = zs.getD j 0 := by
  rw [List.getD_eq_getElem?_getD, List.getD_eq_getElem?_getD, List.getElem?_set_ne h]
theorem pow_cases (r : Nat) (h : r < 8) : r = 0 ∨ r = 1 ∨ r = 2 ∨ r = 3 ∨ r = 4 ∨ r = 5 ∨ r = 6 ∨ r = 7 := by omega
theorem step_x (h : Bool) (x r b : Nat) (hr : r < 8) (hb : b ≤ 1) (hx : x < 256) (hf : if h then x % 2 ^ (8 - r) = 0 else x < 2 ^ r) :
    x + b * 2 ^ ex h r < 256 ∧ (if h then (x + b * 2 ^ ex h r) % 2 ^ (8 - (r + 1)) = 0 else x + b * 2 ^ ex h r < 2 ^ (r + 1)) := by
  have hb' : b = 0 ∨ b = 1 := by omega
  cases h <;> rcases pow_cases r hr with e | e | e | e | e | e | e | e <;> subst e <;> rcases hb' with e | e <;> subst e <;> simp [ex] at hf ⊢ <;> omega
theorem addBit_inv {h : Bool} {zs : List Nat} {L b : Nat} (hi : Inv h zs L) (hb : b ≤ 1) : Inv h (addBit h zs L b) (L + 1) := by
  have hl := opn_len hi
  have hx := opn_x hi
  have hs := step_x h _ (L % 8) b (by omega) hb hx.1 hx.2
  refine ⟨?_, ?_, ?_⟩
  · unfold addBit; rw [List.length_set, hl]; omega
  · intro j
    unfold addBit
    by_cases e : L / 8 = j
    · subst e; rw [getD_set_same _ _ _ (by omega)]; exact hs.1
    · rw [getD_set_other _ _ _ _ e, opn_getD]; exact hi.2.1 j
  · intro h0
    have e1 : (L + 1) / 8 = L / 8 := by omega
    have e2 : (L + 1) % 8 = L % 8 + 1 := by omega
    rw [e1, e2]
    unfold addBit
    rw [getD_set_same _ _ _ (by omega)]
    exact hs.2
theorem fbit_le (h : Bool) (v n k : Nat) : fbit h v n k ≤ 1 := by unfold fbit; split <;> omega
theorem ft_inv {h : Bool} {v n : Nat} {zs : List Nat} {L : Nat} (hi : Inv h zs L) (k : Nat) : Inv h (ft h v n zs L k) (L + k) := by
  induction k with
  | zero => exact hi
  | succ k ih => exact addBit_inv ih (fbit_le h v n k)

def chunk (h : Bool) (v n d m : Nat) : Nat := if h then v / 2 ^ (n - d - m) % 2 ^ m else v / 2 ^ d % 2 ^ m
def cex (h : Bool) (r m : Nat) : Nat := if h then 8 - r - m else r
theorem chunk_lt (h : Bool) (v n d m : Nat) : chunk h v n d m < 2 ^ m := by
  unfold chunk; split <;> exact Nat.mod_lt _ (Nat.pow_pos (by omega))
theorem ft_chunk {h : Bool} {v n : Nat} {zs : List Nat} {L : Nat} (hi : Inv h zs L) (d m : Nat) (hm : (L + d) % 8 + (m + 1) ≤ 8) (hn : d + (m + 1) ≤ n) :
    ft h v n zs L (d + (m + 1)) = (opn (ft h v n zs L d) (L + d)).set ((L + d) / 8) ((opn (ft h v n zs L d) (L + d)).getD ((L + d) / 8) 0 + chunk h v n d (m + 1) * 2 ^ cex h ((L + d) % 8) (m + 1)) := by
  have hl := opn_len (ft_inv (v := v) (n := n) hi d)
  induction m with
  | zero =>
    show addBit h (ft h v n zs L d) (L + d) (fbit h v n d) = _
    unfold addBit
    congr 2
    have e1 : fbit h v n d = chunk h v n d (0 + 1) := by
      unfold fbit chunk; split
      · rw [show n - 1 - d = n - d - (0 + 1) by omega, Nat.zero_add, Nat.pow_one]
      · rw [Nat.zero_add, Nat.pow_one]
    have e2 : ex h ((L + d) % 8) = cex h ((L + d) % 8) (0 + 1) := by unfold ex cex; split <;> omega
    rw [e1, e2]
  | succ m ih =>
    show addBit h (ft h v n zs L (d + (m + 1))) (L + (d + (m + 1))) (fbit h v n (d + (m + 1))) = _
    rw [ih (by omega) (by omega)]
    have e1 : (L + (d + (m + 1))) / 8 = (L + d) / 8 := by omega
    have e2 : (L + (d + (m + 1))) % 8 = (L + d) % 8 + (m + 1) := by omega
    unfold addBit
    generalize opn (ft h v n zs L d) (L + d) = Y at hl ⊢
    generalize Y.getD ((L + d) / 8) 0 = x
    have e3 : ∀ A, opn A (L + (d + (m + 1))) = A := fun A => by unfold opn; rw [if_neg (by omega)]
    rw [e3, e1, e2, getD_set_same _ _ _ (by omega), List.set_set]
    congr 1
    rw [Nat.add_assoc]
    congr 1
    unfold fbit chunk ex cex
    cases h
    · simp only [Bool.false_eq_true, if_false]
      have hp := mod_pow_step (v / 2 ^ d) (m + 1)
      rw [Nat.div_div_eq_div_mul, ← Nat.pow_add] at hp
      rw [show m + 1 + 1 = (m + 1) + 1 from rfl, hp, Nat.add_mul, Nat.pow_add 2 ((L + d) % 8) (m + 1)]
      rw [Nat.mul_assoc (v / 2 ^ (d + (m + 1)) % 2), Nat.mul_comm (2 ^ (m + 1))]
    · simp only [if_true]
      have e4 : n - 1 - (d + (m + 1)) = n - d - (m + 1 + 1) := by omega
      have e5 : n - d - (m + 1) = (n - d - (m + 1 + 1)) + 1 := by omega
      have e6 : 8 - (L + d) % 8 - (m + 1) = (8 - (L + d) % 8 - (m + 1 + 1)) + 1 := by omega
      have e7 : 7 - ((L + d) % 8 + (m + 1)) = 8 - (L + d) % 8 - (m + 1 + 1) := by omega
      rw [e4, e5, e6, e7, Nat.pow_succ 2 (n - d - (m + 1 + 1)), ← Nat.div_div_eq_div_mul]
      generalize v / 2 ^ (n - d - (m + 1 + 1)) = y
      have e8 : y % 2 ^ (m + 1 + 1) = y % 2 + 2 * (y / 2 % 2 ^ (m + 1)) := by rw [Nat.pow_succ 2 (m + 1), Nat.mul_comm, Nat.mod_mul]
      rw [e8, Nat.pow_succ 2 (8 - (L + d) % 8 - (m + 1 + 1)), Nat.add_mul]
      generalize 2 ^ (8 - (L + d) % 8 - (m + 1 + 1)) = q
      generalize y / 2 % 2 ^ (m + 1) = z
      have : z * (q * 2) = 2 * z * q := by rw [Nat.mul_comm q 2, ← Nat.mul_assoc, Nat.mul_comm z 2]
      omega
theorem or_into (h : Bool) (x r m c : Nat) (hm : r + m ≤ 8) (hf : if h then x % 2 ^ (8 - r) = 0 else x < 2 ^ r) (hc : c < 2 ^ m) : x ||| (c * 2 ^ cex h r m) = x + c * 2 ^ cex h r m := by
  unfold cex
  cases h
  · simp only [Bool.false_eq_true, if_false] at hf ⊢
    rw [Nat.or_comm, nat_join r _ _ (Nat.mul_mod_left _ _) hf, Nat.add_comm]
  · simp only [if_true] at hf ⊢
    refine nat_join (8 - r) _ _ hf ?_
    have := Nat.mul_lt_mul_of_pos_right hc (Nat.pow_pos (n := 8 - r - m) (show 0 < 2 by omega))
    rwa [← Nat.pow_add, show m + (8 - r - m) = 8 - r by omega] at this
end Go.Proofs.Ytocoeodoihdkgaa

/- The walks of the sink of bits: the specification's. -/
namespace Go.Proofs.Ytocoeodoihdkgaa
open Go.RowKit

def vals (zs : List Nat) : List Value := zs.map fun b : Nat => Value.int .u8 (b : Int)
theorem vals_len (zs : List Nat) : (vals zs).length = zs.length := by unfold vals; simp
theorem vals_at (zs : List Nat) (j : Nat) (h : j < zs.length) : (vals zs)[j]? = some (.int .u8 (zs.getD j 0 : Nat)) := by
  unfold vals; rw [List.getElem?_map, List.getD_eq_getElem?_getD, List.getElem?_eq_getElem h]; rfl
theorem vals_set (zs : List Nat) (j a : Nat) : (vals zs).set j (.int .u8 (a : Int)) = vals (zs.set j a) := by unfold vals; rw [List.map_set]
theorem vals_snoc (zs : List Nat) : vals zs ++ [.int .u8 0] = vals (zs ++ [0]) := by unfold vals; simp

/-- A sink or a writer of bits in the variable at block c: its first word, its bytes, its number. -/
def SinkAt (w : World) (c : Nat) (o v : Value) (q : Int) : Prop :=
  c < w.heap.size ∧ w.cell? ⟨c, 0, none⟩ = some o ∧ w.cell? ⟨c, 1, none⟩ = some v ∧ w.cell? ⟨c, 2, none⟩ = some (.int .i64 q) ∧ w.frozen? ⟨c, 1, none⟩ = false ∧ w.frozen? ⟨c, 2, none⟩ = false
def Sink (w : World) (c : Nat) (o : Value) (zs : List Nat) (q : Int) : Prop := ∃ v, SinkAt w c o v q ∧ w.ownsRow (c + 1) 5 1 v zs.length (vals zs)
theorem SinkAt.drewN {w : World} {c : Nat} {o v : Value} {q : Int} (h : SinkAt w c o v q) (n : Nat) : SinkAt (w.drewN n) c o v q := h
theorem SinkAt.drew {w : World} {c : Nat} {o v : Value} {q : Int} (h : SinkAt w c o v q) : SinkAt w.drew c o v q := h
theorem SinkAt.grown {w w' : World} {c : Nat} {o v : Value} {q : Int} {row : Option Nat} (h : SinkAt w c o v q) (hg : w.grownBy w' row) (hr : some c ≠ row) : SinkAt w' c o v q := by
  obtain ⟨h0, h1, h2, h3, f1, f2⟩ := h
  have hb := hg.block c h0 hr
  exact ⟨Nat.lt_of_lt_of_le h0 hg.size, (World.cell?_of_block (a := ⟨c, 0, none⟩) hb).trans h1, (World.cell?_of_block (a := ⟨c, 1, none⟩) hb).trans h2, (World.cell?_of_block (a := ⟨c, 2, none⟩) hb).trans h3,
    (World.frozen?_of_block (a := ⟨c, 1, none⟩) hb).trans f1, (World.frozen?_of_block (a := ⟨c, 2, none⟩) hb).trans f2⟩
theorem SinkAt.data {w : World} {c : Nat} {o v : Value} {q : Int} (h : SinkAt w c o v q) (u : Value) : SinkAt (w.setCell ⟨c, 1, none⟩ u) c o u q := by
  obtain ⟨h0, h1, h2, h3, f1, f2⟩ := h
  refine ⟨by simpa using h0, ?_, World.cell?_setCell_same _ _ _ h2, ?_, (World.frozen?_setCell _ _ _ _).trans f1, (World.frozen?_setCell _ _ _ _).trans f2⟩
  · rw [World.cell?_setCell_other _ _ _ _ (by simp)]; exact h1
  · rw [World.cell?_setCell_other _ _ _ _ (by simp)]; exact h3
theorem SinkAt.num {w : World} {c : Nat} {o v : Value} {q : Int} (h : SinkAt w c o v q) (p : Int) : SinkAt (w.setCell ⟨c, 2, none⟩ (.int .i64 p)) c o v p := by
  obtain ⟨h0, h1, h2, h3, f1, f2⟩ := h
  refine ⟨by simpa using h0, ?_, ?_, World.cell?_setCell_same _ _ _ h3, (World.frozen?_setCell _ _ _ _).trans f1, (World.frozen?_setCell _ _ _ _).trans f2⟩
  · rw [World.cell?_setCell_other _ _ _ _ (by simp)]; exact h1
  · rw [World.cell?_setCell_other _ _ _ _ (by simp)]; exact h2
theorem SinkAt.far {w : World} {c g j : Nat} {o v u : Value} {q : Int} (h : SinkAt w c o v q) (hg : g ≠ c) : SinkAt (w.setCell ⟨g, j, none⟩ u) c o v q := by
  obtain ⟨h0, h1, h2, h3, f1, f2⟩ := h
  refine ⟨by simpa using h0, ?_, ?_, ?_, (World.frozen?_setCell _ _ _ _).trans f1, (World.frozen?_setCell _ _ _ _).trans f2⟩ <;> (rw [World.cell?_setCell_far _ _ _ _ (by simpa using hg)]; assumption)
theorem one_new (w : World) (u : Value) : ∀ j v, [u][j]? = some v → (w.alloc (.cells #[u] 5)).cell? ((⟨w.heap.size, 0, none⟩ : Addr).add j) = some v := by
  intro j v hj
  match j, hj with
  | 0, hj => simp at hj; subst hj; simp [Addr.add]
theorem one_one : ∀ u ∈ [Value.int .u8 0], u.oneCell' = true := by intro u hu; simp at hu; subst hu; rfl
theorem addBit_zero (h : Bool) (zs : List Nat) (L : Nat) (hl : L / 8 < (opn zs L).length) : addBit h zs L 0 = opn zs L := by
  unfold addBit
  rw [Nat.zero_mul, Nat.add_zero, List.getD_eq_getElem?_getD, List.getElem?_eq_getElem hl]
  exact List.set_getElem_self hl
theorem or_bit8 (h : Bool) (x r k : Nat) (hx : x < 256) (hr : r < 8) (hk : k = ex h r) (hf : if h then x % 2 ^ (8 - r) = 0 else x < 2 ^ r) : bits .or .u8 (x : Int) (2 ^ k % 256) = ((x + 1 * 2 ^ ex h r : Nat) : Int) := by
  have hk7 : k ≤ 7 := by subst hk; unfold ex; split <;> omega
  have ho := or_into h x r 1 1 (by omega) hf (by omega)
  have ec : cex h r 1 = ex h r := by unfold ex cex; split <;> omega
  rw [ec, ← hk] at ho
  rw [← hk]
  have e : ((2 : Int) ^ k % 256) = ((2 ^ k : Nat) : Int) := by
    rcases pow_cases k (by omega) with h | h | h | h | h | h | h | h <;> subst h <;> decide
  have hl : 2 ^ k < 256 := by rcases pow_cases k (by omega) with h | h | h | h | h | h | h | h <;> subst h <;> decide
  rw [e, u8_or_nat _ _ hx hl]
  rw [Nat.one_mul] at ho ⊢
  rw [ho]


end Go.Proofs.Ytocoeodoihdkgaa

/- The walks of the sink of bits: the specification's numbers. -/
namespace Go.Proofs.Ytocoeodoihdkgaa
open Go.RowKit

theorem bit_of_u64 (v k : Nat) (hv : v < 18446744073709551616) : bits .and .u64 ((v : Int) / 2 ^ k) 1 = ((v / 2 ^ k % 2 : Nat) : Int) := by
  have h := Nat.div_le_self v (2 ^ k)
  rw [show ((v : Int) / 2 ^ k) = ((v / 2 ^ k : Nat) : Int) by simp]
  generalize v / 2 ^ k = y at h ⊢
  go_bits2

end Go.Proofs.Ytocoeodoihdkgaa

/- Fields, and the walk of the specification's packing of them. -/
namespace Go.Proofs.Ytocoeodoihdkgaa
open Go.RowKit

def FieldsAt (w : World) (b off : Nat) (fs : List (Int × Int)) : Prop := ∀ j, j < fs.length → w.cell? ⟨b, off + j * 2, none⟩ = some (.int .i64 (fs.getD j (0, 0)).1) ∧ w.cell? ⟨b, off + j * 2 + 1, none⟩ = some (.int .u64 (fs.getD j (0, 0)).2)
def InF (fs : List (Int × Int)) : Prop := ∀ j, (-9223372036854775808 ≤ (fs.getD j (0, 0)).1 ∧ (fs.getD j (0, 0)).1 ≤ 9223372036854775807) ∧ 0 ≤ (fs.getD j (0, 0)).2 ∧ (fs.getD j (0, 0)).2 < 18446744073709551616
def OwnF (w : World) (g : Nat) (fs : List (Int × Int)) : Prop := g < w.heap.size ∧ FieldsAt w g 0 fs
theorem OwnF.below {w w' : World} {g : Nat} {fs : List (Int × Int)} (h : OwnF w g fs) (hb : Below w.heap.size w w') : OwnF w' g fs :=
  ⟨Nat.lt_of_lt_of_le h.1 hb.size, fun j hj => ⟨(hb.cell (by simpa using h.1)).trans (h.2 j hj).1, (hb.cell (by simpa using h.1)).trans (h.2 j hj).2⟩⟩
theorem OwnF.belowAt {B : Nat} {w w' : World} {g : Nat} {fs : List (Int × Int)} (h : OwnF w g fs) (hg : g < B) (hb : Below B w w') : OwnF w' g fs :=
  ⟨Nat.lt_of_lt_of_le h.1 hb.size, fun j hj => ⟨(hb.cell (by simpa using hg)).trans (h.2 j hj).1, (hb.cell (by simpa using hg)).trans (h.2 j hj).2⟩⟩

def okF (f : Int × Int) : Prop := 0 ≤ f.1 ∧ f.1 ≤ 64
def packStep (h : Bool) (s : List Nat × Nat) (f : Int × Int) : List Nat × Nat := (ft h f.2.toNat f.1.toNat s.1 s.2 f.1.toNat, s.2 + f.1.toNat)
def packTo (h : Bool) (fs : List (Int × Int)) (k : Nat) : List Nat × Nat := (fs.take k).foldl (packStep h) ([], 0)
theorem packTo_succ (h : Bool) (fs : List (Int × Int)) (k : Nat) (hk : k < fs.length) : packTo h fs (k + 1) = packStep h (packTo h fs k) (fs.getD k (0, 0)) := by
  unfold packTo; rw [take_snoc_getD fs (0, 0) k hk, List.foldl_append]; rfl
theorem inv_nil (h : Bool) : Inv h [] 0 := ⟨rfl, fun j => by simp, fun h => absurd rfl h⟩
theorem packTo_inv (h : Bool) (fs : List (Int × Int)) (k : Nat) (hk : k ≤ fs.length) (hok : ∀ j, j < k → okF (fs.getD j (0, 0))) : Inv h (packTo h fs k).1 (packTo h fs k).2 ∧ (packTo h fs k).2 ≤ 64 * k := by
  induction k with
  | zero => exact ⟨inv_nil h, Nat.le_refl _⟩
  | succ k ih =>
    have h1 := ih (by omega) (fun j hj => hok j (by omega))
    have h2 := hok k (by omega)
    rw [packTo_succ h fs k (by omega)]
    refine ⟨ft_inv h1.1 _, ?_⟩
    show (packTo h fs k).2 + (fs.getD k (0, 0)).1.toNat ≤ _
    have := h2.2
    omega
/-- The packed bytes: none where there are too many fields or one's width is bad. -/
noncomputable def packF (h : Bool) (fs : List (Int × Int)) : List Nat := open Classical in if fs.length ≤ 20000 ∧ ∀ j, j < fs.length → okF (fs.getD j (0, 0)) then (packTo h fs fs.length).1 else []
theorem packF_good (h : Bool) (fs : List (Int × Int)) (h1 : fs.length ≤ 20000) (h2 : ∀ j, j < fs.length → okF (fs.getD j (0, 0))) : packF h fs = (packTo h fs fs.length).1 := if_pos ⟨h1, h2⟩
theorem packF_many (h : Bool) (fs : List (Int × Int)) (h1 : 20000 < fs.length) : packF h fs = [] := if_neg (fun h => by have := h.1; omega)
theorem packF_bad (h : Bool) (fs : List (Int × Int)) (j : Nat) (hj : j < fs.length) (hb : ¬ okF (fs.getD j (0, 0))) : packF h fs = [] := if_neg (fun h => hb (h.2 j hj))

theorem ownsRow_base {w : World} {base base' : Nat} {e : TypeId} {size : Nat} {v : Value} {n : Nat} {xs : List Value} (h : w.ownsRow base e size v n xs) (hb : base' ≤ base) : w.ownsRow base' e size v n xs := by
  refine ⟨h.1, ?_⟩
  rcases h.2 with h | ⟨g, cap, cur, e1, e2, e3⟩
  · exact .inl h
  · exact .inr ⟨g, cap, cur, e1, Nat.le_trans hb e2, e3⟩
theorem Sink.alloc {w : World} {c : Nat} {o : Value} {zs : List Nat} {q : Int} (h : Sink w c o zs q) (ob : Obj) : Sink (w.alloc ob) c o zs q := by
  obtain ⟨v, hS, hown⟩ := h
  exact ⟨v, hS.grown (World.grownBy_alloc w ob none) (by simp), hown.alloc ob⟩
end Go.Proofs.Ytocoeodoihdkgaa

/- The walks of the laws' own helpers on byte strings: a copy, whether two are equal, marksB. -/
namespace Go.Proofs.Ytocoeodoihdkgaa
open Go.RowKit

def byts (zs : List Int) : List Value := zs.map (.int .u8)
theorem byts_length (zs : List Int) : (byts zs).length = zs.length := by simp [byts]
abbrev OwnY (w : World) (a b : Nat) (v : Value) (zs : List Int) : Prop := Own 5 1 w a b v zs.length (byts zs)
abbrev ArgY (w : World) (ad : Option Addr) (zs : List Int) : Prop := ReadK .u8 w ad zs
/-- A byte string as a value that can be read. -/
def RdY (w : World) (v : Value) (zs : List Int) : Prop := ∃ ad cap, v = .slice ad zs.length cap ∧ ArgY w ad zs
theorem RdY.below {w w' : World} {v : Value} {zs : List Int} (h : RdY w v zs) (hb : Below w.heap.size w w') : RdY w' v zs := by
  obtain ⟨ad, cap, e, h⟩ := h
  exact ⟨ad, cap, e, h.below hb⟩
theorem OwnY.rd {w : World} {a b : Nat} {v : Value} {zs : List Int} (h : OwnY w a b v zs) : RdY w v zs := readK_of_own h

def partY (zs : List Int) (k : Nat) : List Value := byts (zs.take k) ++ List.replicate (zs.length - k) (.int .u8 0)
theorem partY_zero (zs : List Int) : partY zs 0 = List.replicate zs.length (.int .u8 0) := by unfold partY byts; simp
theorem partY_all (zs : List Int) : partY zs zs.length = byts zs := by unfold partY byts; simp
theorem partY_set (zs : List Int) (k : Nat) (h : k < zs.length) : (partY zs k).set k (.int .u8 (zs.getD k 0)) = partY zs (k + 1) := by
  unfold partY byts
  rw [take_snoc_getD zs 0 k h, List.map_append, List.set_append, if_neg (by simp; omega), List.append_assoc]
  congr 1
  have : zs.length - k = (zs.length - (k + 1)) + 1 := by omega
  rw [this, List.replicate_succ]
  simp [Nat.min_eq_left (Nat.le_of_lt h)]
theorem partY_length (zs : List Int) (k : Nat) (h : k ≤ zs.length) : (partY zs k).length = zs.length := by unfold partY byts; simp; omega

set_option maxHeartbeats 1000000 in
theorem toByteY_own (ad : Option Addr) (cap : Nat) (zs : List Int) (w : World) (hn : zs.length ≤ 1048576) (hA : ArgY w ad zs) :
    Calls Try.prog 48 #[.slice ad zs.length cap] w fun e w' =>
      ∃ v, e = .returned v ∧ OwnY w' w.heap.size w'.heap.size v zs ∧ Upd 0 0 w w' := by
  obtain ⟨i0, hi, hz0, hz1, hz2⟩ := info_parts infoB
  replace hA := hide hA
  go_enter Try.func48, Try.ntmps48
  go_wp2_with (at_make; refine wpList_make_full _ rfl _ _ 22 rfl w.heap.size 5 i0 (.int .u8 0) 1 Try.underlying22 hi hz0 hz1 .i64 .i64 _ _ zs.length rfl rfl (by omega) (by omega) (by rw [hz2]; omega) (by unfold maxLen; omega) (Nat.le_refl _) ?_; intro w1 hown hgrow)
  have hbel := (Below.refl w.heap.size w).grown hgrow (Nat.le_refl _) (by simp)
  have hown0 : w1.ownsRow w.heap.size 5 1 (.slice (some ⟨w.heap.size, 0, none⟩) zs.length zs.length) zs.length (partY zs 0) := by
    rw [partY_zero]; simpa [toList_madeCells_one, Value.cells] using hown
  clear hown hgrow
  go_loopw [4] (fun i wr => ∃ k : Nat, k ≤ zs.length ∧ i = .int .i64 k ∧ wr.ownsRow w.heap.size 5 1 (.slice (some ⟨w.heap.size, 0, none⟩) zs.length zs.length) zs.length (partY zs k) ∧ Below w.heap.size w wr) (fun i _ => zs.length - (intOf i).toNat)
  case atStart => exact ⟨0, Nat.zero_le _, rfl, hown0, hbel⟩
  case round =>
    clear hown0 hbel
    obtain ⟨k, hk, rfl, hown, hbel⟩ := hrel
    by_cases hlt : k < zs.length
    · obtain ⟨b, off, rfl, hbl, hc⟩ := (unhide hA) (ne_of_lt_length hlt)
      have hck : wr.cell? ⟨b, off + k, none⟩ = some (.int .u8 (zs.getD k 0)) := (hbel.cell (by simpa using hbl)).trans (hc k hlt)
      have hps := partY_set zs k hlt
      generalize zs.getD k 0 = x at hck hps
      have hdst : ∃ u, wr.cell? ⟨w.heap.size, k, none⟩ = some u := by
        rw [hown.cellAt k (by omega)]; exact ⟨_, List.getElem?_eq_getElem (by have := hown.1; omega)⟩
      obtain ⟨u, hdst⟩ := hdst
      have hfz := hown.frozenAt k
      have hst := (hown.stored k (.int .u8 x)).1
      rw [hps] at hst
      have hb2 := hbel.setCell (p := ⟨w.heap.size, k, none⟩) (Nat.le_refl _) (.int .u8 x)
      replace hst := hide hst
      clear hown hps hc
      go_wp2
      go_roundw
      case rel => exact ⟨k + 1, by omega, by go_num, unhide hst, hb2⟩
      case measure => simp [intOf]; omega
    · have hkl : k = zs.length := by omega
      subst hkl
      rw [partY_all] at hown
      replace hown := hide (Own.of hown)
      go_wp2
      go_ret
      exact ⟨_, rfl, unhide hown, Upd.of_below hbel 0 0⟩

set_option maxHeartbeats 1000000 in
theorem eqByteY_rd (u v : Value) (zs : List Int) (w : World) (hn : zs.length ≤ 1048576) (hu : RdY w u zs) (hv : RdY w v zs) :
    Calls Try.prog 42 #[u, v] w fun e w' => e = .returned (.bool true) ∧ Upd 0 0 w w' := by
  obtain ⟨ad, cap, rfl, hA⟩ := hu
  obtain ⟨ad', cap', rfl, hA'⟩ := hv
  replace hA := hide hA
  replace hA' := hide hA'
  go_enter Try.func42, Try.ntmps42
  go_wp2
  go_loopw [5] (fun i wr => ∃ k : Nat, k ≤ zs.length ∧ i = .int .i64 k ∧ ∃ nq, wr = w.drewN nq) (fun i _ => zs.length - (intOf i).toNat)
  case atStart => exact ⟨0, Nat.zero_le _, rfl, 0, rfl⟩
  case round =>
    obtain ⟨k, hk, rfl, nq, rfl⟩ := hrel
    by_cases hlt : k < zs.length
    · obtain ⟨b, off, rfl, hbl, hc⟩ := (unhide hA) (ne_of_lt_length hlt)
      obtain ⟨b', off', rfl, hbl', hc'⟩ := (unhide hA') (ne_of_lt_length hlt)
      have hck := hc k hlt
      have hck' := hc' k hlt
      clear hc hc' hA hA'
      generalize zs.getD k 0 = x at hck hck'
      go_wp2
      go_quiet (fail)
      go_wp2
      go_roundw
      case rel => exact ⟨k + 1, by omega, by go_num, _, rfl⟩
      case measure => simp [intOf]; omega
    · have hkl : k = zs.length := by omega
      subst hkl
      go_wp2
      go_ret
      exact ⟨rfl, (Upd.refl 0 0 _).drewN _⟩

set_option maxHeartbeats 1000000 in
theorem markByteY_none (k : Nat) (w : World) : Calls Try.prog 45 #[.slice none 0 0, .int .i64 k] w fun e w' => e = .returned (.int .i64 (k : Int)) ∧ w' = w := by
  go_enter Try.func45, Try.ntmps45
  go_wp2
  go_loop [1, 5] (fun a i => a = .int .i64 k ∧ i = .int .i64 0) (fun _ _ => 0)
  case atStart => exact ⟨rfl, rfl⟩
  case round =>
    obtain ⟨rfl, rfl⟩ := hrel
    go_wp2
    go_ret
    exact ⟨rfl, rfl⟩

set_option maxHeartbeats 1000000 in
theorem markByteY_some (a g cap n k : Nat) (xs : List Value) (w : World) (hn : n ≤ 1048576) (hk : k ≤ 1099511627776) (h : w.ownsRow a 5 1 (.slice (some ⟨g, 0, none⟩) n cap) n xs) :
    Calls Try.prog 45 #[.slice (some ⟨g, 0, none⟩) n cap, .int .i64 k] w fun e w' => e = .returned (.int .i64 ((k + n : Nat) : Int)) ∧ w'.ownsRow a 5 1 (.slice (some ⟨g, 0, none⟩) n cap) n (byts (marksB k n)) ∧ Upd g (g + 1) w w' := by
  have hxl : xs.length = n := by have := h.1; omega
  go_enter Try.func45, Try.ntmps45
  go_wp2
  go_loopw [1, 5] (fun c i wr => ∃ t : Nat, t ≤ n ∧ c = .int .i64 ((k + t : Nat) : Int) ∧ i = .int .i64 t ∧ wr.ownsRow a 5 1 (.slice (some ⟨g, 0, none⟩) n cap) n (partSet .u8 xs (marksB k n) t) ∧ Upd g (g + 1) w wr) (fun _ i _ => n - (intOf i).toNat)
  case atStart => exact ⟨0, Nat.zero_le _, rfl, rfl, by rw [partSet_zero]; exact h, Upd.refl _ _ _⟩
  case round =>
    clear h
    obtain ⟨t, ht, rfl, rfl, hown, hupd⟩ := hrel
    have hlen : (partSet .u8 xs (marksB k n) t).length = n := by rw [partSet_length _ _ _ _ (by simpa using ht) (by simpa using hxl)]; simp
    by_cases hlt : t < n
    · have hdst : wr.cell? ⟨g, t, none⟩ = some ((partSet .u8 xs (marksB k n) t).getD t undef) := by
        rw [hown.cellAt t (by omega), List.getElem?_eq_getElem (by omega), List.getD_eq_getElem?_getD, List.getElem?_eq_getElem (by omega)]; rfl
      have hfz := hown.frozenAt t
      have hst := (hown.stored t (.int .u8 (((k + t) % 256 : Nat) : Int))).1
      have hps := partSet_set .u8 xs (marksB k n) t (by simpa using hlt) (by simpa using hxl)
      rw [marksB_getD k n t hlt] at hps
      rw [hps] at hst
      generalize (partSet .u8 xs (marksB k n) t).getD t undef = u at hdst
      have ho2 := hupd.setCell (r := g) ⟨Nat.le_refl _, by omega⟩ t (.int .u8 (((k + t) % 256 : Nat) : Int))
      rw [show ((((k + t) % 256 : Nat) : Int)) = ((k : Int) + (t : Int)) % 256 by omega] at hst ho2
      replace hst := hide hst
      replace ho2 := hide ho2
      clear hown hupd hps hlen
      go_wp2
      go_roundw
      case rel => exact ⟨t + 1, by omega, by go_num, by go_num, unhide hst, unhide ho2⟩
      case measure => simp [intOf]; omega
    · have htn : t = n := by omega
      subst htn
      have hM : wr.ownsRow a 5 1 (.slice (some ⟨g, 0, none⟩) t cap) t (byts (marksB k t)) := by
        have := partSet_all .u8 xs (marksB k t) (by simpa using hxl)
        rw [marksB_length] at this
        rw [this] at hown; exact hown
      replace hM := hide hM
      clear hown
      go_wp2
      go_ret
      exact ⟨rfl, unhide hM, hupd⟩
theorem markByteY_own (a b : Nat) (v : Value) (k : Nat) (zs : List Int) (w : World) (hn : zs.length ≤ 1048576) (hk : k ≤ 1099511627776) (h : OwnY w a b v zs) :
    Calls Try.prog 45 #[v, .int .i64 k] w fun e w' => e = .returned (.int .i64 ((k + zs.length : Nat) : Int)) ∧ OwnY w' a b v (marksB k zs.length) ∧ Upd a b w w' := by
  rcases h.1.2 with ⟨rfl, h0⟩ | ⟨g, cap, cur, rfl, h1, h2, h3⟩
  · refine (markByteY_none k w).mono ?_
    rintro e w' ⟨rfl, rfl⟩
    rw [h0]
    exact ⟨rfl, ⟨World.ownsRow_nil _ _ _ _, fun k hk => by simp [Value.ownBlock] at hk⟩, Upd.refl _ _ _⟩
  · have hb := h.2 g rfl
    refine (markByteY_some a g cap zs.length k _ w hn hk h.1).mono ?_
    rintro e w' ⟨rfl, ho, hu⟩
    refine ⟨rfl, ⟨?_, h.2⟩, ⟨hu.os, hu.tape, hu.output, hu.size, fun i hi hn => hu.block i hi (by omega)⟩⟩
    rw [marksB_length]; exact ho

set_option maxHeartbeats 1000000 in
theorem heldByteY_own (a b : Nat) (v : Value) (k n : Nat) (w : World) (hn : n ≤ 1048576) (hk : k ≤ 1099511627776) (h : OwnY w a b v (marksB k n)) :
    Calls Try.prog 46 #[v, .int .i64 k] w fun e w' => e = .returned (.int .i64 ((k + n : Nat) : Int)) ∧ w' = w := by
  obtain ⟨ad, cap, rfl, hA⟩ := h.rd
  rw [marksB_length]
  replace hA := hide hA
  clear h
  go_enter Try.func46, Try.ntmps46
  go_wp2
  go_loop [1, 5] (fun a i => ∃ t : Nat, t ≤ n ∧ a = .int .i64 ((k + t : Nat) : Int) ∧ i = .int .i64 t) (fun _ i => n - (intOf i).toNat)
  case atStart => exact ⟨0, Nat.zero_le _, rfl, rfl⟩
  case round =>
    obtain ⟨t, ht, rfl, rfl⟩ := hrel
    by_cases hlt : t < n
    · obtain ⟨b', off, rfl, hbl, hc⟩ := (unhide hA) (ne_of_lt_length (k := t) (by simpa using hlt))
      have hck := hc t (by simpa using hlt)
      rw [marksB_getD k n t hlt, show ((((k + t) % 256 : Nat) : Int)) = ((k : Int) + (t : Int)) % 256 by omega] at hck
      clear hc hA
      go_wp2
      go_round
      case rel => exact ⟨t + 1, by omega, by go_num, by go_num⟩
      case measure => simp [intOf]; omega
    · have htn : t = n := by omega
      subst htn
      go_wp2
      go_ret
      exact ⟨rfl, rfl⟩
end Go.Proofs.Ytocoeodoihdkgaa

/- Plain: depths of samples, rows of samples packed into bytes. -/
namespace Go.Proofs.Ytocoeodoihdkgaa
open Go.RowKit

def depthOk (d : Int) : Bool := d == 1 || d == 2 || d == 4 || d == 8 || d == 16
theorem depthOk_cases {d : Int} (h : depthOk d = true) : d = 1 ∨ d = 2 ∨ d = 4 ∨ d = 8 ∨ d = 16 := by
  unfold depthOk at h; simp at h; omega
theorem depthOk_nat {d : Int} (h : depthOk d = true) : ∃ D : Nat, d = (D : Int) ∧ 1 ≤ D ∧ D ≤ 16 := by
  rcases depthOk_cases h with e | e | e | e | e <;> subst e
  · exact ⟨1, rfl, by omega, by omega⟩
  · exact ⟨2, rfl, by omega, by omega⟩
  · exact ⟨4, rfl, by omega, by omega⟩
  · exact ⟨8, rfl, by omega, by omega⟩
  · exact ⟨16, rfl, by omega, by omega⟩
theorem two_pow_16 {D : Nat} (h : D ≤ 16) : (0 : Int) < (2 : Int) ^ D ∧ (2 : Int) ^ D ≤ 65536 := by
  have h1 : 2 ^ D ≤ 2 ^ 16 := Nat.pow_le_pow_right (by omega) h
  have h2 : 0 < 2 ^ D := Nat.pow_pos (by omega)
  have e : (2 : Int) ^ D = ((2 ^ D : Nat) : Int) := by simp
  rw [e]; generalize 2 ^ D = y at h1 h2; omega
theorem two_pow_n {D : Nat} : (2 : Int) ^ D = ((2 ^ D : Nat) : Int) := by simp
/-- All samples are in the range of a depth. -/
def SmpOk (zs : List Int) (d : Int) : Prop := ∀ j, j < zs.length → 0 ≤ zs.getD j 0 ∧ zs.getD j 0 < 2 ^ d.toNat
def RowOk (zs : List Int) (d : Int) : Prop := depthOk d = true ∧ zs.length ≤ 4096 ∧ SmpOk zs d
def rowFs (zs : List Int) (d : Int) : List (Int × Int) := zs.map fun x => (d, x)
@[simp] theorem rowFs_length (zs : List Int) (d : Int) : (rowFs zs d).length = zs.length := by simp [rowFs]
theorem rowFs_at (zs : List Int) (d : Int) (k : Nat) (h : k < zs.length) : (rowFs zs d).getD k (0, 0) = (d, zs.getD k 0) := by
  unfold rowFs
  rw [List.getD_eq_getElem?_getD, List.getD_eq_getElem?_getD, List.getElem?_map, List.getElem?_eq_getElem h]; rfl
theorem rowFs_ok {d : Int} (h : depthOk d = true) (zs : List Int) (k : Nat) (hk : k < zs.length) : okF ((rowFs zs d).getD k (0, 0)) := by
  rw [rowFs_at zs d k hk]
  obtain ⟨D, rfl, h1, h2⟩ := depthOk_nat h
  exact ⟨by simp, by simp; omega⟩
noncomputable def rowB (zs : List Int) (d : Int) : List Nat := open Classical in if RowOk zs d then (packTo true (rowFs zs d) zs.length).1 else []
theorem rowB_yes {zs : List Int} {d : Int} (h : RowOk zs d) : rowB zs d = (packTo true (rowFs zs d) zs.length).1 := by unfold rowB; exact if_pos h
theorem rowB_no {zs : List Int} {d : Int} (h : ¬ RowOk zs d) : rowB zs d = [] := by unfold rowB; exact if_neg h
noncomputable def rowF (zs : List Int) (d : Int) : List Int := (rowB zs d).map fun b : Nat => (b : Int)
theorem rowF_no {zs : List Int} {d : Int} (h : ¬ RowOk zs d) : rowF zs d = [] := by unfold rowF; rw [rowB_no h]; rfl
theorem rowF_length (zs : List Int) (d : Int) : (rowF zs d).length = (rowB zs d).length := by simp [rowF]
theorem rowF_byts (zs : List Int) (d : Int) : byts (rowF zs d) = vals (rowB zs d) := by unfold rowF byts vals; simp
theorem row_inv {d : Int} (h : depthOk d = true) (zs : List Int) (k : Nat) (hk : k ≤ zs.length) : Inv true (packTo true (rowFs zs d) k).1 (packTo true (rowFs zs d) k).2 ∧ (packTo true (rowFs zs d) k).2 ≤ 64 * k :=
  packTo_inv true (rowFs zs d) k (by simpa using hk) (fun j hj => rowFs_ok h zs j (by omega))
theorem row_step {zs : List Int} {D : Nat} {k : Nat} (hk : k < zs.length) (u : Nat) (hu : zs.getD k 0 = (u : Int)) :
    (packTo true (rowFs zs D) (k + 1)).1 = ft true u D (packTo true (rowFs zs D) k).1 (packTo true (rowFs zs D) k).2 D ∧ (packTo true (rowFs zs D) (k + 1)).2 = (packTo true (rowFs zs D) k).2 + D := by
  rw [packTo_succ true _ k (by simpa using hk), rowFs_at zs D k hk]
  unfold packStep
  rw [hu]
  exact ⟨rfl, rfl⟩
theorem rowF_len (zs : List Int) (d : Int) : (rowF zs d).length ≤ 1048576 := by
  rw [rowF_length]
  by_cases h : RowOk zs d
  · rw [rowB_yes h]
    have h1 := row_inv h.1 zs zs.length (Nat.le_refl _)
    have h2 := h1.1.1
    have := h.2.1
    omega
  · rw [rowB_no h]; simp
end Go.Proofs.Ytocoeodoihdkgaa

/- How much a list of ints holds. -/
namespace Go.Proofs.Ytocoeodoihdkgaa
open Go.RowKit

theorem bcellU {W w1 : World} (hb : Upd 0 0 W w1) : (∀ b o, b < W.heap.size → w1.cell? ⟨b, o, none⟩ = W.cell? ⟨b, o, none⟩) ∧ (∀ b o, b < W.heap.size → w1.frozen? ⟨b, o, none⟩ = W.frozen? ⟨b, o, none⟩) :=
  ⟨fun b o h => hb.none.cell (p := ⟨b, o, none⟩) h, fun b o h => hb.none.frozen (p := ⟨b, o, none⟩) h⟩

theorem Upd.drew1 (w : World) : Upd 0 0 w w.drew := ⟨rfl, rfl, rfl, Nat.le_refl _, fun _ _ _ => rfl⟩
theorem Own.set {e : TypeId} {s : Nat} {w : World} {a b : Nat} {v : Value} {n : Nat} {xs : List Value} (h : Own e s w a b v n xs) {c : Nat} (hc : c < a) (o : Nat) (u : Value) : Own e s (w.setCell ⟨c, o, none⟩ u) a b v n xs :=
  ⟨ownsRow_setCell_below h.1 hc u, h.2⟩

set_option maxHeartbeats 1000000 in
theorem szIntS_any (ad : Option Addr) (n cap : Nat) (left : Int) (w : World) (h0 : 0 ≤ left) (h1 : left ≤ 1099511627776) (hn : n ≤ 9223372036854775807) :
    Calls Try.prog 113 #[.slice ad n cap, .int .i64 left] w fun e w' => e = .returned (.int .i64 (if left < n then -1 else left - n)) ∧ w' = w := by
  by_cases hlt : left < n
  · rw [if_pos hlt]
    go_enter Try.func113, Try.ntmps113
    go_wp2
    go_ret
    exact ⟨rfl, rfl⟩
  · rw [if_neg hlt]
    go_enter Try.func113, Try.ntmps113
    go_wp2
    go_ret
    exact ⟨rfl, rfl⟩

end Go.Proofs.Ytocoeodoihdkgaa

/- Images as arguments and answers: four numbers and a list; the walks of the laws' own helpers on them. -/
namespace Go.Proofs.Ytocoeodoihdkgaa
open Go.RowKit

abbrev Im := Int × Int × Int × Int × List Int
abbrev imv (d : Im) (vl : Value) : Value := .agg #[.int .i64 d.1, .int .i64 d.2.1, .int .i64 d.2.2.1, .int .i64 d.2.2.2.1, vl]
abbrev imc (d : Im) (vl : Value) : List Value := [.int .i64 d.1, .int .i64 d.2.1, .int .i64 d.2.2.1, .int .i64 d.2.2.2.1, vl]
abbrev ims (d : Im) : List Int := d.2.2.2.2
def RdIm (w : World) (v : Value) (d : Im) : Prop := ∃ vl, v = imv d vl ∧ RdI w vl (ims d)
def OwnIm (w : World) (a b : Nat) (v : Value) (d : Im) : Prop := ∃ vl, v = imv d vl ∧ OwnI w a b vl (ims d)
theorem OwnIm.rd {w : World} {a b : Nat} {v : Value} {d : Im} (h : OwnIm w a b v d) : RdIm w v d := by
  obtain ⟨vl, rfl, h⟩ := h
  exact ⟨vl, rfl, h.rd⟩
theorem RdIm.below {w w' : World} {v : Value} {d : Im} (h : RdIm w v d) (hb : Below w.heap.size w w') : RdIm w' v d := by
  obtain ⟨vl, rfl, h⟩ := h
  exact ⟨vl, rfl, h.below hb⟩
theorem OwnIm.upd {w w' : World} {a b c e : Nat} {v : Value} {d : Im} (h : OwnIm w a b v d) (u : Upd c e w w') (hd : b ≤ c ∨ e ≤ a) : OwnIm w' a b v d := by
  obtain ⟨vl, rfl, h⟩ := h
  exact ⟨vl, rfl, h.upd u hd⟩
theorem OwnIm.keep {w w' : World} {a b : Nat} {v : Value} {d : Im} (h : OwnIm w a b v d) (u : Upd 0 0 w w') : OwnIm w' a b v d := h.upd u (.inr (Nat.zero_le _))
theorem OwnIm.form {w : World} {a b : Nat} {v : Value} {d : Im} (h : OwnIm w a b v d) : ∃ ad cap, v = imv d (.slice ad (ims d).length cap) := by
  obtain ⟨vl, rfl, h⟩ := h
  obtain ⟨ad, cap, rfl, _⟩ := h.rd
  exact ⟨ad, cap, rfl⟩
/-- All numbers fit. -/
def InIm (d : Im) : Prop := (-9223372036854775808 ≤ d.1 ∧ d.1 ≤ 9223372036854775807) ∧ (-9223372036854775808 ≤ d.2.1 ∧ d.2.1 ≤ 9223372036854775807) ∧ (-9223372036854775808 ≤ d.2.2.1 ∧ d.2.2.1 ≤ 9223372036854775807) ∧ (-9223372036854775808 ≤ d.2.2.2.1 ∧ d.2.2.2.1 ≤ 9223372036854775807) ∧ InI (ims d)
def imCount (d : Im) : Nat := (ims d).length
def imMarked (k : Nat) (d : Im) : Im := (d.1, d.2.1, d.2.2.1, d.2.2.2.1, marks k (ims d).length)

end Go.Proofs.Ytocoeodoihdkgaa

/- Planes as arguments and answers; the walks of the laws' own helpers on them. -/
namespace Go.Proofs.Ytocoeodoihdkgaa
open Go.RowKit

abbrev Pl := Int × Int × List Int
abbrev Plv (d : Pl) (vl : Value) : Value := .agg #[.int .i64 d.1, .int .i64 d.2.1, vl]
abbrev Pls (d : Pl) : List Int := d.2.2
def RdPl (w : World) (v : Value) (d : Pl) : Prop := ∃ vl, v = Plv d vl ∧ RdI w vl (Pls d)
def OwnPl (w : World) (a b : Nat) (v : Value) (d : Pl) : Prop := ∃ vl, v = Plv d vl ∧ OwnI w a b vl (Pls d)
theorem OwnPl.rd {w : World} {a b : Nat} {v : Value} {d : Pl} (h : OwnPl w a b v d) : RdPl w v d := by
  obtain ⟨vl, rfl, h⟩ := h
  exact ⟨vl, rfl, h.rd⟩
theorem RdPl.below {w w' : World} {v : Value} {d : Pl} (h : RdPl w v d) (hb : Below w.heap.size w w') : RdPl w' v d := by
  obtain ⟨vl, rfl, h⟩ := h
  exact ⟨vl, rfl, h.below hb⟩
theorem OwnPl.upd {w w' : World} {a b c e : Nat} {v : Value} {d : Pl} (h : OwnPl w a b v d) (u : Upd c e w w') (hd : b ≤ c ∨ e ≤ a) : OwnPl w' a b v d := by
  obtain ⟨vl, rfl, h⟩ := h
  exact ⟨vl, rfl, h.upd u hd⟩
theorem OwnPl.keep {w w' : World} {a b : Nat} {v : Value} {d : Pl} (h : OwnPl w a b v d) (u : Upd 0 0 w w') : OwnPl w' a b v d := h.upd u (.inr (Nat.zero_le _))
theorem OwnPl.form {w : World} {a b : Nat} {v : Value} {d : Pl} (h : OwnPl w a b v d) : ∃ ad cap, v = Plv d (.slice ad (Pls d).length cap) := by
  obtain ⟨vl, rfl, h⟩ := h
  obtain ⟨ad, cap, rfl, _⟩ := h.rd
  exact ⟨ad, cap, rfl⟩
def PlCount (d : Pl) : Nat := (Pls d).length
def PlMarked (k : Nat) (d : Pl) : Pl := (d.1, d.2.1, marks k (Pls d).length)
/-- All numbers fit. -/
def InPl (d : Pl) : Prop := (-9223372036854775808 ≤ d.1 ∧ d.1 ≤ 9223372036854775807) ∧ (-9223372036854775808 ≤ d.2.1 ∧ d.2.1 ≤ 9223372036854775807) ∧ InI d.2.2

end Go.Proofs.Ytocoeodoihdkgaa

/- Plain: good planes. -/
namespace Go.Proofs.Ytocoeodoihdkgaa
open Go.RowKit

def SidesOk (a b : Int) : Prop := (1 ≤ a ∧ a ≤ 512) ∧ (1 ≤ b ∧ b ≤ 512) ∧ a * b ≤ 4096
instance (a b : Int) : Decidable (SidesOk a b) := by unfold SidesOk; infer_instance
def GoodPl (d : Pl) : Prop := SidesOk d.1 d.2.1 ∧ (d.2.2.length : Int) = d.1 * d.2.1 ∧ SmpOk d.2.2 8
noncomputable def goodPlB (d : Pl) : Bool := open Classical in decide (GoodPl d)
theorem goodPlB_yes {d : Pl} (h : GoodPl d) : goodPlB d = true := by unfold goodPlB; simpa using h
theorem goodPlB_no {d : Pl} (h : ¬ GoodPl d) : goodPlB d = false := by unfold goodPlB; simpa using h
theorem prod_side {w h : Int} (hw : 1 ≤ w ∧ w ≤ 512) (hh : 1 ≤ h ∧ h ≤ 512) : ∃ P : Int, w * h = P ∧ 1 ≤ P ∧ P ≤ 262144 := by
  obtain ⟨W, rfl⟩ := Int.eq_ofNat_of_zero_le (show 0 ≤ w by omega)
  obtain ⟨H, rfl⟩ := Int.eq_ofNat_of_zero_le (show 0 ≤ h by omega)
  have h1 : W * H ≤ 512 * 512 := Nat.mul_le_mul (by omega) (by omega)
  have h2 : 1 * 1 ≤ W * H := Nat.mul_le_mul (by omega) (by omega)
  exact ⟨((W * H : Nat) : Int), by simp, by omega, by omega⟩
end Go.Proofs.Ytocoeodoihdkgaa

/- Plain: a plane made smaller. -/
namespace Go.Proofs.Ytocoeodoihdkgaa
open Go.RowKit

/-- The first n samples from x on in row j. -/
def rowSum (zs : List Int) (W j x : Nat) : Nat → Int
  | 0 => 0
  | n + 1 => rowSum zs W j x n + zs.getD (j * W + (x + n)) 0
/-- .. of the first m rows from y on. -/
def boxSum (zs : List Int) (W x nx y : Nat) : Nat → Int
  | 0 => 0
  | m + 1 => boxSum zs W x nx y m + rowSum zs W (y + m) x nx
def manyF (W by_ x : Nat) : Nat := min (x + by_) W - x
def meanF (zs : List Int) (W H by_ x y : Nat) : Int :=
  (boxSum zs W x (manyF W by_ x) y (manyF H by_ y) + ((manyF W by_ x * manyF H by_ y / 2 : Nat) : Int)) / ((manyF W by_ x * manyF H by_ y : Nat) : Int)
def stepsF (n by_ : Nat) : Nat := (n + by_ - 1) / by_
def shrinkL (zs : List Int) (W H by_ : Nat) (k : Nat) : List Int := (List.range k).map fun i => meanF zs W H by_ (i % stepsF W by_ * by_) (i / stepsF W by_ * by_)
theorem shrinkL_zero (zs : List Int) (W H b : Nat) : shrinkL zs W H b 0 = [] := rfl
theorem shrinkL_succ (zs : List Int) (W H b k : Nat) : shrinkL zs W H b (k + 1) = shrinkL zs W H b k ++ [meanF zs W H b (k % stepsF W b * b) (k / stepsF W b * b)] := by
  unfold shrinkL; rw [List.range_succ, List.map_append]; rfl
@[simp] theorem shrinkL_length (zs : List Int) (W H b k : Nat) : (shrinkL zs W H b k).length = k := by simp [shrinkL]
theorem smp_bd {zs : List Int} (h : SmpOk zs 8) (k : Nat) : 0 ≤ zs.getD k 0 ∧ zs.getD k 0 ≤ 255 := by
  by_cases hk : k < zs.length
  · have h1 := h k hk
    have h2 : zs.getD k 0 < 2 ^ 8 := h1.2
    exact ⟨h1.1, by omega⟩
  · rw [List.getD_eq_getElem?_getD, List.getElem?_eq_none (by omega)]; simp
theorem rowSum_bd {zs : List Int} (h : SmpOk zs 8) (W j x n : Nat) : 0 ≤ rowSum zs W j x n ∧ rowSum zs W j x n ≤ 255 * n := by
  induction n with
  | zero => unfold rowSum; omega
  | succ n ih => have := smp_bd h (j * W + (x + n)); unfold rowSum; omega
theorem boxSum_bd {zs : List Int} (h : SmpOk zs 8) (W x nx y m : Nat) (hx : nx ≤ 4) : 0 ≤ boxSum zs W x nx y m ∧ boxSum zs W x nx y m ≤ 1020 * m := by
  induction m with
  | zero => unfold boxSum; omega
  | succ m ih => have := rowSum_bd h W (y + m) x nx; unfold boxSum; omega
theorem manyF_bd {W b x : Nat} (hx : x < W) (hb : 1 ≤ b) : 1 ≤ manyF W b x ∧ manyF W b x ≤ b ∧ x + manyF W b x ≤ W ∧ x + manyF W b x = min (x + b) W := by unfold manyF; omega
theorem stepsF_lt {W b i : Nat} (hb : b = 2 ∨ b = 4) (hi : i < stepsF W b) : i * b < W := by
  unfold stepsF at hi
  rcases hb with rfl | rfl <;> omega
theorem stepsF_bd {W b : Nat} (hb : b = 2 ∨ b = 4) (hW : 1 ≤ W) : 1 ≤ stepsF W b ∧ stepsF W b ≤ W := by
  unfold stepsF
  rcases hb with rfl | rfl <;> omega
/-- What Shrink answers. -/
noncomputable def shrinkF (d : Pl) (b : Int) : Pl :=
  open Classical in if GoodPl d ∧ (b = 2 ∨ b = 4) then (((stepsF d.1.toNat b.toNat : Nat) : Int), ((stepsF d.2.1.toNat b.toNat : Nat) : Int), shrinkL d.2.2 d.1.toNat d.2.1.toNat b.toNat (stepsF d.1.toNat b.toNat * stepsF d.2.1.toNat b.toNat)) else (0, 0, [])
theorem shrinkF_yes {d : Pl} {b : Int} (h : GoodPl d) (hb : b = 2 ∨ b = 4) : shrinkF d b = (((stepsF d.1.toNat b.toNat : Nat) : Int), ((stepsF d.2.1.toNat b.toNat : Nat) : Int), shrinkL d.2.2 d.1.toNat d.2.1.toNat b.toNat (stepsF d.1.toNat b.toNat * stepsF d.2.1.toNat b.toNat)) := by
  unfold shrinkF; rw [if_pos ⟨h, hb⟩]
theorem shrinkF_no {d : Pl} {b : Int} (h : ¬ (GoodPl d ∧ (b = 2 ∨ b = 4))) : shrinkF d b = (0, 0, []) := by
  unfold shrinkF; rw [if_neg h]
theorem shrinkF_len (d : Pl) (b : Int) : (shrinkF d b).2.2.length ≤ 1048576 := by
  by_cases h : GoodPl d ∧ (b = 2 ∨ b = 4)
  · rw [shrinkF_yes h.1 h.2]
    simp only [shrinkL_length]
    obtain ⟨⟨h1, h2, _⟩, _⟩ := h.1
    obtain ⟨b, rfl⟩ := Int.eq_ofNat_of_zero_le (show 0 ≤ b by omega)
    have hb : b = 2 ∨ b = 4 := by omega
    have e1 := (stepsF_bd (W := d.1.toNat) hb (by omega)).2
    have e2 := (stepsF_bd (W := d.2.1.toNat) hb (by omega)).2
    rw [Int.toNat_natCast]
    exact Nat.le_trans (Nat.mul_le_mul (Nat.le_trans e1 (show d.1.toNat ≤ 512 by omega)) (Nat.le_trans e2 (show d.2.1.toNat ≤ 512 by omega))) (by omega)
  · rw [shrinkF_no h]; simp
end Go.Proofs.Ytocoeodoihdkgaa

/- A region that draws its order, whose operations read old memory and whose calls only lay new blocks: one walk of the text's order serves. -/
namespace Go.Proofs.Ytocoeodoihdkgaa
open Go.RowKit

/-- The worlds in which all that was there is as it was. -/
def UpdT (w : World) : Type := { w' : World // Upd 0 0 w w' }
def UpdT.to {w : World} (x : UpdT w) : World := x.1
instance (w : World) : Nonempty (UpdT w) := ⟨⟨w, Upd.refl _ _ _⟩⟩
theorem UpdT.upd {w : World} (x : UpdT w) : Upd 0 0 w x.to := x.2
theorem wp_region_upd {P : Program} {id : Nat} {Q : Exit → Act → World → Prop} {a : Act} {w : World} {l : List Oper} (hm : P.follows .mixedOrders = true) (hB : Region.lexB .any l.toArray = true)
    (h : wpQuiet P l.toArray (fun w' => ∃ x : UpdT w, w' = x.to) (fun a' => ∀ w', (∃ x : UpdT w, w' = x.to) → Q .normal a' w') l a) : (Code.region id l.toArray true).wp P Q a w :=
  wp_region_quiet (C := fun w' => ∃ x : UpdT w, w' = x.to) hm hB ⟨⟨{ w with drawn := w.drawn + 1 }, ⟨rfl, rfl, rfl, Nat.le_refl _, fun _ _ _ => rfl⟩⟩, rfl⟩ (by simpa using h)
/-- A call that only lays new blocks, in such a world. -/
theorem Calls.updT {P : Program} {f : FuncId} {args : Array Value} {w : World} {v : Value} (x : UpdT w) (h : Calls P f args x.to fun e w' => e = .returned v ∧ Upd 0 0 x.to w') :
    Calls P f args x.to fun e w' => e = .returned v ∧ ∃ y : UpdT w, w' = y.to :=
  h.mono fun _ w' ⟨he, hu⟩ => ⟨he, ⟨w', x.upd.trans hu⟩, rfl⟩
theorem Calls.updT_same {P : Program} {f : FuncId} {args : Array Value} {w : World} {v : Value} (x : UpdT w) (h : Calls P f args x.to fun e w' => e = .returned v ∧ w' = x.to) :
    Calls P f args x.to fun e w' => e = .returned v ∧ ∃ y : UpdT w, w' = y.to :=
  h.mono fun _ _ ⟨he, hw⟩ => ⟨he, x, hw⟩
theorem Held.updT {w : World} {g : Nat} {cs : List Value} (h : Held w g cs) (x : UpdT w) : Held x.to g cs := h.keep x.upd
end Go.Proofs.Ytocoeodoihdkgaa

/- The walk of a region that draws its order, behind a wrapper that no elaborator looks through (a guard's test is then never evaluated unasked). -/
namespace Go.Proofs.Ytocoeodoihdkgaa
open Go.RowKit

structure WQ (P : Program) (ops : Array Oper) (C : World → Prop) (Q : Act → Prop) (l : List Oper) (a : Act) : Prop where
  h : wpQuiet P ops C Q l a
theorem WQ.nil {P : Program} {ops : Array Oper} {C : World → Prop} {Q : Act → Prop} {a : Act} (h : Q a) : WQ P ops C Q [] a := ⟨h⟩
theorem WQ.step {P : Program} {ops : Array Oper} {C : World → Prop} {Q : Act → Prop} {a : Act} {o : Oper} {rest : List Oper}
    (h : ∀ K : Act → Prop, (∀ a, WQ P ops C Q rest a → K a) → if Region.wanted o (yielded ops a.tmps) then o.quiet P a C K else K (a.put o.dst undef)) : WQ P ops C Q (o :: rest) a :=
  ⟨wpQuiet_step (fun K hK => h K (fun a ha => hK a ha.h))⟩
theorem wq_region_upd {P : Program} {id : Nat} {Q : Exit → Act → World → Prop} {a : Act} {w : World} {l : List Oper} (hm : P.follows .mixedOrders = true) (hB : Region.lexB .any l.toArray = true)
    (h : WQ P l.toArray (fun w' => ∃ x : UpdT w, w' = x.to) (fun a' => ∀ w', (∃ x : UpdT w, w' = x.to) → Q .normal a' w') l a) : (Code.region id l.toArray true).wp P Q a w :=
  wp_region_upd hm hB h.h
end Go.Proofs.Ytocoeodoihdkgaa

/- Cells of a block that may be written, known one by one. -/
namespace Go.Proofs.Ytocoeodoihdkgaa
open Go.RowKit

def HeldF (w : World) (g : Nat) (cs : List Value) : Prop := Held w g cs ∧ ∀ j, w.frozen? ⟨g, j, none⟩ = false
theorem heldF_new (w : World) (cs : List Value) (t : TypeId) : HeldF (w.alloc (.cells cs.toArray t)) w.heap.size cs :=
  ⟨held_new w cs t, fun _ => World.frozen?_alloc_at _ _ _ _ rfl⟩
theorem HeldF.upd {w w' : World} {g c e : Nat} {cs : List Value} (h : HeldF w g cs) (u : Upd c e w w') (hd : g + 1 ≤ c ∨ e ≤ g) : HeldF w' g cs :=
  ⟨h.1.upd u hd, fun j => (World.frozen?_of_block (a := ⟨g, j, none⟩) (u.block g h.1.1 (by omega))).trans (h.2 j)⟩
theorem HeldF.keep {w w' : World} {g : Nat} {cs : List Value} (h : HeldF w g cs) (u : Upd 0 0 w w') : HeldF w' g cs := h.upd u (.inr (Nat.zero_le _))
theorem HeldF.other {w : World} {g : Nat} {cs : List Value} (h : HeldF w g cs) {g' : Nat} (hne : g' ≠ g) (o : Nat) (u : Value) : HeldF (w.setCell ⟨g', o, none⟩ u) g cs := by
  refine ⟨⟨by simpa using h.1.1, fun j v hj => ?_⟩, fun j => ?_⟩
  · rw [World.cell?_setCell_other _ _ _ _ (by simp_all; try omega)]; exact h.1.2 j v hj
  · rw [World.frozen?_setCell]; exact h.2 j
theorem HeldF.set {w : World} {g : Nat} {cs : List Value} (h : HeldF w g cs) (o : Nat) (u : Value) (ho : o < cs.length) : HeldF (w.setCell ⟨g, o, none⟩ u) g (cs.set o u) := by
  refine ⟨⟨by simpa using h.1.1, fun j v hj => ?_⟩, fun j => ?_⟩
  · by_cases e : o = j
    · subst e
      rw [List.getElem?_set_self ho] at hj
      cases hj
      exact World.cell?_setCell_same _ _ _ (h.1.2 o _ (List.getElem?_eq_getElem ho))
    · rw [List.getElem?_set_ne e] at hj
      rw [World.cell?_setCell_other _ _ _ _ (by simp_all; try omega)]; exact h.1.2 j v hj
  · rw [World.frozen?_setCell]; exact h.2 j
theorem Own.set' {e : TypeId} {s : Nat} {w : World} {a b : Nat} {v : Value} {n : Nat} {xs : List Value} (h : Own e s w a b v n xs) {c : Nat} (hc : c < a) (o : Nat) (u : Value) : Own e s (w.setCell ⟨c, o, none⟩ u) a b v n xs :=
  ⟨ownsRow_setCell_below h.1 hc u, h.2⟩
end Go.Proofs.Ytocoeodoihdkgaa

/- The program's samples of a plane, and means of them. -/
namespace Go.Proofs.Ytocoeodoihdkgaa
open Go.RowKit

/-- A good plane's facts, in natural numbers. -/
structure PlOk (W H : Nat) (zs : List Int) : Prop where
  w : 1 ≤ W ∧ W ≤ 512
  h : 1 ≤ H ∧ H ≤ 512
  l : zs.length = W * H
  m : W * H ≤ 4096
  s : SmpOk zs 8
theorem GoodPl.nat {a b : Int} {zs : List Int} (h : GoodPl (a, b, zs)) : ∃ W H : Nat, a = W ∧ b = H ∧ PlOk W H zs := by
  obtain ⟨⟨h1, h2, h3⟩, hl, hs⟩ := h
  simp only at h1 h2 h3 hl hs
  obtain ⟨W, rfl⟩ := Int.eq_ofNat_of_zero_le (show 0 ≤ a by omega)
  obtain ⟨H, rfl⟩ := Int.eq_ofNat_of_zero_le (show 0 ≤ b by omega)
  have e : (W : Int) * (H : Int) = ((W * H : Nat) : Int) := by simp
  exact ⟨W, H, rfl, rfl, ⟨by omega, by omega, by omega, by omega, hs⟩⟩
theorem PlOk.at_lt {W H : Nat} {zs : List Int} (h : PlOk W H zs) {x y : Nat} (hx : x < W) (hy : y < H) : y * W + x < zs.length ∧ y * W ≤ 4096 := by
  have h1 : (y + 1) * W ≤ H * W := Nat.mul_le_mul hy (Nat.le_refl _)
  have h2 := h.m
  rw [h.l, Nat.mul_comm W H]
  rw [Nat.mul_comm W H] at h2
  rw [Nat.add_mul, Nat.one_mul] at h1
  omega

end Go.Proofs.Ytocoeodoihdkgaa

/- Plain: a plane in other sides. -/
namespace Go.Proofs.Ytocoeodoihdkgaa
open Go.RowKit

/-- Where a sample comes from, in parts of 256. -/
def fromF (x old new : Nat) : Nat := (2 * x + 1) * old * 256 / (2 * new) - 128
/-- A sample, the nearest one where there is none. -/
def nearF (zs : List Int) (W H x y : Nat) : Int := zs.getD (min y (H - 1) * W + min x (W - 1)) 0
def topF (zs : List Int) (W H s j : Nat) : Int := (256 - ((s % 256 : Nat) : Int)) * nearF zs W H (s / 256) j + ((s % 256 : Nat) : Int) * nearF zs W H (s / 256 + 1) j
def blendF (zs : List Int) (W H s t : Nat) : Int := ((256 - ((t % 256 : Nat) : Int)) * topF zs W H s (t / 256) + ((t % 256 : Nat) : Int) * topF zs W H s (t / 256 + 1) + 32768) / 65536
def resizeL (zs : List Int) (W H w h k : Nat) : List Int := (List.range k).map fun i => blendF zs W H (fromF (i % w) W w) (fromF (i / w) H h)
theorem resizeL_zero (zs : List Int) (W H w h : Nat) : resizeL zs W H w h 0 = [] := rfl
theorem resizeL_succ (zs : List Int) (W H w h k : Nat) : resizeL zs W H w h (k + 1) = resizeL zs W H w h k ++ [blendF zs W H (fromF (k % w) W w) (fromF (k / w) H h)] := by
  unfold resizeL; rw [List.range_succ, List.map_append]; rfl
@[simp] theorem resizeL_length (zs : List Int) (W H w h k : Nat) : (resizeL zs W H w h k).length = k := by simp [resizeL]
theorem mul_bd {a b m n : Int} (a0 : 0 ≤ a) (a1 : a ≤ m) (b0 : 0 ≤ b) (b1 : b ≤ n) : 0 ≤ a * b ∧ a * b ≤ m * n :=
  ⟨Int.mul_nonneg a0 b0, Int.mul_le_mul a1 b1 b0 (Int.le_trans a0 a1)⟩
theorem nearF_bd {zs : List Int} (h : SmpOk zs 8) (W H x y : Nat) : 0 ≤ nearF zs W H x y ∧ nearF zs W H x y ≤ 255 := smp_bd h _
theorem fromF_bd {x W w : Nat} (hx : x < w) (hW : W ≤ 512) : fromF x W w ≤ 131072 := by
  unfold fromF
  have h0 : W * 256 ≤ 131072 := by omega
  have h1 : (2 * x + 1) * W * 256 ≤ (2 * w) * 131072 := by
    rw [Nat.mul_assoc]
    exact Nat.mul_le_mul (by omega) h0
  have h2 : (2 * x + 1) * W * 256 / (2 * w) ≤ 131072 := Nat.div_le_of_le_mul h1
  generalize (2 * x + 1) * W * 256 / (2 * w) = q at h2
  omega
theorem topF_bd {zs : List Int} (h : SmpOk zs 8) (W H s j : Nat) : 0 ≤ topF zs W H s j ∧ topF zs W H s j ≤ 65280 := by
  have a := nearF_bd h W H (s / 256) j
  have b := nearF_bd h W H (s / 256 + 1) j
  unfold topF
  generalize nearF zs W H (s / 256) j = p at a
  generalize nearF zs W H (s / 256 + 1) j = q at b
  have hf : s % 256 < 256 := Nat.mod_lt _ (by omega)
  generalize s % 256 = f at hf
  have h1 : (256 - (f : Int)) * p ≤ (256 - (f : Int)) * 255 := Int.mul_le_mul_of_nonneg_left a.2 (by omega)
  have h2 : (f : Int) * q ≤ (f : Int) * 255 := Int.mul_le_mul_of_nonneg_left b.2 (by omega)
  have h3 : 0 ≤ (256 - (f : Int)) * p := Int.mul_nonneg (by omega) a.1
  have h4 : 0 ≤ (f : Int) * q := Int.mul_nonneg (by omega) b.1
  generalize (256 - (f : Int)) * p = P at h1 h3
  generalize (f : Int) * q = Q at h2 h4
  omega
/-- What Resize answers. -/
noncomputable def resizeF (d : Pl) (w h : Int) : Pl :=
  open Classical in if GoodPl d ∧ SidesOk w h then (w, h, resizeL d.2.2 d.1.toNat d.2.1.toNat w.toNat h.toNat (w.toNat * h.toNat)) else (0, 0, [])
theorem resizeF_yes {d : Pl} {w h : Int} (a : GoodPl d) (b : SidesOk w h) : resizeF d w h = (w, h, resizeL d.2.2 d.1.toNat d.2.1.toNat w.toNat h.toNat (w.toNat * h.toNat)) := by
  unfold resizeF; rw [if_pos ⟨a, b⟩]
theorem resizeF_no {d : Pl} {w h : Int} (a : ¬ (GoodPl d ∧ SidesOk w h)) : resizeF d w h = (0, 0, []) := by
  unfold resizeF; rw [if_neg a]
theorem resizeF_len (d : Pl) (w h : Int) : (resizeF d w h).2.2.length ≤ 1048576 := by
  by_cases a : GoodPl d ∧ SidesOk w h
  · rw [resizeF_yes a.1 a.2]
    simp only [resizeL_length]
    obtain ⟨h1, h2, _⟩ := a.2
    exact Nat.le_trans (Nat.mul_le_mul (show w.toNat ≤ 512 by omega) (show h.toNat ≤ 512 by omega)) (by omega)
  · rw [resizeF_no a]; simp
end Go.Proofs.Ytocoeodoihdkgaa

/- The specification's Resize: where samples come from. -/
namespace Go.Proofs.Ytocoeodoihdkgaa
open Go.RowKit

theorem wrapI {x : Int} (h : -9223372036854775808 ≤ x ∧ x ≤ 9223372036854775807) : IntKind.i64.wrap x = x := by
  simp [IntKind.wrap, IntKind.bits, IntKind.signed]; omega
theorem i64_and_255 (n : Nat) : bits .and .i64 (n : Int) 255 = ((n % 256 : Nat) : Int) := by
  have h1 : (BitVec.ofInt 64 255).toNat = 2 ^ 8 - 1 := by decide
  have key : (BitVec.ofInt 64 (n : Int) &&& BitVec.ofInt 64 255).toNat = ((n : Int) % ((2 ^ 64 : Nat) : Int)).toNat % 2 ^ 8 := by
    rw [BitVec.toNat_and, BitVec.toNat_ofInt, h1, Nat.and_two_pow_sub_one_eq_mod]
  show IntKind.i64.wrap ((BitVec.ofInt 64 (n : Int) &&& BitVec.ofInt 64 255).toNat : Nat) = _
  rw [key, IntKind.wrap_i64]
  omega
end Go.Proofs.Ytocoeodoihdkgaa

/- Plain: colours of three numbers. -/
namespace Go.Proofs.Ytocoeodoihdkgaa
open Go.RowKit

def clipF (n : Int) : Int := if n < 0 then 0 else if 255 < n then 255 else n
theorem clipF_bd (n : Int) : 0 ≤ clipF n ∧ clipF n ≤ 255 := by unfold clipF; split <;> (try split) <;> omega
theorem clipF_low {n : Int} (h : n < 0) : clipF n = 0 := by unfold clipF; rw [if_pos h]
theorem clipF_high {n : Int} (h : 255 < n) : clipF n = 255 := by unfold clipF; rw [if_neg (by omega), if_pos h]
theorem clipF_in {n : Int} (h0 : ¬ n < 0) (h : ¬ 255 < n) : clipF n = n := by unfold clipF; rw [if_neg h0, if_neg h]
def yOf (r g b : Int) : Int := clipF ((77 * r + 150 * g + 29 * b + 128) / 256)
def cbOf (r g b : Int) : Int := clipF ((-43 * r - 85 * g + 128 * b + 128) / 256 + 128)
def crOf (r g b : Int) : Int := clipF ((128 * r - 107 * g - 21 * b + 128) / 256 + 128)
def brightF (d : Int × Int × Int) : Int × Int × Int := (yOf (clipF d.1) (clipF d.2.1) (clipF d.2.2), cbOf (clipF d.1) (clipF d.2.1) (clipF d.2.2), crOf (clipF d.1) (clipF d.2.1) (clipF d.2.2))
def rOf (y _u v : Int) : Int := clipF (y + (359 * v + 128) / 256)
def gOf (y u v : Int) : Int := clipF (y - (88 * u + 183 * v + 128) / 256)
def bOf (y u _v : Int) : Int := clipF (y + (454 * u + 128) / 256)
def unbrightF (d : Int × Int × Int) : Int × Int × Int := (rOf (clipF d.1) (clipF d.2.1 - 128) (clipF d.2.2 - 128), gOf (clipF d.1) (clipF d.2.1 - 128) (clipF d.2.2 - 128), bOf (clipF d.1) (clipF d.2.1 - 128) (clipF d.2.2 - 128))
def Near (m : Int) (d : Int × Int × Int) : Prop := (-m ≤ d.1 ∧ d.1 ≤ m) ∧ (-m ≤ d.2.1 ∧ d.2.1 ≤ m) ∧ (-m ≤ d.2.2 ∧ d.2.2 ≤ m)
instance (m : Int) (d : Int × Int × Int) : Decidable (Near m d) := by unfold Near; infer_instance
def liftF (d : Int × Int × Int) : Int × Int × Int := if Near 1000000 d then ((d.1 + 2 * d.2.1 + d.2.2) / 4, d.2.2 - d.2.1, d.1 - d.2.1) else (0, 0, 0)
def unliftG (d : Int × Int × Int) : Int := d.1 - (d.2.1 + d.2.2) / 4
def unliftF (d : Int × Int × Int) : Int × Int × Int := if Near 4000000 d ∧ Near 1000000 (d.2.2 + unliftG d, unliftG d, d.2.1 + unliftG d) then (d.2.2 + unliftG d, unliftG d, d.2.1 + unliftG d) else (0, 0, 0)
theorem unlift_lift {d : Int × Int × Int} (h : Near 1000000 d) : unliftF (liftF d) = d := by
  obtain ⟨r, g, b⟩ := d
  unfold liftF
  rw [if_pos h]
  obtain ⟨⟨h1, h2⟩, ⟨h3, h4⟩, h5, h6⟩ := h
  simp only at h1 h2 h3 h4 h5 h6
  have e : unliftG ((r + 2 * g + b) / 4, b - g, r - g) = g := by unfold unliftG; simp only; omega
  unfold unliftF
  rw [e, if_pos]
  · simp only [Prod.mk.injEq]; exact ⟨by omega, trivial, by omega⟩
  · unfold Near; simp only; omega
theorem yOf_bd (r g b : Int) (hr : 0 ≤ r ∧ r ≤ 255) (hg : 0 ≤ g ∧ g ≤ 255) (hb : 0 ≤ b ∧ b ≤ 255) : yOf r g b = (77 * r + 150 * g + 29 * b + 128) / 256 := by
  unfold yOf; rw [clipF_in (by omega) (by omega)]
theorem red_near (r g b : Int) (hr : 0 ≤ r ∧ r ≤ 255) (hg : 0 ≤ g ∧ g ≤ 255) (hb : 0 ≤ b ∧ b ≤ 255) : -2 ≤ r - rOf (yOf r g b) (cbOf r g b - 128) (crOf r g b - 128) ∧ r - rOf (yOf r g b) (cbOf r g b - 128) (crOf r g b - 128) ≤ 2 := by
  rw [yOf_bd r g b hr hg hb]
  unfold rOf crOf clipF
  split <;> (try split) <;> (try split) <;> (try split) <;> omega
theorem green_near (r g b : Int) (hr : 0 ≤ r ∧ r ≤ 255) (hg : 0 ≤ g ∧ g ≤ 255) (hb : 0 ≤ b ∧ b ≤ 255) : -2 ≤ g - gOf (yOf r g b) (cbOf r g b - 128) (crOf r g b - 128) ∧ g - gOf (yOf r g b) (cbOf r g b - 128) (crOf r g b - 128) ≤ 2 := by
  rw [yOf_bd r g b hr hg hb]
  unfold gOf cbOf crOf clipF
  split <;> (try split) <;> (try split) <;> (try split) <;> (try split) <;> (try split) <;> omega
theorem blue_near (r g b : Int) (hr : 0 ≤ r ∧ r ≤ 255) (hg : 0 ≤ g ∧ g ≤ 255) (hb : 0 ≤ b ∧ b ≤ 255) : -2 ≤ b - bOf (yOf r g b) (cbOf r g b - 128) (crOf r g b - 128) ∧ b - bOf (yOf r g b) (cbOf r g b - 128) (crOf r g b - 128) ≤ 2 := by
  rw [yOf_bd r g b hr hg hb]
  unfold bOf cbOf clipF
  split <;> (try split) <;> (try split) <;> (try split) <;> omega
theorem grey_bright (g : Int) (hg : 0 ≤ g ∧ g ≤ 255) : brightF (g, g, g) = (g, 128, 128) := by
  unfold brightF
  simp only
  rw [clipF_in (by omega) (by omega)]
  unfold yOf cbOf crOf
  simp only [Prod.mk.injEq]
  refine ⟨?_, ?_, ?_⟩
  · rw [clipF_in (by omega) (by omega)]; omega
  · rw [clipF_in (by omega) (by omega)]; omega
  · rw [clipF_in (by omega) (by omega)]; omega
end Go.Proofs.Ytocoeodoihdkgaa

/- Triples as arguments and answers; the walks of the laws' own helpers on them. -/
namespace Go.Proofs.Ytocoeodoihdkgaa
open Go.RowKit

abbrev Tr := Int × Int × Int
abbrev Trv (d : Tr) : Value := .agg #[.int .i64 d.1, .int .i64 d.2.1, .int .i64 d.2.2]
def RdTr (_w : World) (v : Value) (d : Tr) : Prop := v = Trv d 
def OwnTr (_w : World) (_a _b : Nat) (v : Value) (d : Tr) : Prop := v = Trv d
theorem OwnTr.rd {w : World} {a b : Nat} {v : Value} {d : Tr} (h : OwnTr w a b v d) : RdTr w v d := by
  exact h
theorem RdTr.below {w w' : World} {v : Value} {d : Tr} (h : RdTr w v d) (_hb : Below w.heap.size w w') : RdTr w' v d := by
  exact h
theorem OwnTr.upd {w w' : World} {a b c e : Nat} {v : Value} {d : Tr} (h : OwnTr w a b v d) (_u : Upd c e w w') (_hd : b ≤ c ∨ e ≤ a) : OwnTr w' a b v d := by
  exact h
theorem OwnTr.keep {w w' : World} {a b : Nat} {v : Value} {d : Tr} (h : OwnTr w a b v d) (u : Upd 0 0 w w') : OwnTr w' a b v d := h.upd u (.inr (Nat.zero_le _))
theorem OwnTr.form {w : World} {a b : Nat} {v : Value} {d : Tr} (h : OwnTr w a b v d) : v = Trv d := h
/-- All numbers fit. -/
def InTr (d : Tr) : Prop := (-9223372036854775808 ≤ d.1 ∧ d.1 ≤ 9223372036854775807) ∧ (-9223372036854775808 ≤ d.2.1 ∧ d.2.1 ≤ 9223372036854775807) ∧ (-9223372036854775808 ≤ d.2.2 ∧ d.2.2 ≤ 9223372036854775807)
def TrSize (_d : Tr) : Nat := 0
def TrCount (_d : Tr) : Nat := 0
def TrMarked (_k : Nat) (d : Tr) : Tr := d

end Go.Proofs.Ytocoeodoihdkgaa

/- The program's colours: clipping. -/
namespace Go.Proofs.Ytocoeodoihdkgaa
open Go.RowKit

set_option maxHeartbeats 4000000 in
set_option maxRecDepth 100000 in
theorem implRound8 (n : Int) (w : World) (h0 : -1152921504606846976 ≤ n) (h1 : n ≤ 1152921504606846976) : Calls Try.prog 108 #[.int .i64 n, .int .i64 8] w fun e w' => e = .returned (.int .i64 ((n + 128) / 256)) ∧ w' = w := by
  go_enter Try.func108, Try.ntmps108
  go_wp2
  go_ret
  exact ⟨rfl, rfl⟩
theorem implRound4 (n : Int) (w : World) (h0 : -1152921504606846976 ≤ n) (h1 : n ≤ 1152921504606846976) : Calls Try.prog 108 #[.int .i64 n, .int .i64 4] w fun e w' => e = .returned (.int .i64 ((n + 8) / 16)) ∧ w' = w := by
  go_enter Try.func108, Try.ntmps108
  go_wp2
  go_ret
  exact ⟨rfl, rfl⟩
theorem implRound16 (n : Int) (w : World) (h0 : -1152921504606846976 ≤ n) (h1 : n ≤ 1152921504606846976) : Calls Try.prog 108 #[.int .i64 n, .int .i64 16] w fun e w' => e = .returned (.int .i64 ((n + 32768) / 65536)) ∧ w' = w := by
  go_enter Try.func108, Try.ntmps108
  go_wp2
  go_ret
  exact ⟨rfl, rfl⟩
end Go.Proofs.Ytocoeodoihdkgaa
