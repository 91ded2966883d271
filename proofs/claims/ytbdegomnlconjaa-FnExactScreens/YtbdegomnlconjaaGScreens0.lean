/- The texts behind FnExactScreens, part 0: what each of them says stands at its head. -/
import Derived.Laws.BitsAll
import Derived.WalkKit
import Derived.Test.YtbdegomnlconjaaRows
import Derived.WalkSpells
import Derived.WalkLawsBesides
import Derived.BigQuiet
import Derived.Deep.QuietTactic
import Derived.Deep.RegionHeld3
import Derived.Deep.RegionWith
import Derived.Laws.ShiftsVar
import Derived.StillTail
import Derived.Maps.AppendAt
import Derived.Laws.AppendOwnNone
import Derived.Deep.DeepCutAuto
import Derived.Shelf.Bits.Mul64
import Derived.Laws.CopyOwn
import Derived.Deep.RegionLaw
/- Plain arithmetic and lists behind chapter 1: what a check sum is after some bytes, what folding and unfolding a number gives, what the bits of words are; no program is named here. -/
namespace Go.Proofs.Ytbdegomnlconjaa
open Go.RowKit

theorem take_snoc_getD {α : Type} (zs : List α) (d : α) (k : Nat) (h : k < zs.length) : zs.take (k + 1) = zs.take k ++ [zs.getD k d] := by
  rw [List.take_succ_eq_append_getElem h, List.getD_eq_getElem?_getD, List.getElem?_eq_getElem h]; rfl

theorem hide {p : Prop} (h : p) : Hid p := h
theorem unhide {p : Prop} (h : Hid p) : p := h
theorem ret_int {k : IntKind} {a b : Int} (h : a = b) : Ending.returned (.int k a) = .returned (.int k b) := by rw [h]

/-! ### Adler -/
def adStep (p : Int × Int) (x : Int) : Int × Int := ((p.1 + x) % 65521, (p.2 + (p.1 + x) % 65521) % 65521)
def adTo (zs : List Int) (k : Nat) : Int × Int := (zs.take k).foldl adStep (1, 0)
def adlerF (zs : List Int) : Int := (65536 * (adTo zs zs.length).2 + (adTo zs zs.length).1) % 4294967296
theorem adTo_succ (zs : List Int) (k : Nat) (h : k < zs.length) : adTo zs (k + 1) = adStep (adTo zs k) (zs.getD k 0) := by
  unfold adTo; rw [take_snoc_getD zs 0 k h, List.foldl_append]; rfl
theorem adTo_succ1 (zs : List Int) (k : Nat) (h : k < zs.length) : (adTo zs (k + 1)).1 = ((adTo zs k).1 + zs.getD k 0) % 65521 := by rw [adTo_succ zs k h]; rfl
theorem adTo_succ2 (zs : List Int) (k : Nat) (h : k < zs.length) : (adTo zs (k + 1)).2 = ((adTo zs k).2 + ((adTo zs k).1 + zs.getD k 0) % 65521) % 65521 := by rw [adTo_succ zs k h]; rfl
theorem adStep_bd (p : Int × Int) (x : Int) : (0 ≤ (adStep p x).1 ∧ (adStep p x).1 < 65521) ∧ 0 ≤ (adStep p x).2 ∧ (adStep p x).2 < 65521 := by
  unfold adStep; simp only; omega
theorem adTo_bd (zs : List Int) (k : Nat) : (0 ≤ (adTo zs k).1 ∧ (adTo zs k).1 < 65521) ∧ 0 ≤ (adTo zs k).2 ∧ (adTo zs k).2 < 65521 := by
  unfold adTo
  rcases List.eq_nil_or_concat (zs.take k) with h | ⟨l, x, h⟩
  · rw [h]; simp
  · rw [h, List.concat_eq_append, List.foldl_append]; exact adStep_bd _ _

/-! ### Crc -/
def crcBit (r : Nat) : Nat := if r % 2 = 1 then (r / 2) ^^^ 3988292384 else r / 2
def crcIt : Nat → Nat → Nat
  | 0, r => r
  | m + 1, r => crcBit (crcIt m r)
def crcStep (r : Nat) (x : Int) : Nat := crcIt 8 (r ^^^ x.toNat)
def crcTo (zs : List Int) (k : Nat) : Nat := (zs.take k).foldl (fun r x => crcIt 8 (r ^^^ (x.toNat % 256))) 4294967295
def crcF (zs : List Int) : Int := 4294967295 - (crcTo zs zs.length : Nat)
theorem crcBit_lt (r : Nat) (h : r < 4294967296) : crcBit r < 4294967296 := by
  unfold crcBit; split
  · exact Nat.xor_lt_two_pow (n := 32) (by omega) (by omega)
  · omega
theorem crcIt_lt (m r : Nat) (h : r < 4294967296) : crcIt m r < 4294967296 := by
  induction m with
  | zero => exact h
  | succ m ih => exact crcBit_lt _ ih
theorem u32_and_one (y : Nat) (h : y < 4294967296) : bits .and .u32 (y : Int) 1 = ((y % 2 : Nat) : Int) := by go_bits2
theorem crcBit_odd (y : Nat) (h : y < 4294967296) (ho : y % 2 = 1) : bits .xor .u32 ((y : Int) / 2) 3988292384 = (crcBit y : Nat) := by
  have := u32_xor_nat (y / 2) 3988292384 (by omega) (by omega)
  unfold crcBit; rw [if_pos ho, ← this]; rfl
theorem crcBit_even (y : Nat) (ho : ¬ y % 2 = 1) : (y : Int) / 2 = (crcBit y : Nat) := by
  unfold crcBit; rw [if_neg ho]; omega
theorem crcTo_succ (zs : List Int) (k : Nat) (h : k < zs.length) : crcTo zs (k + 1) = crcIt 8 (crcTo zs k ^^^ ((zs.getD k 0).toNat % 256)) := by
  unfold crcTo; rw [take_snoc_getD zs 0 k h, List.foldl_append]; rfl
theorem crcTo_lt (zs : List Int) (k : Nat) : crcTo zs k < 4294967296 := by
  unfold crcTo
  generalize zs.take k = l
  suffices H : ∀ r, r < 4294967296 → l.foldl (fun r x => crcIt 8 (r ^^^ (x.toNat % 256))) r < 4294967296 from H _ (by omega)
  induction l with
  | nil => intro r h; exact h
  | cons x l ih => intro r h; exact ih _ (crcIt_lt _ _ (Nat.xor_lt_two_pow (n := 32) (by omega) (by omega)))

theorem xor_half (a b : Nat) : (a ^^^ b) / 2 = a / 2 ^^^ b / 2 := Nat.xor_div_two_pow (n := 1)
theorem xor_par (a b : Nat) : (a ^^^ b) % 2 = (a % 2 ^^^ b % 2) := Nat.xor_mod_two_pow (n := 1)
theorem crcBit_xor (a b : Nat) : crcBit (a ^^^ b) = crcBit a ^^^ crcBit b := by
  unfold crcBit
  rw [xor_par, xor_half]
  rcases Nat.mod_two_eq_zero_or_one a with ha | ha <;> rcases Nat.mod_two_eq_zero_or_one b with hb | hb
  · rw [ha, hb]; simp
  · rw [ha, hb]; simp only [show ((0 : Nat) ^^^ 1) = 1 from rfl, if_true, show ¬ ((0 : Nat) = 1) by omega, if_false]
    rw [Nat.xor_assoc]
  · rw [ha, hb]; simp only [show ((1 : Nat) ^^^ 0) = 1 from rfl, if_true, show ¬ ((0 : Nat) = 1) by omega, if_false]
    rw [Nat.xor_assoc, Nat.xor_assoc, Nat.xor_comm (b / 2)]
  · rw [ha, hb]; simp only [show ((1 : Nat) ^^^ 1) = 0 from rfl, if_true, show ¬ ((0 : Nat) = 1) by omega, if_false]
    rw [Nat.xor_assoc, ← Nat.xor_assoc 3988292384 (b / 2), Nat.xor_comm 3988292384 (b / 2), Nat.xor_assoc (b / 2), Nat.xor_self, Nat.xor_zero]
theorem crcIt_xor (m a b : Nat) : crcIt m (a ^^^ b) = crcIt m a ^^^ crcIt m b := by
  induction m with
  | zero => rfl
  | succ m ih => show crcBit _ = crcBit _ ^^^ crcBit _; rw [ih, crcBit_xor]
theorem crcIt_shift (m h : Nat) : crcIt m (2 ^ m * h) = h := by
  induction m generalizing h with
  | zero => show 2 ^ 0 * h = h; omega
  | succ m ih =>
    show crcBit (crcIt m (2 ^ (m + 1) * h)) = h
    rw [Nat.pow_succ, Nat.mul_assoc, ih]
    unfold crcBit; rw [if_neg (by omega)]; omega
theorem split_xor (r : Nat) : r = (256 * (r / 256)) ^^^ (r % 256) := by
  have h1 : ((256 * (r / 256)) ^^^ (r % 256)) / 256 = (256 * (r / 256)) / 256 ^^^ (r % 256) / 256 := Nat.xor_div_two_pow (n := 8)
  have h2 : ((256 * (r / 256)) ^^^ (r % 256)) % 256 = (256 * (r / 256)) % 256 ^^^ (r % 256) % 256 := Nat.xor_mod_two_pow (n := 8)
  rw [show 256 * (r / 256) / 256 = r / 256 by omega, show r % 256 / 256 = 0 by omega, Nat.xor_zero] at h1
  rw [show 256 * (r / 256) % 256 = 0 by omega, show r % 256 % 256 = r % 256 by omega, Nat.zero_xor] at h2
  omega
theorem crc_table (r x : Nat) : crcIt 8 (r ^^^ x) = r / 256 ^^^ crcIt 8 ((r % 256) ^^^ x) := by
  have h := crcIt_shift 8 (r / 256)
  rw [show (2 : Nat) ^ 8 = 256 from rfl] at h
  have e : r ^^^ x = (256 * (r / 256)) ^^^ ((r % 256) ^^^ x) := by
    rw [← Nat.xor_assoc, ← split_xor r]
  rw [e, crcIt_xor, h]
theorem nat_xor_ones32 (x : Nat) (h : x < 4294967296) : 4294967295 ^^^ x = 4294967295 - x := by
  have e : (BitVec.allOnes 32 ^^^ BitVec.ofNat 32 x).toNat = 4294967295 - x := by
    rw [BitVec.allOnes_xor, BitVec.toNat_not, BitVec.toNat_ofNat, Nat.mod_eq_of_lt (by omega)]
  rw [← e, BitVec.toNat_xor, BitVec.toNat_ofNat, Nat.mod_eq_of_lt (by omega), BitVec.toNat_allOnes]
theorem crcF_bits (zs : List Int) : bits .xor .u32 4294967295 (crcTo zs zs.length : Nat) = crcF zs := by
  have hb := crcTo_lt zs zs.length
  have := u32_xor_nat 4294967295 (crcTo zs zs.length) (by omega) hb
  rw [nat_xor_ones32 _ hb] at this
  unfold crcF
  rw [show (4294967295 : Int) - (crcTo zs zs.length : Nat) = ((4294967295 - crcTo zs zs.length : Nat) : Int) by omega, ← this]; rfl

/-! ### Fold, Unfold -/
def foldF (n : Int) : Int := if n < 0 then -2 * n - 1 else 2 * n
def unfoldF (n : Int) : Int := if n % 2 = 1 then -(n / 2) - 1 else n / 2
theorem nat_xor_ones (x : Nat) (h : x < 18446744073709551616) : x ^^^ 18446744073709551615 = 18446744073709551615 - x := by
  have e : (BitVec.ofNat 64 x ^^^ BitVec.allOnes 64).toNat = 18446744073709551615 - x := by
    rw [BitVec.xor_allOnes, BitVec.toNat_not, BitVec.toNat_ofNat, Nat.mod_eq_of_lt (by omega)]
  rw [← e, BitVec.toNat_xor, BitVec.toNat_ofNat, Nat.mod_eq_of_lt (by omega), BitVec.toNat_allOnes]
theorem fold_bits (n : Int) (h0 : -9223372036854775808 ≤ n) (h1 : n ≤ 9223372036854775807) :
    bits .xor .u64 (IntKind.u64.wrap (wrap64 (n * 2))) (IntKind.u64.wrap (n / 9223372036854775808)) = foldF n := by
  rw [IntKind.wrap_u64, IntKind.wrap_u64]
  unfold foldF
  rw [u64_xor _ _ (by omega) (by omega) (by omega) (by omega)]
  split
  · have e1 : (wrap64 (n * 2) % 18446744073709551616).toNat = (2 * n + 18446744073709551616).toNat := by unfold wrap64; omega
    have e2 : (n / 9223372036854775808 % 18446744073709551616).toNat = 18446744073709551615 := by omega
    rw [e1, e2, nat_xor_ones _ (by omega)]; omega
  · have e1 : (wrap64 (n * 2) % 18446744073709551616).toNat = (2 * n).toNat := by unfold wrap64; omega
    have e2 : (n / 9223372036854775808 % 18446744073709551616).toNat = 0 := by omega
    rw [e1, e2, Nat.xor_zero]; omega
theorem unfold_bits (n : Int) (h0 : 0 ≤ n) (h1 : n ≤ 18446744073709551615) :
    bits .xor .i64 (n / 2) (wrap64 (-wrap64 (bits .and .u64 n 1))) = unfoldF n := by
  have e : bits .and .u64 n 1 = n % 2 := by go_bits2
  rw [e]
  unfold unfoldF
  obtain ⟨m, hm⟩ := Int.eq_ofNat_of_zero_le (show 0 ≤ n / 2 by omega)
  split
  · have e1 : wrap64 (-wrap64 (n % 2)) = -1 := by unfold wrap64; omega
    rw [e1, hm]
    show IntKind.i64.wrap ((BitVec.ofInt 64 (m : Int) ^^^ BitVec.ofInt 64 (-1)).toNat : Int) = _
    have e3 : BitVec.ofInt 64 (-1) = BitVec.allOnes 64 := by decide
    rw [e3, BitVec.xor_allOnes, BitVec.toNat_not, ofInt_u64 m (by omega)]
    simp [IntKind.wrap, IntKind.bits, IntKind.signed]
    omega
  · have e1 : wrap64 (-wrap64 (n % 2)) = 0 := by unfold wrap64; omega
    rw [e1, hm]
    show IntKind.i64.wrap ((BitVec.ofInt 64 (m : Int) ^^^ BitVec.ofInt 64 0).toNat : Int) = _
    have e3 : BitVec.ofInt 64 0 = 0#64 := by decide
    rw [e3, BitVec.xor_zero, ofInt_u64 m (by omega)]
    simp [IntKind.wrap, IntKind.bits, IntKind.signed]
    omega
end Go.Proofs.Ytbdegomnlconjaa

/- The walks of the laws' own helpers on byte strings: a copy, and whether two are equal. -/
namespace Go.Proofs.Ytbdegomnlconjaa
open Go.RowKit

theorem below_drewN {B : Nat} {a w : World} (h : Below B a w) (n : Nat) : Below B a (w.drewN n) := h.trans ⟨rfl, rfl, rfl, Nat.le_refl _, fun _ _ => rfl⟩
theorem infoB : (Try.prog.info? 5).map (fun i => (i.zero, i.size, i.bytes)) = some (some (.int .u8 0), 1, 1) := by kernel_rfl

/-- What a byte string is, as the walks hand it on: its bytes, all in range, in the cells of a block. -/
def BytesAt (w : World) (b off : Nat) (zs : List Int) : Prop := ∀ j, j < zs.length → w.cell? ⟨b, off + j, none⟩ = some (.int .u8 (zs.getD j 0))
def InB (zs : List Int) : Prop := ∀ j, 0 ≤ zs.getD j 0 ∧ zs.getD j 0 < 256

theorem getD_map_int (zs : List Int) (k : IntKind) (j : Nat) (h : j < zs.length) : (zs.map (Value.int k))[j]? = some (.int k (zs.getD j 0)) := by
  rw [List.getElem?_map, List.getD_eq_getElem?_getD, List.getElem?_eq_getElem h]; rfl

def partCopy (zs : List Int) (k : Nat) : List Value := (zs.take k).map (Value.int .u8) ++ List.replicate (zs.length - k) (.int .u8 0)
theorem partCopy_zero (zs : List Int) : partCopy zs 0 = List.replicate zs.length (.int .u8 0) := by unfold partCopy; simp
theorem partCopy_all (zs : List Int) : partCopy zs zs.length = zs.map (.int .u8) := by unfold partCopy; simp
theorem partCopy_set (zs : List Int) (k : Nat) (h : k < zs.length) : (partCopy zs k).set k (.int .u8 (zs.getD k 0)) = partCopy zs (k + 1) := by
  unfold partCopy
  rw [take_snoc_getD zs 0 k h, List.map_append, List.set_append, if_neg (by simp; omega), List.append_assoc]
  congr 1
  have : zs.length - k = (zs.length - (k + 1)) + 1 := by omega
  rw [this, List.replicate_succ]
  simp [Nat.min_eq_left (Nat.le_of_lt h)]

set_option maxHeartbeats 1000000 in
theorem toByteS_any (b off len cap : Nat) (zs : List Int) (w : World) (hlen : zs.length = len) (hn : len ≤ 1048576) (hbl : b < w.heap.size) (hz : InB zs) (hc : BytesAt w b off zs) :
    Calls Try.prog 12 #[.slice (some ⟨b, off, none⟩) len cap] w fun e w' =>
      ∃ g, e = .returned (.slice (some ⟨g, 0, none⟩) len len) ∧ w.heap.size ≤ g ∧ w'.ownsRow w.heap.size 5 1 (.slice (some ⟨g, 0, none⟩) len len) len (zs.map (.int .u8)) ∧ Below w.heap.size w w' := by
  subst hlen
  obtain ⟨i0, hi, hz0, hz1, hz2⟩ := info_parts infoB
  replace hc := hide hc
  replace hz := hide hz
  go_enter Try.func12, Try.ntmps12
  go_wp2_with (at_make; refine wpList_make_full _ rfl _ _ 22 rfl w.heap.size 5 i0 (.int .u8 0) 1 Try.underlying22 hi hz0 hz1 .i64 .i64 _ _ zs.length rfl rfl (by omega) (by omega) (by rw [hz2]; omega) (by unfold maxLen; omega) (Nat.le_refl _) ?_; intro w1 hown hgrow)
  have hbel := (Below.refl w.heap.size w).grown hgrow (Nat.le_refl _) (by simp)
  have hown0 : w1.ownsRow w.heap.size 5 1 (.slice (some ⟨w.heap.size, 0, none⟩) zs.length zs.length) zs.length (partCopy zs 0) := by
    rw [partCopy_zero]; simpa [toList_madeCells_one, Value.cells] using hown
  clear hown hgrow
  go_loopw [4] (fun i wr => ∃ k : Nat, k ≤ zs.length ∧ i = .int .i64 k ∧ wr.ownsRow w.heap.size 5 1 (.slice (some ⟨w.heap.size, 0, none⟩) zs.length zs.length) zs.length (partCopy zs k) ∧ Below w.heap.size w wr) (fun i _ => zs.length - (intOf i).toNat)
  case atStart => exact ⟨0, Nat.zero_le _, rfl, hown0, hbel⟩
  case round =>
    clear hown0 hbel
    obtain ⟨k, hk, rfl, hown, hbel⟩ := hrel
    by_cases hlt : k < zs.length
    · have hck : wr.cell? ⟨b, off + k, none⟩ = some (.int .u8 (zs.getD k 0)) := (hbel.cell (by simpa using hbl)).trans (unhide hc k hlt)
      have hps := partCopy_set zs k hlt
      generalize zs.getD k 0 = x at hck hps
      have hdst : ∃ u, wr.cell? ⟨w.heap.size, k, none⟩ = some u := by
        rw [hown.cellAt k (by omega)]; exact ⟨_, List.getElem?_eq_getElem (by have := hown.1; omega)⟩
      obtain ⟨u, hdst⟩ := hdst
      have hfz := hown.frozenAt k
      have hst := (hown.stored k (.int .u8 x)).1
      rw [hps] at hst
      have hb2 := hbel.setCell (p := ⟨w.heap.size, k, none⟩) (Nat.le_refl _) (.int .u8 x)
      replace hst := hide hst
      clear hown hps
      go_wp2
      go_roundw
      case rel => exact ⟨k + 1, by omega, by go_num, unhide hst, hb2⟩
      case measure => simp [intOf]; omega
    · have hkl : k = zs.length := by omega
      subst hkl
      rw [partCopy_all] at hown
      replace hown := hide hown
      go_wp2
      go_ret
      exact ⟨_, rfl, Nat.le_refl _, unhide hown, hbel⟩

set_option maxHeartbeats 1000000 in
theorem toByteS_empty (ad : Option Addr) (cap : Nat) (w : World) :
    Calls Try.prog 12 #[.slice ad 0 cap] w fun e w' =>
      ∃ g, e = .returned (.slice (some ⟨g, 0, none⟩) 0 0) ∧ w.heap.size ≤ g ∧ w'.ownsRow w.heap.size 5 1 (.slice (some ⟨g, 0, none⟩) 0 0) 0 [] ∧ Below w.heap.size w w' := by
  obtain ⟨i0, hi, hz0, hz1, hz2⟩ := info_parts infoB
  go_enter Try.func12, Try.ntmps12
  go_wp2_with (at_make; refine wpList_make_full _ rfl _ _ 22 rfl w.heap.size 5 i0 (.int .u8 0) 1 Try.underlying22 hi hz0 hz1 .i64 .i64 _ _ 0 rfl rfl (by simp) (by simp) (by rw [hz2]; omega) (by unfold maxLen; omega) (Nat.le_refl _) ?_; intro w1 hown hgrow)
  have hbel := (Below.refl w.heap.size w).grown hgrow (Nat.le_refl _) (by simp)
  have hown0 : w1.ownsRow w.heap.size 5 1 (.slice (some ⟨w.heap.size, 0, none⟩) 0 0) 0 [] := by simpa [toList_madeCells_one, Value.cells] using hown
  clear hown hgrow
  replace hown0 := hide hown0
  go_loopw [4] (fun i wr => i = .int .i64 0 ∧ wr = w1) (fun _ _ => 0)
  case atStart => exact ⟨rfl, rfl⟩
  case round =>
    obtain ⟨rfl, rfl⟩ := hrel
    go_wp2
    go_ret
    exact ⟨_, rfl, Nat.le_refl _, unhide hown0, hbel⟩

set_option maxHeartbeats 1000000 in
theorem eqByteS_eq (b off cap b' off' cap' len : Nat) (zs : List Int) (w : World) (hlen : zs.length = len) (hn : len ≤ 1048576) (hc : BytesAt w b off zs) (hc' : BytesAt w b' off' zs) :
    Calls Try.prog 15 #[.slice (some ⟨b, off, none⟩) len cap, .slice (some ⟨b', off', none⟩) len cap'] w fun e w' => e = .returned (.bool true) ∧ ∃ nq, w' = w.drewN nq := by
  subst hlen
  replace hc := hide hc
  replace hc' := hide hc'
  go_enter Try.func15, Try.ntmps15
  go_wp2
  go_loopw [5] (fun i wr => ∃ k : Nat, k ≤ zs.length ∧ i = .int .i64 k ∧ ∃ nq, wr = w.drewN nq) (fun i _ => zs.length - (intOf i).toNat)
  case atStart => exact ⟨0, Nat.zero_le _, rfl, 0, rfl⟩
  case round =>
    obtain ⟨k, hk, rfl, nq, rfl⟩ := hrel
    by_cases hlt : k < zs.length
    · have hck := unhide hc k hlt
      have hck' := unhide hc' k hlt
      generalize zs.getD k 0 = x at hck hck'
      go_wp2
      go_quiet (fail)
      go_wp2
      go_roundw
      case rel => exact ⟨k + 1, by omega, by go_num, _, rfl⟩
      case measure => simp [intOf]; omega
    · have hkl : k = zs.length := by omega
      subst hkl
      go_wp2
      go_ret
      exact ⟨rfl, _, rfl⟩
end Go.Proofs.Ytbdegomnlconjaa

/- Memory of the call's own, by the blocks in which it lies: what a step keeps, and what a value in such blocks reads as. -/
namespace Go.Proofs.Ytbdegomnlconjaa
open Go.RowKit

/-- The world is as it was but for the blocks from a on, below b, and for what is new. -/
structure Upd (a b : Nat) (w w' : World) : Prop where
  os : w'.os = w.os
  tape : w'.tape = w.tape
  output : w'.output = w.output
  size : w.heap.size ≤ w'.heap.size
  block : ∀ k, k < w.heap.size → (k < a ∨ b ≤ k) → w'.heap[k]? = w.heap[k]?
theorem Upd.refl (a b : Nat) (w : World) : Upd a b w w := ⟨rfl, rfl, rfl, Nat.le_refl _, fun _ _ _ => rfl⟩
theorem Upd.trans {a b : Nat} {x w w' : World} (h : Upd a b x w) (k : Upd a b w w') : Upd a b x w' :=
  ⟨k.os.trans h.os, k.tape.trans h.tape, k.output.trans h.output, Nat.le_trans h.size k.size, fun i hi hn => (k.block i (Nat.lt_of_lt_of_le hi h.size) hn).trans (h.block i hi hn)⟩
theorem Upd.drewN {a b : Nat} {x w : World} (h : Upd a b x w) (n : Nat) : Upd a b x (w.drewN n) := h.trans ⟨rfl, rfl, rfl, Nat.le_refl _, fun _ _ _ => rfl⟩
theorem Upd.setCell {a b : Nat} {x w : World} (h : Upd a b x w) {r : Nat} (hr : a ≤ r ∧ r < b) (o : Nat) (u : Value) : Upd a b x (w.setCell ⟨r, o, none⟩ u) :=
  h.trans ⟨rfl, rfl, rfl, by simp, fun k _ hk => Below.heap_setCell w ⟨r, o, none⟩ u k (by simp; omega)⟩
theorem Upd.of_below {w w' : World} (h : Below w.heap.size w w') (a b : Nat) : Upd a b w w' := ⟨h.os, h.tape, h.output, h.size, fun k hk _ => h.block k hk⟩
theorem Upd.below {B a b : Nat} {w w' : World} (h : Upd a b w w') (hB : B ≤ w.heap.size) (ha : B ≤ a ∨ b ≤ a) : Below B w w' :=
  ⟨h.os, h.tape, h.output, h.size, fun k hk => h.block k (by omega) (by omega)⟩
theorem Upd.none {w w' : World} (h : Upd 0 0 w w') : Below w.heap.size w w' := h.below (Nat.le_refl _) (.inr (Nat.le_refl _))
theorem below_upd {B a b : Nat} {x w w' : World} (h : Below B x w) (k : Upd a b w w') (hx : B ≤ x.heap.size) (ha : B ≤ a ∨ b ≤ a) : Below B x w' :=
  h.trans (k.below (Nat.le_trans hx h.size) ha)

/-- A value of the call's own: its elements lie in a block from a on, below b. -/
def Own (e : TypeId) (s : Nat) (w : World) (a b : Nat) (v : Value) (n : Nat) (xs : List Value) : Prop := w.ownsRow a e s v n xs ∧ ∀ k, v.ownBlock = some k → k < b
theorem Own.of {e : TypeId} {s : Nat} {w : World} {a : Nat} {v : Value} {n : Nat} {xs : List Value} (h : w.ownsRow a e s v n xs) : Own e s w a w.heap.size v n xs := ⟨h, fun k hk => (h.lt k hk).2⟩
theorem Own.upd {e : TypeId} {s : Nat} {w w' : World} {a b c d : Nat} {v : Value} {n : Nat} {xs : List Value} (h : Own e s w a b v n xs) (u : Upd c d w w') (hd : b ≤ c ∨ d ≤ a) : Own e s w' a b v n xs := by
  refine ⟨⟨h.1.1, ?_⟩, h.2⟩
  rcases h.1.2 with hn | ⟨g, cap, cur, rfl, h1, h2, h3⟩
  · exact .inl hn
  · have hl := h.1.lt g rfl
    have hb := h.2 g rfl
    exact .inr ⟨g, cap, cur, rfl, h1, by rw [u.block g hl.2 (by omega)]; exact h2, h3⟩
theorem Own.keep {e : TypeId} {s : Nat} {w w' : World} {a b : Nat} {v : Value} {n : Nat} {xs : List Value} (h : Own e s w a b v n xs) (u : Upd 0 0 w w') : Own e s w' a b v n xs := h.upd u (.inr (Nat.zero_le _))

theorem own_mono {e : TypeId} {s : Nat} {w : World} {a b a' b' : Nat} {v : Value} {n : Nat} {xs : List Value} (h : Own e s w a b v n xs) (ha : a' ≤ a) (hb : b ≤ b') : Own e s w a' b' v n xs := by
  refine ⟨⟨h.1.1, ?_⟩, fun k hk => Nat.lt_of_lt_of_le (h.2 k hk) hb⟩
  rcases h.1.2 with hn | ⟨g, cap, cur, rfl, h1, h2, h3⟩
  · exact .inl hn
  · exact .inr ⟨g, cap, cur, rfl, Nat.le_trans ha h1, h2, h3⟩

/-- Cells of numbers of a kind. -/
def KindAt (k : IntKind) (w : World) (b off : Nat) (zs : List Int) : Prop := ∀ j, j < zs.length → w.cell? ⟨b, off + j, none⟩ = some (.int k (zs.getD j 0))
/-- Numbers that can be read: where there are any, in the cells of a block. -/
def ReadK (k : IntKind) (w : World) (ad : Option Addr) (zs : List Int) : Prop := zs ≠ [] → ∃ b off, ad = some ⟨b, off, none⟩ ∧ b < w.heap.size ∧ KindAt k w b off zs
theorem ReadK.below {k : IntKind} {w w' : World} {ad : Option Addr} {zs : List Int} (h : ReadK k w ad zs) (hb : Below w.heap.size w w') : ReadK k w' ad zs := by
  intro hne
  obtain ⟨b, off, e, hl, hc⟩ := h hne
  exact ⟨b, off, e, Nat.lt_of_lt_of_le hl hb.size, fun j hj => (hb.cell (by simpa using hl)).trans (hc j hj)⟩
theorem ne_of_lt_length {α : Type} {k : Nat} {zs : List α} (h : k < zs.length) : zs ≠ [] := by rintro rfl; simp at h
theorem readK_of_own {k : IntKind} {e : TypeId} {w : World} {a b : Nat} {v : Value} {zs : List Int} (h : Own e 1 w a b v zs.length (zs.map (.int k))) :
    ∃ ad cap, v = .slice ad zs.length cap ∧ ReadK k w ad zs := by
  rcases h.1.2 with ⟨rfl, hn⟩ | ⟨g, cap, cur, rfl, h1, h2, h3⟩
  · refine ⟨none, 0, by rw [hn], fun hne => absurd (List.length_eq_zero_iff.1 hn) hne⟩
  · refine ⟨some ⟨g, 0, none⟩, cap, rfl, fun _ => ⟨g, 0, rfl, (h.1.lt g rfl).2, fun j hj => ?_⟩⟩
    rw [Nat.zero_add, h.1.cellAt j (by omega)]
    exact getD_map_int zs k j hj
/-- The numbers that a marking leaves. -/
def marks (k n : Nat) : List Int := (List.range n).map fun j => ((k + j : Nat) : Int)
def marksB (k n : Nat) : List Int := (List.range n).map fun j => (((k + j) % 256 : Nat) : Int)
@[simp] theorem marks_length (k n : Nat) : (marks k n).length = n := by simp [marks]
@[simp] theorem marksB_length (k n : Nat) : (marksB k n).length = n := by simp [marksB]
theorem marks_getD (k n j : Nat) (h : j < n) : (marks k n).getD j 0 = ((k + j : Nat) : Int) := by simp [marks, h]
theorem marksB_getD (k n j : Nat) (h : j < n) : (marksB k n).getD j 0 = (((k + j) % 256 : Nat) : Int) := by simp [marksB, h]
/-- A row of which the first t elements are new. -/
def partSet (k : IntKind) (xs : List Value) (zs : List Int) (t : Nat) : List Value := (zs.take t).map (.int k) ++ xs.drop t
theorem partSet_zero (k : IntKind) (xs : List Value) (zs : List Int) : partSet k xs zs 0 = xs := by simp [partSet]
theorem partSet_all (k : IntKind) (xs : List Value) (zs : List Int) (h : xs.length = zs.length) : partSet k xs zs zs.length = zs.map (.int k) := by
  unfold partSet; rw [List.take_length, ← h, List.drop_length, List.append_nil]
theorem partSet_set (k : IntKind) (xs : List Value) (zs : List Int) (t : Nat) (h : t < zs.length) (hl : xs.length = zs.length) : (partSet k xs zs t).set t (.int k (zs.getD t 0)) = partSet k xs zs (t + 1) := by
  unfold partSet
  rw [take_snoc_getD zs 0 t h, List.map_append, List.set_append, if_neg (by simp; omega), List.append_assoc]
  congr 1
  have e : (xs.drop t) = xs[t] :: xs.drop (t + 1) := by rw [List.drop_eq_getElem_cons]
  simp [Nat.min_eq_left (Nat.le_of_lt h)]
  rw [e]; rfl
theorem partSet_length (k : IntKind) (xs : List Value) (zs : List Int) (t : Nat) (h : t ≤ zs.length) (hl : xs.length = zs.length) : (partSet k xs zs t).length = zs.length := by
  unfold partSet; simp; omega
theorem upd_of_same {P : Program} {f : FuncId} {args : Array Value} {w : World} {r : Ending} (h : Calls P f args w fun e w' => e = r ∧ w' = w) : Calls P f args w fun e w' => e = r ∧ Upd 0 0 w w' := by
  refine h.mono ?_
  rintro e w' ⟨rfl, rfl⟩
  exact ⟨rfl, Upd.refl _ _ _⟩
theorem upd_of_belowC {P : Program} {f : FuncId} {args : Array Value} {w : World} {r : Ending} (h : Calls P f args w fun e w' => e = r ∧ Below w.heap.size w w') : Calls P f args w fun e w' => e = r ∧ Upd 0 0 w w' := by
  refine h.mono ?_
  rintro e w' ⟨he, hb⟩
  exact ⟨he, Upd.of_below hb _ _⟩
/-- The first cells of a block. -/
def Held (w : World) (g : Nat) (cs : List Value) : Prop := g < w.heap.size ∧ ∀ j v, cs[j]? = some v → w.cell? ⟨g, j, none⟩ = some v
theorem held_new (w : World) (cs : List Value) (t : TypeId) : Held (w.alloc (.cells cs.toArray t)) w.heap.size cs := by
  refine ⟨by simp, fun j v h => ?_⟩
  rw [World.cell?_alloc_at _ _ _ _ rfl]; simpa using h
theorem Held.upd {w w' : World} {g c e : Nat} {cs : List Value} (h : Held w g cs) (u : Upd c e w w') (hd : g + 1 ≤ c ∨ e ≤ g) : Held w' g cs := by
  refine ⟨Nat.lt_of_lt_of_le h.1 u.size, fun j v hj => ?_⟩
  rw [World.cell?_of_block (w := w) (a := ⟨g, j, none⟩) (u.block g h.1 (by omega))]
  exact h.2 j v hj
theorem Held.keep {w w' : World} {g : Nat} {cs : List Value} (h : Held w g cs) (u : Upd 0 0 w w') : Held w' g cs := h.upd u (.inr (Nat.zero_le _))
def InI (zs : List Int) : Prop := ∀ j, -9223372036854775808 ≤ zs.getD j 0 ∧ zs.getD j 0 ≤ 9223372036854775807
end Go.Proofs.Ytbdegomnlconjaa

/- Cells of a block that may be written, known one by one. -/
namespace Go.Proofs.Ytbdegomnlconjaa
open Go.RowKit

def HeldF (w : World) (g : Nat) (cs : List Value) : Prop := Held w g cs ∧ ∀ j, w.frozen? ⟨g, j, none⟩ = false
theorem heldF_new (w : World) (cs : List Value) (t : TypeId) : HeldF (w.alloc (.cells cs.toArray t)) w.heap.size cs :=
  ⟨held_new w cs t, fun _ => World.frozen?_alloc_at _ _ _ _ rfl⟩
theorem HeldF.upd {w w' : World} {g c e : Nat} {cs : List Value} (h : HeldF w g cs) (u : Upd c e w w') (hd : g + 1 ≤ c ∨ e ≤ g) : HeldF w' g cs :=
  ⟨h.1.upd u hd, fun j => (World.frozen?_of_block (a := ⟨g, j, none⟩) (u.block g h.1.1 (by omega))).trans (h.2 j)⟩
theorem HeldF.keep {w w' : World} {g : Nat} {cs : List Value} (h : HeldF w g cs) (u : Upd 0 0 w w') : HeldF w' g cs := h.upd u (.inr (Nat.zero_le _))
theorem HeldF.other {w : World} {g : Nat} {cs : List Value} (h : HeldF w g cs) {g' : Nat} (hne : g' ≠ g) (o : Nat) (u : Value) : HeldF (w.setCell ⟨g', o, none⟩ u) g cs := by
  refine ⟨⟨by simpa using h.1.1, fun j v hj => ?_⟩, fun j => ?_⟩
  · rw [World.cell?_setCell_other _ _ _ _ (by simp_all; try omega)]; exact h.1.2 j v hj
  · rw [World.frozen?_setCell]; exact h.2 j
theorem HeldF.set {w : World} {g : Nat} {cs : List Value} (h : HeldF w g cs) (o : Nat) (u : Value) (ho : o < cs.length) : HeldF (w.setCell ⟨g, o, none⟩ u) g (cs.set o u) := by
  refine ⟨⟨by simpa using h.1.1, fun j v hj => ?_⟩, fun j => ?_⟩
  · by_cases e : o = j
    · subst e
      rw [List.getElem?_set_self ho] at hj
      cases hj
      exact World.cell?_setCell_same _ _ _ (h.1.2 o _ (List.getElem?_eq_getElem ho))
    · rw [List.getElem?_set_ne e] at hj
      rw [World.cell?_setCell_other _ _ _ _ (by simp_all; try omega)]; exact h.1.2 j v hj
  · rw [World.frozen?_setCell]; exact h.2 j
theorem Own.set' {e : TypeId} {s : Nat} {w : World} {a b : Nat} {v : Value} {n : Nat} {xs : List Value} (h : Own e s w a b v n xs) {c : Nat} (hc : c < a) (o : Nat) (u : Value) : Own e s (w.setCell ⟨c, o, none⟩ u) a b v n xs :=
  ⟨ownsRow_setCell_below h.1 hc u, h.2⟩
end Go.Proofs.Ytbdegomnlconjaa

/- Lists of ints, as values of the call's own and as values that can be read. -/
namespace Go.Proofs.Ytbdegomnlconjaa
open Go.RowKit

theorem infoI : (Try.prog.info? 3).map (fun i => (i.zero, i.size, i.bytes)) = some (some (.int .i64 0), 1, 8) := by kernel_rfl
def ints (zs : List Int) : List Value := zs.map (.int .i64)
theorem ints_length (zs : List Int) : (ints zs).length = zs.length := by simp [ints]
abbrev OwnI (w : World) (a b : Nat) (v : Value) (zs : List Int) : Prop := Own 3 1 w a b v zs.length (ints zs)
abbrev ArgI (w : World) (ad : Option Addr) (zs : List Int) : Prop := ReadK .i64 w ad zs
/-- A list of ints as a value that can be read. -/
def RdI (w : World) (v : Value) (zs : List Int) : Prop := ∃ ad cap, v = .slice ad zs.length cap ∧ ArgI w ad zs
theorem RdI.below {w w' : World} {v : Value} {zs : List Int} (h : RdI w v zs) (hb : Below w.heap.size w w') : RdI w' v zs := by
  obtain ⟨ad, cap, e, h⟩ := h
  exact ⟨ad, cap, e, h.below hb⟩
theorem OwnI.rd {w : World} {a b : Nat} {v : Value} {zs : List Int} (h : OwnI w a b v zs) : RdI w v zs := readK_of_own h

end Go.Proofs.Ytbdegomnlconjaa

/- The walks of the laws' own helpers on lists of ints: a copy, whether two are equal, marks. -/
namespace Go.Proofs.Ytbdegomnlconjaa
open Go.RowKit

def partI (zs : List Int) (k : Nat) : List Value := ints (zs.take k) ++ List.replicate (zs.length - k) (.int .i64 0)
theorem partI_zero (zs : List Int) : partI zs 0 = List.replicate zs.length (.int .i64 0) := by unfold partI ints; simp
theorem partI_all (zs : List Int) : partI zs zs.length = ints zs := by unfold partI ints; simp
theorem partI_set (zs : List Int) (k : Nat) (h : k < zs.length) : (partI zs k).set k (.int .i64 (zs.getD k 0)) = partI zs (k + 1) := by
  unfold partI ints
  rw [take_snoc_getD zs 0 k h, List.map_append, List.set_append, if_neg (by simp; omega), List.append_assoc]
  congr 1
  have : zs.length - k = (zs.length - (k + 1)) + 1 := by omega
  rw [this, List.replicate_succ]
  simp [Nat.min_eq_left (Nat.le_of_lt h)]
theorem partI_length (zs : List Int) (k : Nat) (h : k ≤ zs.length) : (partI zs k).length = zs.length := by unfold partI ints; simp; omega

set_option maxHeartbeats 1000000 in
theorem toIntS_own (ad : Option Addr) (cap : Nat) (zs : List Int) (w : World) (hn : zs.length ≤ 1048576) (hA : ArgI w ad zs) :
    Calls Try.prog 28 #[.slice ad zs.length cap] w fun e w' =>
      ∃ v, e = .returned v ∧ OwnI w' w.heap.size w'.heap.size v zs ∧ Upd 0 0 w w' := by
  obtain ⟨i0, hi, hz0, hz1, hz2⟩ := info_parts infoI
  replace hA := hide hA
  go_enter Try.func28, Try.ntmps28
  go_wp2_with (at_make; refine wpList_make_full _ rfl _ _ 23 rfl w.heap.size 3 i0 (.int .i64 0) 1 Try.underlying23 hi hz0 hz1 .i64 .i64 _ _ zs.length rfl rfl (by omega) (by omega) (by rw [hz2]; omega) (by unfold maxLen; omega) (Nat.le_refl _) ?_; intro w1 hown hgrow)
  have hbel := (Below.refl w.heap.size w).grown hgrow (Nat.le_refl _) (by simp)
  have hown0 : w1.ownsRow w.heap.size 3 1 (.slice (some ⟨w.heap.size, 0, none⟩) zs.length zs.length) zs.length (partI zs 0) := by
    rw [partI_zero]; simpa [toList_madeCells_one, Value.cells] using hown
  clear hown hgrow
  go_loopw [4] (fun i wr => ∃ k : Nat, k ≤ zs.length ∧ i = .int .i64 k ∧ wr.ownsRow w.heap.size 3 1 (.slice (some ⟨w.heap.size, 0, none⟩) zs.length zs.length) zs.length (partI zs k) ∧ Below w.heap.size w wr) (fun i _ => zs.length - (intOf i).toNat)
  case atStart => exact ⟨0, Nat.zero_le _, rfl, hown0, hbel⟩
  case round =>
    clear hown0 hbel
    obtain ⟨k, hk, rfl, hown, hbel⟩ := hrel
    by_cases hlt : k < zs.length
    · obtain ⟨b, off, rfl, hbl, hc⟩ := (unhide hA) (ne_of_lt_length hlt)
      have hck : wr.cell? ⟨b, off + k, none⟩ = some (.int .i64 (zs.getD k 0)) := (hbel.cell (by simpa using hbl)).trans (hc k hlt)
      have hps := partI_set zs k hlt
      generalize zs.getD k 0 = x at hck hps
      have hdst : ∃ u, wr.cell? ⟨w.heap.size, k, none⟩ = some u := by
        rw [hown.cellAt k (by omega)]; exact ⟨_, List.getElem?_eq_getElem (by have := hown.1; omega)⟩
      obtain ⟨u, hdst⟩ := hdst
      have hfz := hown.frozenAt k
      have hst := (hown.stored k (.int .i64 x)).1
      rw [hps] at hst
      have hb2 := hbel.setCell (p := ⟨w.heap.size, k, none⟩) (Nat.le_refl _) (.int .i64 x)
      replace hst := hide hst
      clear hown hps hc
      go_wp2
      go_roundw
      case rel => exact ⟨k + 1, by omega, by go_num, unhide hst, hb2⟩
      case measure => simp [intOf]; omega
    · have hkl : k = zs.length := by omega
      subst hkl
      rw [partI_all] at hown
      replace hown := hide (Own.of hown)
      go_wp2
      go_ret
      exact ⟨_, rfl, unhide hown, Upd.of_below hbel 0 0⟩

set_option maxHeartbeats 1000000 in
theorem eqIntS_rd (u v : Value) (zs : List Int) (w : World) (hn : zs.length ≤ 1048576) (hu : RdI w u zs) (hv : RdI w v zs) :
    Calls Try.prog 30 #[u, v] w fun e w' => e = .returned (.bool true) ∧ Upd 0 0 w w' := by
  obtain ⟨ad, cap, rfl, hA⟩ := hu
  obtain ⟨ad', cap', rfl, hA'⟩ := hv
  replace hA := hide hA
  replace hA' := hide hA'
  go_enter Try.func30, Try.ntmps30
  go_wp2
  go_loopw [5] (fun i wr => ∃ k : Nat, k ≤ zs.length ∧ i = .int .i64 k ∧ ∃ nq, wr = w.drewN nq) (fun i _ => zs.length - (intOf i).toNat)
  case atStart => exact ⟨0, Nat.zero_le _, rfl, 0, rfl⟩
  case round =>
    obtain ⟨k, hk, rfl, nq, rfl⟩ := hrel
    by_cases hlt : k < zs.length
    · obtain ⟨b, off, rfl, hbl, hc⟩ := (unhide hA) (ne_of_lt_length hlt)
      obtain ⟨b', off', rfl, hbl', hc'⟩ := (unhide hA') (ne_of_lt_length hlt)
      have hck := hc k hlt
      have hck' := hc' k hlt
      clear hc hc' hA hA'
      generalize zs.getD k 0 = x at hck hck'
      go_wp2
      go_quiet (fail)
      go_wp2
      go_roundw
      case rel => exact ⟨k + 1, by omega, by go_num, _, rfl⟩
      case measure => simp [intOf]; omega
    · have hkl : k = zs.length := by omega
      subst hkl
      go_wp2
      go_ret
      exact ⟨rfl, (Upd.refl 0 0 _).drewN _⟩

set_option maxHeartbeats 1000000 in
theorem markIntS_none (k : Nat) (w : World) : Calls Try.prog 31 #[.slice none 0 0, .int .i64 k] w fun e w' => e = .returned (.int .i64 (k : Int)) ∧ w' = w := by
  go_enter Try.func31, Try.ntmps31
  go_wp2
  go_loop [1, 5] (fun a i => a = .int .i64 k ∧ i = .int .i64 0) (fun _ _ => 0)
  case atStart => exact ⟨rfl, rfl⟩
  case round =>
    obtain ⟨rfl, rfl⟩ := hrel
    go_wp2
    go_ret
    exact ⟨rfl, rfl⟩

set_option maxHeartbeats 1000000 in
theorem markIntS_some (a g cap n k : Nat) (xs : List Value) (w : World) (hn : n ≤ 1048576) (hk : k ≤ 1099511627776) (h : w.ownsRow a 3 1 (.slice (some ⟨g, 0, none⟩) n cap) n xs) :
    Calls Try.prog 31 #[.slice (some ⟨g, 0, none⟩) n cap, .int .i64 k] w fun e w' => e = .returned (.int .i64 ((k + n : Nat) : Int)) ∧ w'.ownsRow a 3 1 (.slice (some ⟨g, 0, none⟩) n cap) n (ints (marks k n)) ∧ Upd g (g + 1) w w' := by
  have hxl : xs.length = n := by have := h.1; omega
  go_enter Try.func31, Try.ntmps31
  go_wp2
  go_loopw [1, 5] (fun c i wr => ∃ t : Nat, t ≤ n ∧ c = .int .i64 ((k + t : Nat) : Int) ∧ i = .int .i64 t ∧ wr.ownsRow a 3 1 (.slice (some ⟨g, 0, none⟩) n cap) n (partSet .i64 xs (marks k n) t) ∧ Upd g (g + 1) w wr) (fun _ i _ => n - (intOf i).toNat)
  case atStart => exact ⟨0, Nat.zero_le _, rfl, rfl, by rw [partSet_zero]; exact h, Upd.refl _ _ _⟩
  case round =>
    clear h
    obtain ⟨t, ht, rfl, rfl, hown, hupd⟩ := hrel
    have hlen : (partSet .i64 xs (marks k n) t).length = n := by rw [partSet_length _ _ _ _ (by simpa using ht) (by simpa using hxl)]; simp
    by_cases hlt : t < n
    · have hdst : wr.cell? ⟨g, t, none⟩ = some ((partSet .i64 xs (marks k n) t).getD t undef) := by
        rw [hown.cellAt t (by omega), List.getElem?_eq_getElem (by omega), List.getD_eq_getElem?_getD, List.getElem?_eq_getElem (by omega)]; rfl
      have hfz := hown.frozenAt t
      have hst := (hown.stored t (.int .i64 ((k + t : Nat) : Int))).1
      have hps := partSet_set .i64 xs (marks k n) t (by simpa using hlt) (by simpa using hxl)
      rw [marks_getD k n t hlt] at hps
      rw [hps] at hst
      generalize (partSet .i64 xs (marks k n) t).getD t undef = u at hdst
      have ho2 := hupd.setCell (r := g) ⟨Nat.le_refl _, by omega⟩ t (.int .i64 ((k + t : Nat) : Int))
      rw [show (((k + t : Nat) : Int)) = (k : Int) + (t : Int) by omega] at hst ho2
      replace hst := hide hst
      replace ho2 := hide ho2
      clear hown hupd hps hlen
      go_wp2
      go_roundw
      case rel => exact ⟨t + 1, by omega, by go_num, by go_num, unhide hst, unhide ho2⟩
      case measure => simp [intOf]; omega
    · have htn : t = n := by omega
      subst htn
      have hM : wr.ownsRow a 3 1 (.slice (some ⟨g, 0, none⟩) t cap) t (ints (marks k t)) := by
        have := partSet_all .i64 xs (marks k t) (by simpa using hxl)
        rw [marks_length] at this
        rw [this] at hown; exact hown
      replace hM := hide hM
      clear hown
      go_wp2
      go_ret
      exact ⟨rfl, unhide hM, hupd⟩
theorem markIntS_own (a b : Nat) (v : Value) (k : Nat) (zs : List Int) (w : World) (hn : zs.length ≤ 1048576) (hk : k ≤ 1099511627776) (h : OwnI w a b v zs) :
    Calls Try.prog 31 #[v, .int .i64 k] w fun e w' => e = .returned (.int .i64 ((k + zs.length : Nat) : Int)) ∧ OwnI w' a b v (marks k zs.length) ∧ Upd a b w w' := by
  rcases h.1.2 with ⟨rfl, h0⟩ | ⟨g, cap, cur, rfl, h1, h2, h3⟩
  · refine (markIntS_none k w).mono ?_
    rintro e w' ⟨rfl, rfl⟩
    rw [h0]
    exact ⟨rfl, ⟨World.ownsRow_nil _ _ _ _, fun k hk => by simp [Value.ownBlock] at hk⟩, Upd.refl _ _ _⟩
  · have hb := h.2 g rfl
    refine (markIntS_some a g cap zs.length k _ w hn hk h.1).mono ?_
    rintro e w' ⟨rfl, ho, hu⟩
    refine ⟨rfl, ⟨?_, h.2⟩, ⟨hu.os, hu.tape, hu.output, hu.size, fun i hi hn => hu.block i hi (by omega)⟩⟩
    rw [marks_length]; exact ho

set_option maxHeartbeats 1000000 in
theorem heldIntS_own (a b : Nat) (v : Value) (k n : Nat) (w : World) (hn : n ≤ 1048576) (hk : k ≤ 1099511627776) (h : OwnI w a b v (marks k n)) :
    Calls Try.prog 68 #[v, .int .i64 k] w fun e w' => e = .returned (.int .i64 ((k + n : Nat) : Int)) ∧ w' = w := by
  obtain ⟨ad, cap, rfl, hA⟩ := h.rd
  rw [marks_length]
  replace hA := hide hA
  clear h
  go_enter Try.func68, Try.ntmps68
  go_wp2
  go_loop [1, 5] (fun a i => ∃ t : Nat, t ≤ n ∧ a = .int .i64 ((k + t : Nat) : Int) ∧ i = .int .i64 t) (fun _ i => n - (intOf i).toNat)
  case atStart => exact ⟨0, Nat.zero_le _, rfl, rfl⟩
  case round =>
    obtain ⟨t, ht, rfl, rfl⟩ := hrel
    by_cases hlt : t < n
    · obtain ⟨b', off, rfl, hbl, hc⟩ := (unhide hA) (ne_of_lt_length (k := t) (by simpa using hlt))
      have hck := hc t (by simpa using hlt)
      rw [marks_getD k n t hlt, show (((k + t : Nat) : Int)) = (k : Int) + (t : Int) by omega] at hck
      clear hc hA
      go_wp2
      go_round
      case rel => exact ⟨t + 1, by omega, by go_num, by go_num⟩
      case measure => simp [intOf]; omega
    · have htn : t = n := by omega
      subst htn
      go_wp2
      go_ret
      exact ⟨rfl, rfl⟩
end Go.Proofs.Ytbdegomnlconjaa

/- How much a list of ints holds. -/
namespace Go.Proofs.Ytbdegomnlconjaa
open Go.RowKit

theorem bcellU {W w1 : World} (hb : Upd 0 0 W w1) : (∀ b o, b < W.heap.size → w1.cell? ⟨b, o, none⟩ = W.cell? ⟨b, o, none⟩) ∧ (∀ b o, b < W.heap.size → w1.frozen? ⟨b, o, none⟩ = W.frozen? ⟨b, o, none⟩) :=
  ⟨fun b o h => hb.none.cell (p := ⟨b, o, none⟩) h, fun b o h => hb.none.frozen (p := ⟨b, o, none⟩) h⟩

theorem Upd.drew1 (w : World) : Upd 0 0 w w.drew := ⟨rfl, rfl, rfl, Nat.le_refl _, fun _ _ _ => rfl⟩
theorem Own.set {e : TypeId} {s : Nat} {w : World} {a b : Nat} {v : Value} {n : Nat} {xs : List Value} (h : Own e s w a b v n xs) {c : Nat} (hc : c < a) (o : Nat) (u : Value) : Own e s (w.setCell ⟨c, o, none⟩ u) a b v n xs :=
  ⟨ownsRow_setCell_below h.1 hc u, h.2⟩

set_option maxHeartbeats 1000000 in
theorem szIntS_any (ad : Option Addr) (n cap : Nat) (left : Int) (w : World) (h0 : 0 ≤ left) (h1 : left ≤ 1099511627776) (hn : n ≤ 9223372036854775807) :
    Calls Try.prog 57 #[.slice ad n cap, .int .i64 left] w fun e w' => e = .returned (.int .i64 (if left < n then -1 else left - n)) ∧ w' = w := by
  by_cases hlt : left < n
  · rw [if_pos hlt]
    go_enter Try.func57, Try.ntmps57
    go_wp2
    go_ret
    exact ⟨rfl, rfl⟩
  · rw [if_neg hlt]
    go_enter Try.func57, Try.ntmps57
    go_wp2
    go_ret
    exact ⟨rfl, rfl⟩

end Go.Proofs.Ytbdegomnlconjaa

/- Frames as arguments and answers; the walks of the laws' own helpers on them. -/
namespace Go.Proofs.Ytbdegomnlconjaa
open Go.RowKit

abbrev Fr := Int × Int × Int × Int × Int × Int × Int × List Int
abbrev Frv (d : Fr) (v0 : Value) : Value := .agg #[.int .i64 d.1, .int .i64 d.2.1, .int .i64 d.2.2.1, .int .i64 d.2.2.2.1, .int .i64 d.2.2.2.2.1, .int .i64 d.2.2.2.2.2.1, .int .i64 d.2.2.2.2.2.2.1, v0]
def RdFr (w : World) (v : Value) (d : Fr) : Prop := ∃ v0, v = Frv d v0 ∧ RdI w v0 d.2.2.2.2.2.2.2
def OwnFr (w : World) (a b : Nat) (v : Value) (d : Fr) : Prop := ∃ v0, v = Frv d v0 ∧ OwnI w a b v0 d.2.2.2.2.2.2.2
theorem OwnFr.rd {w : World} {a b : Nat} {v : Value} {d : Fr} (h : OwnFr w a b v d) : RdFr w v d := by
  obtain ⟨v0, rfl, h0⟩ := h
  exact ⟨v0, rfl, h0.rd⟩
theorem RdFr.below {w w' : World} {v : Value} {d : Fr} (h : RdFr w v d) (hb : Below w.heap.size w w') : RdFr w' v d := by
  obtain ⟨v0, rfl, h0⟩ := h
  exact ⟨v0, rfl, h0.below hb⟩
theorem OwnFr.upd {w w' : World} {a b c e : Nat} {v : Value} {d : Fr} (h : OwnFr w a b v d) (u : Upd c e w w') (hd : b ≤ c ∨ e ≤ a) : OwnFr w' a b v d := by
  obtain ⟨v0, rfl, h0⟩ := h
  exact ⟨v0, rfl, h0.upd u (by omega)⟩
theorem OwnFr.keep {w w' : World} {a b : Nat} {v : Value} {d : Fr} (h : OwnFr w a b v d) (u : Upd 0 0 w w') : OwnFr w' a b v d := h.upd u (.inr (Nat.zero_le _))
theorem OwnFr.form {w : World} {a b : Nat} {v : Value} {d : Fr} (h : OwnFr w a b v d) : ∃ ad0 cap0, v = Frv d (.slice ad0 d.2.2.2.2.2.2.2.length cap0) := by
  obtain ⟨v0, rfl, h0⟩ := h
  obtain ⟨ad0, cap0, rfl, _⟩ := h0.rd
  exact ⟨ad0, cap0, rfl⟩
/-- All numbers fit. -/
def InFr (d : Fr) : Prop := (-9223372036854775808 ≤ d.1 ∧ d.1 ≤ 9223372036854775807) ∧ (-9223372036854775808 ≤ d.2.1 ∧ d.2.1 ≤ 9223372036854775807) ∧ (-9223372036854775808 ≤ d.2.2.1 ∧ d.2.2.1 ≤ 9223372036854775807) ∧ (-9223372036854775808 ≤ d.2.2.2.1 ∧ d.2.2.2.1 ≤ 9223372036854775807) ∧ (-9223372036854775808 ≤ d.2.2.2.2.1 ∧ d.2.2.2.2.1 ≤ 9223372036854775807) ∧ (-9223372036854775808 ≤ d.2.2.2.2.2.1 ∧ d.2.2.2.2.2.1 ≤ 9223372036854775807) ∧ (-9223372036854775808 ≤ d.2.2.2.2.2.2.1 ∧ d.2.2.2.2.2.2.1 ≤ 9223372036854775807) ∧ InI d.2.2.2.2.2.2.2
def FrSize (d : Fr) : Nat := d.2.2.2.2.2.2.2.length
def FrCount (d : Fr) : Nat := d.2.2.2.2.2.2.2.length

set_option maxHeartbeats 8000000 in
set_option maxRecDepth 100000 in
theorem toFrame_own (v : Value) (d : Fr) (w : World) (hn : FrSize d ≤ 1048576) (hv : RdFr w v d) :
    Calls Try.prog 92 #[v] w fun e w' => ∃ u, e = .returned u ∧ OwnFr w' w.heap.size w'.heap.size u d ∧ Upd 0 0 w w' := by
  obtain ⟨l0, rfl, hr0⟩ := hv
  obtain ⟨x0, x1, x2, x3, x4, x5, x6, zs0⟩ := d
  simp only [Frv, FrSize] at hn ⊢
  have hn0 : zs0.length ≤ 1048576 := by omega
  have hB0 := (((Below.refl w.heap.size w).alloc (Nat.le_refl _) (.cells #[.int .i64 x0, .int .i64 x1, .int .i64 x2, .int .i64 x3, .int .i64 x4, .int .i64 x5, .int .i64 x6, l0] 129)).alloc (by simp) (.cells #[.int .i64 0, .int .i64 0, .int .i64 0, .int .i64 0, .int .i64 0, .int .i64 0, .int .i64 0, .slice none 0 0] 27)).alloc (by simp; omega) (.cells #[.int .i64 x0, .int .i64 x1, .int .i64 x2, .int .i64 x3, .int .i64 x4, .int .i64 x5, .int .i64 x6, .slice none 0 0] 27)
  have hbx := ((heldF_new w [.int .i64 x0, .int .i64 x1, .int .i64 x2, .int .i64 x3, .int .i64 x4, .int .i64 x5, .int .i64 x6, l0] 129).keep (Upd.of_below ((Below.refl _ _).alloc (Nat.le_refl _) (.cells #[.int .i64 0, .int .i64 0, .int .i64 0, .int .i64 0, .int .i64 0, .int .i64 0, .int .i64 0, .slice none 0 0] 27)) 0 0)).keep (Upd.of_below ((Below.refl _ _).alloc (Nat.le_refl _) (.cells #[.int .i64 x0, .int .i64 x1, .int .i64 x2, .int .i64 x3, .int .i64 x4, .int .i64 x5, .int .i64 x6, .slice none 0 0] 27)) 0 0)
  have hrs := (heldF_new (w.alloc (.cells #[.int .i64 x0, .int .i64 x1, .int .i64 x2, .int .i64 x3, .int .i64 x4, .int .i64 x5, .int .i64 x6, l0] 129)) [.int .i64 0, .int .i64 0, .int .i64 0, .int .i64 0, .int .i64 0, .int .i64 0, .int .i64 0, .slice none 0 0] 27).keep (Upd.of_below ((Below.refl _ _).alloc (Nat.le_refl _) (.cells #[.int .i64 x0, .int .i64 x1, .int .i64 x2, .int .i64 x3, .int .i64 x4, .int .i64 x5, .int .i64 x6, .slice none 0 0] 27)) 0 0)
  have hot := heldF_new ((w.alloc (.cells #[.int .i64 x0, .int .i64 x1, .int .i64 x2, .int .i64 x3, .int .i64 x4, .int .i64 x5, .int .i64 x6, l0] 129)).alloc (.cells #[.int .i64 0, .int .i64 0, .int .i64 0, .int .i64 0, .int .i64 0, .int .i64 0, .int .i64 0, .slice none 0 0] 27)) [.int .i64 x0, .int .i64 x1, .int .i64 x2, .int .i64 x3, .int .i64 x4, .int .i64 x5, .int .i64 x6, .slice none 0 0] 27
  have hsz : (((w.alloc (.cells #[.int .i64 x0, .int .i64 x1, .int .i64 x2, .int .i64 x3, .int .i64 x4, .int .i64 x5, .int .i64 x6, l0] 129)).alloc (.cells #[.int .i64 0, .int .i64 0, .int .i64 0, .int .i64 0, .int .i64 0, .int .i64 0, .int .i64 0, .slice none 0 0] 27)).alloc (.cells #[.int .i64 x0, .int .i64 x1, .int .i64 x2, .int .i64 x3, .int .i64 x4, .int .i64 x5, .int .i64 x6, .slice none 0 0] 27)).heap.size = w.heap.size + 3 := by simp
  have e1 : (w.alloc (.cells #[.int .i64 x0, .int .i64 x1, .int .i64 x2, .int .i64 x3, .int .i64 x4, .int .i64 x5, .int .i64 x6, l0] 129)).heap.size = w.heap.size + 1 := by simp
  have e2 : ((w.alloc (.cells #[.int .i64 x0, .int .i64 x1, .int .i64 x2, .int .i64 x3, .int .i64 x4, .int .i64 x5, .int .i64 x6, l0] 129)).alloc (.cells #[.int .i64 0, .int .i64 0, .int .i64 0, .int .i64 0, .int .i64 0, .int .i64 0, .int .i64 0, .slice none 0 0] 27)).heap.size = w.heap.size + 2 := by simp
  rw [e1] at hrs
  rw [e2] at hot
  clear e1 e2
  replace hr0 := hide hr0
  go_enter Try.func92, Try.ntmps92
  go_wp2_with fail
  generalize (((w.alloc (.cells #[.int .i64 x0, .int .i64 x1, .int .i64 x2, .int .i64 x3, .int .i64 x4, .int .i64 x5, .int .i64 x6, l0] 129)).alloc (.cells #[.int .i64 0, .int .i64 0, .int .i64 0, .int .i64 0, .int .i64 0, .int .i64 0, .int .i64 0, .slice none 0 0] 27)).alloc (.cells #[.int .i64 x0, .int .i64 x1, .int .i64 x2, .int .i64 x3, .int .i64 x4, .int .i64 x5, .int .i64 x6, .slice none 0 0] 27)) = w0 at hB0 hbx hrs hot hsz ⊢
  have hB := hide hB0
  replace hbx := hide hbx
  replace hrs := hide hrs
  replace hot := hide hot
  have hs0 : w.heap.size + 3 ≤ w0.heap.size := by omega
  clear hsz hB0
  obtain ⟨adx0, cpx0, hfx0, hax0⟩ := ((unhide hr0).below (unhide hB))
  rw [hfx0]
  refine (toIntS_own adx0 cpx0 zs0 w0 hn0 hax0).mono ?_
  rintro e w1 ⟨u7, rfl, ho7, hu⟩
  obtain ⟨as0, cs0, rfl, _⟩ := ho7.rd
  replace ho7 := hide ho7
  replace hot := hide ((unhide hot).keep hu)
  replace hbx := hide ((unhide hbx).keep hu)
  replace hrs := hide ((unhide hrs).keep hu)
  replace hB := hide (below_upd (unhide hB) hu (Nat.le_refl _) (.inr (Nat.le_refl _)))
  have hs1 : w0.heap.size ≤ w1.heap.size := hu.size
  clear hu
  have cb0 := (unhide hbx).1.2 0 _ rfl
  have cb1 := (unhide hbx).1.2 1 _ rfl
  have cb2 := (unhide hbx).1.2 2 _ rfl
  have cb3 := (unhide hbx).1.2 3 _ rfl
  have cb4 := (unhide hbx).1.2 4 _ rfl
  have cb5 := (unhide hbx).1.2 5 _ rfl
  have cb6 := (unhide hbx).1.2 6 _ rfl
  have cb7 := (unhide hbx).1.2 7 _ rfl
  have cbl := (unhide hbx).1.1
  have co0 := (unhide hot).1.2 0 _ rfl
  have co1 := (unhide hot).1.2 1 _ rfl
  have co2 := (unhide hot).1.2 2 _ rfl
  have co3 := (unhide hot).1.2 3 _ rfl
  have co4 := (unhide hot).1.2 4 _ rfl
  have co5 := (unhide hot).1.2 5 _ rfl
  have co6 := (unhide hot).1.2 6 _ rfl
  have co7 := (unhide hot).1.2 7 _ rfl
  have col := (unhide hot).1.1
  have coz0 := (unhide hot).2 0
  have coz1 := (unhide hot).2 1
  have coz2 := (unhide hot).2 2
  have coz3 := (unhide hot).2 3
  have coz4 := (unhide hot).2 4
  have coz5 := (unhide hot).2 5
  have coz6 := (unhide hot).2 6
  have coz7 := (unhide hot).2 7
  have cr0 := (unhide hrs).1.2 0 _ rfl
  have cr1 := (unhide hrs).1.2 1 _ rfl
  have cr2 := (unhide hrs).1.2 2 _ rfl
  have cr3 := (unhide hrs).1.2 3 _ rfl
  have cr4 := (unhide hrs).1.2 4 _ rfl
  have cr5 := (unhide hrs).1.2 5 _ rfl
  have cr6 := (unhide hrs).1.2 6 _ rfl
  have cr7 := (unhide hrs).1.2 7 _ rfl
  have crl := (unhide hrs).1.1
  have crz0 := (unhide hrs).2 0
  have crz1 := (unhide hrs).2 1
  have crz2 := (unhide hrs).2 2
  have crz3 := (unhide hrs).2 3
  have crz4 := (unhide hrs).2 4
  have crz5 := (unhide hrs).2 5
  have crz6 := (unhide hrs).2 6
  have crz7 := (unhide hrs).2 7
  go_wp2
  refine bodyPost_ret (v := .agg #[.int .i64 x0, .int .i64 x1, .int .i64 x2, .int .i64 x3, .int .i64 x4, .int .i64 x5, .int .i64 x6, .slice as0 zs0.length cs0]) (by simp [results, Try.results92, go_sem, cr0, cr1, cr2, cr3, cr4, cr5, cr6, cr7]) rfl ⟨_, rfl, ⟨_, rfl, own_mono ((((((((((unhide ho7).set' (c := w.heap.size + 2) (by omega) 7 _).set' (c := w.heap.size + 1) (by omega) 0 _).set' (c := w.heap.size + 1) (by omega) 1 _).set' (c := w.heap.size + 1) (by omega) 2 _).set' (c := w.heap.size + 1) (by omega) 3 _).set' (c := w.heap.size + 1) (by omega) 4 _).set' (c := w.heap.size + 1) (by omega) 5 _).set' (c := w.heap.size + 1) (by omega) 6 _).set' (c := w.heap.size + 1) (by omega) 7 _) (by first | omega | (simp; done) | (simp; omega)) (by first | omega | (simp; done) | (simp; omega))⟩, Upd.of_below ((((((((((unhide hB).setCell (p := ⟨w.heap.size + 2, 7, none⟩) (by first | (simp; done) | (simp; omega)) _).setCell (p := ⟨w.heap.size + 1, 0, none⟩) (by first | (simp; done) | (simp; omega)) _).setCell (p := ⟨w.heap.size + 1, 1, none⟩) (by first | (simp; done) | (simp; omega)) _).setCell (p := ⟨w.heap.size + 1, 2, none⟩) (by first | (simp; done) | (simp; omega)) _).setCell (p := ⟨w.heap.size + 1, 3, none⟩) (by first | (simp; done) | (simp; omega)) _).setCell (p := ⟨w.heap.size + 1, 4, none⟩) (by first | (simp; done) | (simp; omega)) _).setCell (p := ⟨w.heap.size + 1, 5, none⟩) (by first | (simp; done) | (simp; omega)) _).setCell (p := ⟨w.heap.size + 1, 6, none⟩) (by first | (simp; done) | (simp; omega)) _).setCell (p := ⟨w.heap.size + 1, 7, none⟩) (by first | (simp; done) | (simp; omega)) _) 0 0⟩

set_option maxHeartbeats 4000000 in
set_option maxRecDepth 100000 in
theorem szFrame_any (x0 : Int) (x1 : Int) (x2 : Int) (x3 : Int) (x4 : Int) (x5 : Int) (x6 : Int) (zs0 : List Int) (ad0 : Option Addr) (cap0 : Nat) (left : Int) (w : World) (h0 : 0 ≤ left) (h1 : left ≤ 1099511627776) (hb0 : zs0.length ≤ 9223372036854775807) :
    Calls Try.prog 88 #[.agg #[.int .i64 x0, .int .i64 x1, .int .i64 x2, .int .i64 x3, .int .i64 x4, .int .i64 x5, .int .i64 x6, .slice ad0 zs0.length cap0], .int .i64 left] w fun e w' => e = .returned (.int .i64 (if left < ((zs0.length : Nat) : Int) then -1 else left - ((zs0.length : Nat) : Int))) ∧ Upd 0 0 w w' := by
  obtain ⟨R, hR⟩ : ∃ R : Int, (if left < ((zs0.length : Nat) : Int) then -1 else left - ((zs0.length : Nat) : Int)) = R := ⟨_, rfl⟩
  rw [hR]
  have hbx0 := heldF_new w [.int .i64 x0, .int .i64 x1, .int .i64 x2, .int .i64 x3, .int .i64 x4, .int .i64 x5, .int .i64 x6, .slice ad0 zs0.length cap0] 129
  have hB0 := (Below.refl w.heap.size w).alloc (Nat.le_refl _) (.cells #[.int .i64 x0, .int .i64 x1, .int .i64 x2, .int .i64 x3, .int .i64 x4, .int .i64 x5, .int .i64 x6, .slice ad0 zs0.length cap0] 129)
  obtain ⟨l0, e0⟩ : ∃ l : Int, l = left := ⟨_, rfl⟩
  rw [← e0] at hR h0 h1 ⊢
  subst e0
  skip
  obtain ⟨l1, e1⟩ : ∃ l : Int, l = l0 - ((((zs0.length) : Nat)) : Int) := ⟨_, rfl⟩
  by_cases c0 : l0 < ((((zs0.length) : Nat)) : Int)
  · have hRe : R = -1 := by rw [← hR, if_pos (by omega)]
    subst hRe
    replace hR := hide hR
    replace e1 := hide e1
    go_enter Try.func88, Try.ntmps88
    go_wp2_with fail
    generalize w.alloc (.cells #[.int .i64 x0, .int .i64 x1, .int .i64 x2, .int .i64 x3, .int .i64 x4, .int .i64 x5, .int .i64 x6, .slice ad0 zs0.length cap0] 129) = w0 at hbx0 hB0 ⊢
    have hbx := hide hbx0
    have hB := hide hB0
    clear hbx0 hB0
    have hC := upd_of_same (szIntS_any ad0 zs0.length cap0 l0 w0 (by omega) (by omega) hb0)
    rw [if_pos (by omega)] at hC
    replace hC := hide hC
    refine (unhide hC).mono ?_
    rintro e w1 ⟨rfl, hu⟩
    replace hbx := hide ((unhide hbx).keep hu)
    replace hB := hide (below_upd (unhide hB) hu (Nat.le_refl _) (.inr (Nat.le_refl _)))
    clear hu hC
    have cb0 := (unhide hbx).1.2 0 _ rfl
    have cb1 := (unhide hbx).1.2 1 _ rfl
    have cb2 := (unhide hbx).1.2 2 _ rfl
    have cb3 := (unhide hbx).1.2 3 _ rfl
    have cb4 := (unhide hbx).1.2 4 _ rfl
    have cb5 := (unhide hbx).1.2 5 _ rfl
    have cb6 := (unhide hbx).1.2 6 _ rfl
    have cb7 := (unhide hbx).1.2 7 _ rfl
    go_wp2
    go_ret
    exact ⟨by first | rfl | exact ret_int (by have := unhide hR; omega), Upd.of_below (unhide hB) 0 0⟩
  · skip
    have q0 : decide (l1 < 0) = false := by simp; omega
    have n0 : 0 ≤ l1 := by omega
    have m0 : l1 ≤ 1099511627776 := by omega
    have hRe : R = l1 := by rw [← hR, if_neg (by omega)]; omega
    subst hRe
    replace hR := hide hR
    replace e1 := hide e1
    go_enter Try.func88, Try.ntmps88
    go_wp2_with fail
    generalize w.alloc (.cells #[.int .i64 x0, .int .i64 x1, .int .i64 x2, .int .i64 x3, .int .i64 x4, .int .i64 x5, .int .i64 x6, .slice ad0 zs0.length cap0] 129) = w0 at hbx0 hB0 ⊢
    have hbx := hide hbx0
    have hB := hide hB0
    clear hbx0 hB0
    have hC := upd_of_same (szIntS_any ad0 zs0.length cap0 l0 w0 (by omega) (by omega) hb0)
    rw [if_neg (by omega)] at hC
    rw [← unhide e1] at hC
    replace hC := hide hC
    refine (unhide hC).mono ?_
    rintro e w1 ⟨rfl, hu⟩
    replace hbx := hide ((unhide hbx).keep hu)
    replace hB := hide (below_upd (unhide hB) hu (Nat.le_refl _) (.inr (Nat.le_refl _)))
    clear hu hC
    have cb0 := (unhide hbx).1.2 0 _ rfl
    have cb1 := (unhide hbx).1.2 1 _ rfl
    have cb2 := (unhide hbx).1.2 2 _ rfl
    have cb3 := (unhide hbx).1.2 3 _ rfl
    have cb4 := (unhide hbx).1.2 4 _ rfl
    have cb5 := (unhide hbx).1.2 5 _ rfl
    have cb6 := (unhide hbx).1.2 6 _ rfl
    have cb7 := (unhide hbx).1.2 7 _ rfl
    go_wp2
    go_ret
    exact ⟨by first | rfl | exact ret_int (by have := unhide hR; omega), Upd.of_below (unhide hB) 0 0⟩

set_option maxHeartbeats 4000000 in
set_option maxRecDepth 100000 in
theorem eqFrame_rd (u v : Value) (d : Fr) (w : World) (hn : FrSize d ≤ 1048576) (hu : RdFr w u d) (hv : RdFr w v d) :
    Calls Try.prog 29 #[u, v] w fun e w' => e = .returned (.bool true) ∧ Upd 0 0 w w' := by
  obtain ⟨p0, rfl, hu0⟩ := hu
  obtain ⟨v0, rfl, hv0⟩ := hv
  obtain ⟨x0, x1, x2, x3, x4, x5, x6, zs0⟩ := d
  simp only [Frv, FrSize] at hn ⊢
  have hn0 : zs0.length ≤ 1048576 := by omega
  replace hu0 := hide hu0
  replace hv0 := hide hv0
  have hB0 := ((Below.refl w.heap.size w).alloc (Nat.le_refl _) (.cells #[.int .i64 x0, .int .i64 x1, .int .i64 x2, .int .i64 x3, .int .i64 x4, .int .i64 x5, .int .i64 x6, p0] 27)).alloc (by simp) (.cells #[.int .i64 x0, .int .i64 x1, .int .i64 x2, .int .i64 x3, .int .i64 x4, .int .i64 x5, .int .i64 x6, v0] 27)
  have hbx0 := (heldF_new w [.int .i64 x0, .int .i64 x1, .int .i64 x2, .int .i64 x3, .int .i64 x4, .int .i64 x5, .int .i64 x6, p0] 27).keep (Upd.of_below ((Below.refl _ _).alloc (Nat.le_refl _) (.cells #[.int .i64 x0, .int .i64 x1, .int .i64 x2, .int .i64 x3, .int .i64 x4, .int .i64 x5, .int .i64 x6, v0] 27)) 0 0)
  have hby0 := heldF_new (w.alloc (.cells #[.int .i64 x0, .int .i64 x1, .int .i64 x2, .int .i64 x3, .int .i64 x4, .int .i64 x5, .int .i64 x6, p0] 27)) [.int .i64 x0, .int .i64 x1, .int .i64 x2, .int .i64 x3, .int .i64 x4, .int .i64 x5, .int .i64 x6, v0] 27
  have e1 : (w.alloc (.cells #[.int .i64 x0, .int .i64 x1, .int .i64 x2, .int .i64 x3, .int .i64 x4, .int .i64 x5, .int .i64 x6, p0] 27)).heap.size = w.heap.size + 1 := by simp
  rw [e1] at hby0
  clear e1
  go_enter Try.func29, Try.ntmps29
  go_wp2_with fail
  generalize (w.alloc (.cells #[.int .i64 x0, .int .i64 x1, .int .i64 x2, .int .i64 x3, .int .i64 x4, .int .i64 x5, .int .i64 x6, p0] 27)).alloc (.cells #[.int .i64 x0, .int .i64 x1, .int .i64 x2, .int .i64 x3, .int .i64 x4, .int .i64 x5, .int .i64 x6, v0] 27) = w0 at hbx0 hby0 hB0 ⊢
  have hbx := hide hbx0
  have hby := hide hby0
  have hB := hide hB0
  clear hbx0 hby0 hB0
  refine (eqIntS_rd _ _ zs0 w0 hn0 ((unhide hu0).below (unhide hB)) ((unhide hv0).below (unhide hB))).mono ?_
  rintro e w1 ⟨rfl, hu⟩
  replace hbx := hide ((unhide hbx).keep hu)
  replace hby := hide ((unhide hby).keep hu)
  replace hB := hide (below_upd (unhide hB) hu (Nat.le_refl _) (.inr (Nat.le_refl _)))
  clear hu
  have cb0 := (unhide hbx).1.2 0 _ rfl
  have cd0 := (unhide hby).1.2 0 _ rfl
  have cb1 := (unhide hbx).1.2 1 _ rfl
  have cd1 := (unhide hby).1.2 1 _ rfl
  have cb2 := (unhide hbx).1.2 2 _ rfl
  have cd2 := (unhide hby).1.2 2 _ rfl
  have cb3 := (unhide hbx).1.2 3 _ rfl
  have cd3 := (unhide hby).1.2 3 _ rfl
  have cb4 := (unhide hbx).1.2 4 _ rfl
  have cd4 := (unhide hby).1.2 4 _ rfl
  have cb5 := (unhide hbx).1.2 5 _ rfl
  have cd5 := (unhide hby).1.2 5 _ rfl
  have cb6 := (unhide hbx).1.2 6 _ rfl
  have cd6 := (unhide hby).1.2 6 _ rfl
  have cb7 := (unhide hbx).1.2 7 _ rfl
  have cd7 := (unhide hby).1.2 7 _ rfl
  go_wp2
  go_ret
  exact ⟨rfl, Upd.of_below (unhide hB) 0 0⟩

end Go.Proofs.Ytbdegomnlconjaa

/- What a step that only lays new blocks keeps of a row of the call's own. -/
namespace Go.Proofs.Ytbdegomnlconjaa
open Go.RowKit

theorem ownsP_below {w w' : World} {base : Nat} {e : TypeId} {size n : Nat} {v : Value} {xs : List Value} (h : w.ownsRow base e size v n xs) (hb : Below w.heap.size w w') : w'.ownsRow base e size v n xs :=
  ((Own.of h).keep (Upd.of_below hb 0 0)).1
end Go.Proofs.Ytbdegomnlconjaa

/- Lists of IntSs, each with a list of its own; the walks of the laws' own helpers on them. -/
namespace Go.Proofs.Ytbdegomnlconjaa
open Go.RowKit

abbrev Ln := List Int
abbrev Ll := List Ln
abbrev Ln0 : Ln := []
abbrev Lls (d : Ln) : List Int := d
def RowLl (ys : List Value) (_ds : Ll) (vs : Nat → Value) (k : Nat) : Prop := ∀ j, j < k → ys[j]? = some ((vs j))
/-- No two of the lists lie in one block. -/
def DistLl (vs : Nat → Value) (k : Nat) : Prop := ∀ i j, i < k → j < k → i ≠ j → ∀ g, (vs i).ownBlock = some g → (vs j).ownBlock ≠ some g
def OwnLl (w : World) (a b : Nat) (v : Value) (ds : Ll) : Prop := ∃ (ys : List Value) (vs : Nat → Value), Own 23 1 w a b v ds.length ys ∧ RowLl ys ds vs ds.length ∧
  (∀ j, j < ds.length → OwnI w a b (vs j) (Lls (ds.getD j Ln0))) ∧ DistLl vs ds.length ∧ ∀ j, j < ds.length → ∀ g, (vs j).ownBlock = some g → v.ownBlock ≠ some g
def AtLl (w : World) (b off : Nat) (ds : Ll) (vs : Nat → Value) : Prop := ∀ j, j < ds.length → w.cell? ⟨b, off + j, none⟩ = some ((vs j))
def ArgLl (w : World) (ad : Option Addr) (ds : Ll) : Prop := ds ≠ [] → ∃ b off vs, ad = some ⟨b, off, none⟩ ∧ b < w.heap.size ∧ AtLl w b off ds vs ∧ ∀ j, j < ds.length → RdI w (vs j) (Lls (ds.getD j Ln0))
def RdLl (w : World) (v : Value) (ds : Ll) : Prop := ∃ ad cap, v = .slice ad ds.length cap ∧ ArgLl w ad ds
theorem ArgLl.below {w w' : World} {ad : Option Addr} {ds : Ll} (h : ArgLl w ad ds) (hb : Below w.heap.size w w') : ArgLl w' ad ds := by
  intro hne
  obtain ⟨b, off, vs, e, hl, hc, hr⟩ := h hne
  exact ⟨b, off, vs, e, Nat.lt_of_lt_of_le hl hb.size, fun j hj => (hb.cell (by simpa using hl)).trans (hc j hj), fun j hj => (hr j hj).below hb⟩
theorem RdLl.below {w w' : World} {v : Value} {ds : Ll} (h : RdLl w v ds) (hb : Below w.heap.size w w') : RdLl w' v ds := by
  obtain ⟨ad, cap, e, h⟩ := h
  exact ⟨ad, cap, e, h.below hb⟩
theorem OwnLl.rd {w : World} {a b : Nat} {v : Value} {ds : Ll} (h : OwnLl w a b v ds) : RdLl w v ds := by
  obtain ⟨ys, vs, ho, hr, he, _, _⟩ := h
  rcases ho.1.2 with ⟨rfl, hn⟩ | ⟨g, cap, cur, rfl, h1, h2, h3⟩
  · exact ⟨none, 0, by rw [hn], fun hne => absurd (List.length_eq_zero_iff.1 hn) hne⟩
  · refine ⟨some ⟨g, 0, none⟩, cap, rfl, fun _ => ⟨g, 0, vs, rfl, (ho.1.lt g rfl).2, fun j hj => ?_, fun j hj => OwnI.rd (he j hj)⟩⟩
    have := hr j hj
    rw [Nat.zero_add, ho.1.cellAt _ (by omega)]
    exact this
theorem OwnLl.upd {w w' : World} {a b c e : Nat} {v : Value} {ds : Ll} (h : OwnLl w a b v ds) (u : Upd c e w w') (hd : b ≤ c ∨ e ≤ a) : OwnLl w' a b v ds := by
  obtain ⟨ys, vs, ho, hr, he, h4, h5⟩ := h
  exact ⟨ys, vs, ho.upd u hd, hr, fun j hj => (he j hj).upd u hd, h4, h5⟩
theorem OwnLl.keep {w w' : World} {a b : Nat} {v : Value} {ds : Ll} (h : OwnLl w a b v ds) (u : Upd 0 0 w w') : OwnLl w' a b v ds := h.upd u (.inr (Nat.zero_le _))
theorem OwnLl.mono {w : World} {a b a' b' : Nat} {v : Value} {ds : Ll} (h : OwnLl w a b v ds) (ha : a' ≤ a) (hb : b ≤ b') : OwnLl w a' b' v ds := by
  obtain ⟨ys, vs, ho, hr, he, h4, h5⟩ := h
  exact ⟨ys, vs, own_mono ho ha hb, hr, fun j hj => own_mono (he j hj) ha hb, h4, h5⟩
theorem OwnLl.set' {w : World} {a b : Nat} {v : Value} {ds : Ll} (h : OwnLl w a b v ds) {c : Nat} (hc : c < a) (o : Nat) (u : Value) : OwnLl (w.setCell ⟨c, o, none⟩ u) a b v ds := by
  obtain ⟨ys, vs, ho, hr, he, h4, h5⟩ := h
  exact ⟨ys, vs, ho.set' hc o u, hr, fun j hj => (he j hj).set' hc o u, h4, h5⟩
/-- All numbers fit, and no list is longer than a list can be. -/
def InLl (ds : Ll) : Prop := (∀ j, InI (ds.getD j Ln0)) ∧ ∀ j, (Lls (ds.getD j Ln0)).length ≤ 9223372036854775807
theorem infoLl : (Try.prog.info? 23).map (fun i => (i.zero, i.size, i.bytes)) = some (some (.slice none 0 0), 1, 24) := by kernel_rfl
/-- How much a list of IntSs holds. -/
def size1Ll (d : Ln) : Nat := (Lls d).length
def szToLl (ds : Ll) (k : Nat) : Nat := ((ds.take k).map size1Ll).sum
def sizeLl (ds : Ll) : Nat := ds.length + szToLl ds ds.length
theorem szToLl_succ (ds : Ll) (k : Nat) (h : k < ds.length) : szToLl ds (k + 1) = szToLl ds k + size1Ll (ds.getD k Ln0) := by
  unfold szToLl; rw [take_snoc_getD ds Ln0 k h]; simp
theorem szToLl_le (ds : Ll) (k : Nat) : szToLl ds k ≤ szToLl ds ds.length := by
  have e : szToLl ds ds.length = szToLl ds k + ((ds.drop k).map size1Ll).sum := by
    unfold szToLl; rw [List.take_length, ← List.sum_append, ← List.map_append, List.take_append_drop]
  omega
theorem size1Ll_le (ds : Ll) (k : Nat) (h : k < ds.length) : size1Ll (ds.getD k Ln0) ≤ szToLl ds ds.length := by
  have := szToLl_succ ds k h
  have := szToLl_le ds (k + 1)
  omega

theorem Own.setsLl {e : TypeId} {s : Nat} {w : World} {a b : Nat} {v : Value} {n : Nat} {xs : List Value} (h : Own e s w a b v n xs) {c : Nat} (hc : c < a) (o : Nat) (u0 : Value) :
    Own e s (w.setCell ⟨c, o, none⟩ u0) a b v n xs := (Own.set' h hc (o) u0)
theorem sizesLl (w : World) (c o : Nat) (u0 : Value) : (w.setCell ⟨c, o, none⟩ u0).heap.size = w.heap.size := by simp

set_option maxHeartbeats 8000000 in
set_option maxRecDepth 100000 in
theorem eqIntSS_rd (u v : Value) (ds : Ll) (w : World) (hsz : sizeLl ds ≤ 1048576) (hu : RdLl w u ds) (hv : RdLl w v ds) :
    Calls Try.prog 23 #[u, v] w fun e w' => e = .returned (.bool true) ∧ Upd 0 0 w w' := by
  have hn : ds.length ≤ 1048576 := by unfold sizeLl at hsz; omega
  have hEach : Hid (∀ k, k < ds.length → (Lls (ds.getD k Ln0)).length ≤ 1048576) := hide (fun k hk => by have := size1Ll_le ds k hk; unfold sizeLl at hsz; unfold size1Ll at this; omega)
  obtain ⟨ad, cap, rfl, hA⟩ := hu
  obtain ⟨ad', cap', rfl, hA'⟩ := hv
  replace hA := hide hA
  replace hA' := hide hA'
  go_enter Try.func23, Try.ntmps23
  go_wp2
  go_loopw [5] (fun i wr => ∃ k : Nat, k ≤ ds.length ∧ i = .int .i64 k ∧ Below w.heap.size w wr) (fun i _ => ds.length - (intOf i).toNat)
  case atStart => exact ⟨0, Nat.zero_le _, rfl, Below.refl _ _⟩
  case round =>
    obtain ⟨k, hk, rfl, hbel⟩ := hrel
    by_cases hlt : k < ds.length
    · obtain ⟨b, off, us, rfl, hbl, hc, hr⟩ := ((unhide hA).below hbel) (ne_of_lt_length hlt)
      obtain ⟨b', off', us', rfl, hbl', hc', hr'⟩ := ((unhide hA').below hbel) (ne_of_lt_length hlt)
      have d0 := hc k hlt
      have g0 := hc' k hlt
      have hr2 := hr k hlt
      have hr2' := hr' k hlt
      have hnk := unhide hEach k hlt
      clear hc hc' hbl hbl' hr hr'
      generalize ds.getD k Ln0 = zs at d0 g0 hr2 hr2' hnk
      obtain ⟨uk, huk⟩ : ∃ uk, us k = uk := ⟨_, rfl⟩
      obtain ⟨uk', huk'⟩ : ∃ uk', us' k = uk' := ⟨_, rfl⟩
      rw [huk] at d0 hr2
      rw [huk'] at g0 hr2'
      clear huk huk'
      simp only [Lls] at d0 g0 hr2 hr2' hnk
      have hEq := hide (fun (W : World) (hW : Below wr.heap.size wr W) => eqIntS_rd _ _ zs W hnk (hr2.below hW) (hr2'.below hW))
      clear hr2 hr2' hnk
      have hk0 : (0 : Int) ≤ (k : Int) := by omega
      have hk1 : (k : Int) < (ds.length : Int) := by omega
      go_wp2_with fail
      go_region_with (go_at_call 30; refine (unhide hEq _ (Below.refl _ _).drew).mono ?_; rintro e w2 ⟨rfl, hb2⟩)
      all_goals
        have hb3 := hbel.drew.trans (hb2.below (B := w.heap.size) (by simpa using hbel.size) (.inr (Nat.zero_le _)))
        clear hb2
        go_wp2
        go_roundw
        case rel => exact ⟨k + 1, by omega, by go_num, hb3⟩
        case measure => simp [intOf]; omega
    · have hkl : k = ds.length := by omega
      subst hkl
      go_wp2
      go_ret
      exact ⟨rfl, Upd.of_below hbel 0 0⟩

end Go.Proofs.Ytbdegomnlconjaa

/- Plain: blocks of eight by eight: what is one, scales, coarse and fine numbers, waves. -/
namespace Go.Proofs.Ytbdegomnlconjaa
open Go.RowKit

/-- All numbers lie within two ends. -/
def InR (lo hi : Int) (zs : List Int) : Prop := ∀ j, j < zs.length → lo ≤ zs.getD j 0 ∧ zs.getD j 0 ≤ hi
def inRB (lo hi : Int) (zs : List Int) : Bool := (List.range zs.length).all fun j => decide (lo ≤ zs.getD j 0 ∧ zs.getD j 0 ≤ hi)
theorem inRB_iff0 {lo hi : Int} {zs : List Int} : inRB lo hi zs = true ↔ InR lo hi zs := by
  unfold inRB InR
  rw [List.all_eq_true]
  exact ⟨fun h j hj => of_decide_eq_true (h j (List.mem_range.2 hj)), fun h j hj => decide_eq_true (h j (List.mem_range.1 hj))⟩
theorem inRB_yes {lo hi : Int} {zs : List Int} (h : InR lo hi zs) : inRB lo hi zs = true := inRB_iff0.2 h
theorem inRB_no {lo hi : Int} {zs : List Int} (h : ¬ InR lo hi zs) : inRB lo hi zs = false := Bool.eq_false_iff.2 (fun h' => h (inRB_iff0.1 h'))
def BlOk (zs : List Int) : Prop := zs.length = 64 ∧ InR (-32768) 32767 zs
noncomputable def blB (zs : List Int) : Bool := open Classical in decide (BlOk zs)
theorem blB_yes {zs : List Int} (h : BlOk zs) : blB zs = true := by unfold blB; simpa using h
theorem blB_no {zs : List Int} (h : ¬ BlOk zs) : blB zs = false := by unfold blB; simpa using h
def ScOk (zs : List Int) : Prop := zs.length = 64 ∧ InR 1 255 zs
noncomputable def scB (zs : List Int) : Bool := open Classical in decide (ScOk zs)
theorem scB_yes {zs : List Int} (h : ScOk zs) : scB zs = true := by unfold scB; simpa using h
theorem scB_no {zs : List Int} (h : ¬ ScOk zs) : scB zs = false := by unfold scB; simpa using h

/-- 64 numbers told by their places. -/
def tab (f : Nat → Int) : List Int := (List.range 64).map f
@[simp] theorem tab_length (f : Nat → Int) : (tab f).length = 64 := by simp [tab]
theorem tab_getD (f : Nat → Int) (k : Nat) (h : k < 64) : (tab f).getD k 0 = f k := by
  unfold tab
  rw [List.getD_eq_getElem?_getD, List.getElem?_map, List.getElem?_range h]; rfl
theorem tab_inR (f : Nat → Int) (lo hi : Int) (h : ∀ k, k < 64 → lo ≤ f k ∧ f k ≤ hi) : InR lo hi (tab f) := by
  intro j hj
  rw [tab_length] at hj
  rw [tab_getD f j hj]; exact h j hj

/-! ### Scales -/
def baseZ (v u : Nat) (c : Bool) : Int := if c then 10 + 6 * ((u : Int) + v) else 8 + 3 * ((u : Int) + v) + ((u * v / 2 : Nat) : Int)
def percZ (q : Int) : Int := if q < 50 then 5000 / q else 200 - 2 * q
def cutZ (a b n : Int) : Int := if n < a then a else if b < n then b else n
def scaleZ (q : Int) (c : Bool) (i : Nat) : Int := cutZ 1 255 ((baseZ (i / 8) (i % 8) c * percZ q + 50) / 100)
def scalesF (q : Int) (c : Bool) : List Int := if 1 ≤ q ∧ q ≤ 100 then tab (scaleZ q c) else []
theorem scalesF_len (q : Int) (c : Bool) : (scalesF q c).length ≤ 1048576 := by unfold scalesF; split <;> simp
theorem baseZ_bd (v u : Nat) (c : Bool) (hv : v < 8) (hu : u < 8) : 8 ≤ baseZ v u c ∧ baseZ v u c ≤ 94 := by
  unfold baseZ
  have h : u * v ≤ 7 * 7 := Nat.mul_le_mul (by omega) (by omega)
  split <;> omega
theorem percZ_bd (q : Int) (h1 : 1 ≤ q) (h2 : q ≤ 100) : 0 ≤ percZ q ∧ percZ q ≤ 5000 := by
  unfold percZ
  split
  · have h0 : 5000 / q ≤ 5000 := Int.ediv_le_self _ (by omega)
    have h3 : 0 ≤ 5000 / q := Int.ediv_nonneg (by omega) (by omega)
    omega
  · omega
theorem cutZ_bd (a b n : Int) (h : a ≤ b) : a ≤ cutZ a b n ∧ cutZ a b n ≤ b := by unfold cutZ; split <;> (try split) <;> omega
theorem cutZ_max (a b n : Int) (h : a ≤ b) : max a (min b n) = cutZ a b n := by unfold cutZ; split <;> (try split) <;> omega
theorem scalesF_ok (q : Int) (c : Bool) (h : 1 ≤ q ∧ q ≤ 100) : ScOk (scalesF q c) := by
  unfold scalesF
  rw [if_pos h]
  exact ⟨by simp, tab_inR _ _ _ (fun k _ => cutZ_bd _ _ _ (by omega))⟩

/-! ### Coarse and fine numbers -/
def coarseZ (n t : Int) : Int := if n < 0 then -((-n + t / 2) / t) else (n + t / 2) / t
def fineZ (n t : Int) : Int := cutZ (-32768) 32767 (n * t)
noncomputable def twoF (g : Int → Int → Int) (zs ts : List Int) : List Int := if blB zs && scB ts then tab (fun i => g (zs.getD i 0) (ts.getD i 0)) else []
theorem twoF_len (g : Int → Int → Int) (zs ts : List Int) : (twoF g zs ts).length ≤ 1048576 := by unfold twoF; split <;> simp
theorem twoF_no {g : Int → Int → Int} {zs ts : List Int} (h : ¬ (BlOk zs ∧ ScOk ts)) : twoF g zs ts = [] := by
  unfold twoF
  by_cases h1 : BlOk zs
  · rw [blB_yes h1, scB_no (fun h2 => h ⟨h1, h2⟩)]; rfl
  · rw [blB_no h1]; rfl
theorem twoF_yes {g : Int → Int → Int} {zs ts : List Int} (h1 : BlOk zs) (h2 : ScOk ts) : twoF g zs ts = tab (fun i => g (zs.getD i 0) (ts.getD i 0)) := by
  unfold twoF; rw [blB_yes h1, scB_yes h2]; rfl
theorem quot_bd (n t : Int) (hn : 0 ≤ n) (ht : 1 ≤ t) : 0 ≤ (n + t / 2) / t ∧ (n + t / 2) / t ≤ n := by
  have h1 : 0 ≤ (n + t / 2) / t := Int.ediv_nonneg (by omega) (by omega)
  refine ⟨h1, ?_⟩
  rcases Int.lt_or_le n ((n + t / 2) / t) with h | h
  · exfalso
    have h2 : (n + t / 2) / t * t ≤ n + t / 2 := Int.ediv_mul_le _ (by omega)
    have h3 : (n + 1) * t ≤ (n + t / 2) / t * t := Int.mul_le_mul_of_nonneg_right (by omega) (by omega)
    have h4 : n * t ≥ n := by
      have : n * 1 ≤ n * t := Int.mul_le_mul_of_nonneg_left ht hn
      omega
    rw [Int.add_mul] at h3
    omega
  · exact h
theorem coarseZ_bd (n t : Int) (hn : -32768 ≤ n ∧ n ≤ 32767) (ht : 1 ≤ t) : -32768 ≤ coarseZ n t ∧ coarseZ n t ≤ 32767 := by
  unfold coarseZ
  split
  · have := quot_bd (-n) t (by omega) ht; omega
  · have := quot_bd n t (by omega) ht; omega
theorem twoF_ok {g : Int → Int → Int} {zs ts : List Int} (h1 : BlOk zs) (h2 : ScOk ts) (hg : ∀ n t, (-32768 ≤ n ∧ n ≤ 32767) → (1 ≤ t ∧ t ≤ 255) → -32768 ≤ g n t ∧ g n t ≤ 32767) : BlOk (twoF g zs ts) := by
  rw [twoF_yes h1 h2]
  exact ⟨by simp, tab_inR _ _ _ (fun k hk => hg _ _ (h1.2 k (by rw [h1.1]; exact hk)) (h2.2 k (by rw [h2.1]; exact hk)))⟩
/-- Half a scale away at most. -/
theorem near_mul (n t : Int) (ht : 1 ≤ t) : -t ≤ 2 * ((n + t / 2) / t * t - n) ∧ 2 * ((n + t / 2) / t * t - n) ≤ t := by
  have h1 : (n + t / 2) / t * t ≤ n + t / 2 := Int.ediv_mul_le _ (by omega)
  have h2 : n + t / 2 < ((n + t / 2) / t + 1) * t := Int.lt_ediv_add_one_mul_self _ (by omega)
  rw [Int.add_mul] at h2
  generalize (n + t / 2) / t * t = q at h1 h2 ⊢
  omega
theorem coarse_near (n t : Int) (ht : 1 ≤ t) : -t ≤ 2 * (coarseZ n t * t - n) ∧ 2 * (coarseZ n t * t - n) ≤ t := by
  unfold coarseZ
  split
  · have h := near_mul (-n) t ht
    rw [Int.neg_mul]
    generalize (-n + t / 2) / t * t = q at h ⊢
    omega
  · exact near_mul n t ht
theorem quot_mul (m t : Int) (ht : 1 ≤ t) : (m * t + t / 2) / t = m := by
  rw [Int.add_comm, Int.add_mul_ediv_right _ _ (by omega), Int.ediv_eq_zero_of_lt (by omega) (by omega), Int.zero_add]
theorem coarse_fine (m t : Int) (ht : 1 ≤ t) : coarseZ (m * t) t = m := by
  unfold coarseZ
  by_cases h : m < 0
  · have h1 : m * t < 0 := Int.mul_neg_of_neg_of_pos h (by omega)
    rw [if_pos h1, ← Int.neg_mul, quot_mul _ _ ht]; omega
  · have h1 : ¬ m * t < 0 := by have := Int.mul_nonneg (show 0 ≤ m by omega) (show 0 ≤ t by omega); omega
    rw [if_neg h1, quot_mul _ _ ht]
end Go.Proofs.Ytbdegomnlconjaa

/- Plain: lists told by those ahead: residues, what they restore, two lists turned and unturned; no program is named here. -/
namespace Go.Proofs.Ytbdegomnlconjaa
open Go.RowKit

/-- A list whose numbers lie within two ends, of at most 4000 numbers. -/
def LsOk (lo hi : Int) (xs : List Int) : Prop := xs.length ≤ 4000 ∧ InR lo hi xs
def lsB (lo hi : Int) (xs : List Int) : Bool := decide (xs.length ≤ 4000) && inRB lo hi xs
theorem lsB_iff {lo hi : Int} {xs : List Int} : lsB lo hi xs = true ↔ LsOk lo hi xs := by
  unfold lsB LsOk
  rw [Bool.and_eq_true, decide_eq_true_iff, inRB_iff0]
theorem lsB_yes {lo hi : Int} {xs : List Int} (h : LsOk lo hi xs) : lsB lo hi xs = true := lsB_iff.2 h
theorem lsB_no {lo hi : Int} {xs : List Int} (h : ¬ LsOk lo hi xs) : lsB lo hi xs = false := Bool.eq_false_iff.2 (fun h' => h (lsB_iff.1 h'))

/-- n numbers told by their places. -/
def tabN (n : Nat) (f : Nat → Int) : List Int := (List.range n).map f
@[simp] theorem tabN_length (n : Nat) (f : Nat → Int) : (tabN n f).length = n := by simp [tabN]
theorem tabN_getD (n : Nat) (f : Nat → Int) (k : Nat) (h : k < n) : (tabN n f).getD k 0 = f k := by
  unfold tabN
  rw [List.getD_eq_getElem?_getD, List.getElem?_map, List.getElem?_range h]; rfl
theorem tabN_succ (n : Nat) (f : Nat → Int) : tabN (n + 1) f = tabN n f ++ [f n] := by
  unfold tabN; rw [List.range_succ, List.map_append]; rfl

/-- What the numbers ahead foretell. -/
def gueZ (o : Nat) (xs : List Int) (i : Nat) : Int :=
  if o = 1 then xs.getD (i - 1) 0
  else if o = 2 then 2 * xs.getD (i - 1) 0 - xs.getD (i - 2) 0
  else if o = 3 then 3 * xs.getD (i - 1) 0 - 3 * xs.getD (i - 2) 0 + xs.getD (i - 3) 0
  else if o = 4 then 4 * xs.getD (i - 1) 0 - 6 * xs.getD (i - 2) 0 + 4 * xs.getD (i - 3) 0 - xs.getD (i - 4) 0
  else 0
theorem gueZ_1 (xs : List Int) (i : Nat) : gueZ 1 xs i = xs.getD (i - 1) 0 := rfl
theorem gueZ_2 (xs : List Int) (i : Nat) : gueZ 2 xs i = 2 * xs.getD (i - 1) 0 - xs.getD (i - 2) 0 := rfl
theorem gueZ_3 (xs : List Int) (i : Nat) : gueZ 3 xs i = 3 * xs.getD (i - 1) 0 - 3 * xs.getD (i - 2) 0 + xs.getD (i - 3) 0 := rfl
theorem gueZ_4 (xs : List Int) (i : Nat) : gueZ 4 xs i = 4 * xs.getD (i - 1) 0 - 6 * xs.getD (i - 2) 0 + 4 * xs.getD (i - 3) 0 - xs.getD (i - 4) 0 := rfl
theorem gueZ_0 (xs : List Int) (i : Nat) : gueZ 0 xs i = 0 := rfl
theorem getD_bd {lo hi : Int} {xs : List Int} (h : InR lo hi xs) (h0 : lo ≤ 0 ∧ 0 ≤ hi) (j : Nat) : lo ≤ xs.getD j 0 ∧ xs.getD j 0 ≤ hi := by
  rcases Nat.lt_or_ge j xs.length with h1 | h1
  · exact h j h1
  · rw [List.getD_eq_getElem?_getD, List.getElem?_eq_none h1]; exact h0
theorem gueZ_bd {xs : List Int} (h : InR (-67108864) 67108863 xs) (o i : Nat) (_ho : o ≤ 4) : -1006632960 ≤ gueZ o xs i ∧ gueZ o xs i ≤ 1006632960 := by
  have h1 := getD_bd h (by omega) (i - 1)
  have h2 := getD_bd h (by omega) (i - 2)
  have h3 := getD_bd h (by omega) (i - 3)
  have h4 := getD_bd h (by omega) (i - 4)
  unfold gueZ
  repeat' split
  all_goals omega
theorem gueZ_take (o : Nat) (xs : List Int) (i k : Nat) (hk : i ≤ k) (ho : o ≤ i) : gueZ o (xs.take k) i = gueZ o xs i := by
  have H : ∀ j, j < k → (xs.take k).getD j 0 = xs.getD j 0 := fun j hj => by
    rw [List.getD_eq_getElem?_getD, List.getElem?_take_of_lt hj, ← List.getD_eq_getElem?_getD]
  unfold gueZ
  repeat' split
  · rw [H _ (by omega)]
  · rw [H _ (by omega), H _ (by omega)]
  · rw [H _ (by omega), H _ (by omega), H _ (by omega)]
  · rw [H _ (by omega), H _ (by omega), H _ (by omega), H _ (by omega)]
  · rfl

/-! ### Residues -/
def resAt (o : Nat) (xs : List Int) (i : Nat) : Int := if o ≤ i then xs.getD i 0 - gueZ o xs i else xs.getD i 0
def resL (o : Nat) (xs : List Int) : List Int := tabN xs.length (resAt o xs)
noncomputable def resF (o : Int) (xs : List Int) : List Int := if decide (0 ≤ o ∧ o ≤ 4) && lsB (-67108864) 67108863 xs then resL o.toNat xs else []
@[simp] theorem resL_length (o : Nat) (xs : List Int) : (resL o xs).length = xs.length := by simp [resL]
theorem resF_yes {o : Nat} {xs : List Int} (ho : o ≤ 4) (h : LsOk (-67108864) 67108863 xs) : resF (o : Int) xs = resL o xs := by
  unfold resF; rw [lsB_yes h, if_pos (by simp; omega)]; simp
theorem resF_no {o : Int} {xs : List Int} (h : ¬ ((0 ≤ o ∧ o ≤ 4) ∧ LsOk (-67108864) 67108863 xs)) : resF o xs = [] := by
  unfold resF
  by_cases h1 : 0 ≤ o ∧ o ≤ 4
  · rw [lsB_no (fun h2 => h ⟨h1, h2⟩), if_neg (by simp)]
  · rw [if_neg (by simp [h1])]
theorem resF_len (o : Int) (xs : List Int) : (resF o xs).length ≤ 4000 := by
  by_cases h : (0 ≤ o ∧ o ≤ 4) ∧ LsOk (-67108864) 67108863 xs
  · obtain ⟨⟨h1, h2⟩, h3⟩ := h
    obtain ⟨n, rfl⟩ := Int.eq_ofNat_of_zero_le h1
    rw [resF_yes (by omega) h3, resL_length]; exact h3.1
  · rw [resF_no h]; simp
theorem resAt_bd {xs : List Int} (h : InR (-67108864) 67108863 xs) (o i : Nat) (ho : o ≤ 4) : -1073741824 ≤ resAt o xs i ∧ resAt o xs i ≤ 1073741824 := by
  have h1 := getD_bd h (by omega) i
  have h2 := gueZ_bd h o i ho
  unfold resAt; split <;> omega
theorem resL_inR {xs : List Int} (h : InR (-67108864) 67108863 xs) (o : Nat) (ho : o ≤ 4) : InR (-1073741824) 1073741824 (resL o xs) := by
  intro j hj
  rw [resL_length] at hj
  unfold resL
  rw [tabN_getD _ _ j hj]; exact resAt_bd h o j ho

/-! ### What they restore -/
def rstAt (o : Nat) (xs r : List Int) (k : Nat) : Int := if o ≤ k then xs.getD k 0 + gueZ o r k else xs.getD k 0
def rst (o : Nat) (xs : List Int) : Nat → List Int
  | 0 => []
  | k + 1 => rst o xs k ++ [rstAt o xs (rst o xs k) k]
@[simp] theorem rst_length (o : Nat) (xs : List Int) (k : Nat) : (rst o xs k).length = k := by
  induction k with
  | zero => rfl
  | succ k ih => simp [rst, ih]
theorem rst_succ (o : Nat) (xs : List Int) (k : Nat) : rst o xs (k + 1) = rst o xs k ++ [rstAt o xs (rst o xs k) k] := rfl
theorem rst_take (o : Nat) (xs : List Int) (k n : Nat) (h : k ≤ n) : (rst o xs n).take k = rst o xs k := by
  induction n with
  | zero => have : k = 0 := by omega
            subst this; rfl
  | succ n ih =>
    rcases Nat.lt_or_eq_of_le h with h1 | h1
    · rw [rst_succ, List.take_append_of_le_length (by simp; omega)]; exact ih (by omega)
    · subst h1; rw [List.take_of_length_le (by simp)]
theorem getD_snocI (r : List Int) (v : Int) : (r ++ [v]).getD r.length 0 = v := by
  rw [List.getD_eq_getElem?_getD, List.getElem?_append_right (Nat.le_refl _)]; simp
theorem getD_appL (r s : List Int) (j : Nat) (h : j < r.length) : (r ++ s).getD j 0 = r.getD j 0 := by
  rw [List.getD_eq_getElem?_getD, List.getElem?_append_left h, ← List.getD_eq_getElem?_getD]
theorem inR_snoc {lo hi : Int} {r : List Int} {v : Int} (h : InR lo hi r) (hv : lo ≤ v ∧ v ≤ hi) : InR lo hi (r ++ [v]) := by
  intro j hj
  rw [List.length_append, List.length_singleton] at hj
  rcases Nat.lt_or_eq_of_le (Nat.le_of_lt_succ hj) with h1 | h1
  · rw [getD_appL _ _ _ h1]; exact h j h1
  · subst h1; rw [getD_snocI]; exact hv
theorem inR_of_snoc {lo hi : Int} {r : List Int} {v : Int} (h : InR lo hi (r ++ [v])) : lo ≤ v ∧ v ≤ hi := by
  have := h r.length (by simp)
  rwa [getD_snocI] at this
theorem inR_take {lo hi : Int} {r : List Int} (k : Nat) (h : InR lo hi r) : InR lo hi (r.take k) := by
  intro j hj
  rw [List.length_take] at hj
  rw [List.getD_eq_getElem?_getD, List.getElem?_take_of_lt (by omega), ← List.getD_eq_getElem?_getD]
  exact h j (by omega)
theorem inR_nil (lo hi : Int) : InR lo hi [] := fun j hj => by simp at hj
def RstOk (o : Int) (xs : List Int) : Prop := (0 ≤ o ∧ o ≤ 4) ∧ LsOk (-2147483648) 2147483647 xs ∧ InR (-67108864) 67108863 (rst o.toNat xs xs.length)
noncomputable def rstF (o : Int) (xs : List Int) : List Int := open Classical in if RstOk o xs then rst o.toNat xs xs.length else []
theorem rstF_yes {o : Nat} {xs : List Int} (ho : o ≤ 4) (h : LsOk (-2147483648) 2147483647 xs) (hr : InR (-67108864) 67108863 (rst o xs xs.length)) : rstF (o : Int) xs = rst o xs xs.length := by
  unfold rstF; rw [if_pos ⟨by omega, h, by simpa using hr⟩]; simp
theorem rstF_no {o : Int} {xs : List Int} (h : ¬ ((0 ≤ o ∧ o ≤ 4) ∧ LsOk (-2147483648) 2147483647 xs)) : rstF o xs = [] := by
  unfold rstF; rw [if_neg (fun h' => h ⟨h'.1, h'.2.1⟩)]
theorem rstF_bad {o : Nat} {xs : List Int} (k : Nat) (hk : k < xs.length) (h : ¬ (-67108864 ≤ rstAt o xs (rst o xs k) k ∧ rstAt o xs (rst o xs k) k ≤ 67108863)) : rstF (o : Int) xs = [] := by
  unfold rstF
  rw [if_neg]
  intro h'
  have h2 := inR_take (k + 1) h'.2.2
  rw [Int.toNat_natCast, rst_take _ _ _ _ (by omega), rst_succ] at h2
  exact h (inR_of_snoc h2)
theorem rstF_len (o : Int) (xs : List Int) : (rstF o xs).length ≤ 4000 := by
  unfold rstF; split
  · rename_i h; rw [rst_length]; exact h.2.1.1
  · simp

/-- What a list's residue restores is the list. -/
theorem rst_res (o : Nat) (xs : List Int) (k : Nat) (hk : k ≤ xs.length) : rst o (resL o xs) k = xs.take k := by
  induction k with
  | zero => rfl
  | succ k ih =>
    rw [rst_succ, ih (by omega), take_snoc_getD xs 0 k (by omega)]
    congr 2
    unfold rstAt
    have e : (resL o xs).getD k 0 = resAt o xs k := tabN_getD _ _ k (by omega)
    rw [e]
    unfold resAt
    split
    · rw [gueZ_take o xs k k (Nat.le_refl _) (by assumption)]; omega
    · rfl
theorem rstF_resF {o : Nat} {xs : List Int} (ho : o ≤ 4) (h : LsOk (-67108864) 67108863 xs) : rstF (o : Int) (resF (o : Int) xs) = xs := by
  rw [resF_yes ho h]
  have e : rst o (resL o xs) (resL o xs).length = xs := by
    rw [resL_length, rst_res o xs _ (Nat.le_refl _), List.take_length]
  rw [rstF_yes ho ?_ ?_]
  · exact e
  · refine ⟨by simpa using h.1, fun j hj => ?_⟩
    have := resL_inR h.2 o ho j hj
    omega
  · rw [e]; exact h.2

/-! ### Two lists turned -/
def turA (way a b : Int) : Int := if way = 2 then (a + b) / 2 else a
def turB (way a b : Int) : Int := if way = 0 then b else a - b
def untA (way a b : Int) : Int := if way = 2 then a + (b + 1) / 2 else a
def untB (way a b : Int) : Int := if way = 2 then a + (b + 1) / 2 - b else if way = 1 then a - b else b
def two (f : Int → Int → Int → Int) (way : Int) (xs ys : List Int) : List Int := tabN xs.length (fun i => f way (xs.getD i 0) (ys.getD i 0))
@[simp] theorem two_length (f : Int → Int → Int → Int) (way : Int) (xs ys : List Int) : (two f way xs ys).length = xs.length := by simp [two]
theorem two_getD (f : Int → Int → Int → Int) (way : Int) (xs ys : List Int) (k : Nat) (h : k < xs.length) : (two f way xs ys).getD k 0 = f way (xs.getD k 0) (ys.getD k 0) := tabN_getD _ _ k h
def PairOk (lo hi way : Int) (xs ys : List Int) : Prop := (0 ≤ way ∧ way ≤ 2) ∧ xs.length = ys.length ∧ LsOk lo hi xs ∧ LsOk lo hi ys
noncomputable def pairB (lo hi way : Int) (xs ys : List Int) : Bool := open Classical in decide (PairOk lo hi way xs ys)
theorem pairB_yes {lo hi way : Int} {xs ys : List Int} (h : PairOk lo hi way xs ys) : pairB lo hi way xs ys = true := by unfold pairB; simpa using h
theorem pairB_no {lo hi way : Int} {xs ys : List Int} (h : ¬ PairOk lo hi way xs ys) : pairB lo hi way xs ys = false := by unfold pairB; simpa using h
theorem pairB_eq (lo hi way : Int) (xs ys : List Int) (h0 : 0 ≤ way) (h2 : way < 3) (hl : xs.length = ys.length) : pairB lo hi way xs ys = (lsB lo hi xs && lsB lo hi ys) := by
  by_cases h : PairOk lo hi way xs ys
  · rw [pairB_yes h, lsB_yes h.2.2.1, lsB_yes h.2.2.2]; rfl
  · rw [pairB_no h]
    symm
    rw [Bool.and_eq_false_iff]
    by_cases h3 : LsOk lo hi xs
    · exact .inr (lsB_no (fun h4 => h ⟨⟨h0, by omega⟩, hl, h3, h4⟩))
    · exact .inl (lsB_no h3)
noncomputable def turF (f : Int → Int → Int → Int) (way : Int) (xs ys : List Int) : List Int := open Classical in if PairOk (-67108864) 67108863 way xs ys then two f way xs ys else []
def UntOk (way : Int) (xs ys : List Int) : Prop := PairOk (-268435456) 268435455 way xs ys ∧ InR (-67108864) 67108863 (two untA way xs ys) ∧ InR (-67108864) 67108863 (two untB way xs ys)
noncomputable def untF (f : Int → Int → Int → Int) (way : Int) (xs ys : List Int) : List Int := open Classical in if UntOk way xs ys then two f way xs ys else []
theorem turF_yes {f : Int → Int → Int → Int} {way : Int} {xs ys : List Int} (h : PairOk (-67108864) 67108863 way xs ys) : turF f way xs ys = two f way xs ys := by unfold turF; rw [if_pos h]
theorem turF_no {f : Int → Int → Int → Int} {way : Int} {xs ys : List Int} (h : ¬ PairOk (-67108864) 67108863 way xs ys) : turF f way xs ys = [] := by unfold turF; rw [if_neg h]
theorem untF_yes {f : Int → Int → Int → Int} {way : Int} {xs ys : List Int} (h : UntOk way xs ys) : untF f way xs ys = two f way xs ys := by unfold untF; rw [if_pos h]
theorem untF_no {f : Int → Int → Int → Int} {way : Int} {xs ys : List Int} (h : ¬ UntOk way xs ys) : untF f way xs ys = [] := by unfold untF; rw [if_neg h]
theorem turF_len (f : Int → Int → Int → Int) (way : Int) (xs ys : List Int) : (turF f way xs ys).length ≤ 1048576 := by
  unfold turF; split
  · rename_i h; rw [two_length]; have := h.2.2.1.1; omega
  · simp
theorem untF_len (f : Int → Int → Int → Int) (way : Int) (xs ys : List Int) : (untF f way xs ys).length ≤ 1048576 := by
  unfold untF; split
  · rename_i h; rw [two_length]; have := h.1.2.2.1.1; omega
  · simp
theorem turA_bd (way a b : Int) (h1 : -67108864 ≤ a ∧ a ≤ 67108863) (h2 : -67108864 ≤ b ∧ b ≤ 67108863) : -67108864 ≤ turA way a b ∧ turA way a b ≤ 67108863 := by
  unfold turA; split <;> omega
theorem turB_bd (way a b : Int) (h1 : -67108864 ≤ a ∧ a ≤ 67108863) (h2 : -67108864 ≤ b ∧ b ≤ 67108863) : -134217728 ≤ turB way a b ∧ turB way a b ≤ 134217728 := by
  unfold turB; split <;> omega
theorem unt_turA (way a b : Int) (hw : 0 ≤ way ∧ way ≤ 2) : untA way (turA way a b) (turB way a b) = a := by
  unfold untA turA turB
  rcases (show way = 0 ∨ way = 1 ∨ way = 2 by omega) with e | e | e <;> subst e <;> simp <;> omega
theorem unt_turB (way a b : Int) (hw : 0 ≤ way ∧ way ≤ 2) : untB way (turA way a b) (turB way a b) = b := by
  unfold untB turA turB
  rcases (show way = 0 ∨ way = 1 ∨ way = 2 by omega) with e | e | e <;> subst e <;> simp <;> omega
theorem ext_getDI {xs ys : List Int} (hl : xs.length = ys.length) (h : ∀ j, j < xs.length → xs.getD j 0 = ys.getD j 0) : xs = ys := by
  apply List.ext_getElem hl
  intro j h1 h2
  have := h j h1
  rwa [List.getD_eq_getElem?_getD, List.getD_eq_getElem?_getD, List.getElem?_eq_getElem h1, List.getElem?_eq_getElem h2] at this
theorem unt_tur {way : Int} {xs ys : List Int} (h : PairOk (-67108864) 67108863 way xs ys) :
    untF untA way (turF turA way xs ys) (turF turB way xs ys) = xs ∧ untF untB way (turF turA way xs ys) (turF turB way xs ys) = ys := by
  rw [turF_yes h, turF_yes h]
  obtain ⟨hw, hl, hx, hy⟩ := h
  have eA : two untA way (two turA way xs ys) (two turB way xs ys) = xs := ext_getDI (by simp) (fun j hj => by
    rw [two_length, two_length] at hj
    rw [two_getD _ _ _ _ _ (by simpa using hj), two_getD _ _ _ _ _ hj, two_getD _ _ _ _ _ hj, unt_turA _ _ _ hw])
  have eB : two untB way (two turA way xs ys) (two turB way xs ys) = ys := ext_getDI (by simpa using hl) (fun j hj => by
    rw [two_length, two_length] at hj
    rw [two_getD _ _ _ _ _ (by simpa using hj), two_getD _ _ _ _ _ hj, two_getD _ _ _ _ _ hj, unt_turB _ _ _ hw])
  have hok : UntOk way (two turA way xs ys) (two turB way xs ys) := by
    refine ⟨⟨hw, by simp, ⟨by simpa using hx.1, fun j hj => ?_⟩, ⟨by simpa using hx.1, fun j hj => ?_⟩⟩, by rw [eA]; exact hx.2, by rw [eB]; exact hy.2⟩
    · rw [two_length] at hj
      rw [two_getD _ _ _ _ _ hj]
      have := turA_bd way _ _ (hx.2 j hj) (hy.2 j (by omega))
      omega
    · rw [two_length] at hj
      rw [two_getD _ _ _ _ _ hj]
      have := turB_bd way _ _ (hx.2 j hj) (hy.2 j (by omega))
      omega
  rw [untF_yes hok, untF_yes hok]
  exact ⟨eA, eB⟩
end Go.Proofs.Ytbdegomnlconjaa

/- Which lists are lists of chapter 10: the walks of both sides. -/
namespace Go.Proofs.Ytbdegomnlconjaa
open Go.RowKit

theorem lsB_len {lo hi : Int} {zs : List Int} (h : InR lo hi zs) : lsB lo hi zs = decide (zs.length ≤ 4000) := by
  by_cases hl : zs.length ≤ 4000
  · rw [lsB_yes ⟨hl, h⟩, decide_eq_true hl]
  · rw [lsB_no (fun h' => hl h'.1), decide_eq_false hl]

set_option maxHeartbeats 4000000 in
theorem specL10List (ad : Option Addr) (cap : Nat) (zs : List Int) (w : World) (hn : zs.length ≤ 1048576) (hA : ArgI w ad zs) :
    Calls Try.prog 101 #[.slice ad zs.length cap] w fun e w' => e = .returned (.bool (lsB (-67108864) 67108863 zs)) ∧ Upd 0 0 w w' := by
  replace hA := hide hA
  have hNo : Hid (∀ k, k < zs.length → ¬ ((-67108864 : Int) ≤ zs.getD k 0 ∧ zs.getD k 0 ≤ 67108863) → lsB (-67108864) 67108863 zs = false) := hide (fun k hk h => lsB_no (fun h' => h (h'.2 k hk)))
  have hYes : Hid ((∀ j, j < zs.length → ((-67108864 : Int) ≤ zs.getD j 0 ∧ zs.getD j 0 ≤ 67108863)) → lsB (-67108864) 67108863 zs = decide (zs.length ≤ 4000)) := hide (fun h => lsB_len h)
  generalize lsB (-67108864) 67108863 zs = R at hNo hYes ⊢
  go_enter Try.func101, Try.ntmps101
  go_wp2
  go_loop [7] (fun i => ∃ k : Nat, k ≤ zs.length ∧ i = .int .i64 k ∧ Hid (∀ j, j < k → ((-67108864 : Int) ≤ zs.getD j 0 ∧ zs.getD j 0 ≤ 67108863))) (fun i => zs.length - (intOf i).toNat)
  case atStart => exact ⟨0, Nat.zero_le _, rfl, fun j hj => by omega⟩
  case round =>
    obtain ⟨k, hk', rfl, hok⟩ := hrel
    by_cases hlt : k < zs.length
    · obtain ⟨bb, off, rfl, hbl, hcl⟩ := (unhide hA) (ne_of_lt_length hlt)
      have hck := hcl k hlt
      have hbad := hide (unhide hNo k hlt)
      have hOk : Hid (((-67108864 : Int) ≤ zs.getD k 0 ∧ zs.getD k 0 ≤ 67108863) → ∀ j, j < k + 1 → ((-67108864 : Int) ≤ zs.getD j 0 ∧ zs.getD j 0 ≤ 67108863)) := hide (fun h j hj => by
        rcases Nat.lt_or_eq_of_le (Nat.le_of_lt_succ hj) with h' | h'
        · exact unhide hok j h'
        · subst h'; exact h)
      clear hcl hbl
      generalize zs.getD k 0 = x at hck hbad hOk
      by_cases h1 : x < -67108864
      · have hB := hide (unhide hbad (fun h => by have := h.1; omega))
        clear hbad hOk
        go_wp2
        go_ret
        exact ⟨by rw [unhide hB]; rfl, Upd.refl 0 0 _⟩
      · by_cases h2 : 67108863 < x
        · have hB := hide (unhide hbad (fun h => by have := h.2; omega))
          clear hbad hOk
          go_wp2
          go_ret
          exact ⟨by rw [unhide hB]; rfl, Upd.refl 0 0 _⟩
        · have hok2 := hide (unhide hOk ⟨by omega, by omega⟩)
          clear hbad hOk
          go_wp2
          all_goals
            go_round
            case rel => exact ⟨k + 1, by omega, by go_num, unhide hok2⟩
            case measure => simp [intOf]; omega
    · have hkl : k = zs.length := by omega
      subst hkl
      have hs := hide (unhide hYes (unhide hok))
      have hb : decide ((zs.length : Int) ≤ 4000) = decide (zs.length ≤ 4000) := by rw [Bool.eq_iff_iff]; simp; omega
      go_wp2
      go_ret
      exact ⟨by rw [unhide hs]; first | rfl | (rw [hb]; done), Upd.refl 0 0 _⟩

/-- The ends of numbers of so many bits. -/
def loB (b : Nat) : Int := -(2 ^ (b - 1) : Nat)
def hiB (b : Nat) : Int := (2 ^ (b - 1) : Nat) - 1
theorem loB_27 : loB 27 = -67108864 := rfl
theorem hiB_27 : hiB 27 = 67108863 := rfl
theorem loB_29 : loB 29 = -268435456 := rfl
theorem hiB_29 : hiB 29 = 268435455 := rfl
theorem loB_32 : loB 32 = -2147483648 := rfl
theorem hiB_32 : hiB 32 = 2147483647 := rfl
theorem pow_small (c : Nat) (h : c ≤ 61) : (1 : Int) ≤ 2 ^ c ∧ (2 : Int) ^ c ≤ 2305843009213693952 := by
  have h1 : 2 ^ c ≤ 2 ^ 61 := Nat.pow_le_pow_right (by omega) h
  have h2 : 1 ≤ 2 ^ c := Nat.one_le_two_pow
  have e : ((2 ^ c : Nat) : Int) = (2 : Int) ^ c := by rw [Int.natCast_pow]; rfl
  rw [← e]
  have e61 : (2 : Nat) ^ 61 = 2305843009213693952 := by decide
  rw [e61] at h1
  omega
theorem wrap64_in (n : Int) (h : -9223372036854775808 ≤ n ∧ n ≤ 9223372036854775807) : wrap64 n = n := by unfold wrap64; omega
set_option maxHeartbeats 4000000 in
theorem implHasBits (n : Int) (b : Nat) (w : World) (h1 : 1 ≤ b) (h2 : b ≤ 62) : Calls Try.prog 127 #[.int .i64 n, .int .i64 (b : Int)] w fun e w' => e = .returned (.bool (decide (loB b ≤ n ∧ n ≤ hiB b))) ∧ w' = w := by
  obtain ⟨c, hc⟩ : ∃ c, b - 1 = c := ⟨_, rfl⟩
  have hw : IntKind.i64.wrap ((b : Int) - 1) = (c : Int) := by simp [IntKind.wrap, IntKind.bits, IntKind.signed]; omega
  have e1 : (b : Int) - 1 = (c : Int) := by omega
  have hp := pow_small c (by omega)
  have el : loB b = -(2 : Int) ^ c := by unfold loB; rw [hc, Int.natCast_pow]; rfl
  have eh : hiB b = (2 : Int) ^ c - 1 := by unfold hiB; rw [hc, Int.natCast_pow]; rfl
  rw [el, eh]
  have hw1 : wrap64 (-(2 : Int) ^ c) = -(2 : Int) ^ c := wrap64_in _ (by omega)
  have hw2 : wrap64 ((2 : Int) ^ c) = (2 : Int) ^ c := wrap64_in _ (by omega)
  replace hw1 := hide hw1
  replace hw2 := hide hw2
  have hcb : c ≤ 61 := by omega
  clear el eh hp hc h1 h2
  go_enter Try.func127, Try.ntmps127
  go_wp2
  all_goals
    rename_i h
    rw [unhide hw1] at h
    go_ret
    refine ⟨?_, rfl⟩
    first
      | (show Ending.returned (Value.bool (decide (n < wrap64 ((2 : Int) ^ c)))) = _
         rw [unhide hw2]
         congr 2
         rw [Bool.eq_iff_iff]
         simp
         omega)
      | (show Ending.returned (Value.bool false) = _
         congr 2
         rw [Bool.eq_iff_iff]
         simp
         omega)
theorem lsB_ends (b : Nat) (zs : List Int) (k : Nat) (hk : k < zs.length) (h : decide (loB b ≤ zs.getD k 0 ∧ zs.getD k 0 ≤ hiB b) = false) : lsB (loB b) (hiB b) zs = false :=
  lsB_no (fun h' => of_decide_eq_false h (h'.2 k hk))
set_option maxHeartbeats 4000000 in
theorem implGoodNumbers (ad : Option Addr) (cap : Nat) (zs : List Int) (b : Nat) (w : World) (h1 : 1 ≤ b) (h2 : b ≤ 62) (hn : zs.length ≤ 1048576) (hA : ArgI w ad zs) :
    Calls Try.prog 114 #[.slice ad zs.length cap, .int .i64 (b : Int)] w fun e w' => e = .returned (.bool (lsB (loB b) (hiB b) zs)) ∧ Upd 0 0 w w' := by
  replace hA := hide hA
  have hNo := hide (lsB_ends b zs)
  have hYes : Hid ((∀ j, j < zs.length → decide (loB b ≤ zs.getD j 0 ∧ zs.getD j 0 ≤ hiB b) = true) → lsB (loB b) (hiB b) zs = decide (zs.length ≤ 4000)) := hide (fun h => lsB_len (fun j hj => of_decide_eq_true (h j hj)))
  have hC := hide (fun n W => implHasBits n b W h1 h2)
  generalize lsB (loB b) (hiB b) zs = R at hNo hYes ⊢
  clear h1 h2
  go_enter Try.func114, Try.ntmps114
  go_wp2
  go_loop [9] (fun i => ∃ k : Nat, k ≤ zs.length ∧ i = .int .i64 k ∧ Hid (∀ j, j < k → decide (loB b ≤ zs.getD j 0 ∧ zs.getD j 0 ≤ hiB b) = true)) (fun i => zs.length - (intOf i).toNat)
  case atStart => exact ⟨0, Nat.zero_le _, rfl, fun j hj => by omega⟩
  case round =>
    obtain ⟨k, hk', rfl, hok⟩ := hrel
    by_cases hlt : k < zs.length
    · obtain ⟨bb, off, rfl, hbl, hcl⟩ := (unhide hA) (ne_of_lt_length hlt)
      have hck := hcl k hlt
      have hbad := hide (unhide hNo k hlt)
      have hOk : Hid (decide (loB b ≤ zs.getD k 0 ∧ zs.getD k 0 ≤ hiB b) = true → ∀ j, j < k + 1 → decide (loB b ≤ zs.getD j 0 ∧ zs.getD j 0 ≤ hiB b) = true) := hide (fun h j hj => by
        rcases Nat.lt_or_eq_of_le (Nat.le_of_lt_succ hj) with h' | h'
        · exact unhide hok j h'
        · subst h'; exact h)
      clear hcl hbl
      generalize zs.getD k 0 = x at hck hbad hOk
      have hCx := hide (fun W => unhide hC x W)
      generalize decide (loB b ≤ x ∧ x ≤ hiB b) = q at hCx hbad hOk
      cases q
      · have hB := hide (unhide hbad rfl)
        clear hbad hOk
        go_wp2_with fail
        refine (unhide hCx _).mono ?_
        rintro e w1 ⟨rfl, rfl⟩
        go_wp2
        go_ret
        exact ⟨by rw [unhide hB]; rfl, Upd.refl 0 0 _⟩
      · have hok2 := hide (unhide hOk rfl)
        clear hbad hOk
        go_wp2_with fail
        refine (unhide hCx _).mono ?_
        rintro e w1 ⟨rfl, rfl⟩
        go_wp2
        go_round
        case rel => exact ⟨k + 1, by omega, by go_num, unhide hok2⟩
        case measure => simp [intOf]; omega
    · have hkl : k = zs.length := by omega
      subst hkl
      have hs := hide (unhide hYes (unhide hok))
      have hb : decide ((zs.length : Int) ≤ 4000) = decide (zs.length ≤ 4000) := by rw [Bool.eq_iff_iff]; simp; omega
      go_wp2
      go_ret
      exact ⟨by rw [unhide hs]; first | rfl | (rw [hb]; done), Upd.refl 0 0 _⟩
set_option maxHeartbeats 1000000 in
theorem implGoodList (ad : Option Addr) (cap : Nat) (zs : List Int) (w : World) (hn : zs.length ≤ 1048576) (hA : ArgI w ad zs) :
    Calls Try.prog 134 #[.slice ad zs.length cap] w fun e w' => e = .returned (.bool (lsB (-67108864) 67108863 zs)) ∧ Upd 0 0 w w' := by
  have hC := hide (fun W (h : ArgI W ad zs) => implGoodNumbers ad cap zs 27 W (by omega) (by omega) hn h)
  rw [loB_27, hiB_27] at hC
  replace hA := hide hA
  go_enter Try.func134, Try.ntmps134
  go_wp2_with fail
  refine (unhide hC _ (unhide hA)).mono ?_
  rintro e w1 ⟨rfl, hu⟩
  go_wp2
  go_ret
  exact ⟨rfl, hu⟩
end Go.Proofs.Ytbdegomnlconjaa

/- Pairs turned and unturned: which lists may be, and a pair's numbers; the program's walks. -/
namespace Go.Proofs.Ytbdegomnlconjaa
open Go.RowKit

set_option maxHeartbeats 4000000 in
theorem implGoodPairs (way : Int) (ad : Option Addr) (cap : Nat) (xs : List Int) (ad' : Option Addr) (cap' : Nat) (ys : List Int) (b : Nat) (w : World) (h1 : 1 ≤ b) (h2 : b ≤ 62) (hn : xs.length ≤ 1048576) (hn' : ys.length ≤ 1048576) (hA : ArgI w ad xs) (hA' : ArgI w ad' ys) :
    Calls Try.prog 131 #[.int .i64 way, .slice ad xs.length cap, .slice ad' ys.length cap', .int .i64 (b : Int)] w fun e w' => e = .returned (.bool (pairB (loB b) (hiB b) way xs ys)) ∧ Upd 0 0 w w' := by
  have hC := hide (fun W (h : ArgI W ad xs) => implGoodNumbers ad cap xs b W h1 h2 hn h)
  have hC' := hide (fun W (h : ArgI W ad' ys) => implGoodNumbers ad' cap' ys b W h1 h2 hn' h)
  replace hA := hide hA
  replace hA' := hide hA'
  clear h1 h2
  by_cases g0 : way < 0
  · rw [pairB_no (fun h => by have := h.1.1; omega)]
    go_enter Try.func131, Try.ntmps131
    go_wp2
    go_ret
    exact ⟨rfl, Upd.refl 0 0 _⟩
  by_cases g3 : 3 ≤ way
  · rw [pairB_no (fun h => by have := h.1.2; omega)]
    go_enter Try.func131, Try.ntmps131
    go_wp2
    go_ret
    exact ⟨rfl, Upd.refl 0 0 _⟩
  by_cases gl : xs.length = ys.length
  case neg =>
    rw [pairB_no (fun h => gl h.2.1)]
    have q : ((xs.length : Int) == (ys.length : Int)) = false := by rw [beq_eq_false_iff_ne]; omega
    clear gl
    go_enter Try.func131, Try.ntmps131
    go_wp2
    go_ret
    exact ⟨rfl, Upd.refl 0 0 _⟩
  rw [pairB_eq _ _ _ _ _ (by omega) (by omega) gl]
  have q : ((xs.length : Int) == (ys.length : Int)) = true := by rw [beq_iff_eq]; omega
  clear gl
  generalize lsB (loB b) (hiB b) xs = q1 at hC ⊢
  generalize lsB (loB b) (hiB b) ys = q2 at hC' ⊢
  cases q1
  · go_enter Try.func131, Try.ntmps131
    go_wp2_with fail
    refine (unhide hC _ (unhide hA)).mono ?_
    rintro e w1 ⟨rfl, hu⟩
    go_wp2
    go_ret
    exact ⟨rfl, hu⟩
  · go_enter Try.func131, Try.ntmps131
    go_wp2_with fail
    refine (unhide hC _ (unhide hA)).mono ?_
    rintro e w1 ⟨rfl, hu⟩
    have hA2 := hide ((unhide hA').below hu.none)
    replace hu := hide hu
    go_wp2_with fail
    refine (unhide hC' _ (unhide hA2)).mono ?_
    rintro e w2 ⟨rfl, hu2⟩
    go_wp2
    go_ret
    exact ⟨rfl, (unhide hu).trans hu2⟩

set_option maxHeartbeats 2000000 in
theorem implUnturned (way a b : Int) (w : World) (hw : 0 ≤ way ∧ way ≤ 2) (ha : -268435456 ≤ a ∧ a ≤ 268435455) (hb : -268435456 ≤ b ∧ b ≤ 268435455) :
    Calls Try.prog 133 #[.int .i64 way, .int .i64 a, .int .i64 b] w fun e w' => e = .returned (.tuple #[.int .i64 (untA way a b), .int .i64 (untB way a b)]) ∧ w' = w := by
  obtain ⟨a1, a2⟩ := ha
  obtain ⟨b1, b2⟩ := hb
  rcases (show way = 0 ∨ way = 1 ∨ way = 2 by omega) with e | e | e <;> subst e
  · have e1 : untA 0 a b = a := rfl
    have e2 : untB 0 a b = b := rfl
    rw [e1, e2]
    go_enter Try.func133, Try.ntmps133
    go_wp2
    go_ret2
    exact ⟨rfl, rfl⟩
  · have e1 : untA 1 a b = a := rfl
    have e2 : untB 1 a b = a - b := rfl
    rw [e1, e2]
    clear e1 e2
    go_enter Try.func133, Try.ntmps133
    go_wp2
    go_ret2
    exact ⟨rfl, rfl⟩
  · have e1 : untA 2 a b = a + (b + 1) / 2 := rfl
    have e2 : untB 2 a b = a + (b + 1) / 2 - b := rfl
    rw [e1, e2]
    clear e1 e2
    go_enter Try.func133, Try.ntmps133
    go_wp2
    go_ret2
    exact ⟨rfl, rfl⟩
end Go.Proofs.Ytbdegomnlconjaa

/- A region that draws its order, whose operations read old memory and whose calls only lay new blocks: one walk of the text's order serves. -/
namespace Go.Proofs.Ytbdegomnlconjaa
open Go.RowKit

/-- The worlds in which all that was there is as it was. -/
def UpdT (w : World) : Type := { w' : World // Upd 0 0 w w' }
def UpdT.to {w : World} (x : UpdT w) : World := x.1
instance (w : World) : Nonempty (UpdT w) := ⟨⟨w, Upd.refl _ _ _⟩⟩
theorem UpdT.upd {w : World} (x : UpdT w) : Upd 0 0 w x.to := x.2
theorem wp_region_upd {P : Program} {id : Nat} {Q : Exit → Act → World → Prop} {a : Act} {w : World} {l : List Oper} (hm : P.follows .mixedOrders = true) (hB : Region.lexB .any l.toArray = true)
    (h : wpQuiet P l.toArray (fun w' => ∃ x : UpdT w, w' = x.to) (fun a' => ∀ w', (∃ x : UpdT w, w' = x.to) → Q .normal a' w') l a) : (Code.region id l.toArray true).wp P Q a w :=
  wp_region_quiet (C := fun w' => ∃ x : UpdT w, w' = x.to) hm hB ⟨⟨{ w with drawn := w.drawn + 1 }, ⟨rfl, rfl, rfl, Nat.le_refl _, fun _ _ _ => rfl⟩⟩, rfl⟩ (by simpa using h)
/-- A call that only lays new blocks, in such a world. -/
theorem Calls.updT {P : Program} {f : FuncId} {args : Array Value} {w : World} {v : Value} (x : UpdT w) (h : Calls P f args x.to fun e w' => e = .returned v ∧ Upd 0 0 x.to w') :
    Calls P f args x.to fun e w' => e = .returned v ∧ ∃ y : UpdT w, w' = y.to :=
  h.mono fun _ w' ⟨he, hu⟩ => ⟨he, ⟨w', x.upd.trans hu⟩, rfl⟩
theorem Calls.updT_same {P : Program} {f : FuncId} {args : Array Value} {w : World} {v : Value} (x : UpdT w) (h : Calls P f args x.to fun e w' => e = .returned v ∧ w' = x.to) :
    Calls P f args x.to fun e w' => e = .returned v ∧ ∃ y : UpdT w, w' = y.to :=
  h.mono fun _ _ ⟨he, hw⟩ => ⟨he, x, hw⟩
theorem Held.updT {w : World} {g : Nat} {cs : List Value} (h : Held w g cs) (x : UpdT w) : Held x.to g cs := h.keep x.upd
end Go.Proofs.Ytbdegomnlconjaa

/- The walk of a region that draws its order, behind a wrapper that no elaborator looks through (a guard's test is then never evaluated unasked). -/
namespace Go.Proofs.Ytbdegomnlconjaa
open Go.RowKit

structure WQ (P : Program) (ops : Array Oper) (C : World → Prop) (Q : Act → Prop) (l : List Oper) (a : Act) : Prop where
  h : wpQuiet P ops C Q l a
theorem WQ.nil {P : Program} {ops : Array Oper} {C : World → Prop} {Q : Act → Prop} {a : Act} (h : Q a) : WQ P ops C Q [] a := ⟨h⟩
theorem WQ.step {P : Program} {ops : Array Oper} {C : World → Prop} {Q : Act → Prop} {a : Act} {o : Oper} {rest : List Oper}
    (h : ∀ K : Act → Prop, (∀ a, WQ P ops C Q rest a → K a) → if Region.wanted o (yielded ops a.tmps) then o.quiet P a C K else K (a.put o.dst undef)) : WQ P ops C Q (o :: rest) a :=
  ⟨wpQuiet_step (fun K hK => h K (fun a ha => hK a ha.h))⟩
theorem wq_region_upd {P : Program} {id : Nat} {Q : Exit → Act → World → Prop} {a : Act} {w : World} {l : List Oper} (hm : P.follows .mixedOrders = true) (hB : Region.lexB .any l.toArray = true)
    (h : WQ P l.toArray (fun w' => ∃ x : UpdT w, w' = x.to) (fun a' => ∀ w', (∃ x : UpdT w, w' = x.to) → Q .normal a' w') l a) : (Code.region id l.toArray true).wp P Q a w :=
  wp_region_upd hm hB h.h
end Go.Proofs.Ytbdegomnlconjaa

/- A region that draws its order: a head of operations that are quiet in a class of worlds (loads, arithmetic, calls that lay new blocks alone), and a tail that waits for all of them: the head is walked once, in the text's order; the tail behind it. -/
namespace Go.Proofs.Ytbdegomnlconjaa
open Go.RowKit

section
variable {P : Program} {ops : Array Oper} {md : Region.Mode} {C : World → Prop}
/-- Whatever order is picked among the first n, with 'L' to be shown behind them. -/
def wpHeadQ (P : Program) (md : Region.Mode) (ops : Array Oper) (C : World → Prop) (n : Nat) (L : Array Bool → Act → Prop) : Nat → Array Bool → Act → Prop
  | 0, b, a => L b a
  | f + 1, b, a => Region.ready md ops b ≠ [] ∧ ∀ i ∈ Region.ready md ops b, i < n ∧ qOp P ops C i (wpHeadQ P md ops C n L f (b.setIfInBounds i true)) a
theorem wpAny_of_headQ {n g : Nat} {L : Array Bool → Act → Prop} {Q' : Exit → Act → World → Prop} (hL : ∀ b a w, C w → L b a → wpAny P md ops Q' g b a w) (f : Nat) :
    ∀ (b : Array Bool) (a : Act) (w : World), C w → wpHeadQ P md ops C n L f b a → wpAny P md ops Q' (f + g) b a w := by
  induction f with
  | zero => intro b a w hC h; rw [Nat.zero_add]; exact hL _ _ _ hC h
  | succ f ih =>
    intro b a w hC h
    rw [show f + 1 + g = (f + g) + 1 by omega]
    exact ⟨fun h0 => absurd h0 h.1, fun i hi => wpOp_of_qOp hC (fun a' w' hC' h' => ih _ a' w' hC' h') (h.2 i hi).2⟩
theorem wpHeadQ_first {n i : Nat} {oi : Oper} {v : Value} {L : Array Bool → Act → Prop} (hi : ops[i]? = some oi) (hsel : ∀ (j : Nat) (o : Oper) cs b, ops[j]? = some o → o.op ≠ .select cs b)
    (hs : Region.sinkB md ops n = true) (hc : Region.chainB md ops n = true) (hn : n < ops.size) (hin : i < n) (hdone : ∀ b a, L b a → ∀ j ∈ Region.ready md ops b, n ≤ j) (f : Nat) :
    ∀ (b : Array Bool) (a : Act), HeadInv md ops n b →
      (∀ j oj, ops[j]? = some oj → j ≠ i → b.getD j true = false → (∀ e ∈ oj.after, Region.binds md e = true → e.on ≠ i) → oi.apart ops oj = true) →
      i ∈ Region.ready md ops b → YieldsIn P ops C oi v a →
      wpHeadQ P md ops C n L f (b.setIfInBounds i true) (a.put oi.dst v) → wpHeadQ P md ops C n L (f + 1) b a := by
  induction f with
  | zero =>
    intro b a inv _ hr hy H
    refine ⟨fun h => (by rw [h] at hr; cases hr), fun j hj => ?_⟩
    have hjn : j < n := Nat.lt_of_not_le fun h => tail_waits hs hc hn inv _ i rfl hin (mem_ready.1 hr).1 j h hj
    refine ⟨hjn, ?_⟩
    by_cases hji : j = i
    · subst hji; exact hy.qOp hi H
    · exact absurd (hdone _ _ H j (ready_mono hj hji)) (by omega)
  | succ f ih =>
    intro b a inv hfree hr hy H
    refine ⟨fun h => (by rw [h] at hr; cases hr), fun j hj => ?_⟩
    have hun := (mem_ready.1 hr).1
    have hjn : j < n := Nat.lt_of_not_le fun h => tail_waits hs hc hn inv _ i rfl hin hun j h hj
    refine ⟨hjn, ?_⟩
    by_cases hji : j = i
    · subst hji; exact hy.qOp hi H
    · obtain ⟨hjun, oj, hoj, hall⟩ := mem_ready.1 hj
      have hnot : ∀ e ∈ oj.after, Region.binds md e = true → e.on ≠ i := fun e he hb heq => by
        have h1 := hall e he hb
        rw [heq, getD_both hun] at h1
        cases h1
      have h2 := qOp_put hoj (hfree j oj hoj hji hjun hnot) (fun cs b => hsel i oi cs b hi) (fun cs b => hsel j oj cs b hoj) hy (H.2 j (ready_mono hj hji)).2
      refine qOp_mono (fun a' h3 => ih (b.setIfInBounds j true) a' (inv.set hj hjn) (fun k ok hk hki hun' hno => hfree k ok hk hki ?_ hno) (ready_mono hr (Ne.symm hji)) h3.1 ?_) h2
      · by_cases hjk : j = k
        · subst hjk; exact hjun
        · rw [getD_set_ne true hjk] at hun'; exact hun'
      · rw [Array.setIfInBounds_comm _ _ hji]
        exact h3.2
theorem wpHeadQ_lex {n g : Nat} {Lq : Act → Prop} (hsel : Region.noSelect ops = true) (hs : Region.sinkB md ops n = true) (hc : Region.chainB md ops n = true) (hn : n < ops.size) (l : List Oper) :
    ∀ (k : Nat) (b : Array Bool) (a : Act), (∀ j, j < l.length → l[j]? = ops[k + j]?) → k + l.length = n → HeadInv md ops n b →
    Region.lexHead md ops g l.length k b = true → wpQuiet P ops C Lq l a → wpHeadQ P md ops C n (fun b' a' => Region.seqB md ops g n b' = true ∧ Lq a') l.length b a := by
  induction l with
  | nil =>
    intro k b a hl hk inv hB h
    have hkn : k = n := by simpa using hk
    subst hkn
    exact ⟨by simpa [Region.lexHead] using hB, h⟩
  | cons o l ih =>
    intro k b a hl hk inv hB h
    have h0 : ops[k]? = some o := by simpa using (hl 0 (by simp)).symm
    simp only [List.length_cons, Region.lexHead, Bool.and_eq_true] at hB
    obtain ⟨⟨hr, hf⟩, hB'⟩ := hB
    have hkn : k < n := by simp only [List.length_cons] at hk; omega
    have hr' : k ∈ Region.ready md ops b := by simpa using hr
    have hst : qOp P ops C k (wpQuiet P ops C Lq l) a := by unfold qOp; simp only [h0]; exact h
    obtain ⟨v, hy, hK⟩ := yieldsIn_of_qOp h0 hst
    exact wpHeadQ_first h0 (Region.noSelect_spec hsel) hs hc hn hkn (fun b' a' hL => seqB_ready hL.1) l.length b a inv (Region.free_spec h0 hf) hr' hy
      (ih (k + 1) _ _ (fun j hj => by have := hl (j + 1) (by simp; omega); simpa [Nat.add_assoc, Nat.add_comm 1 j] using this) (by simp only [List.length_cons] at hk; omega) (inv.set hr' hkn) hB' hK)
theorem wp_region_quiet_tail {id : Nat} {Q : Exit → Act → World → Prop} {a : Act} {w : World} {l : List Oper} (n : Nat) (hm : P.follows .mixedOrders = true) (hB : Region.lexTailB .any l.toArray n = true) (hC : C { w with drawn := w.drawn + 1 })
    (h : wpQuiet P l.toArray C (fun a' => ∀ w', C w' → wpList P l.toArray Q (l.drop n) a' w') (l.take n) a) : (Code.region id l.toArray true).wp P Q a w := by
  simp only [Region.lexTailB, Bool.and_eq_true, decide_eq_true_eq] at hB
  obtain ⟨⟨⟨⟨hsel, hn⟩, hs⟩, hc⟩, hlex⟩ := hB
  have hn' : n < l.length := by simpa using hn
  have htl : (l.take n).length = n := by simp; omega
  have hdl : (l.drop n).length = l.toArray.size - n := by simp
  have inv0 : HeadInv .any l.toArray n (Array.replicate l.toArray.size false) :=
    ⟨by simp, fun j oj _ hl => (by rw [getD_replicate_false] at hl; cases hl), fun t _ ht => getD_in (by simpa using ht) (getD_replicate_false _ _)⟩
  have H := wpHeadQ_lex (md := .any) (g := l.toArray.size - n) hsel hs hc hn (l.take n) 0 _ a (fun j hj => by
    have hj' : j < n := by rw [htl] at hj; exact hj
    simp [hj']) (by simpa using htl) inv0 (by rw [htl]; exact hlex) h
  refine wp_region_any hm ?_
  have := wpAny_of_headQ (Q' := Q) (g := l.toArray.size - n) (fun b a' w' hC' hL => by
    have := wpAny_of_seq (md := .any) (Q' := Q) (l.drop n) n b a' w' (fun j => by simp [List.getElem?_drop]) (by rw [hdl]; exact hL.1) (hL.2 w' hC')
    rwa [hdl] at this) _ _ _ _ hC H
  rw [htl, show n + (l.toArray.size - n) = l.toArray.size by omega] at this
  exact this
end
/-- .. at the class 'all that was there is as it was', behind the wrapper. -/
theorem wq_region_tail {P : Program} {id : Nat} {Q : Exit → Act → World → Prop} {a : Act} {w : World} {l : List Oper} (n : Nat) (hm : P.follows .mixedOrders = true) (hB : Region.lexTailB .any l.toArray n = true)
    (h : WQ P l.toArray (fun w' => ∃ x : UpdT w, w' = x.to) (fun a' => ∀ w', (∃ x : UpdT w, w' = x.to) → wpList P l.toArray Q (l.drop n) a' w') (l.take n) a) : (Code.region id l.toArray true).wp P Q a w :=
  wp_region_quiet_tail (C := fun w' => ∃ x : UpdT w, w' = x.to) n hm hB ⟨⟨{ w with drawn := w.drawn + 1 }, ⟨rfl, rfl, rfl, Nat.le_refl _, fun _ _ _ => rfl⟩⟩, rfl⟩ h.h
end Go.Proofs.Ytbdegomnlconjaa

/- Appending ints to a row of the call's own, whatever slice they come in. -/
namespace Go.Proofs.Ytbdegomnlconjaa
open Go.RowKit

theorem ints_lengthA (zs : List Int) : (ints zs).length = zs.length := by simp [ints]
theorem ints_append (a b : List Int) : ints (a ++ b) = ints a ++ ints b := by simp [ints]
theorem ints_one (zs : List Int) : ∀ u ∈ ints zs, u.oneCell' = true := by
  intro u hu
  simp only [ints, List.mem_map] at hu
  obtain ⟨b, _, rfl⟩ := hu
  rfl
theorem ints_cells {w : World} {b off : Nat} {ys : List Int} (h : KindAt .i64 w b off ys) : ∀ j u, (ints ys)[j]? = some u → w.cell? ((⟨b, off, none⟩ : Addr).add j) = some u := by
  intro j u hu
  rw [add_cellAI]
  have hj : j < ys.length := by
    rcases Nat.lt_or_ge j ys.length with h' | h'
    · exact h'
    · rw [List.getElem?_eq_none (by rw [ints_lengthA]; exact h')] at hu; cases hu
  have := getD_map_int ys .i64 j hj
  unfold ints at hu
  rw [this] at hu
  cases hu
  exact h j hj
where
  add_cellAI {g o j : Nat} : (⟨g, o, none⟩ : Addr).add j = ⟨g, o + j, none⟩ := by unfold Addr.add; split <;> simp_all

/-- Ints that can be read: nil, or in the cells of a block. -/
def RdJ (w : World) (u : Value) (ys : List Int) : Prop := (u = .slice none 0 0 ∧ ys = []) ∨ ∃ b off cap, u = .slice (some ⟨b, off, none⟩) ys.length cap ∧ b < w.heap.size ∧ KindAt .i64 w b off ys
theorem RdJ.below {w w' : World} {u : Value} {ys : List Int} (h : RdJ w u ys) (hb : Below w.heap.size w w') : RdJ w' u ys := by
  rcases h with h | ⟨b, off, cap, e, hl, hc⟩
  · exact .inl h
  · exact .inr ⟨b, off, cap, e, Nat.lt_of_lt_of_le hl hb.size, fun j hj => (hb.cell (by simpa using hl)).trans (hc j hj)⟩
theorem RdJ.form {w : World} {u : Value} {ys : List Int} (h : RdJ w u ys) : ∃ ad cap, u = .slice ad ys.length cap := by
  rcases h with ⟨rfl, rfl⟩ | ⟨b, off, cap, rfl, _⟩
  · exact ⟨_, _, rfl⟩
  · exact ⟨_, _, rfl⟩
theorem rdJ_of_owns {w : World} {base : Nat} {v : Value} {zs : List Int} (h : w.ownsRow base 3 1 v zs.length (ints zs)) : RdJ w v zs := by
  rcases h.2 with ⟨rfl, hn⟩ | ⟨g, cap, cur, rfl, h1, h2, h3⟩
  · exact .inl ⟨rfl, List.length_eq_zero_iff.1 hn⟩
  · refine .inr ⟨g, 0, cap, rfl, (h.lt g rfl).2, fun j hj => ?_⟩
    rw [Nat.zero_add, h.cellAt j (by omega)]
    exact getD_map_int zs .i64 j hj
theorem rdJ_of_own {w : World} {a b : Nat} {v : Value} {zs : List Int} (h : OwnI w a b v zs) : RdJ w v zs := rdJ_of_owns h.1

theorem wpList_appI {ops : Array Oper} {rest : List Oper} {o : Oper} {a : Act} {Q : Exit → Act → World → Prop} {w : World} (hgd : o.guard = none) (s x : Operand)
    (ho : o.op = .call { callee := .builtin .append, args := #[s, x], argTypes := #[23, 23] }) (base : Nat) (v : Value) (zs : List Int) (hs : a.eval s = v)
    (hown : w.ownsRow base 3 1 v zs.length (ints zs)) (u : Value) (ys : List Int) (hx : a.eval x = u) (hr : RdJ w u ys) (h63 : zs.length + ys.length ≤ 1099511627776) (hbase : base ≤ w.heap.size)
    (h : ∀ v' w', w'.ownsRow base 3 1 v' (zs ++ ys).length (ints (zs ++ ys)) → w.grownBy w' v.ownBlock → (v'.ownBlock = v.ownBlock ∨ v'.ownBlock = some w.heap.size) → wpList Try.prog ops Q rest (a.put o.dst v') w') :
    wpList Try.prog ops Q (o :: rest) a w := by
  obtain ⟨i0, hi0, hz0, hz1, hz2⟩ := info_parts infoI
  rcases hr with ⟨rfl, rfl⟩ | ⟨b, off, cap, rfl, hl, hc⟩
  · refine wpList_append_own_none hgd s x 23 ho base 3 i0 1 Try.underlying23 hi0 v _ _ hs hown hx ?_
    refine h v w ?_ ⟨rfl, rfl, rfl, Nat.le_refl _, fun _ _ _ => rfl⟩ (.inl rfl)
    rw [List.append_nil]; exact hown
  · refine wpList_append_own_at _ hgd s x 23 ho base 3 i0 (.int .i64 0) 1 8 Try.underlying23 hi0 hz0 hz1 hz2 rfl (by decide) v zs.length (ints zs) hs hown ⟨b, off, none⟩ ys.length cap (ints ys) hx (by rw [ints_lengthA]; omega) (ints_cells hc) (ints_one ys) (by unfold maxLen; omega) (by omega) hbase ?_
    intro v' w' h1 h2 _ h4
    refine h v' w' ?_ h2 h4
    rw [List.length_append, ints_append]; exact h1

theorem own_nilI (w : World) (a b : Nat) : OwnI w a b (.slice none 0 0) [] := ⟨World.ownsRow_nil _ _ _ _, fun k hk => by simp [Value.ownBlock] at hk⟩
theorem upd_of_grownI {w w' : World} {a : Nat} {e : TypeId} {s : Nat} {v : Value} {n : Nat} {xs : List Value} (hg : w.grownBy w' v.ownBlock) (ho : w.ownsRow a e s v n xs) : Upd a w.heap.size w w' :=
  ⟨hg.os, hg.tape, hg.output, hg.size, fun k hk hn => hg.block k hk (fun e => by have := ho.lt k e.symm; omega)⟩
end Go.Proofs.Ytbdegomnlconjaa

/- A row of ints of a call's own, made full, under way: its cells, stores into it and into others. -/
namespace Go.Proofs.Ytbdegomnlconjaa
open Go.RowKit

def RowI (w : World) (g n : Nat) (xs : List Value) : Prop := w.ownsRow g 3 1 (.slice (some ⟨g, 0, none⟩) n n) n xs
theorem RowI.own {w : World} {g n : Nat} {xs : List Value} (h : RowI w g n xs) : Own 3 1 w g (g + 1) (.slice (some ⟨g, 0, none⟩) n n) n xs :=
  ⟨h, fun k hk => by simp [Value.ownBlock] at hk; omega⟩
theorem RowI.upd {w w' : World} {g n c e : Nat} {xs : List Value} (h : RowI w g n xs) (u : Upd c e w w') (hd : g + 1 ≤ c ∨ e ≤ g) : RowI w' g n xs := (h.own.upd u hd).1
theorem RowI.keep {w w' : World} {g n : Nat} {xs : List Value} (h : RowI w g n xs) (u : Upd 0 0 w w') : RowI w' g n xs := h.upd u (.inr (Nat.zero_le _))
theorem RowI.other {w : World} {g n c : Nat} {xs : List Value} (h : RowI w g n xs) (hne : c ≠ g) (o : Nat) (u : Value) : RowI (w.setCell ⟨c, o, none⟩ u) g n xs :=
  h.upd ((Upd.refl c (c + 1) w).setCell ⟨Nat.le_refl _, Nat.lt_succ_self _⟩ o u) (by omega)
theorem RowI.set {w : World} {g n : Nat} {xs : List Value} (h : RowI w g n xs) (k : Nat) (u : Value) : RowI (w.setCell ⟨g, k, none⟩ u) g n (xs.set k u) := (World.ownsRow.stored h k u).1
theorem RowI.len {w : World} {g n : Nat} {xs : List Value} (h : RowI w g n xs) : xs.length = n := by have h' : w.ownsRow g 3 1 (.slice (some ⟨g, 0, none⟩) n n) n xs := h; have := h'.1; omega
theorem RowI.cell {w : World} {g n : Nat} {xs : List Value} (h : RowI w g n xs) (k : Nat) (hk : k < n) : w.cell? ⟨g, k, none⟩ = xs[k]? := World.ownsRow.cellAt h k (by omega)
theorem RowI.frozen {w : World} {g n : Nat} {xs : List Value} (h : RowI w g n xs) (k : Nat) : w.frozen? ⟨g, k, none⟩ = false := World.ownsRow.frozenAt h k
theorem RowI.has {w : World} {g n : Nat} {xs : List Value} (h : RowI w g n xs) (k : Nat) (hk : k < n) : ∃ u, w.cell? ⟨g, k, none⟩ = some u := by
  rw [h.cell k hk]; exact ⟨_, List.getElem?_eq_getElem (by have := h.len; omega)⟩
theorem RowI.lt {w : World} {g n : Nat} {xs : List Value} (h : RowI w g n xs) : g < w.heap.size := by
  have h' : w.ownsRow g 3 1 (.slice (some ⟨g, 0, none⟩) n n) n xs := h
  exact (h'.lt g rfl).2
theorem RowI.ownI {w : World} {g : Nat} {zs : List Int} (h : RowI w g zs.length (ints zs)) : OwnI w g (g + 1) (.slice (some ⟨g, 0, none⟩) zs.length zs.length) zs := h.own
theorem RowI.alloc {w : World} {g n : Nat} {xs : List Value} (h : RowI w g n xs) (o : Obj) : RowI (w.alloc o) g n xs :=
  h.keep (Upd.of_below ((Below.refl w.heap.size w).alloc (Nat.le_refl _) o) 0 0)
theorem alloc_newR (w : World) (o : Obj) : (w.alloc o).heap[w.heap.size]? = Option.some o := by unfold World.alloc; simp
/-- A row of n numbers made in any world. -/
theorem mkRowI (n : Nat) (hn : n ≤ 1048576) : ∃ o : Obj, ∀ (X : World), (Instr.makeSlice 23 (.int .i64 (n : Int)) (.int .i64 (n : Int))).run Try.prog X = .ok (.slice (some ⟨X.heap.size, 0, none⟩) n n) (X.alloc o) ∧
    RowI (X.alloc o) X.heap.size n (List.replicate n (.int .i64 0)) := by
  obtain ⟨i0, hi, hz0, hz1, hz2⟩ := info_parts infoI
  refine ⟨.cells (madeCells (Value.int .i64 0).cells ((n : Int).toNat * i0.size)) 3, fun X => ⟨?_, ?_⟩⟩
  · have h := run_makeSlice (P := Try.prog) (w := X) 23 3 i0 (.int .i64 0) Try.underlying23 hi hz0 .i64 .i64 (n : Int) (n : Int) (by omega) (by omega) (by rw [hz1]; omega) (by rw [hz2]; omega) (by omega)
    simpa using h
  · refine ⟨by simp, .inr ⟨X.heap.size, n, _, rfl, Nat.le_refl _, alloc_newR X _, Nat.le_refl _, by unfold maxLen; omega, by rw [size_madeCells, hz1]; simp, ?_⟩⟩
    rw [hz1]
    simp [toList_madeCells_one, Value.cells]
end Go.Proofs.Ytbdegomnlconjaa

/- Two lists changed pair by pair: the program's walk. -/
namespace Go.Proofs.Ytbdegomnlconjaa
open Go.RowKit

theorem cell_updL {w : World} {p : Addr} {v : Value} (h : w.cell? p = some v) (hp : p.block < w.heap.size) (X : UpdT w) : X.to.cell? p = some v := (X.upd.none.cell hp).trans h
/-- Two lists of a call's own, in memory apart. -/
def TwoI (w w' : World) (va vb : Value) (A B : List Int) : Prop := ∃ a1 b1 a2 b2, w.heap.size ≤ a1 ∧ b1 ≤ w'.heap.size ∧ w.heap.size ≤ a2 ∧ b2 ≤ w'.heap.size ∧ (b1 ≤ a2 ∨ b2 ≤ a1) ∧ OwnI w' a1 b1 va A ∧ OwnI w' a2 b2 vb B
theorem twoI_nil (w w' : World) (h : w.heap.size ≤ w'.heap.size) : TwoI w w' (.slice none 0 0) (.slice none 0 0) [] [] :=
  ⟨w.heap.size, w.heap.size, w.heap.size, w.heap.size, Nat.le_refl _, h, Nat.le_refl _, h, .inl (Nat.le_refl _), own_nilI _ _ _, own_nilI _ _ _⟩

set_option maxHeartbeats 8000000 in
set_option maxRecDepth 100000 in
theorem implEachUnturned (way : Int) (ad : Option Addr) (cap : Nat) (xs : List Int) (ad' : Option Addr) (cap' : Nat) (ys : List Int) (w : World) (hw : 0 ≤ way ∧ way ≤ 2) (hn : xs.length ≤ 4000) (hl : ys.length = xs.length)
    (hx : InR (-268435456) 268435455 xs) (hy : InR (-268435456) 268435455 ys) (hA : ArgI w ad xs) (hA' : ArgI w ad' ys) :
    Calls Try.prog 132 #[.int .i64 way, .slice ad xs.length cap, .slice ad' ys.length cap', .func (.func 133) #[] #[]] w fun e w' => ∃ va vb, e = .returned (.tuple #[va, vb]) ∧ TwoI w w' va vb (two untA way xs ys) (two untB way xs ys) ∧ Upd 0 0 w w' := by
  obtain ⟨n, hnn⟩ : ∃ n, xs.length = n := ⟨_, rfl⟩
  rw [hl, hnn]
  rw [hnn] at hn hl
  obtain ⟨o, hmk⟩ := mkRowI n (by omega)
  have hmk1 := fun X => (hmk X).1
  have hmk2 := hide (fun X => (hmk X).2)
  clear hmk
  have hC := hide (fun a b W ha hb => implUnturned way a b W hw ha hb)
  have eA := hide (rfl : two untA way xs ys = two untA way xs ys)
  obtain ⟨A, hAe⟩ : ∃ A, two untA way xs ys = A := ⟨_, rfl⟩
  obtain ⟨B, hBe⟩ : ∃ B, two untB way xs ys = B := ⟨_, rfl⟩
  have hAl : A.length = n := by rw [← hAe, two_length, hnn]
  have hBl : B.length = n := by rw [← hBe, two_length, hnn]
  have hAg : Hid (∀ k, k < n → A.getD k 0 = untA way (xs.getD k 0) (ys.getD k 0)) := hide (fun k hk => by rw [← hAe]; exact two_getD _ _ _ _ _ (by omega))
  have hBg : Hid (∀ k, k < n → B.getD k 0 = untB way (xs.getD k 0) (ys.getD k 0)) := hide (fun k hk => by rw [← hBe]; exact two_getD _ _ _ _ _ (by omega))
  rw [hAe, hBe]
  clear hAe hBe eA
  have hz0 : partI A 0 = List.replicate n (.int .i64 0) := by rw [partI_zero, hAl]
  have hz1 : partI B 0 = List.replicate n (.int .i64 0) := by rw [partI_zero, hBl]
  replace hz0 := hide hz0
  replace hz1 := hide hz1
  replace hA := hide hA
  replace hA' := hide hA'
  replace hx := hide hx
  replace hy := hide hy
  replace hl := hide hl
  replace hnn := hide hnn
  replace hAl := hide hAl
  replace hBl := hide hBl
  clear hw
  go_enter Try.func132, Try.ntmps132
  go_wp2_with fail
  go_cut [10, 11] (fun s10 s11 wx => ∃ g h, s10 = .slice (some ⟨g, 0, none⟩) n n ∧ s11 = .slice (some ⟨h, 0, none⟩) n n ∧ g ≠ h ∧ w.heap.size ≤ g ∧ w.heap.size ≤ h ∧ Hid (RowI wx g n (partI A 0)) ∧ Hid (RowI wx h n (partI B 0)) ∧ Hid (Below w.heap.size w wx))
  case first =>
    go_region
    · have h1 := unhide hmk2 w
      have h2 := unhide hmk2 (w.alloc o)
      have hs : (w.alloc o).heap.size = w.heap.size + 1 := by simp
      rw [hs] at h2
      have r1 := hide ((h1.alloc o).keep (Upd.drew1 _))
      have r2 := hide (h2.keep (Upd.drew1 _))
      rw [← unhide hz0] at r1
      rw [← unhide hz1] at r2
      have r3 : Hid (Below w.heap.size w ((w.alloc o).alloc o).drew) := hide ((((Below.refl w.heap.size w).alloc (Nat.le_refl _) o).alloc (by simp) o).trans ⟨rfl, rfl, rfl, Nat.le_refl _, fun _ _ => rfl⟩)
      clear h1 h2 hs hmk1 hmk2
      go_wp2_with fail
      go_meet
      exact ⟨_, _, rfl, rfl, by omega, by omega, by omega, r1, r2, r3⟩
    · have h1 := unhide hmk2 w
      have h2 := unhide hmk2 (w.alloc o)
      have hs : (w.alloc o).heap.size = w.heap.size + 1 := by simp
      rw [hs] at h2
      have r1 := hide ((h1.alloc o).keep (Upd.drew1 _))
      have r2 := hide (h2.keep (Upd.drew1 _))
      rw [← unhide hz1] at r1
      rw [← unhide hz0] at r2
      have r3 : Hid (Below w.heap.size w ((w.alloc o).alloc o).drew) := hide ((((Below.refl w.heap.size w).alloc (Nat.le_refl _) o).alloc (by simp) o).trans ⟨rfl, rfl, rfl, Nat.le_refl _, fun _ _ => rfl⟩)
      clear h1 h2 hs hmk1 hmk2
      go_wp2_with fail
      go_meet
      exact ⟨_, _, rfl, rfl, by omega, by omega, by omega, r2, r1, r3⟩
  case rest =>
    obtain ⟨g, h, rfl, rfl, hne, hgw, hhw, hrA, hrB, hbel⟩ := hcut
    clear hmk1 hmk2 hz0 hz1
    go_wp2
    go_loopw [12, 21] (fun _ i wr => ∃ k : Nat, k ≤ n ∧ i = .int .i64 k ∧ Hid (RowI wr g n (partI A k)) ∧ Hid (RowI wr h n (partI B k)) ∧ Hid (Below w.heap.size w wr)) (fun _ i _ => n - (intOf i).toNat)
    case atStart => exact ⟨0, Nat.zero_le _, rfl, hrA, hrB, hbel⟩
    case round =>
      clear hrA hrB hbel
      obtain ⟨k, hk, rfl, hrA, hrB, hbel⟩ := hrel
      by_cases hlt : k < n
      · obtain ⟨b, off, rfl, hbl, hc⟩ := (unhide hA) (ne_of_lt_length (k := k) (by rw [unhide hnn]; exact hlt))
        obtain ⟨b', off', rfl, hbl', hc'⟩ := (unhide hA') (ne_of_lt_length (k := k) (by rw [unhide hl]; exact hlt))
        have hck := ((unhide hbel).cell (p := ⟨b, off + k, none⟩) (by simpa using hbl)).trans (hc k (by rw [unhide hnn]; exact hlt))
        have hck' := ((unhide hbel).cell (p := ⟨b', off' + k, none⟩) (by simpa using hbl')).trans (hc' k (by rw [unhide hl]; exact hlt))
        have hbx := (unhide hx) k (by rw [unhide hnn]; exact hlt)
        have hby := (unhide hy) k (by rw [unhide hl]; exact hlt)
        have gA := partI_set A k (by rw [unhide hAl]; exact hlt)
        have gB := partI_set B k (by rw [unhide hBl]; exact hlt)
        rw [unhide hAg k hlt] at gA
        rw [unhide hBg k hlt] at gB
        have hs1 := (unhide hbel).size
        have fb : b < wr.heap.size := by omega
        have fb' : b' < wr.heap.size := by omega
        have fx0 := cell_updL hck (by simpa using fb)
        have fy0 := cell_updL hck' (by simpa using fb')
        clear hc hc' hbl hbl' hck hck' fb fb' hs1
        generalize xs.getD k 0 = x at fx0 hbx gA gB
        generalize ys.getD k 0 = y at fy0 hby gA gB
        have hCx := hide (fun W => unhide hC x y W hbx hby)
        generalize untA way x y = p at hCx gA
        generalize untB way x y = q at hCx gB
        clear hbx hby
        have kI : (0 : Int) ≤ (k : Int) := by omega
        have kL : (k : Int) < (n : Int) := by omega
        go_upto_region 5 with fail
        have hnA := (unhide hrA).frozen k
        have hnB := (unhide hrB).frozen k
        have hck := fx0 ⟨wr, Upd.refl 0 0 wr⟩
        have hck' := fy0 ⟨wr, Upd.refl 0 0 wr⟩
        change wr.cell? ⟨b, off + k, none⟩ = some (.int .i64 x) at hck
        change wr.cell? ⟨b', off' + k, none⟩ = some (.int .i64 y) at hck'
        clear fx0 fy0
        obtain ⟨uA, hdA⟩ := (unhide hrA).has k hlt
        obtain ⟨uB, hdB⟩ := (unhide hrB).has k hlt
        have rA2 : Hid (RowI ((wr.setCell ⟨g, k, none⟩ (.int .i64 p)).setCell ⟨h, k, none⟩ (.int .i64 q)).drew g n (partI A (k + 1))) := hide (by
          have := (((unhide hrA).set k (.int .i64 p)).other (c := h) (Ne.symm hne) k (.int .i64 q)).keep (Upd.drew1 _)
          rw [gA] at this
          exact this)
        have rB2 : Hid (RowI ((wr.setCell ⟨g, k, none⟩ (.int .i64 p)).setCell ⟨h, k, none⟩ (.int .i64 q)).drew h n (partI B (k + 1))) := hide (by
          have := (((unhide hrB).other (c := g) hne k (.int .i64 p)).set k (.int .i64 q)).keep (Upd.drew1 _)
          rw [gB] at this
          exact this)
        have hb2 : Hid (Below w.heap.size w ((wr.setCell ⟨g, k, none⟩ (.int .i64 p)).setCell ⟨h, k, none⟩ (.int .i64 q)).drew) := hide (below_upd (((unhide hbel).setCell (p := ⟨g, k, none⟩) hgw (.int .i64 p)).setCell (p := ⟨h, k, none⟩) hhw (.int .i64 q)) (Upd.drew1 _) (Nat.le_refl _) (.inr (Nat.le_refl _)))
        clear hrA hrB hbel gA gB
        go_region_with (go_at_call 133; refine (unhide hCx _).mono ?_; rintro e w2 ⟨rfl, rfl⟩)
        all_goals
          go_wp2
          go_roundw
          case rel => exact ⟨k + 1, by omega, by go_num, rA2, rB2, hb2⟩
          case measure => simp [intOf]; omega
      · have hkn : k = n := by omega
        subst hkn
        have oA := unhide hrA
        have oB := unhide hrB
        have aA := partI_all A
        have aB := partI_all B
        rw [unhide hAl] at aA
        rw [unhide hBl] at aB
        rw [aA] at oA
        rw [aB] at oB
        have hlg := oA.lt
        have hlh := oB.lt
        have hT : Hid (TwoI w wr (.slice (some ⟨g, 0, none⟩) k k) (.slice (some ⟨h, 0, none⟩) k k) A B) := hide ⟨g, g + 1, h, h + 1, hgw, by omega, hhw, by omega, by omega, by
          have := oA.own; unfold OwnI; rw [unhide hAl]; exact this, by
          have := oB.own; unfold OwnI; rw [unhide hBl]; exact this⟩
        clear hrA hrB oA oB aA aB hlg hlh
        go_wp2
        go_ret2
        exact ⟨_, _, rfl, unhide hT, Upd.of_below (unhide hbel) 0 0⟩
end Go.Proofs.Ytbdegomnlconjaa

/- Plain: frames put on a screen and wiped off it. -/
namespace Go.Proofs.Ytbdegomnlconjaa

/-- Stores one behind the other: the k-th one, if there is one, of f k at p k. -/
def stoZ (f : Nat → Option Int) (p : Nat → Nat) (s : List Int) : Nat → List Int
  | 0 => s
  | k + 1 => match f k with
    | none => stoZ f p s k
    | some v => (stoZ f p s k).set (p k) v
theorem stoZ_length (f : Nat → Option Int) (p : Nat → Nat) (s : List Int) (k : Nat) : (stoZ f p s k).length = s.length := by
  induction k with
  | zero => rfl
  | succ k ih =>
    unfold stoZ
    split
    · exact ih
    · rw [List.length_set]; exact ih
/-- Where a frame's row begins on a screen. -/
def rowAt (X Y Wd y : Nat) : Nat := (Y + y) * Wd + X
def plcS (X Y W Wd k : Nat) : Nat := rowAt X Y Wd (k / W) + k % W
theorem plcS_at (X Y W Wd y x : Nat) (hx : x < W) : plcS X Y W Wd (y * W + x) = rowAt X Y Wd y + x := by
  unfold plcS
  rw [Nat.mul_comm y W, Nat.mul_add_div (by omega), Nat.div_eq_of_lt hx, Nat.mul_add_mod, Nat.mod_eq_of_lt hx, Nat.add_zero]
def putF (hol : Int) (px : List Int) (k : Nat) : Option Int := if px.getD k 0 = hol then none else some (px.getD k 0)
def putZ (X Y W Wd : Nat) (hol : Int) (px s : List Int) (k : Nat) : List Int := stoZ (putF hol px) (plcS X Y W Wd) s k
def wipZ (X Y W Wd : Nat) (s : List Int) (k : Nat) : List Int := stoZ (fun _ => some (-1)) (plcS X Y W Wd) s k
theorem putZ_succ (X Y W Wd : Nat) (hol : Int) (px s : List Int) (k : Nat) : putZ X Y W Wd hol px s (k + 1) = if px.getD k 0 = hol then putZ X Y W Wd hol px s k else (putZ X Y W Wd hol px s k).set (plcS X Y W Wd k) (px.getD k 0) := by
  show stoZ _ _ _ (k + 1) = _
  unfold stoZ
  by_cases h : px.getD k 0 = hol
  · rw [if_pos h, show putF hol px k = none by unfold putF; rw [if_pos h]]; rfl
  · rw [if_neg h, show putF hol px k = some (px.getD k 0) by unfold putF; rw [if_neg h]]; rfl
theorem wipZ_succ (X Y W Wd : Nat) (s : List Int) (k : Nat) : wipZ X Y W Wd s (k + 1) = (wipZ X Y W Wd s k).set (plcS X Y W Wd k) (-1) := rfl
theorem putZ_length (X Y W Wd : Nat) (hol : Int) (px s : List Int) (k : Nat) : (putZ X Y W Wd hol px s k).length = s.length := stoZ_length _ _ _ _
theorem wipZ_length (X Y W Wd : Nat) (s : List Int) (k : Nat) : (wipZ X Y W Wd s k).length = s.length := stoZ_length _ _ _ _
theorem plcS_lt {X Y W H Wd n k : Nat} (hk : k < W * H) (hX : X + W ≤ Wd) (hY : (Y + H) * Wd ≤ n) : plcS X Y W Wd k < n := by
  have hW : 0 < W := by rcases Nat.eq_zero_or_pos W with h | h; · subst h; simp at hk
                        · exact h
  have h1 : k / W < H := Nat.div_lt_of_lt_mul hk
  have h2 : k % W < W := Nat.mod_lt _ hW
  unfold plcS rowAt
  generalize k / W = y at h1 ⊢
  have h3 : (Y + y + 1) * Wd ≤ (Y + H) * Wd := Nat.mul_le_mul_right _ (by omega)
  rw [Nat.add_mul (Y + y) 1] at h3
  omega
end Go.Proofs.Ytbdegomnlconjaa

/- Frames' rows on a screen: the program's walk. -/
namespace Go.Proofs.Ytbdegomnlconjaa
open Go.RowKit

/-- A list of lists of a call's own, made full, under way. -/
def RowV (w : World) (g n : Nat) (xs : List Value) : Prop := w.ownsRow g 23 1 (.slice (some ⟨g, 0, none⟩) n n) n xs
theorem RowV.own {w : World} {g n : Nat} {xs : List Value} (h : RowV w g n xs) : Own 23 1 w g (g + 1) (.slice (some ⟨g, 0, none⟩) n n) n xs :=
  ⟨h, fun k hk => by simp [Value.ownBlock] at hk; omega⟩
theorem RowV.upd {w w' : World} {g n c e : Nat} {xs : List Value} (h : RowV w g n xs) (u : Upd c e w w') (hd : g + 1 ≤ c ∨ e ≤ g) : RowV w' g n xs := (h.own.upd u hd).1
theorem RowV.keep {w w' : World} {g n : Nat} {xs : List Value} (h : RowV w g n xs) (u : Upd 0 0 w w') : RowV w' g n xs := h.upd u (.inr (Nat.zero_le _))
theorem RowV.other {w : World} {g n c : Nat} {xs : List Value} (h : RowV w g n xs) (hne : c ≠ g) (o : Nat) (u : Value) : RowV (w.setCell ⟨c, o, none⟩ u) g n xs :=
  h.upd ((Upd.refl c (c + 1) w).setCell ⟨Nat.le_refl _, Nat.lt_succ_self _⟩ o u) (by omega)
theorem RowV.set {w : World} {g n : Nat} {xs : List Value} (h : RowV w g n xs) (k : Nat) (u : Value) : RowV (w.setCell ⟨g, k, none⟩ u) g n (xs.set k u) := (World.ownsRow.stored h k u).1
theorem RowV.len {w : World} {g n : Nat} {xs : List Value} (h : RowV w g n xs) : xs.length = n := by have h' : w.ownsRow g 23 1 (.slice (some ⟨g, 0, none⟩) n n) n xs := h; have := h'.1; omega
theorem RowV.cell {w : World} {g n : Nat} {xs : List Value} (h : RowV w g n xs) (k : Nat) (hk : k < n) : w.cell? ⟨g, k, none⟩ = xs[k]? := World.ownsRow.cellAt h k (by omega)
theorem RowV.frozen {w : World} {g n : Nat} {xs : List Value} (h : RowV w g n xs) (k : Nat) : w.frozen? ⟨g, k, none⟩ = false := World.ownsRow.frozenAt h k
theorem RowV.has {w : World} {g n : Nat} {xs : List Value} (h : RowV w g n xs) (k : Nat) (hk : k < n) : ∃ u, w.cell? ⟨g, k, none⟩ = some u := by
  rw [h.cell k hk]; exact ⟨_, List.getElem?_eq_getElem (by have := h.len; omega)⟩
theorem RowV.lt {w : World} {g n : Nat} {xs : List Value} (h : RowV w g n xs) : g < w.heap.size := by
  have h' : w.ownsRow g 23 1 (.slice (some ⟨g, 0, none⟩) n n) n xs := h
  exact (h'.lt g rfl).2
theorem mkRowV (n : Nat) (hn : n ≤ 1048576) : ∃ o : Obj, ∀ (X : World), (Instr.makeSlice 31 (.int .i64 (n : Int)) (.int .i64 (n : Int))).run Try.prog X = .ok (.slice (some ⟨X.heap.size, 0, none⟩) n n) (X.alloc o) ∧
    RowV (X.alloc o) X.heap.size n (List.replicate n (.slice none 0 0)) := by
  obtain ⟨i0, hi, hz0, hz1, hz2⟩ := info_parts infoLl
  refine ⟨.cells (madeCells (Value.slice none 0 0).cells ((n : Int).toNat * i0.size)) 23, fun X => ⟨?_, ?_⟩⟩
  · have h := run_makeSlice (P := Try.prog) (w := X) 31 23 i0 (.slice none 0 0) Try.underlying31 hi hz0 .i64 .i64 (n : Int) (n : Int) (by omega) (by omega) (by rw [hz1]; omega) (by rw [hz2]; omega) (by omega)
    simpa using h
  · refine ⟨by simp, .inr ⟨X.heap.size, n, _, rfl, Nat.le_refl _, alloc_newR X _, Nat.le_refl _, by unfold maxLen; omega, by rw [size_madeCells, hz1]; simp, ?_⟩⟩
    rw [hz1]
    simp [toList_madeCells_one, Value.cells]
def rowVal (b off X Y W Wd y : Nat) : Value := .slice (some ⟨b, off + rowAt X Y Wd y, none⟩) W W
def rowsTo (b off X Y W Wd H k : Nat) : List Value := (List.range H).map fun y => if y < k then rowVal b off X Y W Wd y else .slice none 0 0
theorem rowsTo_zero (b off X Y W Wd H : Nat) : rowsTo b off X Y W Wd H 0 = List.replicate H (.slice none 0 0) := by
  unfold rowsTo
  apply List.ext_getElem?
  intro i
  by_cases h : i < H
  · simp [h]
  · simp [h]
theorem rowsTo_set (b off X Y W Wd H k : Nat) (hk : k < H) : (rowsTo b off X Y W Wd H k).set k (rowVal b off X Y W Wd k) = rowsTo b off X Y W Wd H (k + 1) := by
  unfold rowsTo
  apply List.ext_getElem?
  intro i
  rw [List.getElem?_set]
  by_cases h : i < H
  · by_cases e : k = i
    · subst e; simp [h]
    · have e1 : (i < k) ↔ (i < k + 1) := by omega
      simp [h, e, e1]
  · by_cases e : k = i
    · omega
    · simp [h, e]
theorem rowsTo_get (b off X Y W Wd H k : Nat) (hk : k < H) : (rowsTo b off X Y W Wd H H)[k]? = some (rowVal b off X Y W Wd k) := by
  unfold rowsTo; simp [hk]
abbrev fcs (X Y W H : Nat) (c4 c5 c6 : Int) (pv : Value) : List Value := [.int .i64 X, .int .i64 Y, .int .i64 W, .int .i64 H, .int .i64 c4, .int .i64 c5, .int .i64 c6, pv]
theorem rowAt_le {X Y W H Wd n k : Nat} (hk : k < H) (hX : X + W ≤ Wd) (hY : (Y + H) * Wd ≤ n) : rowAt X Y Wd k + W ≤ n := by
  unfold rowAt
  have h1 : (Y + k + 1) * Wd ≤ (Y + H) * Wd := Nat.mul_le_mul_right _ (by omega)
  rw [Nat.add_mul (Y + k) 1] at h1
  omega
set_option maxHeartbeats 8000000 in
set_option maxRecDepth 100000 in
theorem implRowsOn (X Y W H : Nat) (c4 c5 c6 : Int) (pad : Option Addr) (pn pc Wd b off n cap : Nat) (w : World) (hW : 1 ≤ W) (hH : H ≤ 512) (hX : X + W ≤ Wd) (hWd : Wd ≤ 512) (hY : (Y + H) * Wd ≤ n) (hn : n ≤ 1048576) (hc : n ≤ cap) :
    Calls Try.prog 39 #[.agg #[.int .i64 X, .int .i64 Y, .int .i64 W, .int .i64 H, .int .i64 c4, .int .i64 c5, .int .i64 c6, .slice pad pn pc], .slice (some ⟨b, off, none⟩) n cap, .int .i64 Wd] w fun e w' => ∃ g, e = .returned (.slice (some ⟨g, 0, none⟩) H H) ∧ RowV w' g H (rowsTo b off X Y W Wd H H) ∧ w.heap.size ≤ g ∧ Upd 0 0 w w' := by
  have hbx := hide (heldF_new w (fcs X Y W H c4 c5 c6 (.slice pad pn pc)) 27)
  have hbel := hide ((Below.refl w.heap.size w).alloc (Nat.le_refl _) (.cells #[.int .i64 X, .int .i64 Y, .int .i64 W, .int .i64 H, .int .i64 c4, .int .i64 c5, .int .i64 c6, .slice pad pn pc] 27))
  obtain ⟨ob, hmk⟩ := mkRowV H (by omega)
  have hmk1 := fun X => (hmk X).1
  have hmk2 := hide (fun X => (hmk X).2)
  clear hmk
  have hz0 := hide (rowsTo_zero b off X Y W Wd H)
  have hAt : Hid (∀ k, k < H → rowAt X Y Wd k + W ≤ n) := hide (fun k hk => rowAt_le hk hX hY)
  go_enter Try.func39, Try.ntmps39
  go_upto_region 1 with fail
  change Hid (HeldF (w.alloc (.cells #[.int .i64 X, .int .i64 Y, .int .i64 W, .int .i64 H, .int .i64 c4, .int .i64 c5, .int .i64 c6, .slice pad pn pc] 27)) w.heap.size (fcs X Y W H c4 c5 c6 (.slice pad pn pc))) at hbx
  generalize w.alloc (.cells #[.int .i64 X, .int .i64 Y, .int .i64 W, .int .i64 H, .int .i64 c4, .int .i64 c5, .int .i64 c6, .slice pad pn pc] 27) = w0 at hbx hbel ⊢
  have p3 := (unhide hbx).1.2 3 _ rfl
  go_upto_region 2 with fail
  have hrA := hide (unhide hmk2 w0)
  rw [← unhide hz0] at hrA
  have hbel1 := hide ((unhide hbel).alloc (by exact (unhide hbel).size) ob)
  have hbx1 := hide ((unhide hbx).keep (Upd.of_below ((Below.refl w0.heap.size w0).alloc (Nat.le_refl _) ob) 0 0))
  have hgw : w.heap.size < w0.heap.size := (unhide hbx).1.1
  clear hmk1 hmk2 hz0 hbel hbx p3
  generalize w0.alloc ob = W0 at hrA hbel1 hbx1 ⊢
  obtain ⟨g, hg⟩ : ∃ g, w0.heap.size = g := ⟨_, rfl⟩
  rw [hg] at hrA hgw ⊢
  clear hg
  go_wp2
  go_loopw [8, 9, 15] (fun _ _ i wr => ∃ k : Nat, k ≤ H ∧ i = .int .i64 k ∧ Hid (RowV wr g H (rowsTo b off X Y W Wd H k)) ∧ Hid (HeldF wr w.heap.size (fcs X Y W H c4 c5 c6 (.slice pad pn pc))) ∧ Hid (Below w.heap.size w wr)) (fun _ _ i _ => H - (intOf i).toNat)
  case atStart => exact ⟨0, Nat.zero_le _, rfl, hrA, hbx1, hbel1⟩
  case round =>
    clear hrA hbx1 hbel1
    obtain ⟨k, hk, rfl, hrA, hbx, hbel⟩ := hrel
    by_cases hlt : k < H
    · have p0 := (unhide hbx).1.2 0 _ rfl
      have p1 := (unhide hbx).1.2 1 _ rfl
      have p2 := (unhide hbx).1.2 2 _ rfl
      have a1 := unhide hAt k hlt
      obtain ⟨Z, hZ⟩ : ∃ Z, (Y + k) * Wd = Z := ⟨_, rfl⟩
      have hZI : ((Y : Int) + (k : Int)) * (Wd : Int) = (Z : Int) := by rw [← hZ, Int.natCast_mul, Int.natCast_add]
      obtain ⟨A, hAe⟩ : ∃ A, Z + X = A := ⟨_, rfl⟩
      have hAI : (Z : Int) + (X : Int) = (A : Int) := by rw [← hAe, Int.natCast_add]
      have a2 : A + W ≤ n := by rw [← hAe, ← hZ]; exact a1
      have hrv : rowVal b off X Y W Wd k = .slice (some ⟨b, off + A, none⟩) W W := by unfold rowVal rowAt; rw [hZ, hAe]
      have hset := rowsTo_set b off X Y W Wd H k hlt
      rw [hrv] at hset
      have hY0 : Y + k ≤ 2097152 := by
        have h1 : (Y + k) * 1 ≤ (Y + k) * Wd := Nat.mul_le_mul_left _ (by omega)
        rw [hZ] at h1
        omega
      have hnA := (unhide hrA).frozen k
      obtain ⟨uA, hdA⟩ := (unhide hrA).has k hlt
      have hrA2 := hide ((unhide hrA).set k (.slice (some ⟨b, off + A, none⟩) W W))
      rw [hset] at hrA2
      have hbx2 := hide ((unhide hbx).other (show g ≠ w.heap.size by omega) k (.slice (some ⟨b, off + A, none⟩) W W))
      have hbel2 := hide ((unhide hbel).setCell (p := ⟨g, k, none⟩) (Nat.le_of_lt hgw) (.slice (some ⟨b, off + A, none⟩) W W))
      have kI : (0 : Int) ≤ (k : Int) := by omega
      have kL : (k : Int) < (H : Int) := by omega
      have e1 : (A : Int) + (W : Int) ≤ (cap : Int) := by omega
      have e2 : (0 : Int) < (W : Int) := by omega
      clear a1 hZ hrv hAe hset hrA hbx hbel
      go_upto_region 5 with fail
      go_upto_region 6 with fail
      go_upto_region 7 with fail
      simp only [Nat.add_sub_cancel_left]
      generalize wr.setCell ⟨g, k, none⟩ (.slice (some ⟨b, off + A, none⟩) W W) = W1 at hrA2 hbx2 hbel2 ⊢
      clear p0 p1 p2 hdA hnA
      go_wp2
      go_roundw
      case rel => exact ⟨k + 1, by omega, by go_num, hrA2, hbx2, hbel2⟩
      case measure => simp [intOf]; omega
    · have hkH : k = H := by omega
      subst hkH
      go_wp2
      go_ret
      exact ⟨g, rfl, unhide hrA, Nat.le_of_lt hgw, Upd.of_below (unhide hbel) 0 0⟩
end Go.Proofs.Ytbdegomnlconjaa

/- Frames put on a screen: the program's walk. -/
namespace Go.Proofs.Ytbdegomnlconjaa
open Go.RowKit

/-- A row of ints of a call's own, with its capacity, under way. -/
def RowC (w : World) (g n cap : Nat) (xs : List Value) : Prop := w.ownsRow g 3 1 (.slice (some ⟨g, 0, none⟩) n cap) n xs
theorem RowC.own {w : World} {g n cap : Nat} {xs : List Value} (h : RowC w g n cap xs) : Own 3 1 w g (g + 1) (.slice (some ⟨g, 0, none⟩) n cap) n xs :=
  ⟨h, fun k hk => by simp [Value.ownBlock] at hk; omega⟩
theorem RowC.upd {w w' : World} {g n cap c e : Nat} {xs : List Value} (h : RowC w g n cap xs) (u : Upd c e w w') (hd : g + 1 ≤ c ∨ e ≤ g) : RowC w' g n cap xs := (h.own.upd u hd).1
theorem RowC.keep {w w' : World} {g n cap : Nat} {xs : List Value} (h : RowC w g n cap xs) (u : Upd 0 0 w w') : RowC w' g n cap xs := h.upd u (.inr (Nat.zero_le _))
theorem RowC.other {w : World} {g n cap c : Nat} {xs : List Value} (h : RowC w g n cap xs) (hne : c ≠ g) (o : Nat) (u : Value) : RowC (w.setCell ⟨c, o, none⟩ u) g n cap xs :=
  h.upd ((Upd.refl c (c + 1) w).setCell ⟨Nat.le_refl _, Nat.lt_succ_self _⟩ o u) (by omega)
theorem RowC.set {w : World} {g n cap : Nat} {xs : List Value} (h : RowC w g n cap xs) (k : Nat) (u : Value) : RowC (w.setCell ⟨g, k, none⟩ u) g n cap (xs.set k u) := (World.ownsRow.stored h k u).1
theorem RowC.len {w : World} {g n cap : Nat} {xs : List Value} (h : RowC w g n cap xs) : xs.length = n := by have h' : w.ownsRow g 3 1 (.slice (some ⟨g, 0, none⟩) n cap) n xs := h; have := h'.1; omega
theorem RowC.cell {w : World} {g n cap : Nat} {xs : List Value} (h : RowC w g n cap xs) (k : Nat) (hk : k < n) : w.cell? ⟨g, k, none⟩ = xs[k]? := World.ownsRow.cellAt h k (by omega)
theorem RowC.frozen {w : World} {g n cap : Nat} {xs : List Value} (h : RowC w g n cap xs) (k : Nat) : w.frozen? ⟨g, k, none⟩ = false := World.ownsRow.frozenAt h k
theorem RowC.has {w : World} {g n cap : Nat} {xs : List Value} (h : RowC w g n cap xs) (k : Nat) (hk : k < n) : ∃ u, w.cell? ⟨g, k, none⟩ = some u := by
  rw [h.cell k hk]; exact ⟨_, List.getElem?_eq_getElem (by have := h.len; omega)⟩
theorem RowC.lt {w : World} {g n cap : Nat} {xs : List Value} (h : RowC w g n cap xs) : g < w.heap.size := by
  have h' : w.ownsRow g 3 1 (.slice (some ⟨g, 0, none⟩) n cap) n xs := h
  exact (h'.lt g rfl).2
theorem RowC.cap {w : World} {g n cap : Nat} {xs : List Value} (h : RowC w g n cap xs) : n ≤ cap := by
  have h' : w.ownsRow g 3 1 (.slice (some ⟨g, 0, none⟩) n cap) n xs := h
  rcases h'.2 with ⟨e, _⟩ | ⟨_, _, _, e, _, _, hle, _⟩
  · cases e
  · simp only [Value.slice.injEq] at e
    obtain ⟨_, _, rfl⟩ := e
    exact hle
theorem ints_setS (xs : List Int) (k : Nat) (v : Int) : ints (xs.set k v) = (ints xs).set k (.int .i64 v) := by unfold ints; rw [List.map_set]
set_option maxHeartbeats 8000000 in
set_option maxRecDepth 100000 in
theorem implPutOn (X Y W H : Nat) (c4 c5 hol : Int) (bp op capp : Nat) (px s : List Int) (N Wd g n cap : Nat) (w : World) (hW : 1 ≤ W) (hH : H ≤ 512) (hX : X + W ≤ Wd) (hWd : Wd ≤ 512) (hY : (Y + H) * Wd ≤ n) (hn : n ≤ 1048576)
    (hNe : W * H = N) (hpl : px.length = N) (hpc : N ≤ capp) (hbp : bp < w.heap.size) (hne : bp ≠ g) (hpx : ∀ j, j < N → w.cell? ⟨bp, op + j, none⟩ = some (.int .i64 (px.getD j 0))) (hS : RowC w g n cap (ints s)) :
    Calls Try.prog 64 #[.agg #[.int .i64 X, .int .i64 Y, .int .i64 W, .int .i64 H, .int .i64 c4, .int .i64 c5, .int .i64 hol, .slice (some ⟨bp, op, none⟩) N capp], .slice (some ⟨g, 0, none⟩) n cap, .int .i64 Wd] w fun e w' => e = .returned (.tuple #[]) ∧ RowC w' g n cap (ints (putZ X Y W Wd hol px s N)) ∧ Upd g (g + 1) w w' := by
  have hrow := hide (fun W0 => implRowsOn X Y W H c4 c5 hol (some ⟨bp, op, none⟩) N capp Wd g 0 n cap W0 hW hH hX hWd hY hn hS.cap)
  have hgw := hS.lt
  have hncap := hS.cap
  have hbx := hide (heldF_new w (fcs X Y W H c4 c5 hol (.slice (some ⟨bp, op, none⟩) N capp)) 27)
  have hU := hide (Upd.of_below ((Below.refl w.heap.size w).alloc (Nat.le_refl _) (.cells #[.int .i64 X, .int .i64 Y, .int .i64 W, .int .i64 H, .int .i64 c4, .int .i64 c5, .int .i64 hol, .slice (some ⟨bp, op, none⟩) N capp] 27)) 0 0)
  obtain ⟨T, hT⟩ : ∃ T, putZ X Y W Wd hol px s = T := ⟨_, rfl⟩
  have hT0 : Hid (T 0 = s) := hide (by rw [← hT]; rfl)
  have hTs : Hid (∀ i, T (i + 1) = if px.getD i 0 = hol then T i else (T i).set (plcS X Y W Wd i) (px.getD i 0)) := hide (fun i => by rw [← hT]; exact putZ_succ _ _ _ _ _ _ _ _)
  have hPl : Hid (∀ i, i < N → plcS X Y W Wd i < n) := hide (fun i hi => plcS_lt (by rw [hNe]; exact hi) hX hY)
  have hYN : Hid (∀ i, i < H → i * W + W ≤ N) := hide (fun i hi => by
    have h1 : (i + 1) * W ≤ H * W := Nat.mul_le_mul_right _ hi
    rw [Nat.add_mul, Nat.one_mul, Nat.mul_comm H W, hNe] at h1; exact h1)
  have hHN : Hid (H * W = N) := hide (by rw [Nat.mul_comm]; exact hNe)
  have hN4 : N ≤ 262144 := by
    have h1 : W * H ≤ 512 * 512 := Nat.mul_le_mul (by omega) hH
    omega
  rw [hT]
  clear hT hY hNe hpl
  replace hpx := hide hpx
  replace hS := hide hS
  go_enter Try.func64, Try.ntmps64
  go_upto_region 1 with fail
  change Hid (HeldF (w.alloc (.cells #[.int .i64 X, .int .i64 Y, .int .i64 W, .int .i64 H, .int .i64 c4, .int .i64 c5, .int .i64 hol, .slice (some ⟨bp, op, none⟩) N capp] 27)) w.heap.size (fcs X Y W H c4 c5 hol (.slice (some ⟨bp, op, none⟩) N capp))) at hbx
  generalize w.alloc (.cells #[.int .i64 X, .int .i64 Y, .int .i64 W, .int .i64 H, .int .i64 c4, .int .i64 c5, .int .i64 hol, .slice (some ⟨bp, op, none⟩) N capp] 27) = w0 at hbx hU ⊢
  have p0 := (unhide hbx).1.2 0 _ rfl
  have p1 := (unhide hbx).1.2 1 _ rfl
  have p2 := (unhide hbx).1.2 2 _ rfl
  have p3 := (unhide hbx).1.2 3 _ rfl
  have p4 := (unhide hbx).1.2 4 _ rfl
  have p5 := (unhide hbx).1.2 5 _ rfl
  have p6 := (unhide hbx).1.2 6 _ rfl
  have p7 := (unhide hbx).1.2 7 _ rfl
  have pl := (unhide hbx).1.1
  go_wp2_with fail
  refine (unhide hrow w0).mono ?_
  rintro e w1 ⟨r, rfl, hR, hrw, hu⟩
  have hrS := hR.lt
  replace hR := hide hR
  have hwr : w.heap.size < r := Nat.lt_of_lt_of_le (unhide hbx).1.1 hrw
  replace hU := hide ((unhide hU).trans hu)
  replace hbx := hide ((unhide hbx).keep hu)
  replace hS := hide ((unhide hS).keep (unhide hU))
  replace hpx : Hid (∀ wr, Upd g (g + 1) w wr → ∀ j, j < N → wr.cell? ⟨bp, op + j, none⟩ = some (.int .i64 (px.getD j 0))) := hide (fun wr u j hj => (World.cell?_of_block (a := ⟨bp, op + j, none⟩) (u.block bp hbp (by omega))).trans (unhide hpx j hj))
  clear hu p0 p1 p2 p3 p4 p5 p6 p7 pl hrow hrw
  rw [← unhide hT0] at hS
  have hU2 : Hid (Upd g (g + 1) w w1) := hide ⟨(unhide hU).os, (unhide hU).tape, (unhide hU).output, (unhide hU).size, fun k hk _ => (unhide hU).block k hk (.inr (Nat.zero_le _))⟩
  clear hU hrS
  go_wp2
  go_loopw [6, 7, 8, 9, 15] (fun _ _ _ _ i wr => ∃ k : Nat, k ≤ H ∧ i = .int .i64 k ∧ Hid (RowC wr g n cap (ints (T (k * W)))) ∧ Hid (RowV wr r H (rowsTo g 0 X Y W Wd H H)) ∧ Hid (HeldF wr w.heap.size (fcs X Y W H c4 c5 hol (.slice (some ⟨bp, op, none⟩) N capp))) ∧ Hid (Upd g (g + 1) w wr)) (fun _ _ _ _ i _ => H - (intOf i).toNat)
  case atStart => exact ⟨0, Nat.zero_le _, rfl, by rw [Nat.zero_mul]; exact hS, hR, hbx, hU2⟩
  case round =>
    clear hS hR hbx hU2
    obtain ⟨k, hk, rfl, hS, hR, hbx, hU⟩ := hrel
    by_cases hlt : k < H
    · have hck := (unhide hR).cell k hlt
      rw [rowsTo_get _ _ _ _ _ _ _ _ hlt] at hck
      unfold rowVal at hck
      rw [Nat.zero_add] at hck
      obtain ⟨A, hA⟩ : ∃ A, rowAt X Y Wd k = A := ⟨_, rfl⟩
      obtain ⟨B, hB⟩ : ∃ B, k * W = B := ⟨_, rfl⟩
      obtain ⟨C, hC⟩ : ∃ C, B + W = C := ⟨_, rfl⟩
      have hBN := unhide hYN k hlt
      rw [hB, hC] at hBN
      rw [hA] at hck
      have hPB : Hid (∀ x, x < W → plcS X Y W Wd (B + x) = A + x) := hide (fun x hx => by rw [← hB, ← hA]; exact plcS_at _ _ _ _ _ _ hx)
      have hBI : (k : Int) * (W : Int) = (B : Int) := by rw [← hB, Int.natCast_mul]
      have hCI : ((k : Int) + 1) * (W : Int) = (C : Int) := by rw [← hC, ← hB, Int.natCast_add, Int.natCast_mul, Int.add_mul, Int.one_mul]
      have hCB : C - B = W := by omega
      have hk1 : Hid ((k + 1) * W = C) := hide (by rw [Nat.add_mul, Nat.one_mul, hB, hC])
      rw [hB] at hS
      have hBC : B < C := by omega
      have p2 := (unhide hbx).1.2 2 _ rfl
      have p7 := (unhide hbx).1.2 7 _ rfl
      have kI : (0 : Int) ≤ (k : Int) := by omega
      have kL : (k : Int) < (H : Int) := by omega
      replace hC := hide hC
      replace hCB := hide hCB
      clear hA hB
      go_upto_region 4 with fail
      clear hck
      go_upto_region 5 with fail
      rw [unhide hCB]
      obtain ⟨D, hD⟩ : ∃ D, capp - B = D := ⟨_, rfl⟩
      rw [hD]
      have hWD : W ≤ D := by have := unhide hC; omega
      have hBD : Hid (B + W = C) := hC
      clear hD p2 p7 hBI hCI
      rw [← Nat.add_zero B] at hS
      go_loopw [8, 9, 33] (fun _ _ i wr => ∃ x : Nat, x ≤ W ∧ i = .int .i64 x ∧ Hid (RowC wr g n cap (ints (T (B + x)))) ∧ Hid (RowV wr r H (rowsTo g 0 X Y W Wd H H)) ∧ Hid (HeldF wr w.heap.size (fcs X Y W H c4 c5 hol (.slice (some ⟨bp, op, none⟩) N capp))) ∧ Hid (Upd g (g + 1) w wr)) (fun _ _ i _ => W - (intOf i).toNat)
      case atStart => exact ⟨0, Nat.zero_le _, rfl, hS, hR, hbx, hU⟩
      case round =>
        clear hS hR hbx hU
        obtain ⟨x, hx, rfl, hS, hR, hbx, hU⟩ := hrel
        by_cases hxl : x < W
        · have hBx : B + x < N := by have := unhide hC; omega
          have hcp := unhide hpx wr (unhide hU) (B + x) hBx
          rw [← Nat.add_assoc] at hcp
          have hTx := unhide hTs (B + x)
          rw [unhide hPB x hxl] at hTx
          have hAx : A + x < n := by have := unhide hPl (B + x) hBx; rw [unhide hPB x hxl] at this; exact this
          generalize px.getD (B + x) 0 = z at hcp hTx
          have p6 := (unhide hbx).1.2 6 _ rfl
          have xI : (0 : Int) ≤ (x : Int) := by omega
          have xL : (x : Int) < (W : Int) := by omega
          by_cases hz : z = hol
          · rw [if_pos hz] at hTx
            have hzb : (z != hol) = false := by rw [hz]; simp
            rw [← hTx] at hS
            clear hz hTx
            replace hBx := hide hBx
            replace hAx := hide hAx
            go_wp2
            go_roundw
            case rel => exact ⟨x + 1, by omega, by go_num, hS, hR, hbx, hU⟩
            case measure => simp [intOf]; omega
          · rw [if_neg hz] at hTx
            have hzb : (z != hol) = true := by simpa using hz
            have hS2 := hide ((unhide hS).set (A + x) (.int .i64 z))
            rw [← ints_setS, ← hTx] at hS2
            have hnA := (unhide hS).frozen (A + x)
            obtain ⟨uA, hdA⟩ := (unhide hS).has (A + x) hAx
            have hR2 := hide ((unhide hR).other (show g ≠ r by omega) (A + x) (.int .i64 z))
            have hbx2 := hide ((unhide hbx).other (show g ≠ w.heap.size by omega) (A + x) (.int .i64 z))
            have hU2 := hide ((unhide hU).setCell (r := g) ⟨Nat.le_refl _, Nat.lt_succ_self _⟩ (A + x) (.int .i64 z))
            clear hz hTx hS hR hbx hU
            replace hBx := hide hBx
            replace hAx := hide hAx
            go_wp2
            go_roundw
            case rel => exact ⟨x + 1, by omega, by go_num, hS2, hR2, hbx2, hU2⟩
            case measure => simp [intOf]; omega
        · have hxW : x = W := by omega
          subst hxW
          rw [unhide hC] at hS
          go_wp2
          go_roundw
          case rel => exact ⟨k + 1, by omega, by go_num, by rw [unhide hk1]; exact hS, hR, hbx, hU⟩
          case measure => simp [intOf]; omega
    · have hkH : k = H := by omega
      subst hkH
      rw [unhide hHN] at hS
      go_wp2
      go_end0
      exact ⟨rfl, unhide hS, unhide hU⟩
end Go.Proofs.Ytbdegomnlconjaa

/- Frames wiped off a screen: the program's walk. -/
namespace Go.Proofs.Ytbdegomnlconjaa
open Go.RowKit

set_option maxHeartbeats 8000000 in
set_option maxRecDepth 100000 in
theorem implWipeOff (X Y W H : Nat) (c4 c5 hol : Int) (pad : Option Addr) (pn pc : Nat) (s : List Int) (N Wd g n cap : Nat) (w : World) (hW : 1 ≤ W) (hH : H ≤ 512) (hX : X + W ≤ Wd) (hWd : Wd ≤ 512) (hY : (Y + H) * Wd ≤ n) (hn : n ≤ 1048576)
    (hNe : W * H = N) (hS : RowC w g n cap (ints s)) :
    Calls Try.prog 65 #[.agg #[.int .i64 X, .int .i64 Y, .int .i64 W, .int .i64 H, .int .i64 c4, .int .i64 c5, .int .i64 hol, .slice pad pn pc], .slice (some ⟨g, 0, none⟩) n cap, .int .i64 Wd] w fun e w' => e = .returned (.tuple #[]) ∧ RowC w' g n cap (ints (wipZ X Y W Wd s N)) ∧ Upd g (g + 1) w w' := by
  have hrow := hide (fun W0 => implRowsOn X Y W H c4 c5 hol pad pn pc Wd g 0 n cap W0 hW hH hX hWd hY hn hS.cap)
  have hgw := hS.lt
  have hncap := hS.cap
  have hbx := hide (heldF_new w (fcs X Y W H c4 c5 hol (.slice pad pn pc)) 27)
  have hU := hide (Upd.of_below ((Below.refl w.heap.size w).alloc (Nat.le_refl _) (.cells #[.int .i64 X, .int .i64 Y, .int .i64 W, .int .i64 H, .int .i64 c4, .int .i64 c5, .int .i64 hol, .slice pad pn pc] 27)) 0 0)
  obtain ⟨T, hT⟩ : ∃ T, wipZ X Y W Wd s = T := ⟨_, rfl⟩
  have hT0 : Hid (T 0 = s) := hide (by rw [← hT]; rfl)
  have hTs : Hid (∀ i, T (i + 1) = (T i).set (plcS X Y W Wd i) (-1)) := hide (fun i => by rw [← hT]; exact wipZ_succ _ _ _ _ _ _)
  have hPl : Hid (∀ i, i < N → plcS X Y W Wd i < n) := hide (fun i hi => plcS_lt (by rw [hNe]; exact hi) hX hY)
  have hYN : Hid (∀ i, i < H → i * W + W ≤ N) := hide (fun i hi => by
    have h1 : (i + 1) * W ≤ H * W := Nat.mul_le_mul_right _ hi
    rw [Nat.add_mul, Nat.one_mul, Nat.mul_comm H W, hNe] at h1; exact h1)
  have hHN : Hid (H * W = N) := hide (by rw [Nat.mul_comm]; exact hNe)
  have hN4 : N ≤ 262144 := by
    have h1 : W * H ≤ 512 * 512 := Nat.mul_le_mul (by omega) hH
    omega
  rw [hT]
  clear hT hY hNe
  replace hS := hide hS
  go_enter Try.func65, Try.ntmps65
  go_upto_region 1 with fail
  change Hid (HeldF (w.alloc (.cells #[.int .i64 X, .int .i64 Y, .int .i64 W, .int .i64 H, .int .i64 c4, .int .i64 c5, .int .i64 hol, .slice pad pn pc] 27)) w.heap.size (fcs X Y W H c4 c5 hol (.slice pad pn pc))) at hbx
  generalize w.alloc (.cells #[.int .i64 X, .int .i64 Y, .int .i64 W, .int .i64 H, .int .i64 c4, .int .i64 c5, .int .i64 hol, .slice pad pn pc] 27) = w0 at hbx hU ⊢
  have p0 := (unhide hbx).1.2 0 _ rfl
  have p1 := (unhide hbx).1.2 1 _ rfl
  have p2 := (unhide hbx).1.2 2 _ rfl
  have p3 := (unhide hbx).1.2 3 _ rfl
  have p4 := (unhide hbx).1.2 4 _ rfl
  have p5 := (unhide hbx).1.2 5 _ rfl
  have p6 := (unhide hbx).1.2 6 _ rfl
  have p7 := (unhide hbx).1.2 7 _ rfl
  have pl := (unhide hbx).1.1
  go_wp2_with fail
  refine (unhide hrow w0).mono ?_
  rintro e w1 ⟨r, rfl, hR, hrw, hu⟩
  have hrS := hR.lt
  replace hR := hide hR
  have hwr : w.heap.size < r := Nat.lt_of_lt_of_le (unhide hbx).1.1 hrw
  replace hU := hide ((unhide hU).trans hu)
  replace hbx := hide ((unhide hbx).keep hu)
  replace hS := hide ((unhide hS).keep (unhide hU))
  clear hu p0 p1 p2 p3 p4 p5 p6 p7 pl hrow hrw
  rw [← unhide hT0] at hS
  have hU2 : Hid (Upd g (g + 1) w w1) := hide ⟨(unhide hU).os, (unhide hU).tape, (unhide hU).output, (unhide hU).size, fun k hk _ => (unhide hU).block k hk (.inr (Nat.zero_le _))⟩
  clear hU hrS
  go_wp2
  go_loopw [7, 8, 14] (fun _ _ i wr => ∃ k : Nat, k ≤ H ∧ i = .int .i64 k ∧ Hid (RowC wr g n cap (ints (T (k * W)))) ∧ Hid (RowV wr r H (rowsTo g 0 X Y W Wd H H)) ∧ Hid (HeldF wr w.heap.size (fcs X Y W H c4 c5 hol (.slice pad pn pc))) ∧ Hid (Upd g (g + 1) w wr)) (fun _ _ i _ => H - (intOf i).toNat)
  case atStart => exact ⟨0, Nat.zero_le _, rfl, by rw [Nat.zero_mul]; exact hS, hR, hbx, hU2⟩
  case round =>
    clear hS hR hbx hU2
    obtain ⟨k, hk, rfl, hS, hR, hbx, hU⟩ := hrel
    by_cases hlt : k < H
    · have hck := (unhide hR).cell k hlt
      rw [rowsTo_get _ _ _ _ _ _ _ _ hlt] at hck
      unfold rowVal at hck
      rw [Nat.zero_add] at hck
      obtain ⟨A, hA⟩ : ∃ A, rowAt X Y Wd k = A := ⟨_, rfl⟩
      obtain ⟨B, hB⟩ : ∃ B, k * W = B := ⟨_, rfl⟩
      obtain ⟨C, hC⟩ : ∃ C, B + W = C := ⟨_, rfl⟩
      have hBN := unhide hYN k hlt
      rw [hB, hC] at hBN
      rw [hA] at hck
      have hPB : Hid (∀ x, x < W → plcS X Y W Wd (B + x) = A + x) := hide (fun x hx => by rw [← hB, ← hA]; exact plcS_at _ _ _ _ _ _ hx)
      have hBI : (k : Int) * (W : Int) = (B : Int) := by rw [← hB, Int.natCast_mul]
      have hCI : ((k : Int) + 1) * (W : Int) = (C : Int) := by rw [← hC, ← hB, Int.natCast_add, Int.natCast_mul, Int.add_mul, Int.one_mul]
      have hCB : C - B = W := by omega
      have hk1 : Hid ((k + 1) * W = C) := hide (by rw [Nat.add_mul, Nat.one_mul, hB, hC])
      rw [hB] at hS
      have hBC : B < C := by omega
      have kI : (0 : Int) ≤ (k : Int) := by omega
      have kL : (k : Int) < (H : Int) := by omega
      replace hC := hide hC
      clear hA hB hCB
      go_upto_region 4 with fail
      clear hck
      go_upto_region 5 with fail
      clear hBI hCI
      rw [← Nat.add_zero B] at hS
      go_loopw [8, 20] (fun _ i wr => ∃ x : Nat, x ≤ W ∧ i = .int .i64 x ∧ Hid (RowC wr g n cap (ints (T (B + x)))) ∧ Hid (RowV wr r H (rowsTo g 0 X Y W Wd H H)) ∧ Hid (HeldF wr w.heap.size (fcs X Y W H c4 c5 hol (.slice pad pn pc))) ∧ Hid (Upd g (g + 1) w wr)) (fun _ i _ => W - (intOf i).toNat)
      case atStart => exact ⟨0, Nat.zero_le _, rfl, hS, hR, hbx, hU⟩
      case round =>
        clear hS hR hbx hU
        obtain ⟨x, hx, rfl, hS, hR, hbx, hU⟩ := hrel
        by_cases hxl : x < W
        · have hBx : B + x < N := by have := unhide hC; omega
          have hTx := unhide hTs (B + x)
          rw [unhide hPB x hxl] at hTx
          have hAx : A + x < n := by have := unhide hPl (B + x) hBx; rw [unhide hPB x hxl] at this; exact this
          have xI : (0 : Int) ≤ (x : Int) := by omega
          have xL : (x : Int) < (W : Int) := by omega
          have hS2 := hide ((unhide hS).set (A + x) (.int .i64 (-1)))
          rw [← ints_setS, ← hTx] at hS2
          have hnA := (unhide hS).frozen (A + x)
          obtain ⟨uA, hdA⟩ := (unhide hS).has (A + x) hAx
          have hR2 := hide ((unhide hR).other (show g ≠ r by omega) (A + x) (.int .i64 (-1)))
          have hbx2 := hide ((unhide hbx).other (show g ≠ w.heap.size by omega) (A + x) (.int .i64 (-1)))
          have hU2 := hide ((unhide hU).setCell (r := g) ⟨Nat.le_refl _, Nat.lt_succ_self _⟩ (A + x) (.int .i64 (-1)))
          clear hTx hS hR hbx hU
          replace hBx := hide hBx
          replace hAx := hide hAx
          go_wp2
          go_roundw
          case rel => exact ⟨x + 1, by omega, by go_num, hS2, hR2, hbx2, hU2⟩
          case measure => simp [intOf]; omega
        · have hxW : x = W := by omega
          subst hxW
          rw [unhide hC] at hS
          go_wp2
          go_roundw
          case rel => exact ⟨k + 1, by omega, by go_num, by rw [unhide hk1]; exact hS, hR, hbx, hU⟩
          case measure => simp [intOf]; omega
    · have hkH : k = H := by omega
      subst hkH
      rw [unhide hHN] at hS
      go_wp2
      go_end0
      exact ⟨rfl, unhide hS, unhide hU⟩
end Go.Proofs.Ytbdegomnlconjaa

/- A list of one number repeated: slices.Repeat. -/
namespace Go.Proofs.Ytbdegomnlconjaa
open Go.RowKit

set_option maxHeartbeats 2000000 in
theorem implMul64 (n : Nat) (w : World) (hn : n ≤ 1048576) :
    Calls Try.prog 123 #[.int .u64 1, .int .u64 n] w fun e w' => e = .returned (.tuple #[.int .u64 0, .int .u64 n]) ∧ w' = w := by
  have m1 := Go.Proofs.Mul64.maskN n (by omega)
  rw [Nat.mod_eq_of_lt (by omega)] at m1
  have m2 : bits .and .u64 1 4294967295 = 1 := Go.Proofs.Mul64.maskN 1 (by omega)
  have m0 : bits .and .u64 0 4294967295 = 0 := Go.Proofs.Mul64.maskN 0 (by omega)
  have w0 : IntKind.u64.wrap 0 = 0 := Go.Proofs.Mul64.wrapN 0 (by omega)
  have w1 : IntKind.u64.wrap (n : Int) = (n : Int) := Go.Proofs.Mul64.wrapN n (by omega)
  have d1 : (n : Int) / 4294967296 = 0 := by omega
  have d2 : (1 : Int) / 4294967296 = 0 := by omega
  go_enter Try.func123, Try.ntmps123
  go_wp2
  go_ret2
  exact ⟨rfl, rfl⟩
set_option maxHeartbeats 2000000 in
theorem implMul (n : Nat) (w : World) (hn : n ≤ 1048576) :
    Calls Try.prog 95 #[.int .u64 1, .int .u64 n] w fun e w' => e = .returned (.tuple #[.int .u64 0, .int .u64 n]) ∧ w' = w := by
  have c64 := implMul64 n w hn
  go_enter Try.func95, Try.ntmps95
  go_wp2_with fail
  refine c64.mono ?_
  rintro e w' ⟨rfl, rfl⟩
  go_wp2
  go_ret2
  exact ⟨rfl, rfl⟩
theorem cell_of_heap {w : World} {g i : Nat} {xs : List Value} {t : TypeId} {u : Value} (h : w.heap[g]? = some (.cells xs.toArray t (0, 0))) (hu : xs[i]? = some u) : w.cell? ⟨g, i, none⟩ = some u := by
  unfold World.cell?
  simp [h, hu]
/-- So many of one value, then zeros, up to n. -/
def repZ (m : Value) (n k : Nat) : List Value := List.replicate k m ++ List.replicate (n - k) (.int .i64 0)
theorem repZ_length (m : Value) (n k : Nat) (hk : k ≤ n) : (repZ m n k).length = n := by unfold repZ; simp; omega
theorem repZ_zero (m : Value) (n : Nat) : repZ m n 0 = List.replicate n (.int .i64 0) := by unfold repZ; simp
theorem repZ_all (m : Value) (n : Nat) : repZ m n n = List.replicate n m := by unfold repZ; simp
theorem repZ_splice (m : Value) (n k j : Nat) (hj : k + j ≤ n) : splice (repZ m n k) k (List.replicate j m) = repZ m n (k + j) := by
  unfold splice repZ
  rw [List.take_left' (by simp), List.length_replicate, List.drop_append, List.drop_replicate, List.drop_replicate, List.length_replicate, ← List.append_assoc, ← List.append_assoc, List.replicate_append_replicate, show k - (k + j) = 0 by omega, List.replicate_zero, List.append_nil, show n - k - (k + j - k) = n - (k + j) by omega]
theorem repZ_get (m : Value) (n k j : Nat) (hj : j < k) : (repZ m n k)[j]? = some m := by
  unfold repZ
  rw [List.getElem?_append_left (by simpa using hj), List.getElem?_replicate, if_pos hj]
/-- A row of ints in full, as its block has it. -/
theorem rowI_heap {w : World} {g n : Nat} {xs : List Value} (h : RowI w g n xs) : w.heap[g]? = some (.cells xs.toArray 3 (0, 0)) := by
  have h' : w.ownsRow g 3 1 (.slice (some ⟨g, 0, none⟩) n n) n xs := h
  rcases h'.2 with ⟨e, _⟩ | ⟨g2, cap, cur, e, _, hh, _, _, hsz, htk⟩
  · cases e
  · simp only [Value.slice.injEq, Option.some.injEq, Addr.mk.injEq, and_true, true_and] at e
    obtain ⟨rfl, rfl⟩ := e
    have e2 : cur.toList = xs := by rw [← htk, List.take_of_length_le (by simp; omega)]
    rw [hh, ← e2]
theorem rowI_of_heap {w : World} {g n : Nat} {xs : List Value} (hn : n ≤ maxLen) (hl : xs.length = n) (h : w.heap[g]? = some (.cells xs.toArray 3 (0, 0))) : RowI w g n xs :=
  ⟨by omega, .inr ⟨g, n, xs.toArray, rfl, Nat.le_refl _, h, Nat.le_refl _, hn, by simp; omega, by simp [← hl]⟩⟩
set_option maxHeartbeats 8000000 in
set_option maxRecDepth 100000 in
theorem implRepeat (b off cap : Nat) (x : Int) (n : Nat) (w : World) (hn : 1 ≤ n ∧ n ≤ 1048576) (hb : b < w.heap.size) (hc : w.cell? ⟨b, off, none⟩ = some (.int .i64 x)) :
    Calls Try.prog 62 #[.slice (some ⟨b, off, none⟩) 1 cap, .int .i64 n] w fun e w' => ∃ g, e = .returned (.slice (some ⟨g, 0, none⟩) n n) ∧ RowI w' g n (List.replicate n (.int .i64 x)) ∧ w.heap.size ≤ g ∧ Upd 0 0 w w' := by
  obtain ⟨i0, hi, hz0, hz1, hz2⟩ := info_parts infoI
  have hsz : (Try.prog.info? 3).map (·.size) = some 1 := by rw [hi]; simp [hz1]
  obtain ⟨ob, hmk⟩ := mkRowI n (by omega)
  have hmk1 := fun X => (hmk X).1
  have hmk2 := hide (fun X => (hmk X).2)
  clear hmk
  have hmul := hide (implMul n w hn.2)
  go_enter Try.func62, Try.ntmps62
  go_wp2_with fail
  refine (unhide hmul).mono ?_
  rintro e w1 ⟨rfl, hw1⟩
  rw [hw1]
  clear hmul hw1
  go_upto_region 7 with fail
  have hR0 := unhide hmk2 w
  have hbel : Hid (Below w.heap.size w (w.alloc ob)) := hide ((Below.refl w.heap.size w).alloc (Nat.le_refl _) ob)
  obtain ⟨m, hm⟩ : ∃ m, Value.int .i64 x = m := ⟨_, rfl⟩
  have hm1 : ∀ k, ∀ u ∈ List.replicate k m, u.oneCell' = true := fun k u hu => by rw [List.mem_replicate] at hu; rw [hu.2, ← hm]; rfl
  rw [← repZ_zero m n] at hR0
  have hH0 := hide (rowI_heap hR0)
  have hc2 := hide (((unhide hbel).cell (p := ⟨b, off, none⟩) hb).trans hc)
  clear hmk1 hmk2 hR0 hc
  generalize w.alloc ob = W0 at hH0 hbel hc2 ⊢
  obtain ⟨g, hg⟩ : ∃ g, w.heap.size = g := ⟨_, rfl⟩
  have hgw : w.heap.size ≤ g := by omega
  rw [hg] at hH0 ⊢
  rw [hm] at hc2
  replace hm := hide hm
  replace hg := hide hg
  have hsrc : Hid (∀ (j : Nat) (u : Value), (List.replicate 1 m)[j]? = some u → W0.cell? ((⟨b, off, none⟩ : Addr).add j) = some u) := hide (fun j u hj => by
    rw [List.getElem?_replicate] at hj
    split at hj
    · cases hj
      rw [show j = 0 by omega]
      exact unhide hc2
    · cases hj)
  refine wp_region_lit ?_
  refine wpList_plain rfl fun K hK => ?_
  go_simp
  refine hK _ _ ?_
  clear hK K
  refine wpList_plain rfl fun K hK => ?_
  go_simp
  refine hK _ _ ?_
  clear hK K
  refine wpList_copy_splice rfl (.tmp 31) (.tmp 32) 23 23 rfl 3 Try.underlying23 hsz (some ⟨g, 0, none⟩) (some ⟨b, off, none⟩) n n 1 cap rfl rfl g 0 (repZ m n 0) 3 (unhide hH0) (List.replicate 1 m) (by rw [List.length_replicate]; show 1 = min 1 n; omega) (fun _ => ⟨rfl, _, rfl, unhide hsrc⟩) (by rw [List.length_replicate, repZ_length _ _ _ (Nat.zero_le _)]; omega) (hm1 1) w.heap.size w (unhide hbel) hgw ?_
  intro w2 hg2 hb2
  rw [repZ_splice m n 0 1 (by omega), Nat.zero_add] at hg2
  rw [List.length_replicate]
  replace hb2 := hide hb2
  clear hH0 hbel hc2
  go_wp2
  go_loopw [8] (fun v wr => ∃ k : Nat, (1 ≤ k ∧ k ≤ n) ∧ v = .int .i64 k ∧ Hid (wr.heap[g]? = some (.cells (repZ m n k).toArray 3 (0, 0))) ∧ Hid (Below w.heap.size w wr)) (fun v _ => n - (intOf v).toNat)
  case atStart => exact ⟨1, ⟨Nat.le_refl _, hn.1⟩, rfl, hg2, hb2⟩
  case round =>
    clear hg2 hb2
    obtain ⟨k, ⟨hk1, hk⟩, rfl, hH, hbel⟩ := hrel
    by_cases hlt : k < n
    · obtain ⟨j, hj⟩ : ∃ j, min k (n - k) = j := ⟨_, rfl⟩
      have hsrc2 : Hid (∀ (i : Nat) (u : Value), (List.replicate j m)[i]? = some u → wr.drew.cell? ((⟨g, 0, none⟩ : Addr).add i) = some u) := hide (fun i u hi => by
        rw [List.getElem?_replicate] at hi
        split at hi
        · cases hi
          rw [show (⟨g, 0, none⟩ : Addr).add i = ⟨g, i, none⟩ by unfold Addr.add; split <;> simp_all]
          show wr.cell? ⟨g, i, none⟩ = some m
          exact cell_of_heap (unhide hH) (repZ_get m n k i (by omega))
        · cases hi)
      have q5 : ¬ n = k := by omega
      have kI : (0 : Int) ≤ (k : Int) := by omega
      have kL : (k : Int) < (n : Int) := by omega
      go_wp2_with fail
      have hbd : Hid (Below w.heap.size w wr.drew) := hide ((unhide hbel).trans ⟨rfl, rfl, rfl, Nat.le_refl _, fun _ _ => rfl⟩)
      have hHd : Hid (wr.drew.heap[g]? = some (.cells (repZ m n k).toArray 3 (0, 0))) := hide (unhide hH)
      go_region_law (refine step_copy_splice rfl (.tmp 41) (.tmp 44) 23 23 rfl 3 Try.underlying23 hsz (some ⟨g, k, none⟩) (some ⟨g, 0, none⟩) (n - k) (n - k) k n (by simp [Act.eval, Act.put]) (by simp [Act.eval, Act.put]) g k (repZ m n k) 3 (unhide hHd) (List.replicate j m) (by rw [List.length_replicate]; exact hj.symm) (fun _ => ⟨rfl, _, rfl, unhide hsrc2⟩) (by rw [List.length_replicate, repZ_length _ _ _ hk]; omega) (hm1 j) w.heap.size w (unhide hbd) hgw ?_; intro w4 hg4 hb4)
      rw [repZ_splice m n k j (by omega)] at hg4
      try simp only [List.length_replicate]
      go_simp
      have hwj : IntKind.i64.wrap ((k : Int) + (j : Int)) = (k : Int) + (j : Int) := by rw [IntKind.wrap_i64]; omega
      replace hb4 := hide hb4
      clear hH hbel hsrc2 hbd hHd
      rw [hwj]
      go_roundw
      case rel =>
        first
          | exact ⟨k + j, ⟨by omega, by omega⟩, by go_num, hg4, hb4⟩
          | ((repeat apply Exists.intro)
             refine ⟨?_, rfl⟩
             exact ⟨k + j, ⟨by omega, by omega⟩, by go_num, hg4, hb4⟩)
      case measure => simp [intOf]; omega
    · have hkn : k = n := by omega
      subst hkn
      rw [repZ_all] at hH
      have hR := hide (rowI_of_heap (n := k) (by unfold maxLen; omega) (by simp) (unhide hH))
      rw [← unhide hm] at hR
      go_wp2
      go_ret
      exact ⟨g, rfl, unhide hR, hgw, Upd.of_below (unhide hbel) 0 0⟩
end Go.Proofs.Ytbdegomnlconjaa

/- A list of lists under way: one more behind it. -/
namespace Go.Proofs.Ytbdegomnlconjaa
open Go.RowKit

theorem own_grownL {e : TypeId} {s a c n : Nat} {w w' : World} {v : Value} {xs : List Value} {r : Option Nat} (h : Own e s w a c v n xs) (hg : w.grownBy w' r) (hne : ∀ g, v.ownBlock = some g → some g ≠ r) : Own e s w' a w'.heap.size v n xs := by
  have hlt := h.1.lt
  obtain ⟨⟨hl, hv⟩, hb⟩ := h
  rcases hv with ⟨rfl, hn⟩ | ⟨g, cap, cur, rfl, h1, h2, h3⟩
  · exact ⟨⟨hl, .inl ⟨rfl, hn⟩⟩, fun k hk => by cases hk⟩
  · refine ⟨⟨hl, .inr ⟨g, cap, cur, rfl, h1, ?_, h3⟩⟩, fun k hk => Nat.lt_of_lt_of_le (hlt k hk).2 hg.size⟩
    rw [hg.block g (hlt g rfl).2 (hne g rfl)]
    exact h2
theorem OwnLl.snoc {w w' : World} {a c : Nat} {v v' u : Value} {ds : Ll} {x : Ln} {ys : List Value} {vs : Nat → Value} (hO : Own 23 1 w a c v ds.length ys) (hrow : RowLl ys ds vs ds.length)
    (hel : ∀ j, j < ds.length → OwnI w a c (vs j) (Lls (ds.getD j Ln0))) (hdi : DistLl vs ds.length) (hx : ∀ j, j < ds.length → ∀ g, (vs j).ownBlock = some g → v.ownBlock ≠ some g)
    (hac : a ≤ c) (hu : OwnI w c w.heap.size u x) (h1 : w'.ownsRow a 23 1 v' (ds.length + 1) (ys ++ [u])) (hg : w.grownBy w' v.ownBlock) (h4 : v'.ownBlock = v.ownBlock ∨ v'.ownBlock = some w.heap.size) :
    OwnLl w' a w'.heap.size v' (ds ++ [x]) := by
  have hyl : ys.length = ds.length := by have := hO.1.1; omega
  have hdl : (ds ++ [x]).length = ds.length + 1 := by simp
  have hub : ∀ g, u.ownBlock = some g → c ≤ g ∧ g < w.heap.size := fun g h => hu.1.lt g h
  have hvb : ∀ g, v.ownBlock = some g → g < c := hO.2
  have hrb : ∀ j, j < ds.length → ∀ g, (vs j).ownBlock = some g → g < c ∧ g < w.heap.size := fun j hj g h => ⟨(hel j hj).2 g h, ((hel j hj).1.lt g h).2⟩
  refine ⟨ys ++ [u], fun j => if j = ds.length then u else vs j, by rw [hdl]; exact Own.of h1, fun j hj => ?_, fun j hj => ?_, fun i j hi hj hne g hgi hgj => ?_, fun j hj g hgj hgv => ?_⟩
  · rw [hdl] at hj
    by_cases e : j = ds.length
    · subst e
      simp only [if_true]
      rw [List.getElem?_append_right (by omega), hyl, Nat.sub_self]; rfl
    · simp only [if_neg e]
      rw [List.getElem?_append_left (by omega)]
      exact hrow j (by omega)
  · rw [hdl] at hj
    by_cases e : j = ds.length
    · subst e
      simp only [if_true]
      rw [show (ds ++ [x]).getD ds.length Ln0 = x by rw [List.getD_eq_getElem?_getD, List.getElem?_append_right (Nat.le_refl _), Nat.sub_self]; rfl]
      exact own_mono (own_grownL hu hg (fun g h e => by have := hub g h; have := hvb g e.symm; omega)) hac (Nat.le_refl _)
    · simp only [if_neg e]
      rw [show (ds ++ [x]).getD j Ln0 = ds.getD j Ln0 by rw [List.getD_eq_getElem?_getD, List.getElem?_append_left (by omega), ← List.getD_eq_getElem?_getD]]
      exact own_grownL (hel j (by omega)) hg (fun g h e => hx j (by omega) g h e.symm)
  · rw [hdl] at hi hj
    simp only at hgi hgj
    by_cases e : i = ds.length
    · rw [if_pos e] at hgi
      rw [if_neg (by omega)] at hgj
      have := hub g hgi
      have := hrb j (by omega) g hgj
      omega
    · rw [if_neg e] at hgi
      by_cases e' : j = ds.length
      · rw [if_pos e'] at hgj
        have := hub g hgj
        have := hrb i (by omega) g hgi
        omega
      · rw [if_neg e'] at hgj
        exact hdi i j (by omega) (by omega) hne g hgi hgj
  · rw [hdl] at hj
    simp only at hgj
    by_cases e : j = ds.length
    · rw [if_pos e] at hgj
      have := hub g hgj
      rcases h4 with h4 | h4
      · rw [h4] at hgv; have := hvb g hgv; omega
      · rw [h4] at hgv; cases hgv; omega
    · rw [if_neg e] at hgj
      rcases h4 with h4 | h4
      · rw [h4] at hgv; exact hx j (by omega) g hgj hgv
      · rw [h4] at hgv; cases hgv; have := hrb j (by omega) _ hgj; omega
end Go.Proofs.Ytbdegomnlconjaa

/- Plain: sides of pictures. -/
namespace Go.Proofs.Ytbdegomnlconjaa
open Go.RowKit

def sideB (w : Int) : Bool := decide (1 ≤ w ∧ w ≤ 512)
def sidesB (w h : Int) : Bool := sideB w && sideB h
theorem sideB_yes {w : Int} (h : 1 ≤ w ∧ w ≤ 512) : sideB w = true := decide_eq_true h
theorem sideB_no {w : Int} (h : ¬ (1 ≤ w ∧ w ≤ 512)) : sideB w = false := decide_eq_false h
theorem sideB_iff {w : Int} : sideB w = true ↔ 1 ≤ w ∧ w ≤ 512 := by unfold sideB; simp
theorem sidesB_yes {w h : Int} (a : 1 ≤ w ∧ w ≤ 512) (b : 1 ≤ h ∧ h ≤ 512) : sidesB w h = true := by unfold sidesB; rw [sideB_yes a, sideB_yes b]; rfl
theorem sidesB_no {w h : Int} (a : ¬ ((1 ≤ w ∧ w ≤ 512) ∧ 1 ≤ h ∧ h ≤ 512)) : sidesB w h = false := by
  unfold sidesB
  by_cases h1 : 1 ≤ w ∧ w ≤ 512
  · rw [sideB_yes h1, sideB_no (fun h2 => a ⟨h1, h2⟩)]; rfl
  · rw [sideB_no h1]; rfl
end Go.Proofs.Ytbdegomnlconjaa
