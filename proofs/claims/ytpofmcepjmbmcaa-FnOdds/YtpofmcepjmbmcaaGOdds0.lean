/- The texts behind FnOdds, part 0: what each of them says stands at its head. -/
import Derived.Laws.BitsAll
import Derived.WalkKit
import Derived.Test.YtpofmcepjmbmcaaRows
import Derived.WalkSpells
import Derived.WalkLawsBesides
import Derived.BigQuiet
import Derived.Deep.QuietTactic
import Derived.Deep.RegionWith
import Derived.BigRegion
import Derived.Deep.RegionHeld
import Derived.Lib.BitFns
import Derived.Maps.AppendAt
import Derived.RangeFuncBox
import Derived.Laws.AppendOwnNone
import Derived.Deep.DeepCutAuto
import Derived.Deep.RegionHeld3
/- Plain arithmetic and lists behind chapter 1: what a check sum is after some bytes, what folding and unfolding a number gives, what the bits of words are; no program is named here. -/
namespace Go.Proofs.Ytpofmcepjmbmcaa
open Go.RowKit

theorem take_snoc_getD {α : Type} (zs : List α) (d : α) (k : Nat) (h : k < zs.length) : zs.take (k + 1) = zs.take k ++ [zs.getD k d] := by
  rw [List.take_succ_eq_append_getElem h, List.getD_eq_getElem?_getD, List.getElem?_eq_getElem h]; rfl

theorem hide {p : Prop} (h : p) : Hid p := h
theorem unhide {p : Prop} (h : Hid p) : p := h
theorem ret_int {k : IntKind} {a b : Int} (h : a = b) : Ending.returned (.int k a) = .returned (.int k b) := by rw [h]

/-! ### Adler -/
def adStep (p : Int × Int) (x : Int) : Int × Int := ((p.1 + x) % 65521, (p.2 + (p.1 + x) % 65521) % 65521)
def adTo (zs : List Int) (k : Nat) : Int × Int := (zs.take k).foldl adStep (1, 0)
def adlerF (zs : List Int) : Int := (65536 * (adTo zs zs.length).2 + (adTo zs zs.length).1) % 4294967296
theorem adTo_succ (zs : List Int) (k : Nat) (h : k < zs.length) : adTo zs (k + 1) = adStep (adTo zs k) (zs.getD k 0) := by
  unfold adTo; rw [take_snoc_getD zs 0 k h, List.foldl_append]; rfl
theorem adTo_succ1 (zs : List Int) (k : Nat) (h : k < zs.length) : (adTo zs (k + 1)).1 = ((adTo zs k).1 + zs.getD k 0) % 65521 := by rw [adTo_succ zs k h]; rfl
theorem adTo_succ2 (zs : List Int) (k : Nat) (h : k < zs.length) : (adTo zs (k + 1)).2 = ((adTo zs k).2 + ((adTo zs k).1 + zs.getD k 0) % 65521) % 65521 := by rw [adTo_succ zs k h]; rfl
theorem adStep_bd (p : Int × Int) (x : Int) : (0 ≤ (adStep p x).1 ∧ (adStep p x).1 < 65521) ∧ 0 ≤ (adStep p x).2 ∧ (adStep p x).2 < 65521 := by
  unfold adStep; simp only; omega
theorem adTo_bd (zs : List Int) (k : Nat) : (0 ≤ (adTo zs k).1 ∧ (adTo zs k).1 < 65521) ∧ 0 ≤ (adTo zs k).2 ∧ (adTo zs k).2 < 65521 := by
  unfold adTo
  rcases List.eq_nil_or_concat (zs.take k) with h | ⟨l, x, h⟩
  · rw [h]; simp
  · rw [h, List.concat_eq_append, List.foldl_append]; exact adStep_bd _ _

/-! ### Crc -/
def crcBit (r : Nat) : Nat := if r % 2 = 1 then (r / 2) ^^^ 3988292384 else r / 2
def crcIt : Nat → Nat → Nat
  | 0, r => r
  | m + 1, r => crcBit (crcIt m r)
def crcStep (r : Nat) (x : Int) : Nat := crcIt 8 (r ^^^ x.toNat)
def crcTo (zs : List Int) (k : Nat) : Nat := (zs.take k).foldl (fun r x => crcIt 8 (r ^^^ (x.toNat % 256))) 4294967295
def crcF (zs : List Int) : Int := 4294967295 - (crcTo zs zs.length : Nat)
theorem crcBit_lt (r : Nat) (h : r < 4294967296) : crcBit r < 4294967296 := by
  unfold crcBit; split
  · exact Nat.xor_lt_two_pow (n := 32) (by omega) (by omega)
  · omega
theorem crcIt_lt (m r : Nat) (h : r < 4294967296) : crcIt m r < 4294967296 := by
  induction m with
  | zero => exact h
  | succ m ih => exact crcBit_lt _ ih
theorem u32_and_one (y : Nat) (h : y < 4294967296) : bits .and .u32 (y : Int) 1 = ((y % 2 : Nat) : Int) := by go_bits2
theorem crcBit_odd (y : Nat) (h : y < 4294967296) (ho : y % 2 = 1) : bits .xor .u32 ((y : Int) / 2) 3988292384 = (crcBit y : Nat) := by
  have := u32_xor_nat (y / 2) 3988292384 (by omega) (by omega)
  unfold crcBit; rw [if_pos ho, ← this]; rfl
theorem crcBit_even (y : Nat) (ho : ¬ y % 2 = 1) : (y : Int) / 2 = (crcBit y : Nat) := by
  unfold crcBit; rw [if_neg ho]; omega
theorem crcTo_succ (zs : List Int) (k : Nat) (h : k < zs.length) : crcTo zs (k + 1) = crcIt 8 (crcTo zs k ^^^ ((zs.getD k 0).toNat % 256)) := by
  unfold crcTo; rw [take_snoc_getD zs 0 k h, List.foldl_append]; rfl
theorem crcTo_lt (zs : List Int) (k : Nat) : crcTo zs k < 4294967296 := by
  unfold crcTo
  generalize zs.take k = l
  suffices H : ∀ r, r < 4294967296 → l.foldl (fun r x => crcIt 8 (r ^^^ (x.toNat % 256))) r < 4294967296 from H _ (by omega)
  induction l with
  | nil => intro r h; exact h
  | cons x l ih => intro r h; exact ih _ (crcIt_lt _ _ (Nat.xor_lt_two_pow (n := 32) (by omega) (by omega)))

theorem xor_half (a b : Nat) : (a ^^^ b) / 2 = a / 2 ^^^ b / 2 := Nat.xor_div_two_pow (n := 1)
theorem xor_par (a b : Nat) : (a ^^^ b) % 2 = (a % 2 ^^^ b % 2) := Nat.xor_mod_two_pow (n := 1)
theorem crcBit_xor (a b : Nat) : crcBit (a ^^^ b) = crcBit a ^^^ crcBit b := by
  unfold crcBit
  rw [xor_par, xor_half]
  rcases Nat.mod_two_eq_zero_or_one a with ha | ha <;> rcases Nat.mod_two_eq_zero_or_one b with hb | hb
  · rw [ha, hb]; simp
  · rw [ha, hb]; simp only [show ((0 : Nat) ^^^ 1) = 1 from rfl, if_true, show ¬ ((0 : Nat) = 1) by omega, if_false]
    rw [Nat.xor_assoc]
  · rw [ha, hb]; simp only [show ((1 : Nat) ^^^ 0) = 1 from rfl, if_true, show ¬ ((0 : Nat) = 1) by omega, if_false]
    rw [Nat.xor_assoc, Nat.xor_assoc, Nat.xor_comm (b / 2)]
  · rw [ha, hb]; simp only [show ((1 : Nat) ^^^ 1) = 0 from rfl, if_true, show ¬ ((0 : Nat) = 1) by omega, if_false]
    rw [Nat.xor_assoc, ← Nat.xor_assoc 3988292384 (b / 2), Nat.xor_comm 3988292384 (b / 2), Nat.xor_assoc (b / 2), Nat.xor_self, Nat.xor_zero]
theorem crcIt_xor (m a b : Nat) : crcIt m (a ^^^ b) = crcIt m a ^^^ crcIt m b := by
  induction m with
  | zero => rfl
  | succ m ih => show crcBit _ = crcBit _ ^^^ crcBit _; rw [ih, crcBit_xor]
theorem crcIt_shift (m h : Nat) : crcIt m (2 ^ m * h) = h := by
  induction m generalizing h with
  | zero => show 2 ^ 0 * h = h; omega
  | succ m ih =>
    show crcBit (crcIt m (2 ^ (m + 1) * h)) = h
    rw [Nat.pow_succ, Nat.mul_assoc, ih]
    unfold crcBit; rw [if_neg (by omega)]; omega
theorem split_xor (r : Nat) : r = (256 * (r / 256)) ^^^ (r % 256) := by
  have h1 : ((256 * (r / 256)) ^^^ (r % 256)) / 256 = (256 * (r / 256)) / 256 ^^^ (r % 256) / 256 := Nat.xor_div_two_pow (n := 8)
  have h2 : ((256 * (r / 256)) ^^^ (r % 256)) % 256 = (256 * (r / 256)) % 256 ^^^ (r % 256) % 256 := Nat.xor_mod_two_pow (n := 8)
  rw [show 256 * (r / 256) / 256 = r / 256 by omega, show r % 256 / 256 = 0 by omega, Nat.xor_zero] at h1
  rw [show 256 * (r / 256) % 256 = 0 by omega, show r % 256 % 256 = r % 256 by omega, Nat.zero_xor] at h2
  omega
theorem crc_table (r x : Nat) : crcIt 8 (r ^^^ x) = r / 256 ^^^ crcIt 8 ((r % 256) ^^^ x) := by
  have h := crcIt_shift 8 (r / 256)
  rw [show (2 : Nat) ^ 8 = 256 from rfl] at h
  have e : r ^^^ x = (256 * (r / 256)) ^^^ ((r % 256) ^^^ x) := by
    rw [← Nat.xor_assoc, ← split_xor r]
  rw [e, crcIt_xor, h]
theorem nat_xor_ones32 (x : Nat) (h : x < 4294967296) : 4294967295 ^^^ x = 4294967295 - x := by
  have e : (BitVec.allOnes 32 ^^^ BitVec.ofNat 32 x).toNat = 4294967295 - x := by
    rw [BitVec.allOnes_xor, BitVec.toNat_not, BitVec.toNat_ofNat, Nat.mod_eq_of_lt (by omega)]
  rw [← e, BitVec.toNat_xor, BitVec.toNat_ofNat, Nat.mod_eq_of_lt (by omega), BitVec.toNat_allOnes]
theorem crcF_bits (zs : List Int) : bits .xor .u32 4294967295 (crcTo zs zs.length : Nat) = crcF zs := by
  have hb := crcTo_lt zs zs.length
  have := u32_xor_nat 4294967295 (crcTo zs zs.length) (by omega) hb
  rw [nat_xor_ones32 _ hb] at this
  unfold crcF
  rw [show (4294967295 : Int) - (crcTo zs zs.length : Nat) = ((4294967295 - crcTo zs zs.length : Nat) : Int) by omega, ← this]; rfl

/-! ### Fold, Unfold -/
def foldF (n : Int) : Int := if n < 0 then -2 * n - 1 else 2 * n
def unfoldF (n : Int) : Int := if n % 2 = 1 then -(n / 2) - 1 else n / 2
theorem nat_xor_ones (x : Nat) (h : x < 18446744073709551616) : x ^^^ 18446744073709551615 = 18446744073709551615 - x := by
  have e : (BitVec.ofNat 64 x ^^^ BitVec.allOnes 64).toNat = 18446744073709551615 - x := by
    rw [BitVec.xor_allOnes, BitVec.toNat_not, BitVec.toNat_ofNat, Nat.mod_eq_of_lt (by omega)]
  rw [← e, BitVec.toNat_xor, BitVec.toNat_ofNat, Nat.mod_eq_of_lt (by omega), BitVec.toNat_allOnes]
theorem fold_bits (n : Int) (h0 : -9223372036854775808 ≤ n) (h1 : n ≤ 9223372036854775807) :
    bits .xor .u64 (IntKind.u64.wrap (wrap64 (n * 2))) (IntKind.u64.wrap (n / 9223372036854775808)) = foldF n := by
  rw [IntKind.wrap_u64, IntKind.wrap_u64]
  unfold foldF
  rw [u64_xor _ _ (by omega) (by omega) (by omega) (by omega)]
  split
  · have e1 : (wrap64 (n * 2) % 18446744073709551616).toNat = (2 * n + 18446744073709551616).toNat := by unfold wrap64; omega
    have e2 : (n / 9223372036854775808 % 18446744073709551616).toNat = 18446744073709551615 := by omega
    rw [e1, e2, nat_xor_ones _ (by omega)]; omega
  · have e1 : (wrap64 (n * 2) % 18446744073709551616).toNat = (2 * n).toNat := by unfold wrap64; omega
    have e2 : (n / 9223372036854775808 % 18446744073709551616).toNat = 0 := by omega
    rw [e1, e2, Nat.xor_zero]; omega
theorem unfold_bits (n : Int) (h0 : 0 ≤ n) (h1 : n ≤ 18446744073709551615) :
    bits .xor .i64 (n / 2) (wrap64 (-wrap64 (bits .and .u64 n 1))) = unfoldF n := by
  have e : bits .and .u64 n 1 = n % 2 := by go_bits2
  rw [e]
  unfold unfoldF
  obtain ⟨m, hm⟩ := Int.eq_ofNat_of_zero_le (show 0 ≤ n / 2 by omega)
  split
  · have e1 : wrap64 (-wrap64 (n % 2)) = -1 := by unfold wrap64; omega
    rw [e1, hm]
    show IntKind.i64.wrap ((BitVec.ofInt 64 (m : Int) ^^^ BitVec.ofInt 64 (-1)).toNat : Int) = _
    have e3 : BitVec.ofInt 64 (-1) = BitVec.allOnes 64 := by decide
    rw [e3, BitVec.xor_allOnes, BitVec.toNat_not, ofInt_u64 m (by omega)]
    simp [IntKind.wrap, IntKind.bits, IntKind.signed]
    omega
  · have e1 : wrap64 (-wrap64 (n % 2)) = 0 := by unfold wrap64; omega
    rw [e1, hm]
    show IntKind.i64.wrap ((BitVec.ofInt 64 (m : Int) ^^^ BitVec.ofInt 64 0).toNat : Int) = _
    have e3 : BitVec.ofInt 64 0 = 0#64 := by decide
    rw [e3, BitVec.xor_zero, ofInt_u64 m (by omega)]
    simp [IntKind.wrap, IntKind.bits, IntKind.signed]
    omega
end Go.Proofs.Ytpofmcepjmbmcaa

/- The walks of the laws' own helpers on byte strings: a copy, and whether two are equal. -/
namespace Go.Proofs.Ytpofmcepjmbmcaa
open Go.RowKit

theorem below_drewN {B : Nat} {a w : World} (h : Below B a w) (n : Nat) : Below B a (w.drewN n) := h.trans ⟨rfl, rfl, rfl, Nat.le_refl _, fun _ _ => rfl⟩
theorem infoB : (Try.prog.info? 5).map (fun i => (i.zero, i.size, i.bytes)) = some (some (.int .u8 0), 1, 1) := by kernel_rfl

/-- What a byte string is, as the walks hand it on: its bytes, all in range, in the cells of a block. -/
def BytesAt (w : World) (b off : Nat) (zs : List Int) : Prop := ∀ j, j < zs.length → w.cell? ⟨b, off + j, none⟩ = some (.int .u8 (zs.getD j 0))
def InB (zs : List Int) : Prop := ∀ j, 0 ≤ zs.getD j 0 ∧ zs.getD j 0 < 256

theorem getD_map_int (zs : List Int) (k : IntKind) (j : Nat) (h : j < zs.length) : (zs.map (Value.int k))[j]? = some (.int k (zs.getD j 0)) := by
  rw [List.getElem?_map, List.getD_eq_getElem?_getD, List.getElem?_eq_getElem h]; rfl

def partCopy (zs : List Int) (k : Nat) : List Value := (zs.take k).map (Value.int .u8) ++ List.replicate (zs.length - k) (.int .u8 0)
theorem partCopy_zero (zs : List Int) : partCopy zs 0 = List.replicate zs.length (.int .u8 0) := by unfold partCopy; simp
theorem partCopy_all (zs : List Int) : partCopy zs zs.length = zs.map (.int .u8) := by unfold partCopy; simp
theorem partCopy_set (zs : List Int) (k : Nat) (h : k < zs.length) : (partCopy zs k).set k (.int .u8 (zs.getD k 0)) = partCopy zs (k + 1) := by
  unfold partCopy
  rw [take_snoc_getD zs 0 k h, List.map_append, List.set_append, if_neg (by simp; omega), List.append_assoc]
  congr 1
  have : zs.length - k = (zs.length - (k + 1)) + 1 := by omega
  rw [this, List.replicate_succ]
  simp [Nat.min_eq_left (Nat.le_of_lt h)]

end Go.Proofs.Ytpofmcepjmbmcaa

/- Memory of the call's own, by the blocks in which it lies: what a step keeps, and what a value in such blocks reads as. -/
namespace Go.Proofs.Ytpofmcepjmbmcaa
open Go.RowKit

/-- The world is as it was but for the blocks from a on, below b, and for what is new. -/
structure Upd (a b : Nat) (w w' : World) : Prop where
  os : w'.os = w.os
  tape : w'.tape = w.tape
  output : w'.output = w.output
  size : w.heap.size ≤ w'.heap.size
  block : ∀ k, k < w.heap.size → (k < a ∨ b ≤ k) → w'.heap[k]? = w.heap[k]?
theorem Upd.refl (a b : Nat) (w : World) : Upd a b w w := ⟨rfl, rfl, rfl, Nat.le_refl _, fun _ _ _ => rfl⟩
theorem Upd.trans {a b : Nat} {x w w' : World} (h : Upd a b x w) (k : Upd a b w w') : Upd a b x w' :=
  ⟨k.os.trans h.os, k.tape.trans h.tape, k.output.trans h.output, Nat.le_trans h.size k.size, fun i hi hn => (k.block i (Nat.lt_of_lt_of_le hi h.size) hn).trans (h.block i hi hn)⟩
theorem Upd.drewN {a b : Nat} {x w : World} (h : Upd a b x w) (n : Nat) : Upd a b x (w.drewN n) := h.trans ⟨rfl, rfl, rfl, Nat.le_refl _, fun _ _ _ => rfl⟩
theorem Upd.setCell {a b : Nat} {x w : World} (h : Upd a b x w) {r : Nat} (hr : a ≤ r ∧ r < b) (o : Nat) (u : Value) : Upd a b x (w.setCell ⟨r, o, none⟩ u) :=
  h.trans ⟨rfl, rfl, rfl, by simp, fun k _ hk => Below.heap_setCell w ⟨r, o, none⟩ u k (by simp; omega)⟩
theorem Upd.of_below {w w' : World} (h : Below w.heap.size w w') (a b : Nat) : Upd a b w w' := ⟨h.os, h.tape, h.output, h.size, fun k hk _ => h.block k hk⟩
theorem Upd.below {B a b : Nat} {w w' : World} (h : Upd a b w w') (hB : B ≤ w.heap.size) (ha : B ≤ a ∨ b ≤ a) : Below B w w' :=
  ⟨h.os, h.tape, h.output, h.size, fun k hk => h.block k (by omega) (by omega)⟩
theorem Upd.none {w w' : World} (h : Upd 0 0 w w') : Below w.heap.size w w' := h.below (Nat.le_refl _) (.inr (Nat.le_refl _))
theorem below_upd {B a b : Nat} {x w w' : World} (h : Below B x w) (k : Upd a b w w') (hx : B ≤ x.heap.size) (ha : B ≤ a ∨ b ≤ a) : Below B x w' :=
  h.trans (k.below (Nat.le_trans hx h.size) ha)

/-- A value of the call's own: its elements lie in a block from a on, below b. -/
def Own (e : TypeId) (s : Nat) (w : World) (a b : Nat) (v : Value) (n : Nat) (xs : List Value) : Prop := w.ownsRow a e s v n xs ∧ ∀ k, v.ownBlock = some k → k < b
theorem Own.of {e : TypeId} {s : Nat} {w : World} {a : Nat} {v : Value} {n : Nat} {xs : List Value} (h : w.ownsRow a e s v n xs) : Own e s w a w.heap.size v n xs := ⟨h, fun k hk => (h.lt k hk).2⟩
theorem Own.upd {e : TypeId} {s : Nat} {w w' : World} {a b c d : Nat} {v : Value} {n : Nat} {xs : List Value} (h : Own e s w a b v n xs) (u : Upd c d w w') (hd : b ≤ c ∨ d ≤ a) : Own e s w' a b v n xs := by
  refine ⟨⟨h.1.1, ?_⟩, h.2⟩
  rcases h.1.2 with hn | ⟨g, cap, cur, rfl, h1, h2, h3⟩
  · exact .inl hn
  · have hl := h.1.lt g rfl
    have hb := h.2 g rfl
    exact .inr ⟨g, cap, cur, rfl, h1, by rw [u.block g hl.2 (by omega)]; exact h2, h3⟩
theorem Own.keep {e : TypeId} {s : Nat} {w w' : World} {a b : Nat} {v : Value} {n : Nat} {xs : List Value} (h : Own e s w a b v n xs) (u : Upd 0 0 w w') : Own e s w' a b v n xs := h.upd u (.inr (Nat.zero_le _))

theorem own_mono {e : TypeId} {s : Nat} {w : World} {a b a' b' : Nat} {v : Value} {n : Nat} {xs : List Value} (h : Own e s w a b v n xs) (ha : a' ≤ a) (hb : b ≤ b') : Own e s w a' b' v n xs := by
  refine ⟨⟨h.1.1, ?_⟩, fun k hk => Nat.lt_of_lt_of_le (h.2 k hk) hb⟩
  rcases h.1.2 with hn | ⟨g, cap, cur, rfl, h1, h2, h3⟩
  · exact .inl hn
  · exact .inr ⟨g, cap, cur, rfl, Nat.le_trans ha h1, h2, h3⟩

/-- Cells of numbers of a kind. -/
def KindAt (k : IntKind) (w : World) (b off : Nat) (zs : List Int) : Prop := ∀ j, j < zs.length → w.cell? ⟨b, off + j, none⟩ = some (.int k (zs.getD j 0))
/-- Numbers that can be read: where there are any, in the cells of a block. -/
def ReadK (k : IntKind) (w : World) (ad : Option Addr) (zs : List Int) : Prop := zs ≠ [] → ∃ b off, ad = some ⟨b, off, none⟩ ∧ b < w.heap.size ∧ KindAt k w b off zs
theorem ReadK.below {k : IntKind} {w w' : World} {ad : Option Addr} {zs : List Int} (h : ReadK k w ad zs) (hb : Below w.heap.size w w') : ReadK k w' ad zs := by
  intro hne
  obtain ⟨b, off, e, hl, hc⟩ := h hne
  exact ⟨b, off, e, Nat.lt_of_lt_of_le hl hb.size, fun j hj => (hb.cell (by simpa using hl)).trans (hc j hj)⟩
theorem ne_of_lt_length {α : Type} {k : Nat} {zs : List α} (h : k < zs.length) : zs ≠ [] := by rintro rfl; simp at h
theorem readK_of_own {k : IntKind} {e : TypeId} {w : World} {a b : Nat} {v : Value} {zs : List Int} (h : Own e 1 w a b v zs.length (zs.map (.int k))) :
    ∃ ad cap, v = .slice ad zs.length cap ∧ ReadK k w ad zs := by
  rcases h.1.2 with ⟨rfl, hn⟩ | ⟨g, cap, cur, rfl, h1, h2, h3⟩
  · refine ⟨none, 0, by rw [hn], fun hne => absurd (List.length_eq_zero_iff.1 hn) hne⟩
  · refine ⟨some ⟨g, 0, none⟩, cap, rfl, fun _ => ⟨g, 0, rfl, (h.1.lt g rfl).2, fun j hj => ?_⟩⟩
    rw [Nat.zero_add, h.1.cellAt j (by omega)]
    exact getD_map_int zs k j hj
/-- The numbers that a marking leaves. -/
def marks (k n : Nat) : List Int := (List.range n).map fun j => ((k + j : Nat) : Int)
def marksB (k n : Nat) : List Int := (List.range n).map fun j => (((k + j) % 256 : Nat) : Int)
@[simp] theorem marks_length (k n : Nat) : (marks k n).length = n := by simp [marks]
@[simp] theorem marksB_length (k n : Nat) : (marksB k n).length = n := by simp [marksB]
theorem marks_getD (k n j : Nat) (h : j < n) : (marks k n).getD j 0 = ((k + j : Nat) : Int) := by simp [marks, h]
theorem marksB_getD (k n j : Nat) (h : j < n) : (marksB k n).getD j 0 = (((k + j) % 256 : Nat) : Int) := by simp [marksB, h]
/-- A row of which the first t elements are new. -/
def partSet (k : IntKind) (xs : List Value) (zs : List Int) (t : Nat) : List Value := (zs.take t).map (.int k) ++ xs.drop t
theorem partSet_zero (k : IntKind) (xs : List Value) (zs : List Int) : partSet k xs zs 0 = xs := by simp [partSet]
theorem partSet_all (k : IntKind) (xs : List Value) (zs : List Int) (h : xs.length = zs.length) : partSet k xs zs zs.length = zs.map (.int k) := by
  unfold partSet; rw [List.take_length, ← h, List.drop_length, List.append_nil]
theorem partSet_set (k : IntKind) (xs : List Value) (zs : List Int) (t : Nat) (h : t < zs.length) (hl : xs.length = zs.length) : (partSet k xs zs t).set t (.int k (zs.getD t 0)) = partSet k xs zs (t + 1) := by
  unfold partSet
  rw [take_snoc_getD zs 0 t h, List.map_append, List.set_append, if_neg (by simp; omega), List.append_assoc]
  congr 1
  have e : (xs.drop t) = xs[t] :: xs.drop (t + 1) := by rw [List.drop_eq_getElem_cons]
  simp [Nat.min_eq_left (Nat.le_of_lt h)]
  rw [e]; rfl
theorem partSet_length (k : IntKind) (xs : List Value) (zs : List Int) (t : Nat) (h : t ≤ zs.length) (hl : xs.length = zs.length) : (partSet k xs zs t).length = zs.length := by
  unfold partSet; simp; omega
theorem upd_of_same {P : Program} {f : FuncId} {args : Array Value} {w : World} {r : Ending} (h : Calls P f args w fun e w' => e = r ∧ w' = w) : Calls P f args w fun e w' => e = r ∧ Upd 0 0 w w' := by
  refine h.mono ?_
  rintro e w' ⟨rfl, rfl⟩
  exact ⟨rfl, Upd.refl _ _ _⟩
theorem upd_of_belowC {P : Program} {f : FuncId} {args : Array Value} {w : World} {r : Ending} (h : Calls P f args w fun e w' => e = r ∧ Below w.heap.size w w') : Calls P f args w fun e w' => e = r ∧ Upd 0 0 w w' := by
  refine h.mono ?_
  rintro e w' ⟨he, hb⟩
  exact ⟨he, Upd.of_below hb _ _⟩
/-- The first cells of a block. -/
def Held (w : World) (g : Nat) (cs : List Value) : Prop := g < w.heap.size ∧ ∀ j v, cs[j]? = some v → w.cell? ⟨g, j, none⟩ = some v
theorem held_new (w : World) (cs : List Value) (t : TypeId) : Held (w.alloc (.cells cs.toArray t)) w.heap.size cs := by
  refine ⟨by simp, fun j v h => ?_⟩
  rw [World.cell?_alloc_at _ _ _ _ rfl]; simpa using h
theorem Held.upd {w w' : World} {g c e : Nat} {cs : List Value} (h : Held w g cs) (u : Upd c e w w') (hd : g + 1 ≤ c ∨ e ≤ g) : Held w' g cs := by
  refine ⟨Nat.lt_of_lt_of_le h.1 u.size, fun j v hj => ?_⟩
  rw [World.cell?_of_block (w := w) (a := ⟨g, j, none⟩) (u.block g h.1 (by omega))]
  exact h.2 j v hj
theorem Held.keep {w w' : World} {g : Nat} {cs : List Value} (h : Held w g cs) (u : Upd 0 0 w w') : Held w' g cs := h.upd u (.inr (Nat.zero_le _))
def InI (zs : List Int) : Prop := ∀ j, -9223372036854775808 ≤ zs.getD j 0 ∧ zs.getD j 0 ≤ 9223372036854775807
end Go.Proofs.Ytpofmcepjmbmcaa

/- Lists of ints, as values of the call's own and as values that can be read. -/
namespace Go.Proofs.Ytpofmcepjmbmcaa
open Go.RowKit

theorem infoI : (Try.prog.info? 3).map (fun i => (i.zero, i.size, i.bytes)) = some (some (.int .i64 0), 1, 8) := by kernel_rfl
def ints (zs : List Int) : List Value := zs.map (.int .i64)
theorem ints_length (zs : List Int) : (ints zs).length = zs.length := by simp [ints]
abbrev OwnI (w : World) (a b : Nat) (v : Value) (zs : List Int) : Prop := Own 3 1 w a b v zs.length (ints zs)
abbrev ArgI (w : World) (ad : Option Addr) (zs : List Int) : Prop := ReadK .i64 w ad zs
/-- A list of ints as a value that can be read. -/
def RdI (w : World) (v : Value) (zs : List Int) : Prop := ∃ ad cap, v = .slice ad zs.length cap ∧ ArgI w ad zs
theorem RdI.below {w w' : World} {v : Value} {zs : List Int} (h : RdI w v zs) (hb : Below w.heap.size w w') : RdI w' v zs := by
  obtain ⟨ad, cap, e, h⟩ := h
  exact ⟨ad, cap, e, h.below hb⟩
theorem OwnI.rd {w : World} {a b : Nat} {v : Value} {zs : List Int} (h : OwnI w a b v zs) : RdI w v zs := readK_of_own h

end Go.Proofs.Ytpofmcepjmbmcaa

/- The walks of the laws' own helpers on lists of ints: a copy, whether two are equal, marks. -/
namespace Go.Proofs.Ytpofmcepjmbmcaa
open Go.RowKit

def partI (zs : List Int) (k : Nat) : List Value := ints (zs.take k) ++ List.replicate (zs.length - k) (.int .i64 0)
theorem partI_zero (zs : List Int) : partI zs 0 = List.replicate zs.length (.int .i64 0) := by unfold partI ints; simp
theorem partI_all (zs : List Int) : partI zs zs.length = ints zs := by unfold partI ints; simp
theorem partI_set (zs : List Int) (k : Nat) (h : k < zs.length) : (partI zs k).set k (.int .i64 (zs.getD k 0)) = partI zs (k + 1) := by
  unfold partI ints
  rw [take_snoc_getD zs 0 k h, List.map_append, List.set_append, if_neg (by simp; omega), List.append_assoc]
  congr 1
  have : zs.length - k = (zs.length - (k + 1)) + 1 := by omega
  rw [this, List.replicate_succ]
  simp [Nat.min_eq_left (Nat.le_of_lt h)]
theorem partI_length (zs : List Int) (k : Nat) (h : k ≤ zs.length) : (partI zs k).length = zs.length := by unfold partI ints; simp; omega

set_option maxHeartbeats 1000000 in
theorem toIntS_own (ad : Option Addr) (cap : Nat) (zs : List Int) (w : World) (hn : zs.length ≤ 1048576) (hA : ArgI w ad zs) :
    Calls Try.prog 20 #[.slice ad zs.length cap] w fun e w' =>
      ∃ v, e = .returned v ∧ OwnI w' w.heap.size w'.heap.size v zs ∧ Upd 0 0 w w' := by
  obtain ⟨i0, hi, hz0, hz1, hz2⟩ := info_parts infoI
  replace hA := hide hA
  go_enter Try.func20, Try.ntmps20
  go_wp2_with (at_make; refine wpList_make_full _ rfl _ _ 29 rfl w.heap.size 3 i0 (.int .i64 0) 1 Try.underlying29 hi hz0 hz1 .i64 .i64 _ _ zs.length rfl rfl (by omega) (by omega) (by rw [hz2]; omega) (by unfold maxLen; omega) (Nat.le_refl _) ?_; intro w1 hown hgrow)
  have hbel := (Below.refl w.heap.size w).grown hgrow (Nat.le_refl _) (by simp)
  have hown0 : w1.ownsRow w.heap.size 3 1 (.slice (some ⟨w.heap.size, 0, none⟩) zs.length zs.length) zs.length (partI zs 0) := by
    rw [partI_zero]; simpa [toList_madeCells_one, Value.cells] using hown
  clear hown hgrow
  go_loopw [4] (fun i wr => ∃ k : Nat, k ≤ zs.length ∧ i = .int .i64 k ∧ wr.ownsRow w.heap.size 3 1 (.slice (some ⟨w.heap.size, 0, none⟩) zs.length zs.length) zs.length (partI zs k) ∧ Below w.heap.size w wr) (fun i _ => zs.length - (intOf i).toNat)
  case atStart => exact ⟨0, Nat.zero_le _, rfl, hown0, hbel⟩
  case round =>
    clear hown0 hbel
    obtain ⟨k, hk, rfl, hown, hbel⟩ := hrel
    by_cases hlt : k < zs.length
    · obtain ⟨b, off, rfl, hbl, hc⟩ := (unhide hA) (ne_of_lt_length hlt)
      have hck : wr.cell? ⟨b, off + k, none⟩ = some (.int .i64 (zs.getD k 0)) := (hbel.cell (by simpa using hbl)).trans (hc k hlt)
      have hps := partI_set zs k hlt
      generalize zs.getD k 0 = x at hck hps
      have hdst : ∃ u, wr.cell? ⟨w.heap.size, k, none⟩ = some u := by
        rw [hown.cellAt k (by omega)]; exact ⟨_, List.getElem?_eq_getElem (by have := hown.1; omega)⟩
      obtain ⟨u, hdst⟩ := hdst
      have hfz := hown.frozenAt k
      have hst := (hown.stored k (.int .i64 x)).1
      rw [hps] at hst
      have hb2 := hbel.setCell (p := ⟨w.heap.size, k, none⟩) (Nat.le_refl _) (.int .i64 x)
      replace hst := hide hst
      clear hown hps hc
      go_wp2
      go_roundw
      case rel => exact ⟨k + 1, by omega, by go_num, unhide hst, hb2⟩
      case measure => simp [intOf]; omega
    · have hkl : k = zs.length := by omega
      subst hkl
      rw [partI_all] at hown
      replace hown := hide (Own.of hown)
      go_wp2
      go_ret
      exact ⟨_, rfl, unhide hown, Upd.of_below hbel 0 0⟩

set_option maxHeartbeats 1000000 in
theorem eqIntS_rd (u v : Value) (zs : List Int) (w : World) (hn : zs.length ≤ 1048576) (hu : RdI w u zs) (hv : RdI w v zs) :
    Calls Try.prog 22 #[u, v] w fun e w' => e = .returned (.bool true) ∧ Upd 0 0 w w' := by
  obtain ⟨ad, cap, rfl, hA⟩ := hu
  obtain ⟨ad', cap', rfl, hA'⟩ := hv
  replace hA := hide hA
  replace hA' := hide hA'
  go_enter Try.func22, Try.ntmps22
  go_wp2
  go_loopw [5] (fun i wr => ∃ k : Nat, k ≤ zs.length ∧ i = .int .i64 k ∧ ∃ nq, wr = w.drewN nq) (fun i _ => zs.length - (intOf i).toNat)
  case atStart => exact ⟨0, Nat.zero_le _, rfl, 0, rfl⟩
  case round =>
    obtain ⟨k, hk, rfl, nq, rfl⟩ := hrel
    by_cases hlt : k < zs.length
    · obtain ⟨b, off, rfl, hbl, hc⟩ := (unhide hA) (ne_of_lt_length hlt)
      obtain ⟨b', off', rfl, hbl', hc'⟩ := (unhide hA') (ne_of_lt_length hlt)
      have hck := hc k hlt
      have hck' := hc' k hlt
      clear hc hc' hA hA'
      generalize zs.getD k 0 = x at hck hck'
      go_wp2
      go_quiet (fail)
      go_wp2
      go_roundw
      case rel => exact ⟨k + 1, by omega, by go_num, _, rfl⟩
      case measure => simp [intOf]; omega
    · have hkl : k = zs.length := by omega
      subst hkl
      go_wp2
      go_ret
      exact ⟨rfl, (Upd.refl 0 0 _).drewN _⟩

set_option maxHeartbeats 1000000 in
theorem markIntS_none (k : Nat) (w : World) : Calls Try.prog 23 #[.slice none 0 0, .int .i64 k] w fun e w' => e = .returned (.int .i64 (k : Int)) ∧ w' = w := by
  go_enter Try.func23, Try.ntmps23
  go_wp2
  go_loop [1, 5] (fun a i => a = .int .i64 k ∧ i = .int .i64 0) (fun _ _ => 0)
  case atStart => exact ⟨rfl, rfl⟩
  case round =>
    obtain ⟨rfl, rfl⟩ := hrel
    go_wp2
    go_ret
    exact ⟨rfl, rfl⟩

set_option maxHeartbeats 1000000 in
theorem markIntS_some (a g cap n k : Nat) (xs : List Value) (w : World) (hn : n ≤ 1048576) (hk : k ≤ 1099511627776) (h : w.ownsRow a 3 1 (.slice (some ⟨g, 0, none⟩) n cap) n xs) :
    Calls Try.prog 23 #[.slice (some ⟨g, 0, none⟩) n cap, .int .i64 k] w fun e w' => e = .returned (.int .i64 ((k + n : Nat) : Int)) ∧ w'.ownsRow a 3 1 (.slice (some ⟨g, 0, none⟩) n cap) n (ints (marks k n)) ∧ Upd g (g + 1) w w' := by
  have hxl : xs.length = n := by have := h.1; omega
  go_enter Try.func23, Try.ntmps23
  go_wp2
  go_loopw [1, 5] (fun c i wr => ∃ t : Nat, t ≤ n ∧ c = .int .i64 ((k + t : Nat) : Int) ∧ i = .int .i64 t ∧ wr.ownsRow a 3 1 (.slice (some ⟨g, 0, none⟩) n cap) n (partSet .i64 xs (marks k n) t) ∧ Upd g (g + 1) w wr) (fun _ i _ => n - (intOf i).toNat)
  case atStart => exact ⟨0, Nat.zero_le _, rfl, rfl, by rw [partSet_zero]; exact h, Upd.refl _ _ _⟩
  case round =>
    clear h
    obtain ⟨t, ht, rfl, rfl, hown, hupd⟩ := hrel
    have hlen : (partSet .i64 xs (marks k n) t).length = n := by rw [partSet_length _ _ _ _ (by simpa using ht) (by simpa using hxl)]; simp
    by_cases hlt : t < n
    · have hdst : wr.cell? ⟨g, t, none⟩ = some ((partSet .i64 xs (marks k n) t).getD t undef) := by
        rw [hown.cellAt t (by omega), List.getElem?_eq_getElem (by omega), List.getD_eq_getElem?_getD, List.getElem?_eq_getElem (by omega)]; rfl
      have hfz := hown.frozenAt t
      have hst := (hown.stored t (.int .i64 ((k + t : Nat) : Int))).1
      have hps := partSet_set .i64 xs (marks k n) t (by simpa using hlt) (by simpa using hxl)
      rw [marks_getD k n t hlt] at hps
      rw [hps] at hst
      generalize (partSet .i64 xs (marks k n) t).getD t undef = u at hdst
      have ho2 := hupd.setCell (r := g) ⟨Nat.le_refl _, by omega⟩ t (.int .i64 ((k + t : Nat) : Int))
      rw [show (((k + t : Nat) : Int)) = (k : Int) + (t : Int) by omega] at hst ho2
      replace hst := hide hst
      replace ho2 := hide ho2
      clear hown hupd hps hlen
      go_wp2
      go_roundw
      case rel => exact ⟨t + 1, by omega, by go_num, by go_num, unhide hst, unhide ho2⟩
      case measure => simp [intOf]; omega
    · have htn : t = n := by omega
      subst htn
      have hM : wr.ownsRow a 3 1 (.slice (some ⟨g, 0, none⟩) t cap) t (ints (marks k t)) := by
        have := partSet_all .i64 xs (marks k t) (by simpa using hxl)
        rw [marks_length] at this
        rw [this] at hown; exact hown
      replace hM := hide hM
      clear hown
      go_wp2
      go_ret
      exact ⟨rfl, unhide hM, hupd⟩
theorem markIntS_own (a b : Nat) (v : Value) (k : Nat) (zs : List Int) (w : World) (hn : zs.length ≤ 1048576) (hk : k ≤ 1099511627776) (h : OwnI w a b v zs) :
    Calls Try.prog 23 #[v, .int .i64 k] w fun e w' => e = .returned (.int .i64 ((k + zs.length : Nat) : Int)) ∧ OwnI w' a b v (marks k zs.length) ∧ Upd a b w w' := by
  rcases h.1.2 with ⟨rfl, h0⟩ | ⟨g, cap, cur, rfl, h1, h2, h3⟩
  · refine (markIntS_none k w).mono ?_
    rintro e w' ⟨rfl, rfl⟩
    rw [h0]
    exact ⟨rfl, ⟨World.ownsRow_nil _ _ _ _, fun k hk => by simp [Value.ownBlock] at hk⟩, Upd.refl _ _ _⟩
  · have hb := h.2 g rfl
    refine (markIntS_some a g cap zs.length k _ w hn hk h.1).mono ?_
    rintro e w' ⟨rfl, ho, hu⟩
    refine ⟨rfl, ⟨?_, h.2⟩, ⟨hu.os, hu.tape, hu.output, hu.size, fun i hi hn => hu.block i hi (by omega)⟩⟩
    rw [marks_length]; exact ho

set_option maxHeartbeats 1000000 in
theorem heldIntS_own (a b : Nat) (v : Value) (k n : Nat) (w : World) (hn : n ≤ 1048576) (hk : k ≤ 1099511627776) (h : OwnI w a b v (marks k n)) :
    Calls Try.prog 24 #[v, .int .i64 k] w fun e w' => e = .returned (.int .i64 ((k + n : Nat) : Int)) ∧ w' = w := by
  obtain ⟨ad, cap, rfl, hA⟩ := h.rd
  rw [marks_length]
  replace hA := hide hA
  clear h
  go_enter Try.func24, Try.ntmps24
  go_wp2
  go_loop [1, 5] (fun a i => ∃ t : Nat, t ≤ n ∧ a = .int .i64 ((k + t : Nat) : Int) ∧ i = .int .i64 t) (fun _ i => n - (intOf i).toNat)
  case atStart => exact ⟨0, Nat.zero_le _, rfl, rfl⟩
  case round =>
    obtain ⟨t, ht, rfl, rfl⟩ := hrel
    by_cases hlt : t < n
    · obtain ⟨b', off, rfl, hbl, hc⟩ := (unhide hA) (ne_of_lt_length (k := t) (by simpa using hlt))
      have hck := hc t (by simpa using hlt)
      rw [marks_getD k n t hlt, show (((k + t : Nat) : Int)) = (k : Int) + (t : Int) by omega] at hck
      clear hc hA
      go_wp2
      go_round
      case rel => exact ⟨t + 1, by omega, by go_num, by go_num⟩
      case measure => simp [intOf]; omega
    · have htn : t = n := by omega
      subst htn
      go_wp2
      go_ret
      exact ⟨rfl, rfl⟩
end Go.Proofs.Ytpofmcepjmbmcaa

/- What a step that only lays new blocks keeps of a row of the call's own. -/
namespace Go.Proofs.Ytpofmcepjmbmcaa
open Go.RowKit

theorem ownsP_below {w w' : World} {base : Nat} {e : TypeId} {size n : Nat} {v : Value} {xs : List Value} (h : w.ownsRow base e size v n xs) (hb : Below w.heap.size w w') : w'.ownsRow base e size v n xs :=
  ((Own.of h).keep (Upd.of_below hb 0 0)).1
end Go.Proofs.Ytpofmcepjmbmcaa

/- Lists of Choices: 2 numbers each; the walks of the laws' own helpers on them. -/
namespace Go.Proofs.Ytpofmcepjmbmcaa
open Go.RowKit

abbrev Ch := Int × Int
abbrev Ch0 : Ch := (0, 0)
def cellsCh (ps : List Ch) : List Value := ps.flatMap fun p => [.int .i64 p.1, .int .i64 p.2]
theorem cellsCh_length (ps : List Ch) : (cellsCh ps).length = ps.length * 2 := by
  induction ps with
  | nil => rfl
  | cons p ps ih => unfold cellsCh at ih ⊢; rw [List.flatMap_cons, List.length_append, ih]; simp; omega
theorem cellsCh_snoc (ps : List Ch) (p : Ch) : cellsCh (ps ++ [p]) = cellsCh ps ++ [.int .i64 p.1, .int .i64 p.2] := by unfold cellsCh; simp
def RowCh (ys : List Value) (ps : List Ch) (k : Nat) : Prop := ∀ j, j < k → ys[j * 2]? = some (.int .i64 (ps.getD j Ch0).1) ∧ ys[j * 2 + 1]? = some (.int .i64 (ps.getD j Ch0).2)
theorem cellsCh_at (ps : List Ch) : RowCh (cellsCh ps) ps ps.length := by
  induction ps with
  | nil => intro j hj; simp at hj
  | cons p ps ih =>
    intro j hj
    have e : cellsCh (p :: ps) = [.int .i64 p.1, .int .i64 p.2] ++ cellsCh ps := by unfold cellsCh; simp
    rw [e]
    cases j with
    | zero => exact ⟨rfl, rfl⟩
    | succ j =>
      have h := ih j (by simpa using hj)
      rw [List.getElem?_append_right (by simp; omega), List.getElem?_append_right (by simp; omega)]
      simp only [List.length_cons, List.length_nil, List.getD_cons_succ]
      rw [show (j + 1) * 2 - (0 + 1 + 1) = j * 2 by omega, show (j + 1) * 2 + 1 - (0 + 1 + 1) = j * 2 + 1 by omega]
      exact h
theorem cellsCh_of {ys : List Value} {ps : List Ch} (hl : ys.length = ps.length * 2) (h : RowCh ys ps ps.length) : ys = cellsCh ps := by
  apply List.ext_getElem?
  intro i
  by_cases hi : i < ps.length * 2
  · have h1 := h (i / 2) (by omega)
    have h2 := cellsCh_at ps (i / 2) (by omega)
    rcases (show i = i / 2 * 2 ∨ i = i / 2 * 2 + 1 by omega) with e | e
    · rw [e, h1.1, h2.1]
    · rw [e, h1.2, h2.2]
  · rw [List.getElem?_eq_none (by omega), List.getElem?_eq_none (by rw [cellsCh_length]; omega)]
def AtCh (w : World) (b off : Nat) (ps : List Ch) : Prop := ∀ j, j < ps.length → w.cell? ⟨b, off + j * 2, none⟩ = some (.int .i64 (ps.getD j Ch0).1) ∧ w.cell? ⟨b, off + j * 2 + 1, none⟩ = some (.int .i64 (ps.getD j Ch0).2)
def InCh (ps : List Ch) : Prop := ∀ j, (-9223372036854775808 ≤ (ps.getD j Ch0).1 ∧ (ps.getD j Ch0).1 ≤ 9223372036854775807) ∧ (-9223372036854775808 ≤ (ps.getD j Ch0).2 ∧ (ps.getD j Ch0).2 ≤ 9223372036854775807)
def ArgCh (w : World) (ad : Option Addr) (ps : List Ch) : Prop := ps ≠ [] → ∃ b off, ad = some ⟨b, off, none⟩ ∧ b < w.heap.size ∧ AtCh w b off ps
theorem ArgCh.below {w w' : World} {ad : Option Addr} {ps : List Ch} (h : ArgCh w ad ps) (hb : Below w.heap.size w w') : ArgCh w' ad ps := by
  intro hne
  obtain ⟨b, off, e, hl, hc⟩ := h hne
  exact ⟨b, off, e, Nat.lt_of_lt_of_le hl hb.size, fun j hj => ⟨(hb.cell (by simpa using hl)).trans (hc j hj).1, (hb.cell (by simpa using hl)).trans (hc j hj).2⟩⟩
def RdCh (w : World) (v : Value) (ps : List Ch) : Prop := ∃ ad cap, v = .slice ad ps.length cap ∧ ArgCh w ad ps
theorem RdCh.below {w w' : World} {v : Value} {ps : List Ch} (h : RdCh w v ps) (hb : Below w.heap.size w w') : RdCh w' v ps := by
  obtain ⟨ad, cap, e, h⟩ := h
  exact ⟨ad, cap, e, h.below hb⟩
abbrev OwnCh (w : World) (a b : Nat) (v : Value) (ps : List Ch) : Prop := Own 31 2 w a b v ps.length (cellsCh ps)
theorem OwnCh.rd {w : World} {a b : Nat} {v : Value} {ps : List Ch} (h : OwnCh w a b v ps) : RdCh w v ps := by
  rcases h.1.2 with ⟨rfl, hn⟩ | ⟨g, cap, cur, rfl, h1, h2, h3⟩
  · refine ⟨none, 0, by rw [hn], fun hne => absurd (List.length_eq_zero_iff.1 hn) hne⟩
  · refine ⟨some ⟨g, 0, none⟩, cap, rfl, fun _ => ⟨g, 0, rfl, (h.1.lt g rfl).2, fun j hj => ?_⟩⟩
    have := cellsCh_at ps j hj
    rw [Nat.zero_add, h.1.cellAt _ (by omega), h.1.cellAt _ (by omega)]
    exact this
def marksCh (k n : Nat) : List Ch := (List.range n).map fun j => (((k + 2 * j : Nat) : Int), ((k + 2 * j + 1 : Nat) : Int))
@[simp] theorem marksCh_length (k n : Nat) : (marksCh k n).length = n := by simp [marksCh]
theorem marksCh_at (k n j : Nat) (h : j < n) : (marksCh k n).getD j Ch0 = (((k + 2 * j : Nat) : Int), ((k + 2 * j + 1 : Nat) : Int)) := by
  unfold marksCh; rw [List.getD_eq_getElem?_getD, List.getElem?_map, List.getElem?_range h]; rfl
theorem infoCh : (Try.prog.info? 31).map (fun i => (i.zero, i.size, i.bytes)) = some (some (.agg #[.int .i64 0, .int .i64 0]), 2, 16) := by kernel_rfl
theorem own_nilCh (w : World) (a b : Nat) : OwnCh w a b (.slice none 0 0) [] := ⟨World.ownsRow_nil _ _ _ _, fun k hk => by simp [Value.ownBlock] at hk⟩

end Go.Proofs.Ytpofmcepjmbmcaa

/- Plain: a number of some bits taken out of bytes, bit by bit and part by part, in either order. -/
namespace Go.Proofs.Ytpofmcepjmbmcaa
open Go.RowKit

def byteAt (zs : List Int) (i : Nat) : Nat := (zs.getD i 0).toNat
def bitLow (zs : List Int) (i : Nat) : Nat := byteAt zs (i / 8) / 2 ^ (i % 8) % 2
def bitHigh (zs : List Int) (i : Nat) : Nat := byteAt zs (i / 8) / 2 ^ (7 - i % 8) % 2
def lowTo (zs : List Int) (p : Nat) : Nat → Nat
  | 0 => 0
  | k + 1 => lowTo zs p k + bitLow zs (p + k) * 2 ^ k
def highTo (zs : List Int) (p : Nat) : Nat → Nat
  | 0 => 0
  | k + 1 => 2 * highTo zs p k + bitHigh zs (p + k)
theorem lowTo_lt (zs : List Int) (p k : Nat) : lowTo zs p k < 2 ^ k := by
  induction k with
  | zero => show 0 < 1; omega
  | succ k ih =>
    have hb : bitLow zs (p + k) ≤ 1 := by unfold bitLow; omega
    have := Nat.mul_le_mul_right (2 ^ k) hb
    show lowTo zs p k + bitLow zs (p + k) * 2 ^ k < 2 ^ (k + 1)
    rw [Nat.pow_succ]; omega
theorem highTo_lt (zs : List Int) (p k : Nat) : highTo zs p k < 2 ^ k := by
  induction k with
  | zero => show 0 < 1; omega
  | succ k ih =>
    have hb : bitHigh zs (p + k) ≤ 1 := by unfold bitHigh; omega
    show 2 * highTo zs p k + bitHigh zs (p + k) < 2 ^ (k + 1)
    rw [Nat.pow_succ]; omega
theorem mod_pow_step (x n : Nat) : x % 2 ^ (n + 1) = x % 2 ^ n + x / 2 ^ n % 2 * 2 ^ n := by
  rw [Nat.pow_succ, Nat.mod_mul, Nat.mul_comm (2 ^ n)]
theorem low_part (zs : List Int) (p d n : Nat) (h : (p + d) % 8 + n ≤ 8) :
    lowTo zs p (d + n) = lowTo zs p d + byteAt zs ((p + d) / 8) / 2 ^ ((p + d) % 8) % 2 ^ n * 2 ^ d := by
  induction n with
  | zero => simp [Nat.mod_one]
  | succ n ih =>
    show lowTo zs p (d + n) + bitLow zs (p + (d + n)) * 2 ^ (d + n) = _
    rw [ih (by omega), mod_pow_step, Nat.add_mul, Nat.add_assoc]
    congr 1
    unfold bitLow
    have e1 : (p + (d + n)) / 8 = (p + d) / 8 := by omega
    have e2 : (p + (d + n)) % 8 = (p + d) % 8 + n := by omega
    rw [e1, e2, Nat.pow_add, ← Nat.div_div_eq_div_mul]
    congr 1
    rw [Nat.mul_assoc, ← Nat.pow_add, Nat.add_comm n d]
theorem high_part (zs : List Int) (p d n : Nat) (h : (p + d) % 8 + n ≤ 8) :
    highTo zs p (d + n) = highTo zs p d * 2 ^ n + byteAt zs ((p + d) / 8) / 2 ^ (8 - (p + d) % 8 - n) % 2 ^ n := by
  induction n with
  | zero => simp [Nat.mod_one]
  | succ n ih =>
    show 2 * highTo zs p (d + n) + bitHigh zs (p + (d + n)) = _
    rw [ih (by omega)]
    unfold bitHigh
    have e1 : (p + (d + n)) / 8 = (p + d) / 8 := by omega
    have e2 : 7 - (p + (d + n)) % 8 = 8 - (p + d) % 8 - (n + 1) := by omega
    have e3 : 8 - (p + d) % 8 - n = (8 - (p + d) % 8 - (n + 1)) + 1 := by omega
    rw [e1, e2, e3, Nat.pow_succ 2 (8 - (p + d) % 8 - (n + 1)), ← Nat.div_div_eq_div_mul]
    generalize byteAt zs ((p + d) / 8) / 2 ^ (8 - (p + d) % 8 - (n + 1)) = y
    have e4 : y % 2 ^ (n + 1) = y % 2 + 2 * (y / 2 % 2 ^ n) := by
      rw [Nat.pow_succ, Nat.mul_comm, Nat.mod_mul]
    rw [e4, Nat.pow_succ]
    generalize highTo zs p d = a
    have : a * (2 ^ n * 2) = 2 * (a * 2 ^ n) := by rw [← Nat.mul_assoc, Nat.mul_comm]
    omega

theorem bit_of_u8 (x s : Nat) (hx : x < 256) : bits .and .u64 (IntKind.u64.wrap ((x : Int) / 2 ^ s)) 1 = ((x / 2 ^ s % 2 : Nat) : Int) := by
  have h := Nat.div_le_self x (2 ^ s)
  rw [show ((x : Int) / 2 ^ s) = ((x / 2 ^ s : Nat) : Int) by simp, IntKind.wrap_u64]
  generalize x / 2 ^ s = y at h ⊢
  rw [show ((y : Int) % 18446744073709551616) = (y : Int) by omega]
  go_bits2
theorem or_bit (v b k : Nat) (hv : v < 2 ^ k) (hb : b ≤ 1) (hk : k < 64) : bits .or .u64 (v : Int) (IntKind.u64.wrap ((b : Int) * 2 ^ k)) = ((v + b * 2 ^ k : Nat) : Int) := by
  have h1 : 2 ^ k ≤ 2 ^ 63 := Nat.pow_le_pow_right (by omega) (by omega)
  have h2 := Nat.mul_le_mul_right (2 ^ k) hb
  have e : IntKind.u64.wrap ((b : Int) * 2 ^ k) = ((b * 2 ^ k : Nat) : Int) := by
    rw [IntKind.wrap_u64, show ((b : Int) * 2 ^ k) = ((b * 2 ^ k : Nat) : Int) by simp]
    omega
  rw [e, u64_or_nat _ _ (by omega) (by omega), Nat.or_comm, nat_join k _ _ (Nat.mul_mod_left _ _) hv, Nat.add_comm]
theorem twice_bit (v b k : Nat) (hv : v < 2 ^ k) (hb : b ≤ 1) (hk : k < 64) : IntKind.u64.wrap (IntKind.u64.wrap ((v : Int) * 2) + (b : Int)) = ((2 * v + b : Nat) : Int) := by
  have h1 : 2 ^ k ≤ 2 ^ 63 := Nat.pow_le_pow_right (by omega) (by omega)
  rw [IntKind.wrap_u64, IntKind.wrap_u64]; omega
theorem mask_bits (v n : Nat) (hv : v < 18446744073709551616) (hn : n ≤ 63) : bits .and .u64 (v : Int) (IntKind.u64.wrap (IntKind.u64.wrap (2 ^ n) - 1)) = ((v % 2 ^ n : Nat) : Int) := by
  have h1 : 2 ^ n ≤ 2 ^ 63 := Nat.pow_le_pow_right (by omega) hn
  have h2 : 0 < 2 ^ n := Nat.pow_pos (by omega)
  have e : IntKind.u64.wrap (IntKind.u64.wrap (2 ^ n) - 1) = ((2 ^ n - 1 : Nat) : Int) := by
    rw [IntKind.wrap_u64, IntKind.wrap_u64, show ((2 : Int) ^ n) = ((2 ^ n : Nat) : Int) by simp]; omega
  rw [e, u64_and_nat _ _ hv (by omega), Nat.and_two_pow_sub_one_eq_mod]
theorem or_part (v c d m : Nat) (hv : v < 2 ^ d) (hc : c < 2 ^ m) (h : d + m ≤ 64) : bits .or .u64 (v : Int) (IntKind.u64.wrap ((c : Int) * 2 ^ d)) = ((v + c * 2 ^ d : Nat) : Int) := by
  have h1 : 2 ^ (d + m) ≤ 2 ^ 64 := Nat.pow_le_pow_right (by omega) h
  have h2 : (c + 1) * 2 ^ d ≤ 2 ^ m * 2 ^ d := Nat.mul_le_mul_right _ (by omega)
  rw [Nat.add_mul, Nat.one_mul, ← Nat.pow_add, Nat.add_comm m d] at h2
  have e : IntKind.u64.wrap ((c : Int) * 2 ^ d) = ((c * 2 ^ d : Nat) : Int) := by
    rw [IntKind.wrap_u64, show ((c : Int) * 2 ^ d) = ((c * 2 ^ d : Nat) : Int) by simp]
    omega
  rw [e, u64_or_nat _ _ (by omega) (by omega), Nat.or_comm, nat_join d _ _ (Nat.mul_mod_left _ _) hv, Nat.add_comm]
theorem part_or (v c d m : Nat) (hv : v < 2 ^ d) (hc : c < 2 ^ m) (h : d + m ≤ 64) : bits .or .u64 (IntKind.u64.wrap ((v : Int) * 2 ^ m)) (c : Int) = ((v * 2 ^ m + c : Nat) : Int) := by
  have h1 : 2 ^ (d + m) ≤ 2 ^ 64 := Nat.pow_le_pow_right (by omega) h
  have h2 : (v + 1) * 2 ^ m ≤ 2 ^ d * 2 ^ m := Nat.mul_le_mul_right _ (by omega)
  rw [Nat.add_mul, Nat.one_mul, ← Nat.pow_add] at h2
  have e : IntKind.u64.wrap ((v : Int) * 2 ^ m) = ((v * 2 ^ m : Nat) : Int) := by
    rw [IntKind.wrap_u64, show ((v : Int) * 2 ^ m) = ((v * 2 ^ m : Nat) : Int) by simp]
    omega
  rw [e, u64_or_nat _ _ (by omega) (by omega), nat_join m _ _ (Nat.mul_mod_left _ _) hc]
def goodAt (len : Nat) (p bits : Int) : Bool := decide (0 ≤ bits) && decide (bits ≤ 64) && decide (0 ≤ p) && decide (p ≤ 8 * len - bits)
end Go.Proofs.Ytpofmcepjmbmcaa

/- A byte string that came in, or that the call itself has copied: what the walks know of it. -/
namespace Go.Proofs.Ytpofmcepjmbmcaa
open Go.RowKit

/-- A byte string handed in: its bytes in range, and, where there are any, in the cells of an old block. -/
def ArgB (w : World) (ad : Option Addr) (zs : List Int) : Prop := InB zs ∧ (zs ≠ [] → ∃ b off, ad = some ⟨b, off, none⟩ ∧ b < w.heap.size ∧ BytesAt w b off zs)
/-- A byte string of the call's own: at the head of a block. -/
def OwnB (w : World) (g : Nat) (zs : List Int) : Prop := g < w.heap.size ∧ BytesAt w g 0 zs

theorem ArgB.below {w w' : World} {ad : Option Addr} {zs : List Int} (h : ArgB w ad zs) (hb : Below w.heap.size w w') : ArgB w' ad zs := by
  refine ⟨h.1, fun hne => ?_⟩
  obtain ⟨b, off, e, hl, hc⟩ := h.2 hne
  exact ⟨b, off, e, Nat.lt_of_lt_of_le hl hb.size, fun j hj => (hb.cell (by simpa using hl)).trans (hc j hj)⟩
theorem OwnB.below {w w' : World} {g : Nat} {zs : List Int} (h : OwnB w g zs) (hb : Below w.heap.size w w') : OwnB w' g zs :=
  ⟨Nat.lt_of_lt_of_le h.1 hb.size, fun j hj => (hb.cell (by simpa using h.1)).trans (h.2 j hj)⟩
theorem ownB_of_owns {w : World} {base g n cap : Nat} {zs : List Int} (hn : zs.length = n) (h : w.ownsRow base 5 1 (.slice (some ⟨g, 0, none⟩) n cap) n (zs.map (.int .u8))) : OwnB w g zs := by
  subst hn
  refine ⟨(h.lt g rfl).2, fun j hj => ?_⟩
  rw [Nat.zero_add, h.cellAt j (by omega)]
  exact getD_map_int zs .u8 j hj

end Go.Proofs.Ytpofmcepjmbmcaa

/- The walks of TakeLow and TakeHigh: the program's small parts. -/
namespace Go.Proofs.Ytpofmcepjmbmcaa
open Go.RowKit

/-- The reader in the variable at block r. -/
def ReaderAt (w : World) (r : Nat) (o : Int) (s : Value) (p : Int) : Prop := r < w.heap.size ∧ w.cell? ⟨r, 0, none⟩ = some (.int .i64 o) ∧ w.cell? ⟨r, 1, none⟩ = some s ∧ w.cell? ⟨r, 2, none⟩ = some (.int .i64 p)

/-- The world is as it was but for block r, and for what is new. -/
structure OnlyAt (r : Nat) (w w' : World) : Prop where
  os : w'.os = w.os
  tape : w'.tape = w.tape
  output : w'.output = w.output
  size : w.heap.size ≤ w'.heap.size
  block : ∀ k, k < w.heap.size → k ≠ r → w'.heap[k]? = w.heap[k]?
theorem OnlyAt.refl (r : Nat) (w : World) : OnlyAt r w w := ⟨rfl, rfl, rfl, Nat.le_refl _, fun _ _ _ => rfl⟩
theorem OnlyAt.trans {r : Nat} {a w w' : World} (h : OnlyAt r a w) (k : OnlyAt r w w') : OnlyAt r a w' :=
  ⟨k.os.trans h.os, k.tape.trans h.tape, k.output.trans h.output, Nat.le_trans h.size k.size, fun i hi hn => (k.block i (Nat.lt_of_lt_of_le hi h.size) hn).trans (h.block i hi hn)⟩
theorem OnlyAt.drewN {r : Nat} {a w : World} (h : OnlyAt r a w) (n : Nat) : OnlyAt r a (w.drewN n) := h.trans ⟨rfl, rfl, rfl, Nat.le_refl _, fun _ _ _ => rfl⟩
theorem OnlyAt.setCell {r : Nat} {a w : World} (h : OnlyAt r a w) (o : Nat) (u : Value) : OnlyAt r a (w.setCell ⟨r, o, none⟩ u) :=
  h.trans ⟨rfl, rfl, rfl, by simp, fun k _ hk => Below.heap_setCell w ⟨r, o, none⟩ u k hk⟩
theorem OnlyAt.cell {r : Nat} {w w' : World} (h : OnlyAt r w w') {p : Addr} (hp : p.block < w.heap.size) (hr : p.block ≠ r) : w'.cell? p = w.cell? p := World.cell?_of_block (h.block p.block hp hr)
theorem OnlyAt.frozen {r : Nat} {w w' : World} (h : OnlyAt r w w') {p : Addr} (hp : p.block < w.heap.size) (hr : p.block ≠ r) : w'.frozen? p = w.frozen? p := World.frozen?_of_block (h.block p.block hp hr)
theorem OnlyAt.below {r B : Nat} {w w' : World} (h : OnlyAt r w w') (hB : B ≤ r) (hs : B ≤ w.heap.size) : Below B w w' :=
  ⟨h.os, h.tape, h.output, h.size, fun k hk => h.block k (by omega) (by omega)⟩
theorem ReaderAt.drewN {w : World} {r : Nat} {o : Int} {s : Value} {p : Int} (h : ReaderAt w r o s p) (nq : Nat) : ReaderAt (w.drewN nq) r o s p := h
theorem ReaderAt.moved {w : World} {r : Nat} {o : Int} {s : Value} {p : Int} (h : ReaderAt w r o s p) (q : Int) : ReaderAt (w.setCell ⟨r, 2, none⟩ (.int .i64 q)) r o s q := by
  obtain ⟨h0, h1, h2, h3⟩ := h
  refine ⟨by simpa using h0, ?_, ?_, ?_⟩
  · rw [World.cell?_setCell_other _ _ _ _ (by simp)]; exact h1
  · rw [World.cell?_setCell_other _ _ _ _ (by simp)]; exact h2
  · exact World.cell?_setCell_same _ _ _ h3

end Go.Proofs.Ytpofmcepjmbmcaa

/- Plain: bits put one behind the other into bytes, in either order; a part of a number put at once is as many bits. -/
namespace Go.Proofs.Ytpofmcepjmbmcaa
open Go.RowKit

def opn (zs : List Nat) (L : Nat) : List Nat := if L % 8 = 0 then zs ++ [0] else zs
def ex (h : Bool) (r : Nat) : Nat := if h then 7 - r else r
def addBit (h : Bool) (zs : List Nat) (L b : Nat) : List Nat := (opn zs L).set (L / 8) ((opn zs L).getD (L / 8) 0 + b * 2 ^ ex h (L % 8))
def fbit (h : Bool) (v n k : Nat) : Nat := if h then v / 2 ^ (n - 1 - k) % 2 else v / 2 ^ k % 2
def ft (h : Bool) (v n : Nat) (zs : List Nat) (L : Nat) : Nat → List Nat
  | 0 => zs
  | k + 1 => addBit h (ft h v n zs L k) (L + k) (fbit h v n k)

/-- The bytes hold so many bits, and the bits that are left in the last one are 0. -/
def Inv (h : Bool) (zs : List Nat) (L : Nat) : Prop :=
  zs.length = (L + 7) / 8 ∧ (∀ j, zs.getD j 0 < 256) ∧ (L % 8 ≠ 0 → if h then zs.getD (L / 8) 0 % 2 ^ (8 - L % 8) = 0 else zs.getD (L / 8) 0 < 2 ^ (L % 8))

theorem opn_len {h : Bool} {zs : List Nat} {L : Nat} (hi : Inv h zs L) : (opn zs L).length = L / 8 + 1 := by
  unfold opn; have := hi.1
  split
  · simp; omega
  · omega
theorem getD_snoc_last (zs : List Nat) (a : Nat) : (zs ++ [a]).getD zs.length 0 = a := by
  rw [List.getD_eq_getElem?_getD, List.getElem?_append_right (Nat.le_refl _), Nat.sub_self]; rfl
theorem getD_snoc (zs : List Nat) (j : Nat) : (zs ++ [0]).getD j 0 = zs.getD j 0 := by
  rw [List.getD_eq_getElem?_getD, List.getD_eq_getElem?_getD]
  rcases Nat.lt_trichotomy j zs.length with h | h | h
  · rw [List.getElem?_append_left h]
  · subst h; rw [List.getElem?_append_right (Nat.le_refl _), Nat.sub_self, List.getElem?_eq_none (Nat.le_refl _)]; rfl
  · rw [List.getElem?_eq_none (by simp; omega), List.getElem?_eq_none (by omega)]
theorem opn_getD (zs : List Nat) (L j : Nat) : (opn zs L).getD j 0 = zs.getD j 0 := by
  unfold opn; split
  · exact getD_snoc zs j
  · rfl
theorem opn_x {h : Bool} {zs : List Nat} {L : Nat} (hi : Inv h zs L) : (opn zs L).getD (L / 8) 0 < 256 ∧ (if h then (opn zs L).getD (L / 8) 0 % 2 ^ (8 - L % 8) = 0 else (opn zs L).getD (L / 8) 0 < 2 ^ (L % 8)) := by
  rw [opn_getD]
  refine ⟨hi.2.1 _, ?_⟩
  by_cases h0 : L % 8 = 0
  · have hz : zs.getD (L / 8) 0 = 0 := by
      rw [List.getD_eq_getElem?_getD, List.getElem?_eq_none (by have := hi.1; omega)]; rfl
    rw [hz, h0]; cases h <;> simp
  · exact hi.2.2 h0
theorem getD_set_same (zs : List Nat) (i a : Nat) (hi : i < zs.length) : (zs.set i a).getD i 0 = a := by
  rw [List.getD_eq_getElem?_getD, List.getElem?_set_self hi]; rfl
theorem getD_set_other (zs : List Nat) (i j a : Nat) (h : i ≠ j) : (zs.set i a).getD j 0 = zs.getD j 0 := by
  rw [List.getD_eq_getElem?_getD, List.getD_eq_getElem?_getD, List.getElem?_set_ne h]
theorem pow_cases (r : Nat) (h : r < 8) : r = 0 ∨ r = 1 ∨ r = 2 ∨ r = 3 ∨ r = 4 ∨ r = 5 ∨ r = 6 ∨ r = 7 := by omega
theorem step_x (h : Bool) (x r b : Nat) (hr : r < 8) (hb : b ≤ 1) (hx : x < 256) (hf : if h then x % 2 ^ (8 - r) = 0 else x < 2 ^ r) :
    x + b * 2 ^ ex h r < 256 ∧ (if h then (x + b * 2 ^ ex h r) % 2 ^ (8 - (r + 1)) = 0 else x + b * 2 ^ ex h r < 2 ^ (r + 1)) := by
  have hb' : b = 0 ∨ b = 1 := by omega
  cases h <;> rcases pow_cases r hr with e | e | e | e | e | e | e | e <;> subst e <;> rcases hb' with e | e <;> subst e <;> simp [ex] at hf ⊢ <;> omega
theorem addBit_inv {h : Bool} {zs : List Nat} {L b : Nat} (hi : Inv h zs L) (hb : b ≤ 1) : Inv h (addBit h zs L b) (L + 1) := by
  have hl := opn_len hi
  have hx := opn_x hi
  have hs := step_x h _ (L % 8) b (by omega) hb hx.1 hx.2
  refine ⟨?_, ?_, ?_⟩
  · unfold addBit; rw [List.length_set, hl]; omega
  · intro j
    unfold addBit
    by_cases e : L / 8 = j
    · subst e; rw [getD_set_same _ _ _ (by omega)]; exact hs.1
    · rw [getD_set_other _ _ _ _ e, opn_getD]; exact hi.2.1 j
  · intro h0
    have e1 : (L + 1) / 8 = L / 8 := by omega
    have e2 : (L + 1) % 8 = L % 8 + 1 := by omega
    rw [e1, e2]
    unfold addBit
    rw [getD_set_same _ _ _ (by omega)]
    exact hs.2
theorem fbit_le (h : Bool) (v n k : Nat) : fbit h v n k ≤ 1 := by unfold fbit; split <;> omega
theorem ft_inv {h : Bool} {v n : Nat} {zs : List Nat} {L : Nat} (hi : Inv h zs L) (k : Nat) : Inv h (ft h v n zs L k) (L + k) := by
  induction k with
  | zero => exact hi
  | succ k ih => exact addBit_inv ih (fbit_le h v n k)

def chunk (h : Bool) (v n d m : Nat) : Nat := if h then v / 2 ^ (n - d - m) % 2 ^ m else v / 2 ^ d % 2 ^ m
def cex (h : Bool) (r m : Nat) : Nat := if h then 8 - r - m else r
theorem chunk_lt (h : Bool) (v n d m : Nat) : chunk h v n d m < 2 ^ m := by
  unfold chunk; split <;> exact Nat.mod_lt _ (Nat.pow_pos (by omega))
theorem ft_chunk {h : Bool} {v n : Nat} {zs : List Nat} {L : Nat} (hi : Inv h zs L) (d m : Nat) (hm : (L + d) % 8 + (m + 1) ≤ 8) (hn : d + (m + 1) ≤ n) :
    ft h v n zs L (d + (m + 1)) = (opn (ft h v n zs L d) (L + d)).set ((L + d) / 8) ((opn (ft h v n zs L d) (L + d)).getD ((L + d) / 8) 0 + chunk h v n d (m + 1) * 2 ^ cex h ((L + d) % 8) (m + 1)) := by
  have hl := opn_len (ft_inv (v := v) (n := n) hi d)
  induction m with
  | zero =>
    show addBit h (ft h v n zs L d) (L + d) (fbit h v n d) = _
    unfold addBit
    congr 2
    have e1 : fbit h v n d = chunk h v n d (0 + 1) := by
      unfold fbit chunk; split
      · rw [show n - 1 - d = n - d - (0 + 1) by omega, Nat.zero_add, Nat.pow_one]
      · rw [Nat.zero_add, Nat.pow_one]
    have e2 : ex h ((L + d) % 8) = cex h ((L + d) % 8) (0 + 1) := by unfold ex cex; split <;> omega
    rw [e1, e2]
  | succ m ih =>
    show addBit h (ft h v n zs L (d + (m + 1))) (L + (d + (m + 1))) (fbit h v n (d + (m + 1))) = _
    rw [ih (by omega) (by omega)]
    have e1 : (L + (d + (m + 1))) / 8 = (L + d) / 8 := by omega
    have e2 : (L + (d + (m + 1))) % 8 = (L + d) % 8 + (m + 1) := by omega
    unfold addBit
    generalize opn (ft h v n zs L d) (L + d) = Y at hl ⊢
    generalize Y.getD ((L + d) / 8) 0 = x
    have e3 : ∀ A, opn A (L + (d + (m + 1))) = A := fun A => by unfold opn; rw [if_neg (by omega)]
    rw [e3, e1, e2, getD_set_same _ _ _ (by omega), List.set_set]
    congr 1
    rw [Nat.add_assoc]
    congr 1
    unfold fbit chunk ex cex
    cases h
    · simp only [Bool.false_eq_true, if_false]
      have hp := mod_pow_step (v / 2 ^ d) (m + 1)
      rw [Nat.div_div_eq_div_mul, ← Nat.pow_add] at hp
      rw [show m + 1 + 1 = (m + 1) + 1 from rfl, hp, Nat.add_mul, Nat.pow_add 2 ((L + d) % 8) (m + 1)]
      rw [Nat.mul_assoc (v / 2 ^ (d + (m + 1)) % 2), Nat.mul_comm (2 ^ (m + 1))]
    · simp only [if_true]
      have e4 : n - 1 - (d + (m + 1)) = n - d - (m + 1 + 1) := by omega
      have e5 : n - d - (m + 1) = (n - d - (m + 1 + 1)) + 1 := by omega
      have e6 : 8 - (L + d) % 8 - (m + 1) = (8 - (L + d) % 8 - (m + 1 + 1)) + 1 := by omega
      have e7 : 7 - ((L + d) % 8 + (m + 1)) = 8 - (L + d) % 8 - (m + 1 + 1) := by omega
      rw [e4, e5, e6, e7, Nat.pow_succ 2 (n - d - (m + 1 + 1)), ← Nat.div_div_eq_div_mul]
      generalize v / 2 ^ (n - d - (m + 1 + 1)) = y
      have e8 : y % 2 ^ (m + 1 + 1) = y % 2 + 2 * (y / 2 % 2 ^ (m + 1)) := by rw [Nat.pow_succ 2 (m + 1), Nat.mul_comm, Nat.mod_mul]
      rw [e8, Nat.pow_succ 2 (8 - (L + d) % 8 - (m + 1 + 1)), Nat.add_mul]
      generalize 2 ^ (8 - (L + d) % 8 - (m + 1 + 1)) = q
      generalize y / 2 % 2 ^ (m + 1) = z
      have : z * (q * 2) = 2 * z * q := by rw [Nat.mul_comm q 2, ← Nat.mul_assoc, Nat.mul_comm z 2]
      omega
theorem or_into (h : Bool) (x r m c : Nat) (hm : r + m ≤ 8) (hf : if h then x % 2 ^ (8 - r) = 0 else x < 2 ^ r) (hc : c < 2 ^ m) : x ||| (c * 2 ^ cex h r m) = x + c * 2 ^ cex h r m := by
  unfold cex
  cases h
  · simp only [Bool.false_eq_true, if_false] at hf ⊢
    rw [Nat.or_comm, nat_join r _ _ (Nat.mul_mod_left _ _) hf, Nat.add_comm]
  · simp only [if_true] at hf ⊢
    refine nat_join (8 - r) _ _ hf ?_
    have := Nat.mul_lt_mul_of_pos_right hc (Nat.pow_pos (n := 8 - r - m) (show 0 < 2 by omega))
    rwa [← Nat.pow_add, show m + (8 - r - m) = 8 - r by omega] at this
end Go.Proofs.Ytpofmcepjmbmcaa

/- The walks of the sink of bits: the specification's. -/
namespace Go.Proofs.Ytpofmcepjmbmcaa
open Go.RowKit

def vals (zs : List Nat) : List Value := zs.map fun b : Nat => Value.int .u8 (b : Int)
theorem vals_len (zs : List Nat) : (vals zs).length = zs.length := by unfold vals; simp
theorem vals_at (zs : List Nat) (j : Nat) (h : j < zs.length) : (vals zs)[j]? = some (.int .u8 (zs.getD j 0 : Nat)) := by
  unfold vals; rw [List.getElem?_map, List.getD_eq_getElem?_getD, List.getElem?_eq_getElem h]; rfl
theorem vals_set (zs : List Nat) (j a : Nat) : (vals zs).set j (.int .u8 (a : Int)) = vals (zs.set j a) := by unfold vals; rw [List.map_set]
theorem vals_snoc (zs : List Nat) : vals zs ++ [.int .u8 0] = vals (zs ++ [0]) := by unfold vals; simp

/-- A sink or a writer of bits in the variable at block c: its first word, its bytes, its number. -/
def SinkAt (w : World) (c : Nat) (o v : Value) (q : Int) : Prop :=
  c < w.heap.size ∧ w.cell? ⟨c, 0, none⟩ = some o ∧ w.cell? ⟨c, 1, none⟩ = some v ∧ w.cell? ⟨c, 2, none⟩ = some (.int .i64 q) ∧ w.frozen? ⟨c, 1, none⟩ = false ∧ w.frozen? ⟨c, 2, none⟩ = false
def Sink (w : World) (c : Nat) (o : Value) (zs : List Nat) (q : Int) : Prop := ∃ v, SinkAt w c o v q ∧ w.ownsRow (c + 1) 5 1 v zs.length (vals zs)
theorem SinkAt.drewN {w : World} {c : Nat} {o v : Value} {q : Int} (h : SinkAt w c o v q) (n : Nat) : SinkAt (w.drewN n) c o v q := h
theorem SinkAt.drew {w : World} {c : Nat} {o v : Value} {q : Int} (h : SinkAt w c o v q) : SinkAt w.drew c o v q := h
theorem SinkAt.grown {w w' : World} {c : Nat} {o v : Value} {q : Int} {row : Option Nat} (h : SinkAt w c o v q) (hg : w.grownBy w' row) (hr : some c ≠ row) : SinkAt w' c o v q := by
  obtain ⟨h0, h1, h2, h3, f1, f2⟩ := h
  have hb := hg.block c h0 hr
  exact ⟨Nat.lt_of_lt_of_le h0 hg.size, (World.cell?_of_block (a := ⟨c, 0, none⟩) hb).trans h1, (World.cell?_of_block (a := ⟨c, 1, none⟩) hb).trans h2, (World.cell?_of_block (a := ⟨c, 2, none⟩) hb).trans h3,
    (World.frozen?_of_block (a := ⟨c, 1, none⟩) hb).trans f1, (World.frozen?_of_block (a := ⟨c, 2, none⟩) hb).trans f2⟩
theorem SinkAt.data {w : World} {c : Nat} {o v : Value} {q : Int} (h : SinkAt w c o v q) (u : Value) : SinkAt (w.setCell ⟨c, 1, none⟩ u) c o u q := by
  obtain ⟨h0, h1, h2, h3, f1, f2⟩ := h
  refine ⟨by simpa using h0, ?_, World.cell?_setCell_same _ _ _ h2, ?_, (World.frozen?_setCell _ _ _ _).trans f1, (World.frozen?_setCell _ _ _ _).trans f2⟩
  · rw [World.cell?_setCell_other _ _ _ _ (by simp)]; exact h1
  · rw [World.cell?_setCell_other _ _ _ _ (by simp)]; exact h3
theorem SinkAt.num {w : World} {c : Nat} {o v : Value} {q : Int} (h : SinkAt w c o v q) (p : Int) : SinkAt (w.setCell ⟨c, 2, none⟩ (.int .i64 p)) c o v p := by
  obtain ⟨h0, h1, h2, h3, f1, f2⟩ := h
  refine ⟨by simpa using h0, ?_, ?_, World.cell?_setCell_same _ _ _ h3, (World.frozen?_setCell _ _ _ _).trans f1, (World.frozen?_setCell _ _ _ _).trans f2⟩
  · rw [World.cell?_setCell_other _ _ _ _ (by simp)]; exact h1
  · rw [World.cell?_setCell_other _ _ _ _ (by simp)]; exact h2
theorem SinkAt.far {w : World} {c g j : Nat} {o v u : Value} {q : Int} (h : SinkAt w c o v q) (hg : g ≠ c) : SinkAt (w.setCell ⟨g, j, none⟩ u) c o v q := by
  obtain ⟨h0, h1, h2, h3, f1, f2⟩ := h
  refine ⟨by simpa using h0, ?_, ?_, ?_, (World.frozen?_setCell _ _ _ _).trans f1, (World.frozen?_setCell _ _ _ _).trans f2⟩ <;> (rw [World.cell?_setCell_far _ _ _ _ (by simpa using hg)]; assumption)
theorem one_new (w : World) (u : Value) : ∀ j v, [u][j]? = some v → (w.alloc (.cells #[u] 5)).cell? ((⟨w.heap.size, 0, none⟩ : Addr).add j) = some v := by
  intro j v hj
  match j, hj with
  | 0, hj => simp at hj; subst hj; simp [Addr.add]
theorem one_one : ∀ u ∈ [Value.int .u8 0], u.oneCell' = true := by intro u hu; simp at hu; subst hu; rfl
theorem addBit_zero (h : Bool) (zs : List Nat) (L : Nat) (hl : L / 8 < (opn zs L).length) : addBit h zs L 0 = opn zs L := by
  unfold addBit
  rw [Nat.zero_mul, Nat.add_zero, List.getD_eq_getElem?_getD, List.getElem?_eq_getElem hl]
  exact List.set_getElem_self hl
theorem or_bit8 (h : Bool) (x r k : Nat) (hx : x < 256) (hr : r < 8) (hk : k = ex h r) (hf : if h then x % 2 ^ (8 - r) = 0 else x < 2 ^ r) : bits .or .u8 (x : Int) (2 ^ k % 256) = ((x + 1 * 2 ^ ex h r : Nat) : Int) := by
  have hk7 : k ≤ 7 := by subst hk; unfold ex; split <;> omega
  have ho := or_into h x r 1 1 (by omega) hf (by omega)
  have ec : cex h r 1 = ex h r := by unfold ex cex; split <;> omega
  rw [ec, ← hk] at ho
  rw [← hk]
  have e : ((2 : Int) ^ k % 256) = ((2 ^ k : Nat) : Int) := by
    rcases pow_cases k (by omega) with h | h | h | h | h | h | h | h <;> subst h <;> decide
  have hl : 2 ^ k < 256 := by rcases pow_cases k (by omega) with h | h | h | h | h | h | h | h <;> subst h <;> decide
  rw [e, u8_or_nat _ _ hx hl]
  rw [Nat.one_mul] at ho ⊢
  rw [ho]


end Go.Proofs.Ytpofmcepjmbmcaa

/- The walks of the sink of bits: the specification's numbers. -/
namespace Go.Proofs.Ytpofmcepjmbmcaa
open Go.RowKit

theorem bit_of_u64 (v k : Nat) (hv : v < 18446744073709551616) : bits .and .u64 ((v : Int) / 2 ^ k) 1 = ((v / 2 ^ k % 2 : Nat) : Int) := by
  have h := Nat.div_le_self v (2 ^ k)
  rw [show ((v : Int) / 2 ^ k) = ((v / 2 ^ k : Nat) : Int) by simp]
  generalize v / 2 ^ k = y at h ⊢
  go_bits2

end Go.Proofs.Ytpofmcepjmbmcaa

/- Fields, and the walk of the specification's packing of them. -/
namespace Go.Proofs.Ytpofmcepjmbmcaa
open Go.RowKit

def FieldsAt (w : World) (b off : Nat) (fs : List (Int × Int)) : Prop := ∀ j, j < fs.length → w.cell? ⟨b, off + j * 2, none⟩ = some (.int .i64 (fs.getD j (0, 0)).1) ∧ w.cell? ⟨b, off + j * 2 + 1, none⟩ = some (.int .u64 (fs.getD j (0, 0)).2)
def InF (fs : List (Int × Int)) : Prop := ∀ j, (-9223372036854775808 ≤ (fs.getD j (0, 0)).1 ∧ (fs.getD j (0, 0)).1 ≤ 9223372036854775807) ∧ 0 ≤ (fs.getD j (0, 0)).2 ∧ (fs.getD j (0, 0)).2 < 18446744073709551616
def OwnF (w : World) (g : Nat) (fs : List (Int × Int)) : Prop := g < w.heap.size ∧ FieldsAt w g 0 fs
theorem OwnF.below {w w' : World} {g : Nat} {fs : List (Int × Int)} (h : OwnF w g fs) (hb : Below w.heap.size w w') : OwnF w' g fs :=
  ⟨Nat.lt_of_lt_of_le h.1 hb.size, fun j hj => ⟨(hb.cell (by simpa using h.1)).trans (h.2 j hj).1, (hb.cell (by simpa using h.1)).trans (h.2 j hj).2⟩⟩
theorem OwnF.belowAt {B : Nat} {w w' : World} {g : Nat} {fs : List (Int × Int)} (h : OwnF w g fs) (hg : g < B) (hb : Below B w w') : OwnF w' g fs :=
  ⟨Nat.lt_of_lt_of_le h.1 hb.size, fun j hj => ⟨(hb.cell (by simpa using hg)).trans (h.2 j hj).1, (hb.cell (by simpa using hg)).trans (h.2 j hj).2⟩⟩

def okF (f : Int × Int) : Prop := 0 ≤ f.1 ∧ f.1 ≤ 64
def packStep (h : Bool) (s : List Nat × Nat) (f : Int × Int) : List Nat × Nat := (ft h f.2.toNat f.1.toNat s.1 s.2 f.1.toNat, s.2 + f.1.toNat)
def packTo (h : Bool) (fs : List (Int × Int)) (k : Nat) : List Nat × Nat := (fs.take k).foldl (packStep h) ([], 0)
theorem packTo_succ (h : Bool) (fs : List (Int × Int)) (k : Nat) (hk : k < fs.length) : packTo h fs (k + 1) = packStep h (packTo h fs k) (fs.getD k (0, 0)) := by
  unfold packTo; rw [take_snoc_getD fs (0, 0) k hk, List.foldl_append]; rfl
theorem inv_nil (h : Bool) : Inv h [] 0 := ⟨rfl, fun j => by simp, fun h => absurd rfl h⟩
theorem packTo_inv (h : Bool) (fs : List (Int × Int)) (k : Nat) (hk : k ≤ fs.length) (hok : ∀ j, j < k → okF (fs.getD j (0, 0))) : Inv h (packTo h fs k).1 (packTo h fs k).2 ∧ (packTo h fs k).2 ≤ 64 * k := by
  induction k with
  | zero => exact ⟨inv_nil h, Nat.le_refl _⟩
  | succ k ih =>
    have h1 := ih (by omega) (fun j hj => hok j (by omega))
    have h2 := hok k (by omega)
    rw [packTo_succ h fs k (by omega)]
    refine ⟨ft_inv h1.1 _, ?_⟩
    show (packTo h fs k).2 + (fs.getD k (0, 0)).1.toNat ≤ _
    have := h2.2
    omega
/-- The packed bytes: none where there are too many fields or one's width is bad. -/
noncomputable def packF (h : Bool) (fs : List (Int × Int)) : List Nat := open Classical in if fs.length ≤ 20000 ∧ ∀ j, j < fs.length → okF (fs.getD j (0, 0)) then (packTo h fs fs.length).1 else []
theorem packF_good (h : Bool) (fs : List (Int × Int)) (h1 : fs.length ≤ 20000) (h2 : ∀ j, j < fs.length → okF (fs.getD j (0, 0))) : packF h fs = (packTo h fs fs.length).1 := if_pos ⟨h1, h2⟩
theorem packF_many (h : Bool) (fs : List (Int × Int)) (h1 : 20000 < fs.length) : packF h fs = [] := if_neg (fun h => by have := h.1; omega)
theorem packF_bad (h : Bool) (fs : List (Int × Int)) (j : Nat) (hj : j < fs.length) (hb : ¬ okF (fs.getD j (0, 0))) : packF h fs = [] := if_neg (fun h => hb (h.2 j hj))

theorem ownsRow_base {w : World} {base base' : Nat} {e : TypeId} {size : Nat} {v : Value} {n : Nat} {xs : List Value} (h : w.ownsRow base e size v n xs) (hb : base' ≤ base) : w.ownsRow base' e size v n xs := by
  refine ⟨h.1, ?_⟩
  rcases h.2 with h | ⟨g, cap, cur, e1, e2, e3⟩
  · exact .inl h
  · exact .inr ⟨g, cap, cur, e1, Nat.le_trans hb e2, e3⟩
theorem Sink.alloc {w : World} {c : Nat} {o : Value} {zs : List Nat} {q : Int} (h : Sink w c o zs q) (ob : Obj) : Sink (w.alloc ob) c o zs q := by
  obtain ⟨v, hS, hown⟩ := h
  exact ⟨v, hS.grown (World.grownBy_alloc w ob none) (by simp), hown.alloc ob⟩
end Go.Proofs.Ytpofmcepjmbmcaa

/- The walks of the laws' own helpers that mark a byte string of the call's own, and ask whether the marks are there. -/
namespace Go.Proofs.Ytpofmcepjmbmcaa
open Go.RowKit

def markAt (k j : Nat) : Value := .int .u8 (((k : Int) + j) % 256)
def Marked (w : World) (g n k : Nat) : Prop := ∀ j, j < n → w.cell? ⟨g, j, none⟩ = some (markAt k j)

end Go.Proofs.Ytpofmcepjmbmcaa

/- The walks of PutNumber, by the program and by the specification. -/
namespace Go.Proofs.Ytpofmcepjmbmcaa
open Go.RowKit

def putL (n : Nat) : List Int := if n < 128 then [(n : Int)] else ((n % 128 + 128 : Nat) : Int) :: putL (n / 128)
termination_by n
decreasing_by omega
theorem putL_last (n : Nat) (h : n < 128) : putL n = [(n : Int)] := by rw [putL, if_pos h]
theorem putL_more (n : Nat) (h : ¬ n < 128) : putL n = ((n % 128 + 128 : Nat) : Int) :: putL (n / 128) := by rw [putL, if_neg h]
theorem putL_inB (n : Nat) : InB (putL n) := by
  induction n using Nat.strongRecOn with
  | ind n ih =>
    intro j
    by_cases h : n < 128
    · rw [putL_last n h]
      rcases j with _ | j
      · simp; omega
      · simp
    · rw [putL_more n h]
      rcases j with _ | j
      · simp only [List.getD_cons_zero]; omega
      · rw [List.getD_cons_succ]; exact ih (n / 128) (by omega) j
theorem put_step (m l : Nat) (h : ¬ m < 128) (hm : m < 2 ^ (64 - 7 * l)) : l ≤ 8 ∧ m / 128 < 2 ^ (64 - 7 * (l + 1)) := by
  have h8 : l ≤ 8 := by
    rcases Nat.lt_or_ge 8 l with h9 | h9
    · have := Nat.pow_le_pow_right (show 0 < 2 by omega) (show 64 - 7 * l ≤ 1 by omega); omega
    · exact h9
  refine ⟨h8, ?_⟩
  have e : 64 - 7 * l = (64 - 7 * (l + 1)) + 7 := by omega
  rw [e, Nat.pow_add] at hm
  omega
theorem or_128 (m : Nat) : bits .or .u8 ((m : Int) % 256) 128 = (m : Int) % 128 + 128 := by
  have h1 := u8_or_nat (m % 128) 128 (by omega) (by omega)
  have h2 := u8_or_nat (m % 256) 128 (by omega) (by omega)
  have e : m % 256 ||| 128 = m % 128 + 128 := by
    have hj := nat_join 7 128 (m % 128) (by omega) (by omega)
    rw [Nat.or_comm] at hj
    rcases Nat.lt_or_ge (m % 256) 128 with hl | hl
    · rw [show m % 256 = m % 128 by omega, hj]; omega
    · have e1 : m % 256 = m % 128 ||| 128 := by rw [hj]; omega
      rw [e1, Nat.or_assoc, Nat.or_self, hj]; omega
  rw [show ((m : Int) % 256) = ((m % 256 : Nat) : Int) by omega]
  refine h2.trans ?_
  rw [e]; omega

end Go.Proofs.Ytpofmcepjmbmcaa

/- The walk of PutNumber: the specification's. -/
namespace Go.Proofs.Ytpofmcepjmbmcaa
open Go.RowKit

theorem putL_len (n : Nat) : ∀ l, l ≤ 9 → n < 2 ^ (64 - 7 * l) → (putL n).length + l ≤ 10 := by
  induction n using Nat.strongRecOn with
  | ind n ih =>
    intro l hl hn
    by_cases h : n < 128
    · rw [putL_last n h]; simp; omega
    · have hs := put_step n l h hn
      have := ih (n / 128) (by omega) (l + 1) (by omega) hs.2
      rw [putL_more n h, List.length_cons]; omega
theorem owns_below {w w' : World} {base : Nat} {e : TypeId} {size g n cap : Nat} {xs : List Value} (h : w.ownsRow base e size (.slice (some ⟨g, 0, none⟩) n cap) n xs) (hb : Below w.heap.size w w') : w'.ownsRow base e size (.slice (some ⟨g, 0, none⟩) n cap) n xs :=
  h.kept (row := none) ⟨hb.os, hb.tape, hb.output, hb.size, fun k hk _ => hb.block k hk⟩ (.inr (by simp [Value.ownBlock]))
theorem OwnB.only {w w' : World} {r g : Nat} {zs : List Int} (h : OwnB w g zs) (ho : OnlyAt r w w') (hne : g ≠ r) : OwnB w' g zs :=
  ⟨Nat.lt_of_lt_of_le h.1 ho.size, fun j hj => (ho.cell (by simpa using h.1) (by simpa using hne)).trans (h.2 j hj)⟩
theorem Marked.below {w w' : World} {g n k : Nat} (h : Marked w g n k) (hg : g < w.heap.size) (hb : Below w.heap.size w w') : Marked w' g n k :=
  fun j hj => (hb.cell (by simpa using hg)).trans (h j hj)
end Go.Proofs.Ytpofmcepjmbmcaa

/- The walks of the laws' own helpers on fields. -/
namespace Go.Proofs.Ytpofmcepjmbmcaa
open Go.RowKit

def FieldRow (ys : List Value) (fs : List (Int × Int)) (k : Nat) : Prop := ∀ j, j < k → ys[j * 2]? = some (.int .i64 (fs.getD j (0, 0)).1) ∧ ys[j * 2 + 1]? = some (.int .u64 (fs.getD j (0, 0)).2)

end Go.Proofs.Ytpofmcepjmbmcaa

/- The walks of the laws' own helpers on fields: equal, marked; a list of fields handed in. -/
namespace Go.Proofs.Ytpofmcepjmbmcaa
open Go.RowKit

def ArgF (w : World) (ad : Option Addr) (fs : List (Int × Int)) : Prop := InF fs ∧ (fs ≠ [] → ∃ b off, ad = some ⟨b, off, none⟩ ∧ b < w.heap.size ∧ FieldsAt w b off fs)
theorem ArgF.below {w w' : World} {ad : Option Addr} {fs : List (Int × Int)} (h : ArgF w ad fs) (hb : Below w.heap.size w w') : ArgF w' ad fs := by
  refine ⟨h.1, fun hne => ?_⟩
  obtain ⟨b, off, e, hl, hc⟩ := h.2 hne
  exact ⟨b, off, e, Nat.lt_of_lt_of_le hl hb.size, fun j hj => ⟨(hb.cell (by simpa using hl)).trans (hc j hj).1, (hb.cell (by simpa using hl)).trans (hc j hj).2⟩⟩
end Go.Proofs.Ytpofmcepjmbmcaa

/- The walks of the laws' own helpers: fields marked; packed bytes compared and marked, nil or not. -/
namespace Go.Proofs.Ytpofmcepjmbmcaa
open Go.RowKit

def toI (zs : List Nat) : List Int := zs.map fun b : Nat => (b : Int)
theorem toI_len (zs : List Nat) : (toI zs).length = zs.length := by unfold toI; simp
theorem vals_toI (zs : List Nat) : vals zs = (toI zs).map (.int .u8) := by unfold vals toI; simp
theorem res_cases {w : World} {base : Nat} {v : Value} {zs : List Nat} (h : w.ownsRow base 5 1 v zs.length (vals zs)) :
    (∃ g cap, v = .slice (some ⟨g, 0, none⟩) zs.length cap ∧ base ≤ g ∧ OwnB w g (toI zs)) ∨ (zs = [] ∧ v = .slice none 0 0) := by
  rcases h.2 with ⟨e, h0⟩ | ⟨g, cap, cur, e, hb, _⟩
  · exact .inr ⟨List.length_eq_zero_iff.1 h0, e⟩
  · subst e
    rw [vals_toI] at h
    exact .inl ⟨g, cap, rfl, hb, ownB_of_owns (toI_len zs) h⟩

def MarkedV (w : World) (v : Value) (n : Nat) : Prop := (∃ g cap, v = .slice (some ⟨g, 0, none⟩) n cap ∧ g < w.heap.size ∧ Marked w g n 1) ∨ (v = .slice none 0 0 ∧ n = 0)
theorem MarkedV.below {w w' : World} {v : Value} {n : Nat} (h : MarkedV w v n) (hb : Below w.heap.size w w') : MarkedV w' v n := by
  rcases h with ⟨g, cap, e, hg, hm⟩ | h
  · exact .inl ⟨g, cap, e, Nat.lt_of_lt_of_le hg hb.size, hm.below hg hb⟩
  · exact .inr h
end Go.Proofs.Ytpofmcepjmbmcaa

/- The walks of the cursor that draws numbers out of a byte string: each returns, in its range, and writes into its own variable alone. -/
namespace Go.Proofs.Ytpofmcepjmbmcaa
open Go.RowKit

def CurAt (w : World) (c : Nat) (ad : Option Addr) (cap : Nat) (zs : List Int) (p s : Int) : Prop :=
  c < w.heap.size ∧ w.cell? ⟨c, 0, none⟩ = some (.slice ad zs.length cap) ∧ w.cell? ⟨c, 1, none⟩ = some (.int .i64 p) ∧ w.cell? ⟨c, 2, none⟩ = some (.int .u64 s) ∧
  w.frozen? ⟨c, 1, none⟩ = false ∧ w.frozen? ⟨c, 2, none⟩ = false ∧ InB zs ∧ (zs ≠ [] → ∃ b off, ad = some ⟨b, off, none⟩ ∧ b < w.heap.size ∧ b ≠ c ∧ BytesAt w b off zs)

theorem CurAt.drewN {w : World} {c : Nat} {ad : Option Addr} {cap : Nat} {zs : List Int} {p s : Int} (h : CurAt w c ad cap zs p s) (n : Nat) : CurAt (w.drewN n) c ad cap zs p s := h
theorem CurAt.moved {w : World} {c : Nat} {ad : Option Addr} {cap : Nat} {zs : List Int} {p s : Int} (h : CurAt w c ad cap zs p s) (q : Int) : CurAt (w.setCell ⟨c, 1, none⟩ (.int .i64 q)) c ad cap zs q s := by
  obtain ⟨h0, h1, h2, h3, f1, f2, hz, hb⟩ := h
  refine ⟨by simpa using h0, ?_, World.cell?_setCell_same _ _ _ h2, ?_, (World.frozen?_setCell _ _ _ _).trans f1, (World.frozen?_setCell _ _ _ _).trans f2, hz, fun hne => ?_⟩
  · rw [World.cell?_setCell_other _ _ _ _ (by simp)]; exact h1
  · rw [World.cell?_setCell_other _ _ _ _ (by simp)]; exact h3
  · obtain ⟨b, off, e, hl, hbc, hB⟩ := hb hne
    refine ⟨b, off, e, by simpa using hl, hbc, fun j hj => ?_⟩
    rw [World.cell?_setCell_far _ _ _ _ (by simpa using fun h => hbc h.symm)]; exact hB j hj
theorem CurAt.seeded {w : World} {c : Nat} {ad : Option Addr} {cap : Nat} {zs : List Int} {p s : Int} (h : CurAt w c ad cap zs p s) (q : Int) : CurAt (w.setCell ⟨c, 2, none⟩ (.int .u64 q)) c ad cap zs p q := by
  obtain ⟨h0, h1, h2, h3, f1, f2, hz, hb⟩ := h
  refine ⟨by simpa using h0, ?_, ?_, World.cell?_setCell_same _ _ _ h3, (World.frozen?_setCell _ _ _ _).trans f1, (World.frozen?_setCell _ _ _ _).trans f2, hz, fun hne => ?_⟩
  · rw [World.cell?_setCell_other _ _ _ _ (by simp)]; exact h1
  · rw [World.cell?_setCell_other _ _ _ _ (by simp)]; exact h2
  · obtain ⟨b, off, e, hl, hbc, hB⟩ := hb hne
    refine ⟨b, off, e, by simpa using hl, hbc, fun j hj => ?_⟩
    rw [World.cell?_setCell_far _ _ _ _ (by simpa using fun h => hbc h.symm)]; exact hB j hj
theorem u64_wrap_bd (n : Int) : 0 ≤ IntKind.u64.wrap n ∧ IntKind.u64.wrap n < 18446744073709551616 := by rw [IntKind.wrap_u64]; omega
theorem and_255 (n : Int) (h0 : 0 ≤ n) (h1 : n < 18446744073709551616) : bits .and .u64 n 255 = n % 256 := by go_bits2

theorem seed_bd (n : Int) : 0 ≤ wrap64 (bits .and .u64 (IntKind.u64.wrap n / 1099511627776) 255) ∧ wrap64 (bits .and .u64 (IntKind.u64.wrap n / 1099511627776) 255) < 256 := by
  have h := u64_wrap_bd n
  rw [and_255 _ (by omega) (by omega)]
  unfold wrap64; omega
set_option maxHeartbeats 2000000 in
set_option maxRecDepth 100000 in
theorem curNext (c : Nat) (ad : Option Addr) (cap : Nat) (zs : List Int) (p s : Int) (w : World) (h : CurAt w c ad cap zs p s) (hp0 : 0 ≤ p) (hp1 : p ≤ 1099511627776) (hl : zs.length ≤ 1048576) :
    Calls Try.prog 92 #[.pointer (some ⟨c, 0, none⟩)] w fun e w' => ∃ x s', e = .returned (.int .i64 x) ∧ 0 ≤ x ∧ x < 256 ∧ 0 ≤ s' ∧ s' < 18446744073709551616 ∧ CurAt w' c ad cap zs (p + 1) s' ∧ OnlyAt c w w' := by
  have hh := hide h
  obtain ⟨_, c0, c1, c2, f1, f2, hz, hb⟩ := h
  by_cases hlt : p < zs.length
  · obtain ⟨q, rfl⟩ := Int.eq_ofNat_of_zero_le hp0
    obtain ⟨b, off, rfl, hbl, hbc, hB⟩ := hb (by rintro rfl; simp at hlt; omega)
    have hck := hB q (by omega)
    have hzq := hz q
    clear hz hb hB
    generalize zs.getD q 0 = x at hck hzq
    have hdl : decide ((q : Int) < (zs.length : Int)) = true := by simp; omega
    go_enter Try.func92, Try.ntmps92
    go_wp2_with fail
    go_quiet (fail)
    go_wp2_with fail
    go_quiet (fail)
    go_wp2_with fail
    go_quiet (fail)
    go_wp2
    go_ret
    refine ⟨x, _, rfl, hzq.1, hzq.2, ?_, ?_, ((((unhide hh).drewN _).moved _).seeded _).drewN _, ((((OnlyAt.refl _ _).drewN _).setCell _ _).setCell _ _).drewN _⟩
    · exact (u64_wrap_bd _).1
    · exact (u64_wrap_bd _).2
  · clear hb
    have hdl : decide ((p : Int) < (zs.length : Int)) = false := by simp; omega
    have hdl2 : decide ((p : Int) + 1 ≤ (zs.length : Int)) = false := by simp; omega
    go_enter Try.func92, Try.ntmps92
    go_wp2_with fail
    go_quiet (fail)
    go_wp2_with fail
    go_quiet (fail)
    go_wp2
    go_ret
    refine ⟨_, _, rfl, (seed_bd _).1, (seed_bd _).2, (u64_wrap_bd _).1, (u64_wrap_bd _).2, ((((unhide hh).drewN _).moved _).seeded _).drewN _, ((((OnlyAt.refl _ _).drewN _).setCell _ _).setCell _ _).drewN _⟩

/-- The cursor as the laws use it: somewhere in its bytes, at most so far. -/
def CurIn (w : World) (c : Nat) (ad : Option Addr) (cap : Nat) (zs : List Int) (m : Nat) : Prop :=
  ∃ p s : Int, CurAt w c ad cap zs p s ∧ 0 ≤ p ∧ p ≤ m ∧ 0 ≤ s ∧ s < 18446744073709551616
theorem curNextIn (c : Nat) (ad : Option Addr) (cap : Nat) (zs : List Int) (m : Nat) (w : World) (h : CurIn w c ad cap zs m) (hm : m ≤ 1099511627776) (hl : zs.length ≤ 1048576) :
    Calls Try.prog 92 #[.pointer (some ⟨c, 0, none⟩)] w fun e w' => ∃ x, e = .returned (.int .i64 x) ∧ 0 ≤ x ∧ x < 256 ∧ CurIn w' c ad cap zs (m + 1) ∧ OnlyAt c w w' := by
  obtain ⟨p, s, hc, h0, h1, _, _⟩ := h
  refine (curNext c ad cap zs p s w hc h0 (by omega) hl).mono ?_
  rintro e w' ⟨x, s', rfl, x0, x1, s0, s1, hc', ho⟩
  exact ⟨x, rfl, x0, x1, ⟨p + 1, s', hc', by omega, by omega, s0, s1⟩, ho⟩

set_option maxHeartbeats 1000000 in
theorem curPick (c : Nat) (ad : Option Addr) (cap : Nat) (zs : List Int) (m : Nat) (n : Int) (w : World) (h : CurIn w c ad cap zs m) (hm : m ≤ 1099511627776) (hl : zs.length ≤ 1048576) (hn : 1 < n) (hn2 : n ≤ 200) :
    Calls Try.prog 50 #[.pointer (some ⟨c, 0, none⟩), .int .i64 n] w fun e w' => ∃ x, e = .returned (.int .i64 x) ∧ 0 ≤ x ∧ x < n ∧ CurIn w' c ad cap zs (m + 1) ∧ OnlyAt c w w' := by
  have hN := hide (curNextIn c ad cap zs m w h hm hl)
  clear h
  go_enter Try.func50, Try.ntmps50
  go_wp2_with fail
  refine (unhide hN).mono ?_
  rintro e w1 ⟨x, rfl, x0, x1, hc, ho⟩
  clear hN
  go_wp2
  go_ret
  exact ⟨x % n, rfl, Int.emod_nonneg _ (by omega), Int.emod_lt_of_pos _ (by omega), hc, ho⟩

set_option maxHeartbeats 1000000 in
theorem curOne (c : Nat) (ad : Option Addr) (cap : Nat) (zs : List Int) (m : Nat) (n : Int) (w : World) (h : CurIn w c ad cap zs m) (hm : m ≤ 1099511627776) (hl : zs.length ≤ 1048576) (hn : 1 < n) (hn2 : n ≤ 200) :
    Calls Try.prog 49 #[.pointer (some ⟨c, 0, none⟩), .int .i64 n] w fun e w' => ∃ b, e = .returned (.bool b) ∧ CurIn w' c ad cap zs (m + 1) ∧ OnlyAt c w w' := by
  have hN := hide (curPick c ad cap zs m n w h hm hl hn hn2)
  clear h
  go_enter Try.func49, Try.ntmps49
  go_wp2_with fail
  refine (unhide hN).mono ?_
  rintro e w1 ⟨x, rfl, x0, x1, hc, ho⟩
  clear hN
  go_wp2
  all_goals go_ret
  all_goals exact ⟨_, rfl, hc, ho⟩

theorem curIn_new (w : World) (ad : Option Addr) (cap : Nat) (zs : List Int) (h : ArgB w ad zs) :
    CurIn (w.alloc (.cells #[.slice ad zs.length cap, .int .i64 0, .int .u64 0] 79)) w.heap.size ad cap zs 0 := by
  refine ⟨0, 0, ⟨by simp, ?_, ?_, ?_, World.frozen?_alloc_at _ _ _ _ rfl, World.frozen?_alloc_at _ _ _ _ rfl, h.1, fun hne => ?_⟩, by omega, by omega, by omega, by omega⟩
  · rw [World.cell?_alloc_at _ _ _ _ rfl]; rfl
  · rw [World.cell?_alloc_at _ _ _ _ rfl]; rfl
  · rw [World.cell?_alloc_at _ _ _ _ rfl]; rfl
  · obtain ⟨b, off, e, hl, hB⟩ := h.2 hne
    exact ⟨b, off, e, by simp; omega, by omega, fun j hj => by rw [World.cell?_alloc_past _ _ _ hl]; exact hB j hj⟩

end Go.Proofs.Ytpofmcepjmbmcaa

/- The laws' drawing of fields. -/
namespace Go.Proofs.Ytpofmcepjmbmcaa
open Go.RowKit

def fcells (fs : List (Int × Int)) : List Value := fs.flatMap fun f => [Value.int .i64 f.1, Value.int .u64 f.2]
theorem fcells_len (fs : List (Int × Int)) : (fcells fs).length = fs.length * 2 := by
  induction fs with
  | nil => rfl
  | cons f fs ih => show (_ :: _ :: fcells fs).length = _; simp [ih]; omega
theorem fcells_snoc (fs : List (Int × Int)) (f : Int × Int) : fcells (fs ++ [f]) = fcells fs ++ [Value.int .i64 f.1, Value.int .u64 f.2] := by simp [fcells]
theorem inF_snoc {fs : List (Int × Int)} {f : Int × Int} (h : InF fs) (h1 : -9223372036854775808 ≤ f.1 ∧ f.1 ≤ 9223372036854775807) (h2 : 0 ≤ f.2 ∧ f.2 < 18446744073709551616) : InF (fs ++ [f]) := by
  intro j
  rw [List.getD_eq_getElem?_getD]
  rcases Nat.lt_trichotomy j fs.length with e | e | e
  · rw [List.getElem?_append_left e]; have := h j; rw [List.getD_eq_getElem?_getD] at this; exact this
  · subst e; rw [List.getElem?_append_right (Nat.le_refl _), Nat.sub_self]; exact ⟨h1, h2⟩
  · rw [List.getElem?_eq_none (by simp; omega)]; exact ⟨⟨by decide, by decide⟩, by decide, by decide⟩
theorem inF_nil : InF [] := fun j => by simp
theorem owns_onlyF {w w' : World} {base r : Nat} {e : TypeId} {size n : Nat} {v : Value} {xs : List Value} (h : w.ownsRow base e size v n xs) (hne : r < base) (ho : OnlyAt r w w') : w'.ownsRow base e size v n xs := by
  refine ⟨h.1, ?_⟩
  rcases h.2 with hn | ⟨g, cap, cur, rfl, h1, h2, h3⟩
  · exact .inl hn
  · exact .inr ⟨g, cap, cur, rfl, h1, by rw [ho.block g (h.lt g rfl).2 (by omega)]; exact h2, h3⟩
theorem two_new (w : World) (u u' : Value) (t : TypeId) : ∀ j v, [u, u'][j]? = some v → (w.alloc (.cells #[u, u'] t)).cell? ((⟨w.heap.size, 0, none⟩ : Addr).add j) = some v := by
  intro j v hj
  match j, hj with
  | 0, hj => simp at hj; subst hj; simp [Addr.add]
  | 1, hj => simp at hj; subst hj; simp [Addr.add]
theorem two_one (q q' : IntKind) (a b : Int) : ∀ u ∈ [Value.int q a, Value.int q' b], u.oneCell' = true := by
  intro u hu; simp at hu; rcases hu with rfl | rfl <;> rfl
/-- The cursor stays where new blocks come, and where blocks from base on change. -/
theorem CurIn.belowAt {w w' : World} {c : Nat} {ad : Option Addr} {cap : Nat} {zs : List Int} {m B : Nat} (h : CurIn w c ad cap zs m) (hcB : c < B) (hbB : zs ≠ [] → ∀ b off, ad = some ⟨b, off, none⟩ → b < B) (hb : Below B w w') : CurIn w' c ad cap zs m := by
  obtain ⟨p, s, ⟨h0, h1, h2, h3, f1, f2, hz, hbs⟩, r⟩ := h
  refine ⟨p, s, ⟨Nat.lt_of_lt_of_le h0 hb.size, (hb.cell (by simpa using hcB)).trans h1, (hb.cell (by simpa using hcB)).trans h2, (hb.cell (by simpa using hcB)).trans h3, (hb.frozen (by simpa using hcB)).trans f1, (hb.frozen (by simpa using hcB)).trans f2, hz, fun hne => ?_⟩, r⟩
  obtain ⟨b, off, e, hl, hbc, hB⟩ := hbs hne
  exact ⟨b, off, e, Nat.lt_of_lt_of_le hl hb.size, hbc, fun j hj => (hb.cell (by simpa using hbB hne b off e)).trans (hB j hj)⟩

theorem CurIn.mono {w : World} {c : Nat} {ad : Option Addr} {cap : Nat} {zs : List Int} {m m' : Nat} (h : CurIn w c ad cap zs m) (hm : m ≤ m') : CurIn w c ad cap zs m' := by
  obtain ⟨p, s, hc, h0, h1, r⟩ := h
  exact ⟨p, s, hc, h0, by omega, r⟩
end Go.Proofs.Ytpofmcepjmbmcaa

/- The cursor that draws: a number below any bound, and lists of samples. -/
namespace Go.Proofs.Ytpofmcepjmbmcaa
open Go.RowKit

theorem CurIn.more {w : World} {c : Nat} {ad : Option Addr} {cap : Nat} {zs : List Int} {m m' : Nat} (h : CurIn w c ad cap zs m) (hm : m ≤ m') : CurIn w c ad cap zs m' := by
  obtain ⟨p, s, hc, h0, h1, h2, h3⟩ := h
  exact ⟨p, s, hc, h0, by omega, h2, h3⟩

set_option maxHeartbeats 2000000 in
/-- A number below n, whatever n is. -/
theorem curPickAny (c : Nat) (ad : Option Addr) (cap : Nat) (zs : List Int) (m : Nat) (n : Int) (w : World) (h : CurIn w c ad cap zs m) (hm : m ≤ 1099511627000) (hl : zs.length ≤ 1048576) (hn2 : n ≤ 1000000) :
    Calls Try.prog 50 #[.pointer (some ⟨c, 0, none⟩), .int .i64 n] w fun e w' => ∃ x, e = .returned (.int .i64 x) ∧ 0 ≤ x ∧ (1 ≤ n → x < n) ∧ CurIn w' c ad cap zs (m + 3) ∧ OnlyAt c w w' := by
  by_cases h1 : n ≤ 1
  · have hc := hide (h.more (show m ≤ m + 3 by omega))
    clear h
    go_enter Try.func50, Try.ntmps50
    go_wp2
    go_ret
    exact ⟨0, rfl, by omega, fun h => by omega, unhide hc, OnlyAt.refl _ _⟩
  · by_cases h2 : n ≤ 200
    · refine (curPick c ad cap zs m n w h (by omega) hl (by omega) h2).mono ?_
      rintro e w' ⟨x, rfl, x0, x1, hc, ho⟩
      exact ⟨x, rfl, x0, fun _ => x1, hc.more (by omega), ho⟩
    · have hN := hide (curNextIn c ad cap zs m w h (by omega) hl)
      clear h
      by_cases h3 : n ≤ 50000
      · go_enter Try.func50, Try.ntmps50
        go_wp2_with fail
        refine (unhide hN).mono ?_
        rintro e w1 ⟨x, rfl, x0, x1, hc, ho⟩
        clear hN
        have hN2 := hide (curNextIn c ad cap zs (m + 1) w1 hc (by omega) hl)
        clear hc
        go_wp2_with fail
        refine (unhide hN2).mono ?_
        rintro e w2 ⟨y, rfl, y0, y1, hc2, ho2⟩
        have hc3 := hide (hc2.more (show m + 1 + 1 ≤ m + 3 by omega))
        have ho3 := hide (ho.trans ho2)
        clear hN2 hc2 ho ho2
        go_wp2
        go_ret
        exact ⟨_, rfl, Int.emod_nonneg _ (by omega), fun _ => Int.emod_lt_of_pos _ (by omega), unhide hc3, unhide ho3⟩
      · go_enter Try.func50, Try.ntmps50
        go_wp2_with fail
        refine (unhide hN).mono ?_
        rintro e w1 ⟨x, rfl, x0, x1, hc, ho⟩
        clear hN
        have hN2 := hide (curNextIn c ad cap zs (m + 1) w1 hc (by omega) hl)
        clear hc
        go_wp2_with fail
        refine (unhide hN2).mono ?_
        rintro e w2 ⟨y, rfl, y0, y1, hc2, ho2⟩
        have hN3 := hide (curNextIn c ad cap zs (m + 1 + 1) w2 hc2 (by omega) hl)
        clear hN2 hc2
        go_wp2_with fail
        refine (unhide hN3).mono ?_
        rintro e w3 ⟨z, rfl, z0, z1, hc3, ho3⟩
        have hc4 := hide (hc3.more (show m + 1 + 1 + 1 ≤ m + 3 by omega))
        have ho4 := hide ((ho.trans ho2).trans ho3)
        clear hN3 hc3 ho ho2 ho3
        go_wp2
        go_ret
        exact ⟨_, rfl, Int.emod_nonneg _ (by omega), fun _ => Int.emod_lt_of_pos _ (by omega), unhide hc4, unhide ho4⟩

/-- All in 0 .. T - 1. -/
def InT (T : Int) (xs : List Int) : Prop := ∀ j, j < xs.length → 0 ≤ xs.getD j 0 ∧ xs.getD j 0 < T
theorem InT.set {T : Int} {xs : List Int} (h : InT T xs) {x : Int} (h0 : 0 ≤ x) (h1 : x < T) (k : Nat) : InT T (xs.set k x) := by
  intro j hj
  rw [List.length_set] at hj
  rw [List.getD_eq_getElem?_getD]
  by_cases e : k = j
  · subst e; rw [List.getElem?_set_self hj]; exact ⟨h0, h1⟩
  · rw [List.getElem?_set_ne e, ← List.getD_eq_getElem?_getD]; exact h j hj
theorem inT_zeros {T : Int} (hT : 0 < T) (n : Nat) : InT T (List.replicate n 0) := by
  intro j hj
  rw [List.getD_eq_getElem?_getD, List.getElem?_replicate]
  split <;> simp <;> omega
theorem ints_zeros (n : Nat) : ints (List.replicate n 0) = List.replicate n (.int .i64 0) := by unfold ints; simp
theorem ints_set (xs : List Int) (k : Nat) (x : Int) : (ints xs).set k (.int .i64 x) = ints (xs.set k x) := by unfold ints; rw [List.map_set]
theorem owns_onlyI {w w' : World} {base r g : Nat} {e : TypeId} {size n c : Nat} {xs : List Value} (h : w.ownsRow base e size (.slice (some ⟨g, 0, none⟩) n c) n xs) (hne : g ≠ r) (ho : OnlyAt r w w') : w'.ownsRow base e size (.slice (some ⟨g, 0, none⟩) n c) n xs := by
  refine ⟨h.1, ?_⟩
  rcases h.2 with hn | ⟨g', cap, cur, e', h1, h2, h3⟩
  · exact .inl hn
  · simp only [Value.slice.injEq, Option.some.injEq, Addr.mk.injEq, and_true, true_and] at e'
    obtain ⟨rfl, rfl⟩ := e'
    exact .inr ⟨g, c, cur, rfl, h1, by rw [ho.block g (h.lt g rfl).2 hne]; exact h2, h3⟩
/-- The cursor stays where new blocks come. -/
theorem CurIn.grown {w w' : World} {c : Nat} {ad : Option Addr} {cap : Nat} {zs : List Int} {m : Nat} (h : CurIn w c ad cap zs m) (hb : Below w.heap.size w w') : CurIn w' c ad cap zs m := by
  obtain ⟨p, s, ⟨h0, h1, h2, h3, f1, f2, hz, hbs⟩, r⟩ := h
  refine ⟨p, s, ⟨Nat.lt_of_lt_of_le h0 hb.size, (hb.cell (by simpa using h0)).trans h1, (hb.cell (by simpa using h0)).trans h2, (hb.cell (by simpa using h0)).trans h3, (hb.frozen (by simpa using h0)).trans f1, (hb.frozen (by simpa using h0)).trans f2, hz, fun hne => ?_⟩, r⟩
  obtain ⟨b, off, e, hl, hbc, hB⟩ := hbs hne
  exact ⟨b, off, e, Nat.lt_of_lt_of_le hl hb.size, hbc, fun j hj => (hb.cell (by simpa using hl)).trans (hB j hj)⟩
theorem CurIn.setFar {w : World} {c g o : Nat} {u : Value} {ad : Option Addr} {cap : Nat} {zs : List Int} {m : Nat} (h : CurIn w c ad cap zs m) (hg : g ≠ c) (hga : ∀ b off, ad = some ⟨b, off, none⟩ → zs ≠ [] → g ≠ b) : CurIn (w.setCell ⟨g, o, none⟩ u) c ad cap zs m := by
  obtain ⟨p, s, ⟨h0, h1, h2, h3, f1, f2, hz, hbs⟩, r⟩ := h
  refine ⟨p, s, ⟨by simpa using h0, ?_, ?_, ?_, (World.frozen?_setCell _ _ _ _).trans f1, (World.frozen?_setCell _ _ _ _).trans f2, hz, fun hne => ?_⟩, r⟩
  · rw [World.cell?_setCell_far _ _ _ _ (by simpa using hg)]; exact h1
  · rw [World.cell?_setCell_far _ _ _ _ (by simpa using hg)]; exact h2
  · rw [World.cell?_setCell_far _ _ _ _ (by simpa using hg)]; exact h3
  · obtain ⟨b, off, e, hl, hbc, hB⟩ := hbs hne
    exact ⟨b, off, e, by simpa using hl, hbc, fun j hj => by rw [World.cell?_setCell_far _ _ _ _ (by simpa using hga b off e hne)]; exact hB j hj⟩
end Go.Proofs.Ytpofmcepjmbmcaa

/- Cells of a block that may be written, known one by one. -/
namespace Go.Proofs.Ytpofmcepjmbmcaa
open Go.RowKit

def HeldF (w : World) (g : Nat) (cs : List Value) : Prop := Held w g cs ∧ ∀ j, w.frozen? ⟨g, j, none⟩ = false
theorem heldF_new (w : World) (cs : List Value) (t : TypeId) : HeldF (w.alloc (.cells cs.toArray t)) w.heap.size cs :=
  ⟨held_new w cs t, fun _ => World.frozen?_alloc_at _ _ _ _ rfl⟩
theorem HeldF.upd {w w' : World} {g c e : Nat} {cs : List Value} (h : HeldF w g cs) (u : Upd c e w w') (hd : g + 1 ≤ c ∨ e ≤ g) : HeldF w' g cs :=
  ⟨h.1.upd u hd, fun j => (World.frozen?_of_block (a := ⟨g, j, none⟩) (u.block g h.1.1 (by omega))).trans (h.2 j)⟩
theorem HeldF.keep {w w' : World} {g : Nat} {cs : List Value} (h : HeldF w g cs) (u : Upd 0 0 w w') : HeldF w' g cs := h.upd u (.inr (Nat.zero_le _))
theorem HeldF.other {w : World} {g : Nat} {cs : List Value} (h : HeldF w g cs) {g' : Nat} (hne : g' ≠ g) (o : Nat) (u : Value) : HeldF (w.setCell ⟨g', o, none⟩ u) g cs := by
  refine ⟨⟨by simpa using h.1.1, fun j v hj => ?_⟩, fun j => ?_⟩
  · rw [World.cell?_setCell_other _ _ _ _ (by simp_all; try omega)]; exact h.1.2 j v hj
  · rw [World.frozen?_setCell]; exact h.2 j
theorem HeldF.set {w : World} {g : Nat} {cs : List Value} (h : HeldF w g cs) (o : Nat) (u : Value) (ho : o < cs.length) : HeldF (w.setCell ⟨g, o, none⟩ u) g (cs.set o u) := by
  refine ⟨⟨by simpa using h.1.1, fun j v hj => ?_⟩, fun j => ?_⟩
  · by_cases e : o = j
    · subst e
      rw [List.getElem?_set_self ho] at hj
      cases hj
      exact World.cell?_setCell_same _ _ _ (h.1.2 o _ (List.getElem?_eq_getElem ho))
    · rw [List.getElem?_set_ne e] at hj
      rw [World.cell?_setCell_other _ _ _ _ (by simp_all; try omega)]; exact h.1.2 j v hj
  · rw [World.frozen?_setCell]; exact h.2 j
theorem Own.set' {e : TypeId} {s : Nat} {w : World} {a b : Nat} {v : Value} {n : Nat} {xs : List Value} (h : Own e s w a b v n xs) {c : Nat} (hc : c < a) (o : Nat) (u : Value) : Own e s (w.setCell ⟨c, o, none⟩ u) a b v n xs :=
  ⟨ownsRow_setCell_below h.1 hc u, h.2⟩
end Go.Proofs.Ytpofmcepjmbmcaa

/- Plain: marks of numbers: choices by how many bits a number has; no program is named here. -/
namespace Go.Proofs.Ytpofmcepjmbmcaa
open Go.RowKit

theorem bitLen_one : Lib.bitLen 1 = 1 := by decide
/-- A number between 2^b and 2^(b+1) has b + 1 bits. -/
theorem bitLen_between (x b : Nat) (h0 : 2 ^ b ≤ x) (h1 : x < 2 ^ (b + 1)) (hx : x < 2 ^ 64) : Lib.bitLen x = b + 1 := by
  have hp : 0 < 2 ^ b := Nat.two_pow_pos b
  have hq : x / 2 ^ b = 1 := by
    rw [Nat.pow_succ] at h1
    exact Nat.div_eq_of_lt_le (by omega) (by omega)
  rw [Lib.bitLen_shift b x h0 hx, hq, bitLen_one]
theorem exists_between : ∀ x : Nat, 0 < x → ∃ b, 2 ^ b ≤ x ∧ x < 2 ^ (b + 1)
  | 1, _ => ⟨0, by decide, by decide⟩
  | x + 2, _ => by
    obtain ⟨b, h0, h1⟩ := exists_between ((x + 2) / 2) (by omega)
    refine ⟨b + 1, ?_, ?_⟩
    · rw [Nat.pow_succ]; omega
    · rw [Nat.pow_succ]; omega
theorem bitLen_bd (x : Nat) (h0 : 0 < x) (hx : x < 2 ^ 64) : 1 ≤ Lib.bitLen x ∧ 2 ^ (Lib.bitLen x - 1) ≤ x ∧ x < 2 ^ Lib.bitLen x := by
  obtain ⟨b, h1, h2⟩ := exists_between x h0
  rw [bitLen_between x b h1 h2 hx]
  exact ⟨by omega, by simpa using h1, h2⟩

def mkAt (n f : Int) (b j : Nat) : Int × Int :=
  if j < b then (f + j, 1) else if j = b then (f + b, 0) else (f + 20 + ((2 * b - j : Nat) : Int), (n + 1) / 2 ^ (2 * b - j) % 2)
def marksTo (n f : Int) (b k : Nat) : List (Int × Int) := (List.range k).map (mkAt n f b)
@[simp] theorem marksTo_length (n f : Int) (b k : Nat) : (marksTo n f b k).length = k := by simp [marksTo]
theorem marksTo_succ (n f : Int) (b k : Nat) : marksTo n f b (k + 1) = marksTo n f b k ++ [mkAt n f b k] := by simp [marksTo, List.range_succ]
def markBits (n : Int) : Nat := Lib.bitLen (n + 1).toNat - 1
abbrev MkOk (n f : Int) : Prop := 0 ≤ n ∧ n ≤ 65535 ∧ 0 ≤ f ∧ f ≤ 472

def marksL (n f : Int) : List (Int × Int) := marksTo n f (markBits n) (2 * markBits n + 1)
def marksF (n f : Int) : List (Int × Int) := if MkOk n f then marksL n f else []
theorem markBits_bd (n : Int) (h : 0 ≤ n ∧ n ≤ 65535) : 2 ^ markBits n ≤ (n + 1).toNat ∧ (n + 1).toNat < 2 ^ (markBits n + 1) ∧ markBits n ≤ 16 := by
  have h1 := bitLen_bd (n + 1).toNat (by omega) (by omega)
  have h2 : Lib.bitLen (n + 1).toNat - 1 + 1 = Lib.bitLen (n + 1).toNat := by omega
  refine ⟨h1.2.1, ?_, ?_⟩
  · unfold markBits; rw [h2]; exact h1.2.2
  · have : Lib.bitLen (n + 1).toNat ≤ 17 := Lib.bitLen_le _ 17 (by omega) (by omega)
    unfold markBits; omega
/-- The bits are found by shifting. -/
theorem markBits_of (n : Int) (b : Nat) (h : 0 ≤ n ∧ n ≤ 65535) (h0 : 2 ^ b ≤ (n + 1).toNat) (h1 : (n + 1).toNat < 2 ^ (b + 1)) : markBits n = b := by
  unfold markBits; rw [bitLen_between _ b h0 h1 (by omega)]; rfl
theorem marksF_len (n f : Int) : (marksF n f).length ≤ 33 := by
  unfold marksF
  split
  · rename_i h
    have := markBits_bd n ⟨h.1, h.2.1⟩
    unfold marksL; simp; omega
  · simp
theorem marksF_big (n f : Int) : (marksF n f).length ≤ 1048576 := by have := marksF_len n f; omega
theorem mkAt_lt (n f : Int) (b j : Nat) (h : j < b) : mkAt n f b j = (f + j, 1) := by simp [mkAt, h]
theorem mkAt_eq (n f : Int) (b : Nat) : mkAt n f b b = (f + b, 0) := by simp [mkAt]
theorem mkAt_gt (n f : Int) (b i : Nat) (h : i < b) : mkAt n f b (2 * b - i) = (f + 20 + i, (n + 1) / 2 ^ i % 2) := by
  have h1 : ¬ (2 * b - i < b) := by omega
  have h2 : ¬ (2 * b - i = b) := by omega
  have h3 : 2 * b - (2 * b - i) = i := by omega
  simp only [mkAt, if_neg h1, if_neg h2, h3]
end Go.Proofs.Ytpofmcepjmbmcaa

/- The specification's marks. -/
namespace Go.Proofs.Ytpofmcepjmbmcaa
open Go.RowKit

theorem i64_and_1m (n : Int) : bits .and .i64 n 1 = n % 2 := by
  have h1 : (BitVec.ofInt 64 1).toNat = 2 ^ 1 - 1 := by decide
  have key : (BitVec.ofInt 64 n &&& BitVec.ofInt 64 1).toNat = (n % ((2 ^ 64 : Nat) : Int)).toNat % 2 ^ 1 := by
    rw [BitVec.toNat_and, BitVec.toNat_ofInt, h1, Nat.and_two_pow_sub_one_eq_mod]
  show IntKind.i64.wrap ((BitVec.ofInt 64 n &&& BitVec.ofInt 64 1).toNat : Nat) = _
  rw [key, IntKind.wrap_i64]
  omega
theorem shr_pos (m b : Nat) (h : 2 ^ (b + 1) ≤ m) : (0 : Int) < (m : Int) / 2 ^ (b + 1) := by
  have hp : 0 < 2 ^ (b + 1) := Nat.two_pow_pos _
  rw [show ((m : Int) / 2 ^ (b + 1)) = ((m / 2 ^ (b + 1) : Nat) : Int) by simp]
  have : 1 ≤ m / 2 ^ (b + 1) := (Nat.le_div_iff_mul_le hp).2 (by omega)
  omega
theorem shr_zero (m b : Nat) (h : ¬ 2 ^ (b + 1) ≤ m) : ¬ (0 : Int) < (m : Int) / 2 ^ (b + 1) := by
  rw [show ((m : Int) / 2 ^ (b + 1)) = ((m / 2 ^ (b + 1) : Nat) : Int) by simp, Nat.div_eq_of_lt (by omega)]
  simp
theorem shr_16 (m b : Nat) (h : 2 ^ (b + 1) ≤ m) (hm : m ≤ 65536) : b < 16 := by
  rcases Nat.lt_or_ge b 16 with h1 | h1
  · exact h1
  · have : 2 ^ 17 ≤ 2 ^ (b + 1) := Nat.pow_le_pow_right (by omega) (by omega)
    omega
theorem twoNewM (w : World) (u u' : Value) (t : TypeId) : ∀ j v, [u, u'][j]? = some v → (w.alloc (.cells #[u, u'] t)).cell? ((⟨w.heap.size, 0, none⟩ : Addr).add j) = some v := by
  intro j v hj
  match j, hj with
  | 0, hj => simp at hj; subst hj; simp [Addr.add]
  | 1, hj => simp at hj; subst hj; simp [Addr.add]
theorem twoOneM (q q' : IntKind) (a b : Int) : ∀ u ∈ [Value.int q a, Value.int q' b], u.oneCell' = true := by
  intro u hu; simp at hu; rcases hu with rfl | rfl <;> rfl
end Go.Proofs.Ytpofmcepjmbmcaa

/- Plain: blocks of eight by eight: what is one, scales, coarse and fine numbers, waves. -/
namespace Go.Proofs.Ytpofmcepjmbmcaa
open Go.RowKit

/-- All numbers lie within two ends. -/
def InR (lo hi : Int) (zs : List Int) : Prop := ∀ j, j < zs.length → lo ≤ zs.getD j 0 ∧ zs.getD j 0 ≤ hi
def inRB (lo hi : Int) (zs : List Int) : Bool := (List.range zs.length).all fun j => decide (lo ≤ zs.getD j 0 ∧ zs.getD j 0 ≤ hi)
theorem inRB_iff0 {lo hi : Int} {zs : List Int} : inRB lo hi zs = true ↔ InR lo hi zs := by
  unfold inRB InR
  rw [List.all_eq_true]
  exact ⟨fun h j hj => of_decide_eq_true (h j (List.mem_range.2 hj)), fun h j hj => decide_eq_true (h j (List.mem_range.1 hj))⟩
theorem inRB_yes {lo hi : Int} {zs : List Int} (h : InR lo hi zs) : inRB lo hi zs = true := inRB_iff0.2 h
theorem inRB_no {lo hi : Int} {zs : List Int} (h : ¬ InR lo hi zs) : inRB lo hi zs = false := Bool.eq_false_iff.2 (fun h' => h (inRB_iff0.1 h'))
def BlOk (zs : List Int) : Prop := zs.length = 64 ∧ InR (-32768) 32767 zs
noncomputable def blB (zs : List Int) : Bool := open Classical in decide (BlOk zs)
theorem blB_yes {zs : List Int} (h : BlOk zs) : blB zs = true := by unfold blB; simpa using h
theorem blB_no {zs : List Int} (h : ¬ BlOk zs) : blB zs = false := by unfold blB; simpa using h
def ScOk (zs : List Int) : Prop := zs.length = 64 ∧ InR 1 255 zs
noncomputable def scB (zs : List Int) : Bool := open Classical in decide (ScOk zs)
theorem scB_yes {zs : List Int} (h : ScOk zs) : scB zs = true := by unfold scB; simpa using h
theorem scB_no {zs : List Int} (h : ¬ ScOk zs) : scB zs = false := by unfold scB; simpa using h

/-- 64 numbers told by their places. -/
def tab (f : Nat → Int) : List Int := (List.range 64).map f
@[simp] theorem tab_length (f : Nat → Int) : (tab f).length = 64 := by simp [tab]
theorem tab_getD (f : Nat → Int) (k : Nat) (h : k < 64) : (tab f).getD k 0 = f k := by
  unfold tab
  rw [List.getD_eq_getElem?_getD, List.getElem?_map, List.getElem?_range h]; rfl
theorem tab_inR (f : Nat → Int) (lo hi : Int) (h : ∀ k, k < 64 → lo ≤ f k ∧ f k ≤ hi) : InR lo hi (tab f) := by
  intro j hj
  rw [tab_length] at hj
  rw [tab_getD f j hj]; exact h j hj

/-! ### Scales -/
def baseZ (v u : Nat) (c : Bool) : Int := if c then 10 + 6 * ((u : Int) + v) else 8 + 3 * ((u : Int) + v) + ((u * v / 2 : Nat) : Int)
def percZ (q : Int) : Int := if q < 50 then 5000 / q else 200 - 2 * q
def cutZ (a b n : Int) : Int := if n < a then a else if b < n then b else n
def scaleZ (q : Int) (c : Bool) (i : Nat) : Int := cutZ 1 255 ((baseZ (i / 8) (i % 8) c * percZ q + 50) / 100)
def scalesF (q : Int) (c : Bool) : List Int := if 1 ≤ q ∧ q ≤ 100 then tab (scaleZ q c) else []
theorem scalesF_len (q : Int) (c : Bool) : (scalesF q c).length ≤ 1048576 := by unfold scalesF; split <;> simp
theorem baseZ_bd (v u : Nat) (c : Bool) (hv : v < 8) (hu : u < 8) : 8 ≤ baseZ v u c ∧ baseZ v u c ≤ 94 := by
  unfold baseZ
  have h : u * v ≤ 7 * 7 := Nat.mul_le_mul (by omega) (by omega)
  split <;> omega
theorem percZ_bd (q : Int) (h1 : 1 ≤ q) (h2 : q ≤ 100) : 0 ≤ percZ q ∧ percZ q ≤ 5000 := by
  unfold percZ
  split
  · have h0 : 5000 / q ≤ 5000 := Int.ediv_le_self _ (by omega)
    have h3 : 0 ≤ 5000 / q := Int.ediv_nonneg (by omega) (by omega)
    omega
  · omega
theorem cutZ_bd (a b n : Int) (h : a ≤ b) : a ≤ cutZ a b n ∧ cutZ a b n ≤ b := by unfold cutZ; split <;> (try split) <;> omega
theorem cutZ_max (a b n : Int) (h : a ≤ b) : max a (min b n) = cutZ a b n := by unfold cutZ; split <;> (try split) <;> omega
theorem scalesF_ok (q : Int) (c : Bool) (h : 1 ≤ q ∧ q ≤ 100) : ScOk (scalesF q c) := by
  unfold scalesF
  rw [if_pos h]
  exact ⟨by simp, tab_inR _ _ _ (fun k _ => cutZ_bd _ _ _ (by omega))⟩

/-! ### Coarse and fine numbers -/
def coarseZ (n t : Int) : Int := if n < 0 then -((-n + t / 2) / t) else (n + t / 2) / t
def fineZ (n t : Int) : Int := cutZ (-32768) 32767 (n * t)
noncomputable def twoF (g : Int → Int → Int) (zs ts : List Int) : List Int := if blB zs && scB ts then tab (fun i => g (zs.getD i 0) (ts.getD i 0)) else []
theorem twoF_len (g : Int → Int → Int) (zs ts : List Int) : (twoF g zs ts).length ≤ 1048576 := by unfold twoF; split <;> simp
theorem twoF_no {g : Int → Int → Int} {zs ts : List Int} (h : ¬ (BlOk zs ∧ ScOk ts)) : twoF g zs ts = [] := by
  unfold twoF
  by_cases h1 : BlOk zs
  · rw [blB_yes h1, scB_no (fun h2 => h ⟨h1, h2⟩)]; rfl
  · rw [blB_no h1]; rfl
theorem twoF_yes {g : Int → Int → Int} {zs ts : List Int} (h1 : BlOk zs) (h2 : ScOk ts) : twoF g zs ts = tab (fun i => g (zs.getD i 0) (ts.getD i 0)) := by
  unfold twoF; rw [blB_yes h1, scB_yes h2]; rfl
theorem quot_bd (n t : Int) (hn : 0 ≤ n) (ht : 1 ≤ t) : 0 ≤ (n + t / 2) / t ∧ (n + t / 2) / t ≤ n := by
  have h1 : 0 ≤ (n + t / 2) / t := Int.ediv_nonneg (by omega) (by omega)
  refine ⟨h1, ?_⟩
  rcases Int.lt_or_le n ((n + t / 2) / t) with h | h
  · exfalso
    have h2 : (n + t / 2) / t * t ≤ n + t / 2 := Int.ediv_mul_le _ (by omega)
    have h3 : (n + 1) * t ≤ (n + t / 2) / t * t := Int.mul_le_mul_of_nonneg_right (by omega) (by omega)
    have h4 : n * t ≥ n := by
      have : n * 1 ≤ n * t := Int.mul_le_mul_of_nonneg_left ht hn
      omega
    rw [Int.add_mul] at h3
    omega
  · exact h
theorem coarseZ_bd (n t : Int) (hn : -32768 ≤ n ∧ n ≤ 32767) (ht : 1 ≤ t) : -32768 ≤ coarseZ n t ∧ coarseZ n t ≤ 32767 := by
  unfold coarseZ
  split
  · have := quot_bd (-n) t (by omega) ht; omega
  · have := quot_bd n t (by omega) ht; omega
theorem twoF_ok {g : Int → Int → Int} {zs ts : List Int} (h1 : BlOk zs) (h2 : ScOk ts) (hg : ∀ n t, (-32768 ≤ n ∧ n ≤ 32767) → (1 ≤ t ∧ t ≤ 255) → -32768 ≤ g n t ∧ g n t ≤ 32767) : BlOk (twoF g zs ts) := by
  rw [twoF_yes h1 h2]
  exact ⟨by simp, tab_inR _ _ _ (fun k hk => hg _ _ (h1.2 k (by rw [h1.1]; exact hk)) (h2.2 k (by rw [h2.1]; exact hk)))⟩
/-- Half a scale away at most. -/
theorem near_mul (n t : Int) (ht : 1 ≤ t) : -t ≤ 2 * ((n + t / 2) / t * t - n) ∧ 2 * ((n + t / 2) / t * t - n) ≤ t := by
  have h1 : (n + t / 2) / t * t ≤ n + t / 2 := Int.ediv_mul_le _ (by omega)
  have h2 : n + t / 2 < ((n + t / 2) / t + 1) * t := Int.lt_ediv_add_one_mul_self _ (by omega)
  rw [Int.add_mul] at h2
  generalize (n + t / 2) / t * t = q at h1 h2 ⊢
  omega
theorem coarse_near (n t : Int) (ht : 1 ≤ t) : -t ≤ 2 * (coarseZ n t * t - n) ∧ 2 * (coarseZ n t * t - n) ≤ t := by
  unfold coarseZ
  split
  · have h := near_mul (-n) t ht
    rw [Int.neg_mul]
    generalize (-n + t / 2) / t * t = q at h ⊢
    omega
  · exact near_mul n t ht
theorem quot_mul (m t : Int) (ht : 1 ≤ t) : (m * t + t / 2) / t = m := by
  rw [Int.add_comm, Int.add_mul_ediv_right _ _ (by omega), Int.ediv_eq_zero_of_lt (by omega) (by omega), Int.zero_add]
theorem coarse_fine (m t : Int) (ht : 1 ≤ t) : coarseZ (m * t) t = m := by
  unfold coarseZ
  by_cases h : m < 0
  · have h1 : m * t < 0 := Int.mul_neg_of_neg_of_pos h (by omega)
    rw [if_pos h1, ← Int.neg_mul, quot_mul _ _ ht]; omega
  · have h1 : ¬ m * t < 0 := by have := Int.mul_nonneg (show 0 ≤ m by omega) (show 0 ≤ t by omega); omega
    rw [if_neg h1, quot_mul _ _ ht]
end Go.Proofs.Ytpofmcepjmbmcaa

/- Plain: the places of a block in slanting lines. -/
namespace Go.Proofs.Ytpofmcepjmbmcaa
open Go.RowKit

def rowS (k i : Nat) : Nat := if k % 2 = 0 then k - i else i
def scanIn (k : Nat) : Nat → List Int
  | 0 => []
  | i + 1 => scanIn k i ++ (if rowS k i < 8 ∧ k - rowS k i < 8 then [((8 * rowS k i + k - rowS k i : Nat) : Int)] else [])
def scanTo : Nat → List Int
  | 0 => []
  | k + 1 => scanTo k ++ scanIn k (k + 1)
def scanL : List Int := scanTo 15
theorem scan_len : ∀ k, k < 16 → ∀ i, i < 17 → (scanTo k ++ scanIn k i).length ≤ 1000 := by decide
theorem scanTo_len (k : Nat) (h : k < 16) : (scanTo k).length ≤ 1000 := by
  have := scan_len k h 0 (by omega)
  rw [List.length_append] at this
  omega
theorem scanL_length : scanL.length = 64 := by decide
theorem scanL_bd : ∀ j, j < 64 → 0 ≤ scanL.getD j 0 ∧ scanL.getD j 0 < 64 := by decide
theorem scanL_inR : InR 0 63 scanL := by
  intro j hj
  rw [scanL_length] at hj
  have := scanL_bd j hj
  omega
theorem scanL_zero : scanL.getD 0 0 = 0 := by decide
theorem rowS_le (k i : Nat) (h : i ≤ k) : rowS k i ≤ k := by unfold rowS; split <;> omega
end Go.Proofs.Ytpofmcepjmbmcaa

/- Appending ints to a row of the call's own, whatever slice they come in. -/
namespace Go.Proofs.Ytpofmcepjmbmcaa
open Go.RowKit

theorem ints_lengthA (zs : List Int) : (ints zs).length = zs.length := by simp [ints]
theorem ints_append (a b : List Int) : ints (a ++ b) = ints a ++ ints b := by simp [ints]
theorem ints_one (zs : List Int) : ∀ u ∈ ints zs, u.oneCell' = true := by
  intro u hu
  simp only [ints, List.mem_map] at hu
  obtain ⟨b, _, rfl⟩ := hu
  rfl
theorem ints_cells {w : World} {b off : Nat} {ys : List Int} (h : KindAt .i64 w b off ys) : ∀ j u, (ints ys)[j]? = some u → w.cell? ((⟨b, off, none⟩ : Addr).add j) = some u := by
  intro j u hu
  rw [add_cellAI]
  have hj : j < ys.length := by
    rcases Nat.lt_or_ge j ys.length with h' | h'
    · exact h'
    · rw [List.getElem?_eq_none (by rw [ints_lengthA]; exact h')] at hu; cases hu
  have := getD_map_int ys .i64 j hj
  unfold ints at hu
  rw [this] at hu
  cases hu
  exact h j hj
where
  add_cellAI {g o j : Nat} : (⟨g, o, none⟩ : Addr).add j = ⟨g, o + j, none⟩ := by unfold Addr.add; split <;> simp_all

/-- Ints that can be read: nil, or in the cells of a block. -/
def RdJ (w : World) (u : Value) (ys : List Int) : Prop := (u = .slice none 0 0 ∧ ys = []) ∨ ∃ b off cap, u = .slice (some ⟨b, off, none⟩) ys.length cap ∧ b < w.heap.size ∧ KindAt .i64 w b off ys
theorem RdJ.below {w w' : World} {u : Value} {ys : List Int} (h : RdJ w u ys) (hb : Below w.heap.size w w') : RdJ w' u ys := by
  rcases h with h | ⟨b, off, cap, e, hl, hc⟩
  · exact .inl h
  · exact .inr ⟨b, off, cap, e, Nat.lt_of_lt_of_le hl hb.size, fun j hj => (hb.cell (by simpa using hl)).trans (hc j hj)⟩
theorem RdJ.form {w : World} {u : Value} {ys : List Int} (h : RdJ w u ys) : ∃ ad cap, u = .slice ad ys.length cap := by
  rcases h with ⟨rfl, rfl⟩ | ⟨b, off, cap, rfl, _⟩
  · exact ⟨_, _, rfl⟩
  · exact ⟨_, _, rfl⟩
theorem rdJ_of_owns {w : World} {base : Nat} {v : Value} {zs : List Int} (h : w.ownsRow base 3 1 v zs.length (ints zs)) : RdJ w v zs := by
  rcases h.2 with ⟨rfl, hn⟩ | ⟨g, cap, cur, rfl, h1, h2, h3⟩
  · exact .inl ⟨rfl, List.length_eq_zero_iff.1 hn⟩
  · refine .inr ⟨g, 0, cap, rfl, (h.lt g rfl).2, fun j hj => ?_⟩
    rw [Nat.zero_add, h.cellAt j (by omega)]
    exact getD_map_int zs .i64 j hj
theorem rdJ_of_own {w : World} {a b : Nat} {v : Value} {zs : List Int} (h : OwnI w a b v zs) : RdJ w v zs := rdJ_of_owns h.1

theorem wpList_appI {ops : Array Oper} {rest : List Oper} {o : Oper} {a : Act} {Q : Exit → Act → World → Prop} {w : World} (hgd : o.guard = none) (s x : Operand)
    (ho : o.op = .call { callee := .builtin .append, args := #[s, x], argTypes := #[29, 29] }) (base : Nat) (v : Value) (zs : List Int) (hs : a.eval s = v)
    (hown : w.ownsRow base 3 1 v zs.length (ints zs)) (u : Value) (ys : List Int) (hx : a.eval x = u) (hr : RdJ w u ys) (h63 : zs.length + ys.length ≤ 1099511627776) (hbase : base ≤ w.heap.size)
    (h : ∀ v' w', w'.ownsRow base 3 1 v' (zs ++ ys).length (ints (zs ++ ys)) → w.grownBy w' v.ownBlock → (v'.ownBlock = v.ownBlock ∨ v'.ownBlock = some w.heap.size) → wpList Try.prog ops Q rest (a.put o.dst v') w') :
    wpList Try.prog ops Q (o :: rest) a w := by
  obtain ⟨i0, hi0, hz0, hz1, hz2⟩ := info_parts infoI
  rcases hr with ⟨rfl, rfl⟩ | ⟨b, off, cap, rfl, hl, hc⟩
  · refine wpList_append_own_none hgd s x 29 ho base 3 i0 1 Try.underlying29 hi0 v _ _ hs hown hx ?_
    refine h v w ?_ ⟨rfl, rfl, rfl, Nat.le_refl _, fun _ _ _ => rfl⟩ (.inl rfl)
    rw [List.append_nil]; exact hown
  · refine wpList_append_own_at _ hgd s x 29 ho base 3 i0 (.int .i64 0) 1 8 Try.underlying29 hi0 hz0 hz1 hz2 rfl (by decide) v zs.length (ints zs) hs hown ⟨b, off, none⟩ ys.length cap (ints ys) hx (by rw [ints_lengthA]; omega) (ints_cells hc) (ints_one ys) (by unfold maxLen; omega) (by omega) hbase ?_
    intro v' w' h1 h2 _ h4
    refine h v' w' ?_ h2 h4
    rw [List.length_append, ints_append]; exact h1

theorem own_nilI (w : World) (a b : Nat) : OwnI w a b (.slice none 0 0) [] := ⟨World.ownsRow_nil _ _ _ _, fun k hk => by simp [Value.ownBlock] at hk⟩
theorem upd_of_grownI {w w' : World} {a : Nat} {e : TypeId} {s : Nat} {v : Value} {n : Nat} {xs : List Value} (hg : w.grownBy w' v.ownBlock) (ho : w.ownsRow a e s v n xs) : Upd a w.heap.size w w' :=
  ⟨hg.os, hg.tape, hg.output, hg.size, fun k hk hn => hg.block k hk (fun e => by have := ho.lt k e.symm; omega)⟩
end Go.Proofs.Ytpofmcepjmbmcaa

/- The specification's ScanOrder. -/
namespace Go.Proofs.Ytpofmcepjmbmcaa
open Go.RowKit

end Go.Proofs.Ytpofmcepjmbmcaa

/- Triples as arguments and answers; the walks of the laws' own helpers on them. -/
namespace Go.Proofs.Ytpofmcepjmbmcaa
open Go.RowKit

abbrev Tr := Int × Int × Int
abbrev Trv (d : Tr) : Value := .agg #[.int .i64 d.1, .int .i64 d.2.1, .int .i64 d.2.2]
def RdTr (_w : World) (v : Value) (d : Tr) : Prop := v = Trv d 
def OwnTr (_w : World) (_a _b : Nat) (v : Value) (d : Tr) : Prop := v = Trv d
theorem OwnTr.rd {w : World} {a b : Nat} {v : Value} {d : Tr} (h : OwnTr w a b v d) : RdTr w v d := by
  exact h
theorem RdTr.below {w w' : World} {v : Value} {d : Tr} (h : RdTr w v d) (_hb : Below w.heap.size w w') : RdTr w' v d := by
  exact h
theorem OwnTr.upd {w w' : World} {a b c e : Nat} {v : Value} {d : Tr} (h : OwnTr w a b v d) (_u : Upd c e w w') (_hd : b ≤ c ∨ e ≤ a) : OwnTr w' a b v d := by
  exact h
theorem OwnTr.keep {w w' : World} {a b : Nat} {v : Value} {d : Tr} (h : OwnTr w a b v d) (u : Upd 0 0 w w') : OwnTr w' a b v d := h.upd u (.inr (Nat.zero_le _))
theorem OwnTr.form {w : World} {a b : Nat} {v : Value} {d : Tr} (h : OwnTr w a b v d) : v = Trv d := h
/-- All numbers fit. -/
def InTr (d : Tr) : Prop := (-9223372036854775808 ≤ d.1 ∧ d.1 ≤ 9223372036854775807) ∧ (-9223372036854775808 ≤ d.2.1 ∧ d.2.1 ≤ 9223372036854775807) ∧ (-9223372036854775808 ≤ d.2.2 ∧ d.2.2 ≤ 9223372036854775807)
def TrSize (_d : Tr) : Nat := 0
def TrCount (_d : Tr) : Nat := 0
def TrMarked (_k : Nat) (d : Tr) : Tr := d

end Go.Proofs.Ytpofmcepjmbmcaa

/- The drawing of colours. -/
namespace Go.Proofs.Ytpofmcepjmbmcaa
open Go.RowKit

theorem HeldF.only {w w' : World} {g r : Nat} {cs : List Value} (h : HeldF w g cs) (o : OnlyAt r w w') (hne : g ≠ r) : HeldF w' g cs :=
  ⟨⟨Nat.lt_of_lt_of_le h.1.1 o.size, fun j v hj => (o.cell (p := ⟨g, j, none⟩) h.1.1 hne).trans (h.1.2 j v hj)⟩, fun j => (o.frozen (p := ⟨g, j, none⟩) h.1.1 hne).trans (h.2 j)⟩
theorem OnlyAt.past {c g : Nat} {w w' : World} (h : OnlyAt c w w') (hg : w.heap.size ≤ g) {k : Nat} {u : Value} : OnlyAt c w (w'.setCell ⟨g, k, none⟩ u) :=
  ⟨h.os, h.tape, h.output, by simpa using h.size, fun j hj hjc => (Below.heap_setCell w' ⟨g, k, none⟩ u j (by simp; omega)).trans (h.block j hj hjc)⟩
end Go.Proofs.Ytpofmcepjmbmcaa

/- The drawing of a block. -/
namespace Go.Proofs.Ytpofmcepjmbmcaa
open Go.RowKit

theorem InR.set {lo hi : Int} {xs : List Int} (h : InR lo hi xs) {x : Int} (h0 : lo ≤ x ∧ x ≤ hi) (k : Nat) : InR lo hi (xs.set k x) := by
  intro j hj
  rw [List.length_set] at hj
  rw [List.getD_eq_getElem?_getD]
  by_cases e : k = j
  · subst e; rw [List.getElem?_set_self hj]; exact h0
  · rw [List.getElem?_set_ne e, ← List.getD_eq_getElem?_getD]; exact h j hj
theorem inR_zeros (lo hi : Int) (h : lo ≤ 0 ∧ 0 ≤ hi) (n : Nat) : InR lo hi (List.replicate n 0) := by
  intro j hj
  rw [List.getD_eq_getElem?_getD, List.getElem?_replicate]
  split <;> simp <;> omega
theorem OnlyAt.of_below {c : Nat} {w w' : World} (h : Below w.heap.size w w') : OnlyAt c w w' := ⟨h.os, h.tape, h.output, h.size, fun k hk _ => h.block k hk⟩
/-- What stands while 64 numbers are drawn into a row of the call's own. -/
structure DrSt (w wr : World) (c : Nat) (ad : Option Addr) (cap : Nat) (zs : List Int) (m : Nat) (xs : List Int) : Prop where
  len : xs.length = 64
  own : wr.ownsRow w.heap.size 3 1 (.slice (some ⟨w.heap.size, 0, none⟩) 64 64) 64 (ints xs)
  cur : CurIn wr c ad cap zs m
  only : OnlyAt c w wr
  cw : c < w.heap.size
  far : ∀ b' off, ad = some ⟨b', off, none⟩ → zs ≠ [] → b' < w.heap.size
theorem DrSt.pick {w wr wx : World} {c : Nat} {ad : Option Addr} {cap : Nat} {zs : List Int} {m m' : Nat} {xs : List Int} (h : DrSt w wr c ad cap zs m xs) (hc : CurIn wx c ad cap zs m') (ho : OnlyAt c wr wx) : DrSt w wx c ad cap zs m' xs :=
  ⟨h.len, owns_onlyI h.own (by have := h.cw; omega) ho, hc, h.only.trans ho, h.cw, h.far⟩
theorem DrSt.grown {w wr wx : World} {c : Nat} {ad : Option Addr} {cap : Nat} {zs : List Int} {m : Nat} {xs : List Int} (h : DrSt w wr c ad cap zs m xs) (hb : Below wr.heap.size wr wx) : DrSt w wx c ad cap zs m xs :=
  ⟨h.len, owns_onlyI h.own (show w.heap.size ≠ c by have := h.cw; omega) (OnlyAt.of_below hb), h.cur.grown hb, h.only.trans (OnlyAt.of_below hb), h.cw, h.far⟩
theorem DrSt.put {w wr : World} {c : Nat} {ad : Option Addr} {cap : Nat} {zs : List Int} {m : Nat} {xs : List Int} (h : DrSt w wr c ad cap zs m xs) (k : Nat) (x : Int) : DrSt w (wr.setCell ⟨w.heap.size, k, none⟩ (.int .i64 x)) c ad cap zs m (xs.set k x) :=
  ⟨by rw [List.length_set]; exact h.len, by have := (h.own.stored k (.int .i64 x)).1; rw [ints_set] at this; exact this,
    h.cur.setFar (by have := h.cw; omega) (fun b' off e hne => by have := h.far b' off e hne; omega), h.only.past (Nat.le_refl _), h.cw, h.far⟩
theorem DrSt.more {w wr : World} {c : Nat} {ad : Option Addr} {cap : Nat} {zs : List Int} {m m' : Nat} {xs : List Int} (h : DrSt w wr c ad cap zs m xs) (hm : m ≤ m') : DrSt w wr c ad cap zs m' xs :=
  ⟨h.len, h.own, h.cur.more hm, h.only, h.cw, h.far⟩
theorem DrSt.at {w wr : World} {c : Nat} {ad : Option Addr} {cap : Nat} {zs : List Int} {m : Nat} {xs : List Int} (h : DrSt w wr c ad cap zs m xs) {k : Nat} (hk : k < 64) : (∃ u, wr.cell? ⟨w.heap.size, k, none⟩ = some u) ∧ wr.frozen? ⟨w.heap.size, k, none⟩ = false :=
  ⟨by rw [h.own.cellAt k (by omega)]; exact ⟨_, List.getElem?_eq_getElem (by have := h.own.1; omega)⟩, h.own.frozenAt k⟩

end Go.Proofs.Ytpofmcepjmbmcaa

/- The drawing of blocks, good or not. -/
namespace Go.Proofs.Ytpofmcepjmbmcaa
open Go.RowKit

theorem own_atC {e : TypeId} {s : Nat} {w : World} {a b : Nat} {v : Value} {n : Nat} {xs : List Value} (h : Own e s w a b v n xs) (hn : 0 < n) : ∃ g cp, v = .slice (some ⟨g, 0, none⟩) n cp ∧ (a ≤ g ∧ g < b) ∧ n ≤ cp ∧ cp ≤ maxLen := by
  rcases h.1.2 with ⟨_, h0⟩ | ⟨g, cp, cur, e, h1, h2, h3, h4, _⟩
  · omega
  · exact ⟨g, cp, e, ⟨h1, h.2 g (by rw [e]; rfl)⟩, h3, h4⟩
theorem Own.onlyD {e : TypeId} {s : Nat} {w w' : World} {a b c : Nat} {v : Value} {n : Nat} {xs : List Value} (h : Own e s w a b v n xs) (hc : c < a) (o : OnlyAt c w w') : Own e s w' a b v n xs := by
  refine ⟨⟨h.1.1, ?_⟩, h.2⟩
  rcases h.1.2 with hn | ⟨g, cap, cur, rfl, h1, h2, h3⟩
  · exact .inl hn
  · exact .inr ⟨g, cap, cur, rfl, h1, by rw [o.block g (h.1.lt g rfl).2 (by omega)]; exact h2, h3⟩
theorem InR.wide {lo hi lo' hi' : Int} {xs : List Int} (h : InR lo hi xs) (hl : lo' ≤ lo) (hh : hi ≤ hi') : InR lo' hi' xs := fun j hj => by have := h j hj; omega
theorem InR.drop {lo hi : Int} {xs : List Int} (h : InR lo hi xs) (k : Nat) : InR lo hi (xs.drop k) := by
  intro j hj
  rw [List.length_drop] at hj
  have e : (xs.drop k).getD j 0 = xs.getD (k + j) 0 := by
    rw [List.getD_eq_getElem?_getD, List.getElem?_drop, ← List.getD_eq_getElem?_getD]
  rw [e]; exact h _ (by omega)
theorem rd_drop1 {w : World} {g cp : Nat} {xs : List Int} {a b : Nat} (h : OwnI w a b (.slice (some ⟨g, 0, none⟩) xs.length cp) xs) (hn : xs.length = 64) : RdI w (.slice (some ⟨g, 1, none⟩) 63 (cp - 1)) (xs.drop 1) := by
  have hl : (xs.drop 1).length = 63 := by rw [List.length_drop]; omega
  refine ⟨some ⟨g, 1, none⟩, cp - 1, by rw [hl], fun _ => ⟨g, 1, rfl, (h.1.lt g rfl).2, fun j hj => ?_⟩⟩
  rw [hl] at hj
  rw [h.1.cellAt (1 + j) (by omega)]
  have e : (xs.drop 1).getD j 0 = xs.getD (1 + j) 0 := by
    rw [List.getD_eq_getElem?_getD, List.getElem?_drop, ← List.getD_eq_getElem?_getD]
  rw [e]
  exact getD_map_int xs .i64 (1 + j) (by omega)
theorem rd_of_own {w : World} {a b : Nat} {v : Value} {xs : List Int} (h : OwnI w a b v xs) : RdI w v xs := by
  obtain ⟨ad, cap, e, hA⟩ := readK_of_own h
  exact ⟨ad, cap, e, hA⟩

end Go.Proofs.Ytpofmcepjmbmcaa

/- The drawing of choices. -/
namespace Go.Proofs.Ytpofmcepjmbmcaa
open Go.RowKit

theorem inCh_snoc {L : List Ch} {p : Ch} (h : InCh L) (h1 : -9223372036854775808 ≤ p.1 ∧ p.1 ≤ 9223372036854775807) (h2 : -9223372036854775808 ≤ p.2 ∧ p.2 ≤ 9223372036854775807) : InCh (L ++ [p]) := by
  intro j
  rw [List.getD_eq_getElem?_getD]
  rcases Nat.lt_trichotomy j L.length with e | e | e
  · rw [List.getElem?_append_left e]; have := h j; rw [List.getD_eq_getElem?_getD] at this; exact this
  · subst e; rw [List.getElem?_append_right (Nat.le_refl _), Nat.sub_self]; exact ⟨h1, h2⟩
  · rw [List.getElem?_eq_none (by simp; omega)]; exact ⟨⟨by decide, by decide⟩, by decide, by decide⟩
theorem inCh_nil : InCh [] := fun j => by simp
theorem specL12One (b : Bool) (w : World) : Calls Try.prog 113 #[.bool b] w fun e w' => e = .returned (.int .i64 (if b then 1 else 0)) ∧ w' = w := by
  cases b
  · go_enter Try.func113, Try.ntmps113
    go_wp2
    go_ret
    exact ⟨rfl, rfl⟩
  · go_enter Try.func113, Try.ntmps113
    go_wp2
    go_ret
    exact ⟨rfl, rfl⟩
/-- What stands while choices are drawn: the cursor, the row, and what lies below. -/
structure ChSt (w wr : World) (c : Nat) (ad : Option Addr) (cap : Nat) (zs : List Int) (m : Nat) (v : Value) (L : List Ch) : Prop where
  own : Own 31 2 wr w.heap.size wr.heap.size v L.length (cellsCh L)
  cur : CurIn wr c ad cap zs m
  bel : Below c w wr
  inc : InCh L
theorem ChSt.pick {w wr wx : World} {c : Nat} {ad : Option Addr} {cap : Nat} {zs : List Int} {m m' : Nat} {v : Value} {L : List Ch} (h : ChSt w wr c ad cap zs m v L) (hcw : c < w.heap.size) (hc : CurIn wx c ad cap zs m') (ho : OnlyAt c wr wx) : ChSt w wx c ad cap zs m' v L :=
  ⟨own_mono (h.own.onlyD hcw ho) (Nat.le_refl _) ho.size, hc, h.bel.trans (ho.below (Nat.le_refl _) (by have := h.bel.size; omega)), h.inc⟩
/-- A block that is laid now: the choice under way. -/
theorem ChSt.lay {w wr : World} {c : Nat} {ad : Option Addr} {cap : Nat} {zs : List Int} {m : Nat} {v : Value} {L : List Ch} (h : ChSt w wr c ad cap zs m v L) (o : Obj) : Own 31 2 (wr.alloc o) w.heap.size wr.heap.size v L.length (cellsCh L) ∧ CurIn (wr.alloc o) c ad cap zs m ∧ Below c w (wr.alloc o) ∧ InCh L :=
  ⟨h.own.keep (Upd.of_below ((Below.refl _ wr).alloc (Nat.le_refl _) o) 0 0), h.cur.grown ((Below.refl _ wr).alloc (Nat.le_refl _) o), h.bel.trans (((Below.refl _ wr).alloc (Nat.le_refl _) o).mono (by have := h.cur; obtain ⟨_, _, ⟨h0, _⟩, _⟩ := this; omega)), h.inc⟩
set_option maxHeartbeats 8000000 in
set_option maxRecDepth 100000 in
theorem curChoices (c : Nat) (ad : Option Addr) (cap : Nat) (zs : List Int) (m n : Nat) (p : Int) (w : World) (h : CurIn w c ad cap zs m) (hm : m ≤ 1000000) (hl : zs.length ≤ 1048576) (hn : n ≤ 20001) (hp : 1 ≤ p ∧ p ≤ 20) (hcw : c < w.heap.size)
    (hbB : zs ≠ [] → ∀ b off, ad = some ⟨b, off, none⟩ → b < w.heap.size) :
    Calls Try.prog 79 #[.pointer (some ⟨c, 0, none⟩), .int .i64 p, .int .i64 n] w fun e w' => ∃ v L, e = .returned v ∧ L.length = n ∧ ChSt w w' c ad cap zs (m + 3 + 6 * n) v L := by
  obtain ⟨i0, hi, hz0, hz1, hz2⟩ := info_parts infoCh
  have hpick := hide (fun (m' : Nat) (k : Int) (W : World) (hc : CurIn W c ad cap zs m') (h1 : m' ≤ 1099511627000) (h2 : k ≤ 1000000) => curPickAny c ad cap zs m' k W hc h1 hl h2)
  have hone := hide (fun (m' : Nat) (W : World) (hc : CurIn W c ad cap zs m') (h1 : m' ≤ 1099511627000) => curOne c ad cap zs m' 9 W hc (by omega) hl (by omega) (by omega))
  obtain ⟨p0, p1⟩ := hp
  replace hbB := hide hbB
  have hS0 : Hid (ChSt w w c ad cap zs m (.slice none 0 0) []) := hide ⟨own_nilCh _ _ _, h, Below.refl _ _, inCh_nil⟩
  clear h
  go_enter Try.func79, Try.ntmps79
  go_wp2_with fail
  refine (unhide hpick m 5 w (unhide hS0).cur (by omega) (by omega)).mono ?_
  rintro e w1 ⟨ln, rfl, ln0, ln1, hC, ho⟩
  replace ln1 := ln1 (by omega)
  replace hS0 := hide ((unhide hS0).pick hcw hC ho)
  clear hC ho
  go_wp2_with fail
  go_loopw [7, 9] (fun s i wr => ∃ (L : List Ch) (v : Value), v = s ∧ L.length ≤ n ∧ i = .int .i64 (L.length : Int) ∧ Hid (ChSt w wr c ad cap zs (m + 3 + 6 * L.length) v L)) (fun _ i _ => n - (intOf i).toNat)
  case atStart => exact ⟨[], _, rfl, by simp, rfl, hS0⟩
  case round =>
    clear hS0
    obtain ⟨L, v, rfl, hLn, rfl, hS⟩ := hrel
    by_cases hlt : L.length < n
    · have hk0 : decide ((L.length : Int) < (n : Int)) = true := decide_eq_true (by omega)
      go_wp2_with fail
      refine (unhide hpick _ p wr (unhide hS).cur (by omega) (by omega)).mono ?_
      rintro e w2 ⟨x, rfl, x0, x1, hC, ho⟩
      replace x1 := x1 p0
      replace hS := hide ((unhide hS).pick hcw hC ho)
      have hXc : c < w2.heap.size := by have := (unhide hS).bel.size; omega
      clear hC ho
      have hx := hide (heldF_new w2 [.int .i64 x, .int .i64 0] 31)
      obtain ⟨hO, hC, hB, hI⟩ := (unhide hS).lay (.cells #[.int .i64 x, .int .i64 0] 31)
      have hws : w.heap.size ≤ w2.heap.size := (unhide hS).bel.size
      replace hO := hide hO
      replace hC := hide hC
      replace hB := hide hB
      replace hI := hide hI
      rcases (show ln = 0 ∨ ln = 1 ∨ ln = 2 ∨ ln = 3 ∨ ln = 4 by omega) with e | e | e | e | e
      · subst e
        clear hS
        go_wp2_with fail
        refine (unhide hpick _ 2 _ (unhide hC) (by omega) (by omega)).mono ?_
        rintro e w4 ⟨y, rfl, y0, y1, hC4, ho⟩
        replace y1 := y1 (by omega)
        replace hO := hide ((unhide hO).onlyD hcw ho)
        replace hx := hide ((unhide hx).only ho (by omega))
        replace hB := hide ((unhide hB).trans (ho.below (Nat.le_refl _) (by simp; omega)))
        replace hC := hide (hC4.more (show _ ≤ m + 3 + 6 * L.length + 6 by omega))
        clear hC4 ho
        have k0 := (unhide hx).1.2 0 _ rfl
        have k1 := (unhide hx).1.2 1 _ rfl
        have f1 := (unhide hx).2 1
        replace hx := hide ((unhide hx).set 1 (.int .i64 y))
        replace hO := hide ((unhide hO).upd ((Upd.refl w2.heap.size (w2.heap.size + 1) w4).setCell ⟨Nat.le_refl _, Nat.lt_succ_self _⟩ 1 (.int .i64 y)) (.inl (Nat.le_refl _)))
        replace hC := hide ((unhide hC).setFar (g := w2.heap.size) (o := 1) (u := .int .i64 y) (by omega) (fun b off e hne => by have := unhide hbB hne b off e; omega))
        replace hB := hide ((unhide hB).setCell (p := ⟨w2.heap.size, 1, none⟩) (show c ≤ w2.heap.size by omega) (.int .i64 y))
        have hO5 := (unhide hO).keep (Upd.of_below ((Below.refl (w4.setCell ⟨w2.heap.size, 1, none⟩ (.int .i64 y)).heap.size (w4.setCell ⟨w2.heap.size, 1, none⟩ (.int .i64 y))).alloc (Nat.le_refl _) (.cells #[.int .i64 x, .int .i64 y] 31)) 0 0)
        have hC5 := hide ((unhide hC).grown ((Below.refl (w4.setCell ⟨w2.heap.size, 1, none⟩ (.int .i64 y)).heap.size (w4.setCell ⟨w2.heap.size, 1, none⟩ (.int .i64 y))).alloc (Nat.le_refl _) (.cells #[.int .i64 x, .int .i64 y] 31)))
        have hB5 := hide ((unhide hB).trans (((Below.refl (w4.setCell ⟨w2.heap.size, 1, none⟩ (.int .i64 y)).heap.size (w4.setCell ⟨w2.heap.size, 1, none⟩ (.int .i64 y))).alloc (Nat.le_refl _) (.cells #[.int .i64 x, .int .i64 y] 31)).mono (show c ≤ (w4.setCell ⟨w2.heap.size, 1, none⟩ (.int .i64 y)).heap.size by have := (unhide hC); obtain ⟨_, _, ⟨h0, _⟩, _⟩ := this; omega)))
        have hsz5 : w.heap.size ≤ ((w4.setCell ⟨w2.heap.size, 1, none⟩ (.int .i64 y)).alloc (.cells #[.int .i64 x, .int .i64 y] 31)).heap.size := by have := (unhide hB5).size; omega
        have hb1 : L.length + 1 ≤ maxLen := by unfold maxLen; omega
        have hb2 : (L.length + 1) * 16 ≤ 140737488355328 := by omega
        have hnew := twoNewM (w4.setCell ⟨w2.heap.size, 1, none⟩ (.int .i64 y)) (.int .i64 x) (.int .i64 y) 31
        rw [show (w4.setCell ⟨w2.heap.size, 1, none⟩ (.int .i64 y)).heap.size = w4.heap.size by simp] at hnew
        replace hnew := hide hnew
        replace hsz5 := hide hsz5
        go_wp2_with (at_builtin; refine wpList_append_own _ rfl (.tmp 43) (.tmp 45) 23 rfl w.heap.size 31 i0 (.agg #[.int .i64 0, .int .i64 0]) 2 16 Try.underlying23 hi hz0 hz1 hz2 rfl (by decide) _ _ _ rfl hO5.1 ⟨w4.heap.size, 0, none⟩ 1 1 [.int .i64 x, .int .i64 y] rfl rfl (unhide hnew) (twoOneM _ _ _ _) hb1 hb2 (unhide hsz5) ?_)
        intro v' w6 hown' hgrow _
        have hcurB := (Below.refl w.heap.size ((w4.setCell ⟨w2.heap.size, 1, none⟩ (.int .i64 y)).alloc (.cells #[.int .i64 x, .int .i64 y] 31))).grown hgrow (unhide hsz5) (fun k hk => (hO5.1.lt k hk).1)
        rw [← cellsCh_snoc L (x, y)] at hown'
        have hS6 : Hid (ChSt w w6 c ad cap zs (m + 3 + 6 * (L ++ [(x, y)]).length) v' (L ++ [(x, y)])) := hide ⟨Own.of (by rw [List.length_append]; exact hown'), ((unhide hC5).belowAt hcw (unhide hbB) hcurB).mono (by simp; omega), (unhide hB5).trans (hcurB.mono (Nat.le_of_lt hcw)), inCh_snoc (unhide hI) (by simp only; omega) (by simp only; omega)⟩
        clear hO5 hC5 hB5 hown' hgrow hcurB hO hC hB hI hx
        go_wp2
        go_roundw
        case rel => exact ⟨L ++ [(x, y)], _, rfl, by simp; omega, by rw [List.length_append]; go_num, hS6⟩
        case measure => simp [intOf]; omega
      · subst e
        clear hS
        go_wp2_with fail
        refine (unhide hone _ _ (unhide hC) (by omega)).mono ?_
        rintro e w4 ⟨bb, rfl, hC4, ho⟩
        replace hO := hide ((unhide hO).onlyD hcw ho)
        replace hx := hide ((unhide hx).only ho (by omega))
        replace hB := hide ((unhide hB).trans (ho.below (Nat.le_refl _) (by simp; omega)))
        replace hC := hide (hC4.more (show _ ≤ m + 3 + 6 * L.length + 6 by omega))
        clear hC4 ho
        have hL := hide (fun W => specL12One bb W)
        have hyb : (0 : Int) ≤ (if bb then 1 else 0) ∧ (if bb then 1 else 0 : Int) ≤ 1 := by cases bb <;> simp
        generalize (if bb then 1 else 0 : Int) = y at hL hyb
        obtain ⟨y0, y1⟩ := hyb
        go_wp2_with fail
        refine (unhide hL _).mono ?_
        rintro e wz ⟨rfl, hwz⟩
        subst wz
        clear hL
        have k0 := (unhide hx).1.2 0 _ rfl
        have k1 := (unhide hx).1.2 1 _ rfl
        have f1 := (unhide hx).2 1
        replace hx := hide ((unhide hx).set 1 (.int .i64 y))
        replace hO := hide ((unhide hO).upd ((Upd.refl w2.heap.size (w2.heap.size + 1) w4).setCell ⟨Nat.le_refl _, Nat.lt_succ_self _⟩ 1 (.int .i64 y)) (.inl (Nat.le_refl _)))
        replace hC := hide ((unhide hC).setFar (g := w2.heap.size) (o := 1) (u := .int .i64 y) (by omega) (fun b off e hne => by have := unhide hbB hne b off e; omega))
        replace hB := hide ((unhide hB).setCell (p := ⟨w2.heap.size, 1, none⟩) (show c ≤ w2.heap.size by omega) (.int .i64 y))
        have hO5 := (unhide hO).keep (Upd.of_below ((Below.refl (w4.setCell ⟨w2.heap.size, 1, none⟩ (.int .i64 y)).heap.size (w4.setCell ⟨w2.heap.size, 1, none⟩ (.int .i64 y))).alloc (Nat.le_refl _) (.cells #[.int .i64 x, .int .i64 y] 31)) 0 0)
        have hC5 := hide ((unhide hC).grown ((Below.refl (w4.setCell ⟨w2.heap.size, 1, none⟩ (.int .i64 y)).heap.size (w4.setCell ⟨w2.heap.size, 1, none⟩ (.int .i64 y))).alloc (Nat.le_refl _) (.cells #[.int .i64 x, .int .i64 y] 31)))
        have hB5 := hide ((unhide hB).trans (((Below.refl (w4.setCell ⟨w2.heap.size, 1, none⟩ (.int .i64 y)).heap.size (w4.setCell ⟨w2.heap.size, 1, none⟩ (.int .i64 y))).alloc (Nat.le_refl _) (.cells #[.int .i64 x, .int .i64 y] 31)).mono (show c ≤ (w4.setCell ⟨w2.heap.size, 1, none⟩ (.int .i64 y)).heap.size by have := (unhide hC); obtain ⟨_, _, ⟨h0, _⟩, _⟩ := this; omega)))
        have hsz5 : w.heap.size ≤ ((w4.setCell ⟨w2.heap.size, 1, none⟩ (.int .i64 y)).alloc (.cells #[.int .i64 x, .int .i64 y] 31)).heap.size := by have := (unhide hB5).size; omega
        have hb1 : L.length + 1 ≤ maxLen := by unfold maxLen; omega
        have hb2 : (L.length + 1) * 16 ≤ 140737488355328 := by omega
        have hnew := twoNewM (w4.setCell ⟨w2.heap.size, 1, none⟩ (.int .i64 y)) (.int .i64 x) (.int .i64 y) 31
        rw [show (w4.setCell ⟨w2.heap.size, 1, none⟩ (.int .i64 y)).heap.size = w4.heap.size by simp] at hnew
        replace hnew := hide hnew
        replace hsz5 := hide hsz5
        go_wp2_with (at_builtin; refine wpList_append_own _ rfl (.tmp 43) (.tmp 45) 23 rfl w.heap.size 31 i0 (.agg #[.int .i64 0, .int .i64 0]) 2 16 Try.underlying23 hi hz0 hz1 hz2 rfl (by decide) _ _ _ rfl hO5.1 ⟨w4.heap.size, 0, none⟩ 1 1 [.int .i64 x, .int .i64 y] rfl rfl (unhide hnew) (twoOneM _ _ _ _) hb1 hb2 (unhide hsz5) ?_)
        intro v' w6 hown' hgrow _
        have hcurB := (Below.refl w.heap.size ((w4.setCell ⟨w2.heap.size, 1, none⟩ (.int .i64 y)).alloc (.cells #[.int .i64 x, .int .i64 y] 31))).grown hgrow (unhide hsz5) (fun k hk => (hO5.1.lt k hk).1)
        rw [← cellsCh_snoc L (x, y)] at hown'
        have hS6 : Hid (ChSt w w6 c ad cap zs (m + 3 + 6 * (L ++ [(x, y)]).length) v' (L ++ [(x, y)])) := hide ⟨Own.of (by rw [List.length_append]; exact hown'), ((unhide hC5).belowAt hcw (unhide hbB) hcurB).mono (by simp; omega), (unhide hB5).trans (hcurB.mono (Nat.le_of_lt hcw)), inCh_snoc (unhide hI) (by simp only; omega) (by simp only; omega)⟩
        clear hO5 hC5 hB5 hown' hgrow hcurB hO hC hB hI hx
        go_wp2
        go_roundw
        case rel => exact ⟨L ++ [(x, y)], _, rfl, by simp; omega, by rw [List.length_append]; go_num, hS6⟩
        case measure => simp [intOf]; omega
      · subst e
        have hand := i64_and_1m x
        obtain ⟨y, hy⟩ : ∃ y, x % 2 = y := ⟨_, rfl⟩
        have y0 : 0 ≤ y := by omega
        have y1 : y < 2 := by omega
        rw [hy] at hand
        clear hy
        obtain ⟨hO, hC, hB, hI⟩ := (unhide hS).lay (.cells #[.int .i64 x, .int .i64 y] 31)
        replace hO := hide hO
        replace hC := hide (hC.more (show _ ≤ m + 3 + 6 * L.length + 6 by omega))
        replace hB := hide hB
        replace hI := hide hI
        clear hS
        have hO5 := (unhide hO).keep (Upd.of_below ((Below.refl (w2.alloc (.cells #[.int .i64 x, .int .i64 y] 31)).heap.size (w2.alloc (.cells #[.int .i64 x, .int .i64 y] 31))).alloc (Nat.le_refl _) (.cells #[.int .i64 x, .int .i64 y] 31)) 0 0)
        have hC5 := hide ((unhide hC).grown ((Below.refl (w2.alloc (.cells #[.int .i64 x, .int .i64 y] 31)).heap.size (w2.alloc (.cells #[.int .i64 x, .int .i64 y] 31))).alloc (Nat.le_refl _) (.cells #[.int .i64 x, .int .i64 y] 31)))
        have hB5 := hide ((unhide hB).trans (((Below.refl (w2.alloc (.cells #[.int .i64 x, .int .i64 y] 31)).heap.size (w2.alloc (.cells #[.int .i64 x, .int .i64 y] 31))).alloc (Nat.le_refl _) (.cells #[.int .i64 x, .int .i64 y] 31)).mono (show c ≤ (w2.alloc (.cells #[.int .i64 x, .int .i64 y] 31)).heap.size by have := (unhide hC); obtain ⟨_, _, ⟨h0, _⟩, _⟩ := this; omega)))
        have hsz5 : w.heap.size ≤ ((w2.alloc (.cells #[.int .i64 x, .int .i64 y] 31)).alloc (.cells #[.int .i64 x, .int .i64 y] 31)).heap.size := by have := (unhide hB5).size; omega
        have hb1 : L.length + 1 ≤ maxLen := by unfold maxLen; omega
        have hb2 : (L.length + 1) * 16 ≤ 140737488355328 := by omega
        have hnew := twoNewM (w2.alloc (.cells #[.int .i64 x, .int .i64 y] 31)) (.int .i64 x) (.int .i64 y) 31
        rw [show (w2.alloc (.cells #[.int .i64 x, .int .i64 y] 31)).heap.size = (w2.heap.size + 1) by simp] at hnew
        replace hnew := hide hnew
        replace hsz5 := hide hsz5
        go_wp2_with (at_builtin; refine wpList_append_own _ rfl (.tmp 43) (.tmp 45) 23 rfl w.heap.size 31 i0 (.agg #[.int .i64 0, .int .i64 0]) 2 16 Try.underlying23 hi hz0 hz1 hz2 rfl (by decide) _ _ _ rfl hO5.1 ⟨(w2.heap.size + 1), 0, none⟩ 1 1 [.int .i64 x, .int .i64 y] rfl rfl (unhide hnew) (twoOneM _ _ _ _) hb1 hb2 (unhide hsz5) ?_)
        intro v' w6 hown' hgrow _
        have hcurB := (Below.refl w.heap.size ((w2.alloc (.cells #[.int .i64 x, .int .i64 y] 31)).alloc (.cells #[.int .i64 x, .int .i64 y] 31))).grown hgrow (unhide hsz5) (fun k hk => (hO5.1.lt k hk).1)
        rw [← cellsCh_snoc L (x, y)] at hown'
        have hS6 : Hid (ChSt w w6 c ad cap zs (m + 3 + 6 * (L ++ [(x, y)]).length) v' (L ++ [(x, y)])) := hide ⟨Own.of (by rw [List.length_append]; exact hown'), ((unhide hC5).belowAt hcw (unhide hbB) hcurB).mono (by simp; omega), (unhide hB5).trans (hcurB.mono (Nat.le_of_lt hcw)), inCh_snoc (unhide hI) (by simp only; omega) (by simp only; omega)⟩
        clear hO5 hC5 hB5 hown' hgrow hcurB hO hC hB hI hx
        go_wp2
        go_roundw
        case rel => exact ⟨L ++ [(x, y)], _, rfl, by simp; omega, by rw [List.length_append]; go_num, hS6⟩
        case measure => simp [intOf]; omega
      · subst e
        obtain ⟨hO, hC, hB, hI⟩ := (unhide hS).lay (.cells #[.int .i64 x, .int .i64 1] 31)
        replace hO := hide hO
        replace hC := hide (hC.more (show _ ≤ m + 3 + 6 * L.length + 6 by omega))
        replace hB := hide hB
        replace hI := hide hI
        clear hS
        have hO5 := (unhide hO).keep (Upd.of_below ((Below.refl (w2.alloc (.cells #[.int .i64 x, .int .i64 1] 31)).heap.size (w2.alloc (.cells #[.int .i64 x, .int .i64 1] 31))).alloc (Nat.le_refl _) (.cells #[.int .i64 x, .int .i64 1] 31)) 0 0)
        have hC5 := hide ((unhide hC).grown ((Below.refl (w2.alloc (.cells #[.int .i64 x, .int .i64 1] 31)).heap.size (w2.alloc (.cells #[.int .i64 x, .int .i64 1] 31))).alloc (Nat.le_refl _) (.cells #[.int .i64 x, .int .i64 1] 31)))
        have hB5 := hide ((unhide hB).trans (((Below.refl (w2.alloc (.cells #[.int .i64 x, .int .i64 1] 31)).heap.size (w2.alloc (.cells #[.int .i64 x, .int .i64 1] 31))).alloc (Nat.le_refl _) (.cells #[.int .i64 x, .int .i64 1] 31)).mono (show c ≤ (w2.alloc (.cells #[.int .i64 x, .int .i64 1] 31)).heap.size by have := (unhide hC); obtain ⟨_, _, ⟨h0, _⟩, _⟩ := this; omega)))
        have hsz5 : w.heap.size ≤ ((w2.alloc (.cells #[.int .i64 x, .int .i64 1] 31)).alloc (.cells #[.int .i64 x, .int .i64 1] 31)).heap.size := by have := (unhide hB5).size; omega
        have hb1 : L.length + 1 ≤ maxLen := by unfold maxLen; omega
        have hb2 : (L.length + 1) * 16 ≤ 140737488355328 := by omega
        have hnew := twoNewM (w2.alloc (.cells #[.int .i64 x, .int .i64 1] 31)) (.int .i64 x) (.int .i64 1) 31
        rw [show (w2.alloc (.cells #[.int .i64 x, .int .i64 1] 31)).heap.size = (w2.heap.size + 1) by simp] at hnew
        replace hnew := hide hnew
        replace hsz5 := hide hsz5
        go_wp2_with (at_builtin; refine wpList_append_own _ rfl (.tmp 43) (.tmp 45) 23 rfl w.heap.size 31 i0 (.agg #[.int .i64 0, .int .i64 0]) 2 16 Try.underlying23 hi hz0 hz1 hz2 rfl (by decide) _ _ _ rfl hO5.1 ⟨(w2.heap.size + 1), 0, none⟩ 1 1 [.int .i64 x, .int .i64 1] rfl rfl (unhide hnew) (twoOneM _ _ _ _) hb1 hb2 (unhide hsz5) ?_)
        intro v' w6 hown' hgrow _
        have hcurB := (Below.refl w.heap.size ((w2.alloc (.cells #[.int .i64 x, .int .i64 1] 31)).alloc (.cells #[.int .i64 x, .int .i64 1] 31))).grown hgrow (unhide hsz5) (fun k hk => (hO5.1.lt k hk).1)
        rw [← cellsCh_snoc L (x, 1)] at hown'
        have hS6 : Hid (ChSt w w6 c ad cap zs (m + 3 + 6 * (L ++ [(x, 1)]).length) v' (L ++ [(x, 1)])) := hide ⟨Own.of (by rw [List.length_append]; exact hown'), ((unhide hC5).belowAt hcw (unhide hbB) hcurB).mono (by simp; omega), (unhide hB5).trans (hcurB.mono (Nat.le_of_lt hcw)), inCh_snoc (unhide hI) (by simp only; omega) (by simp only; omega)⟩
        clear hO5 hC5 hB5 hown' hgrow hcurB hO hC hB hI hx
        go_wp2
        go_roundw
        case rel => exact ⟨L ++ [(x, 1)], _, rfl, by simp; omega, by rw [List.length_append]; go_num, hS6⟩
        case measure => simp [intOf]; omega
      · subst e
        clear hS
        have k0 := (unhide hx).1.2 0 _ rfl
        have k1 := (unhide hx).1.2 1 _ rfl
        replace hC := hide ((unhide hC).more (show _ ≤ m + 3 + 6 * L.length + 6 by omega))
        have hO5 := (unhide hO).keep (Upd.of_below ((Below.refl (w2.alloc (.cells #[.int .i64 x, .int .i64 0] 31)).heap.size (w2.alloc (.cells #[.int .i64 x, .int .i64 0] 31))).alloc (Nat.le_refl _) (.cells #[.int .i64 x, .int .i64 0] 31)) 0 0)
        have hC5 := hide ((unhide hC).grown ((Below.refl (w2.alloc (.cells #[.int .i64 x, .int .i64 0] 31)).heap.size (w2.alloc (.cells #[.int .i64 x, .int .i64 0] 31))).alloc (Nat.le_refl _) (.cells #[.int .i64 x, .int .i64 0] 31)))
        have hB5 := hide ((unhide hB).trans (((Below.refl (w2.alloc (.cells #[.int .i64 x, .int .i64 0] 31)).heap.size (w2.alloc (.cells #[.int .i64 x, .int .i64 0] 31))).alloc (Nat.le_refl _) (.cells #[.int .i64 x, .int .i64 0] 31)).mono (show c ≤ (w2.alloc (.cells #[.int .i64 x, .int .i64 0] 31)).heap.size by have := (unhide hC); obtain ⟨_, _, ⟨h0, _⟩, _⟩ := this; omega)))
        have hsz5 : w.heap.size ≤ ((w2.alloc (.cells #[.int .i64 x, .int .i64 0] 31)).alloc (.cells #[.int .i64 x, .int .i64 0] 31)).heap.size := by have := (unhide hB5).size; omega
        have hb1 : L.length + 1 ≤ maxLen := by unfold maxLen; omega
        have hb2 : (L.length + 1) * 16 ≤ 140737488355328 := by omega
        have hnew := twoNewM (w2.alloc (.cells #[.int .i64 x, .int .i64 0] 31)) (.int .i64 x) (.int .i64 0) 31
        rw [show (w2.alloc (.cells #[.int .i64 x, .int .i64 0] 31)).heap.size = (w2.heap.size + 1) by simp] at hnew
        replace hnew := hide hnew
        replace hsz5 := hide hsz5
        go_wp2_with (at_builtin; refine wpList_append_own _ rfl (.tmp 43) (.tmp 45) 23 rfl w.heap.size 31 i0 (.agg #[.int .i64 0, .int .i64 0]) 2 16 Try.underlying23 hi hz0 hz1 hz2 rfl (by decide) _ _ _ rfl hO5.1 ⟨(w2.heap.size + 1), 0, none⟩ 1 1 [.int .i64 x, .int .i64 0] rfl rfl (unhide hnew) (twoOneM _ _ _ _) hb1 hb2 (unhide hsz5) ?_)
        intro v' w6 hown' hgrow _
        have hcurB := (Below.refl w.heap.size ((w2.alloc (.cells #[.int .i64 x, .int .i64 0] 31)).alloc (.cells #[.int .i64 x, .int .i64 0] 31))).grown hgrow (unhide hsz5) (fun k hk => (hO5.1.lt k hk).1)
        rw [← cellsCh_snoc L (x, 0)] at hown'
        have hS6 : Hid (ChSt w w6 c ad cap zs (m + 3 + 6 * (L ++ [(x, 0)]).length) v' (L ++ [(x, 0)])) := hide ⟨Own.of (by rw [List.length_append]; exact hown'), ((unhide hC5).belowAt hcw (unhide hbB) hcurB).mono (by simp; omega), (unhide hB5).trans (hcurB.mono (Nat.le_of_lt hcw)), inCh_snoc (unhide hI) (by simp only; omega) (by simp only; omega)⟩
        clear hO5 hC5 hB5 hown' hgrow hcurB hO hC hB hI hx
        go_wp2
        go_roundw
        case rel => exact ⟨L ++ [(x, 0)], _, rfl, by simp; omega, by rw [List.length_append]; go_num, hS6⟩
        case measure => simp [intOf]; omega
    · have hkl : L.length = n := by omega
      have hk0 : decide ((L.length : Int) < (n : Int)) = false := decide_eq_false (by omega)
      rw [hkl] at hS
      replace hkl := hide hkl
      go_wp2
      go_ret
      exact ⟨_, L, rfl, unhide hkl, unhide hS⟩
end Go.Proofs.Ytpofmcepjmbmcaa

/- Drawn choices, with how many places they have. -/
namespace Go.Proofs.Ytpofmcepjmbmcaa
open Go.RowKit

/-- What stands while a list's length is drawn. -/
structure DwC (w wr : World) (ad : Option Addr) (cap : Nat) (zs : List Int) (m : Nat) : Prop where
  cur : CurIn wr w.heap.size ad cap zs m
  be : Below w.heap.size w wr
  sz : w.heap.size + 1 ≤ wr.heap.size
theorem DwC.pick {w wr wx : World} {ad : Option Addr} {cap : Nat} {zs : List Int} {m m' : Nat} (h : DwC w wr ad cap zs m) (hc : CurIn wx w.heap.size ad cap zs m') (ho : OnlyAt w.heap.size wr wx) : DwC w wx ad cap zs m' :=
  ⟨hc, h.be.trans (ho.below (Nat.le_refl _) h.be.size), by have := ho.size; have := h.sz; omega⟩
theorem DwC.more {w wr : World} {ad : Option Addr} {cap : Nat} {zs : List Int} {m m' : Nat} (h : DwC w wr ad cap zs m) (hm : m ≤ m') : DwC w wr ad cap zs m' := ⟨h.cur.more hm, h.be, h.sz⟩
theorem l1SizeC (ad : Option Addr) (len cap : Nat) (w : World) (hl : len ≤ 1048576) :
    Calls Try.prog 78 #[.slice ad len cap, .int .i64 1, .int .i64 900] w fun e w' => ∃ k : Nat, e = .returned (.int .i64 k) ∧ k ≤ 900 ∧ w' = w := by
  have hd : Int.tdiv (len : Int) 1 = (len : Int) := Int.tdiv_one _
  by_cases hb : 900 < len
  · have hb' : (900 : Int) < (len : Int) := by omega
    go_enter Try.func78, Try.ntmps78
    go_wp2
    go_ret
    exact ⟨900, rfl, by omega, rfl⟩
  · have hb' : ¬ (900 : Int) < (len : Int) := by omega
    go_enter Try.func78, Try.ntmps78
    go_wp2
    go_ret
    exact ⟨len, rfl, by omega, rfl⟩
theorem cellsCh_set (L : List Ch) (k : Nat) (hk : k < L.length) (b : Int) : (cellsCh L).set (k * 2 + 1) (.int .i64 b) = cellsCh (L.set k ((L.getD k Ch0).1, b)) := by
  refine cellsCh_of (by rw [List.length_set, cellsCh_length, List.length_set]) (fun j hj => ?_)
  rw [List.length_set] at hj
  have h := cellsCh_at L j hj
  by_cases e : k = j
  · subst e
    rw [List.getElem?_set_ne (by omega), List.getElem?_set_self (by rw [cellsCh_length]; omega)]
    rw [List.getD_eq_getElem?_getD (l := L.set _ _), List.getElem?_set_self hk]
    exact ⟨h.1, rfl⟩
  · rw [List.getElem?_set_ne (by omega), List.getElem?_set_ne (by omega), List.getD_eq_getElem?_getD (l := L.set _ _), List.getElem?_set_ne e, ← List.getD_eq_getElem?_getD]
    exact h
theorem inCh_set {L : List Ch} (h : InCh L) (k : Nat) (p : Ch) (h1 : -9223372036854775808 ≤ p.1 ∧ p.1 ≤ 9223372036854775807) (h2 : -9223372036854775808 ≤ p.2 ∧ p.2 ≤ 9223372036854775807) : InCh (L.set k p) := by
  intro j
  rw [List.getD_eq_getElem?_getD]
  by_cases e : k = j
  · subst e
    by_cases hk : k < L.length
    · rw [List.getElem?_set_self hk]; exact ⟨h1, h2⟩
    · rw [List.getElem?_eq_none (by rw [List.length_set]; omega)]; exact ⟨⟨by decide, by decide⟩, by decide, by decide⟩
  · rw [List.getElem?_set_ne e]; have := h j; rw [List.getD_eq_getElem?_getD] at this; exact this
set_option maxHeartbeats 16000000 in
set_option maxRecDepth 100000 in
theorem specL12Drawn (ad : Option Addr) (cap : Nat) (zs : List Int) (w : World) (h : ArgB w ad zs) (hl : zs.length ≤ 1048576) :
    Calls Try.prog 34 #[.slice ad zs.length cap] w fun e w' => ∃ p v L, e = .returned (.tuple #[.int .i64 p, v, .pointer (some ⟨w.heap.size, 0, none⟩)]) ∧ (0 ≤ p ∧ p ≤ 513) ∧ L.length ≤ 20001 ∧ InCh L ∧ RdCh w' v L ∧ Below w.heap.size w w' := by
  have hD0 : DwC w (w.alloc (.cells #[.slice ad zs.length cap, .int .i64 0, .int .u64 0] 79)) ad cap zs 0 := ⟨curIn_new _ ad cap zs h, (Below.refl w.heap.size w).alloc (Nat.le_refl _) _, by simp⟩
  replace hD0 := hide hD0
  have hcur0 : Hid (zs ≠ [] → ∀ b off, ad = some ⟨b, off, none⟩ → b < w.heap.size) := hide (fun hne b off e => by
    obtain ⟨b2, off2, e2, hl2, _⟩ := h.2 hne
    rw [e] at e2
    simp only [Option.some.injEq, Addr.mk.injEq, and_true] at e2
    omega)
  clear h
  go_enter Try.func34, Try.ntmps34
  go_wp2_with fail
  generalize w.alloc (.cells #[.slice ad zs.length cap, .int .i64 0, .int .u64 0] 79) = w0 at hD0 ⊢
  refine (curPickAny w.heap.size ad cap zs 0 20 w0 (unhide hD0).cur (by omega) hl (by omega)).mono ?_
  rintro e w1 ⟨pp, rfl, pp0, pp1, hc, ho⟩
  replace pp1 := pp1 (by omega)
  have hD := hide ((unhide hD0).pick hc ho)
  clear hc ho hD0
  go_wp2_with fail
  refine (curPickAny w.heap.size ad cap zs _ 60 w1 (unhide hD).cur (by omega) hl (by omega)).mono ?_
  rintro e w2 ⟨pn, rfl, pn0, pn1, hc, ho⟩
  replace pn1 := pn1 (by omega)
  replace hD := hide ((unhide hD).pick hc ho)
  clear hc ho
  go_wp2_with fail
  refine (curOne w.heap.size ad cap zs _ 3 w2 (unhide hD).cur (by omega) hl (by omega) (by omega)).mono ?_
  rintro e w3 ⟨b1, rfl, hc, ho⟩
  replace hD := hide ((unhide hD).pick hc ho)
  clear hc ho
  go_upto_if 18 with fail
  go_cut [7] (fun s wx => ∃ N : Nat, s = .int .i64 (N : Int) ∧ N ≤ 20001 ∧ Hid (DwC w wx ad cap zs 100))
  case first =>
    cases b1
    · obtain ⟨N, rfl⟩ := Int.eq_ofNat_of_zero_le pn0
      go_wp2
      go_meet
      exact ⟨N, rfl, by omega, hide ((unhide hD).more (by omega))⟩
    · go_wp2_with fail
      refine (l1SizeC ad zs.length cap w3 hl).mono ?_
      rintro e wz ⟨k, rfl, hk, hwz⟩
      subst wz
      go_wp2
      go_meet
      exact ⟨k, rfl, by omega, hide ((unhide hD).more (by omega))⟩
  case rest =>
    clear hD pn0 pn1
    obtain ⟨N, rfl, hN, hD⟩ := hcut
    go_wp2_with fail
    refine (curOne w.heap.size ad cap zs _ 30 wc (unhide hD).cur (by omega) hl (by omega) (by omega)).mono ?_
    rintro e w4 ⟨b2, rfl, hc, ho⟩
    replace hD := hide ((unhide hD).pick hc ho)
    clear hc ho
    go_upto_if 22 with fail
    go_cut [7] (fun s wx => ∃ N : Nat, s = .int .i64 (N : Int) ∧ N ≤ 20001 ∧ Hid (DwC w wx ad cap zs 200))
    case first =>
      cases b2
      · go_wp2
        go_meet
        exact ⟨N, rfl, hN, hide ((unhide hD).more (by omega))⟩
      · go_wp2_with fail
        refine (curPickAny w.heap.size ad cap zs _ 3 w4 (unhide hD).cur (by omega) hl (by omega)).mono ?_
        rintro e w5 ⟨pk, rfl, pk0, pk1, hc, ho⟩
        replace pk1 := pk1 (by omega)
        replace hD := hide ((unhide hD).pick hc ho)
        clear hc ho
        obtain ⟨M, rfl⟩ := Int.eq_ofNat_of_zero_le pk0
        go_wp2
        go_meet
        exact ⟨19999 + M, by first | rfl | (congr 1; omega), by omega, hide ((unhide hD).more (by omega))⟩
    case rest =>
      clear hD hN
      obtain ⟨N, rfl, hN, hD⟩ := hcut
      obtain ⟨P, hP⟩ : ∃ P, 1 + pp = P := ⟨_, rfl⟩
      rw [hP]
      have hP1 : 1 ≤ P ∧ P ≤ 20 := by omega
      clear hP pp0 pp1
      have hcw := (unhide hD).sz
      go_wp2_with fail
      refine (curChoices w.heap.size ad cap zs 200 N P wc (unhide hD).cur (by omega) hl hN hP1 (by omega) (fun hne b off e => by have := unhide hcur0 hne b off e; omega)).mono ?_
      rintro e w5 ⟨v, L, rfl, hL, hS⟩
      have hB := hide ((unhide hD).be.trans hS.bel)
      have hsz5 : w.heap.size + 1 ≤ w5.heap.size := by have := hS.bel.size; omega
      have hO := hide (own_mono hS.own (show w.heap.size + 1 ≤ wc.heap.size by omega) (Nat.le_refl _))
      have hI := hide hS.inc
      have hC := hide hS.cur
      clear hS hD hcur0
      obtain ⟨p0, p1⟩ := hP1
      go_wp2_with fail
      refine (curPickAny w.heap.size ad cap zs _ 14 w5 (unhide hC) (by omega) hl (by omega)).mono ?_
      rintro e w6 ⟨pk, rfl, pk0, pk1, hc, ho⟩
      replace hO := hide ((unhide hO).onlyD (by omega) ho)
      replace hB := hide ((unhide hB).trans (ho.below (Nat.le_refl _) (by omega)))
      have hsz6 : w.heap.size + 1 ≤ w6.heap.size := by have := ho.size; omega
      replace hC := hide hc
      clear hc ho hsz5
      by_cases q0 : pk = 0
      · subst q0
        have hu := Upd.of_below ((Below.refl w6.heap.size w6).alloc (Nat.le_refl _) (.cells #[.int .i64 0, .int .i64 512, .int .i64 513, .int .i64 3] 3)) 0 0
        have hcl := hide (heldF_new w6 [.int .i64 0, .int .i64 512, .int .i64 513, .int .i64 3] 3)
        have hc4 := hide ((unhide hC).grown ((Below.refl w6.heap.size w6).alloc (Nat.le_refl _) (.cells #[.int .i64 0, .int .i64 512, .int .i64 513, .int .i64 3] 3)))
        replace hB := hide (below_upd (unhide hB) hu (Nat.le_refl _) (.inr (Nat.le_refl _)))
        replace hO := hide ((unhide hO).keep hu)
        clear hC hu
        go_wp2_with fail
        refine (curPickAny w.heap.size ad cap zs _ 4 _ (unhide hc4) (by omega) hl (by omega)).mono ?_
        rintro e w7 ⟨y, rfl, y0, y1, hc5, ho⟩
        replace y1 := y1 (by omega)
        replace hB := hide ((unhide hB).trans (ho.below (Nat.le_refl _) (by simp; omega)))
        replace hcl := hide ((unhide hcl).only ho (by omega))
        replace hO := hide ((unhide hO).onlyD (by omega) ho)
        obtain ⟨adv, capv, rfl, hAv⟩ := OwnCh.rd (unhide hO)
        have hr := hide (show RdCh w7 (.slice adv N capv) L from ⟨adv, capv, by rw [hL], hAv⟩)
        clear hc4 ho hc5 hO hAv
        rcases (show y = 0 ∨ y = 1 ∨ y = 2 ∨ y = 3 by omega) with e | e | e | e
        · subst e
          have k0 := (unhide hcl).1.2 0 _ rfl
          go_wp2
          go_ret3
          exact ⟨_, _, L, rfl, by omega, by omega, unhide hI, unhide hr, unhide hB⟩
        · subst e
          have k0 := (unhide hcl).1.2 1 _ rfl
          go_wp2
          go_ret3
          exact ⟨_, _, L, rfl, by omega, by omega, unhide hI, unhide hr, unhide hB⟩
        · subst e
          have k0 := (unhide hcl).1.2 2 _ rfl
          go_wp2
          go_ret3
          exact ⟨_, _, L, rfl, by omega, by omega, unhide hI, unhide hr, unhide hB⟩
        · subst e
          have k0 := (unhide hcl).1.2 3 _ rfl
          go_wp2
          go_ret3
          exact ⟨_, _, L, rfl, by omega, by omega, unhide hI, unhide hr, unhide hB⟩
      have q0b : (pk == 0) = false := beq_eq_false_iff_ne.2 q0
      by_cases q1 : pk = 1
      · subst q1
        by_cases hN0 : N = 0
        · subst hN0
          obtain ⟨adv, capv, rfl, hAv⟩ := OwnCh.rd (unhide hO)
          have hr := hide (show RdCh w6 (.slice adv 0 capv) L from ⟨adv, capv, by rw [hL], hAv⟩)
          clear hC hO hAv
          go_wp2
          go_ret3
          exact ⟨_, _, L, rfl, by omega, by omega, unhide hI, unhide hr, unhide hB⟩
        · have hN1 : (0 : Int) < (N : Int) := by omega
          have hO1 : Own 31 2 w6 (w.heap.size + 1) w5.heap.size v N (cellsCh L) := by rw [← hL]; exact unhide hO
          obtain ⟨g, cp, rfl, ⟨g1, g2⟩, cp1, cp2⟩ := own_atC hO1 (by omega)
          unfold maxLen at cp2
          clear hO1
          go_wp2_with fail
          refine (curPickAny w.heap.size ad cap zs _ (N : Int) w6 (unhide hC) (by omega) hl (by omega)).mono ?_
          rintro e w7 ⟨K, rfl, K0, K1, hc, ho⟩
          replace K1 := K1 (by omega)
          obtain ⟨K, rfl⟩ := Int.eq_ofNat_of_zero_le K0
          replace hO := hide ((unhide hO).onlyD (by omega) ho)
          replace hB := hide ((unhide hB).trans (ho.below (Nat.le_refl _) (by omega)))
          have hsz7 : w.heap.size + 1 ≤ w7.heap.size := by have := ho.size; omega
          replace hC := hide hc
          clear hc ho
          go_wp2_with fail
          refine (curPickAny w.heap.size ad cap zs _ 4 w7 (unhide hC) (by omega) hl (by omega)).mono ?_
          rintro e w8 ⟨y, rfl, y0, y1, hc, ho⟩
          replace y1 := y1 (by omega)
          replace hO := hide ((unhide hO).onlyD (by omega) ho)
          replace hB := hide ((unhide hB).trans (ho.below (Nat.le_refl _) (by omega)))
          clear hc ho hC
          have hKL : K < L.length := by omega
          have hO8 : w8.ownsRow (w.heap.size + 1) 31 2 (.slice (some ⟨g, 0, none⟩) N cp) N (cellsCh L) := by have e := (unhide hO).1; rw [hL] at e; exact e
          have hst := (hO8.stored (K * 2 + 1) (.int .i64 (y - 1))).1
          rw [cellsCh_set L K hKL] at hst
          have hI2 := hide (inCh_set (unhide hI) K ((L.getD K Ch0).1, y - 1) (unhide hI K).1 (by simp only; omega))
          have hlen : (L.set K ((L.getD K Ch0).1, y - 1)).length = L.length := List.length_set
          have hdst : ∃ u, w8.cell? ⟨g, K * 2 + 1, none⟩ = some u := by
            rw [hO8.cellAt (K * 2 + 1) (by omega)]
            exact ⟨_, List.getElem?_eq_getElem (by rw [cellsCh_length]; omega)⟩
          obtain ⟨uu, hdst⟩ := hdst
          have hfz : w8.frozen? ⟨g, K * 2 + 1, none⟩ = false := hO8.frozenAt (K * 2 + 1)
          have hB2 := hide ((unhide hB).setCell (p := ⟨g, K * 2 + 1, none⟩) (show w.heap.size ≤ g by omega) (.int .i64 (y - 1)))
          generalize L.set K ((L.getD K Ch0).1, y - 1) = L2 at hst hI2 hlen
          rw [← hlen] at hL
          clear hO8
          have hr : Hid (RdCh (w8.setCell ⟨g, K * 2 + 1, none⟩ (.int .i64 (y - 1))) (.slice (some ⟨g, 0, none⟩) N cp) L2) := hide (by
            have h2 := hst
            rw [← hL] at h2
            obtain ⟨a, c, e, hA⟩ := OwnCh.rd (Own.of h2)
            rw [hL] at e
            cases e
            exact ⟨_, _, by rw [hL], hA⟩)
          have hlen2 := hide hL
          have kK : (K : Int) < (N : Int) := by omega
          have kK0 : (0 : Int) ≤ (K : Int) := by omega
          clear hst hO hI hB hL hlen hKL
          go_wp2
          go_ret3
          exact ⟨_, _, L2, rfl, by omega, by have := unhide hlen2; omega, unhide hI2, unhide hr, unhide hB2⟩
      · have q1b : (pk == 1) = false := beq_eq_false_iff_ne.2 q1
        obtain ⟨adv, capv, rfl, hAv⟩ := OwnCh.rd (unhide hO)
        have hr := hide (show RdCh w6 (.slice adv N capv) L from ⟨adv, capv, by rw [hL], hAv⟩)
        clear hC hO hAv
        go_wp2
        go_ret3
        exact ⟨_, _, L, rfl, by omega, by omega, unhide hI, unhide hr, unhide hB⟩
set_option maxHeartbeats 4000000 in
theorem specDrawOddsPack (ad : Option Addr) (cap : Nat) (zs : List Int) (w : World) (h : ArgB w ad zs) (hl : zs.length ≤ 1048576) :
    Calls Try.prog 9 #[.slice ad zs.length cap] w fun e w' => ∃ p v L, e = .returned (.tuple #[.int .i64 p, v]) ∧ (0 ≤ p ∧ p ≤ 513) ∧ L.length ≤ 20001 ∧ InCh L ∧ RdCh w' v L ∧ Below w.heap.size w w' := by
  have hS := hide (specL12Drawn ad cap zs w h hl)
  clear h
  go_enter Try.func9, Try.ntmps9
  go_wp2_with fail
  refine (unhide hS).mono ?_
  rintro e w1 ⟨p, v, L, rfl, h1, h2, h3, h4, h7⟩
  obtain ⟨ad3, cap3, rfl, hA3⟩ := h4
  have hr3 := hide (show RdCh w1 (.slice ad3 L.length cap3) L from ⟨ad3, cap3, rfl, hA3⟩)
  replace h1 := hide h1
  replace h2 := hide h2
  replace h3 := hide h3
  replace h7 := hide h7
  clear hS hA3
  go_wp2
  go_ret2
  exact ⟨_, _, L, rfl, unhide h1, unhide h2, unhide h3, unhide hr3, unhide h7⟩
end Go.Proofs.Ytpofmcepjmbmcaa

/- Plain: odds of places, what choices by them cost; no program is named here. -/
namespace Go.Proofs.Ytpofmcepjmbmcaa
open Go.RowKit

/-- Odds behind a bit. -/
def learnF (o b : Int) : Int := if b = 0 then o + (4096 - o) / 32 else o - o / 32
theorem learnF_bd (o b : Int) (h : 31 ≤ o ∧ o ≤ 4065) : 31 ≤ learnF o b ∧ learnF o b ≤ 4065 := by
  unfold learnF; split <;> omega
def oddsSet (s : Int → Int) (c : Int × Int) : Int → Int := fun p => if p = c.1 then learnF (s p) c.2 else s p
/-- The odds of all places behind the first k choices. -/
def oddsK (cs : List (Int × Int)) : Nat → Int → Int
  | 0 => fun _ => 2048
  | k + 1 => oddsSet (oddsK cs k) (cs.getD k (0, 0))
theorem oddsK_succ (cs : List (Int × Int)) (k : Nat) : oddsK cs (k + 1) = oddsSet (oddsK cs k) (cs.getD k (0, 0)) := rfl
theorem oddsK_bd (cs : List (Int × Int)) : ∀ (k : Nat) (p : Int), 31 ≤ oddsK cs k p ∧ oddsK cs k p ≤ 4065
  | 0, p => by simp [oddsK]
  | k + 1, p => by
    have h := oddsK_bd cs k p
    rw [oddsK_succ]
    unfold oddsSet
    split
    · exact learnF_bd _ _ h
    · exact h
/-- What choices may be. -/
def ChsOk (places : Int) (cs : List (Int × Int)) : Prop := ∀ j, j < cs.length → (0 ≤ (cs.getD j (0, 0)).1 ∧ (cs.getD j (0, 0)).1 < places) ∧ 0 ≤ (cs.getD j (0, 0)).2 ∧ (cs.getD j (0, 0)).2 ≤ 1
def chB (places : Int) (c : Int × Int) : Bool := decide (0 ≤ c.1) && decide (c.1 < places) && decide (0 ≤ c.2) && decide (c.2 ≤ 1)
def chsB (places : Int) (cs : List (Int × Int)) : Bool := cs.all (chB places)
theorem chB_iff (places : Int) (c : Int × Int) : chB places c = true ↔ (0 ≤ c.1 ∧ c.1 < places) ∧ 0 ≤ c.2 ∧ c.2 ≤ 1 := by
  simp [chB, and_assoc]
theorem chsB_iff (places : Int) (cs : List (Int × Int)) : chsB places cs = true ↔ ChsOk places cs := by
  unfold chsB ChsOk
  rw [List.all_eq_true]
  constructor
  · intro h j hj
    rw [List.getD_eq_getElem?_getD, List.getElem?_eq_getElem hj]
    exact (chB_iff _ _).1 (h _ (List.getElem_mem hj))
  · intro h c hc
    obtain ⟨j, hj, rfl⟩ := List.mem_iff_getElem.1 hc
    have := h j hj
    rw [List.getD_eq_getElem?_getD, List.getElem?_eq_getElem hj] at this
    exact (chB_iff _ _).2 this
/-- The whole of what both sides ask of places and choices. -/
def oddsB (places : Int) (cs : List (Int × Int)) : Bool := decide (1 ≤ places) && decide (places ≤ 512) && decide (cs.length ≤ 20000) && chsB places cs
theorem oddsB_iff (places : Int) (cs : List (Int × Int)) : oddsB places cs = true ↔ (1 ≤ places ∧ places ≤ 512) ∧ cs.length ≤ 20000 ∧ ChsOk places cs := by
  unfold oddsB
  simp only [Bool.and_eq_true, decide_eq_true_eq, chsB_iff, and_assoc]

/-- L of so many parts. -/
def logF (v : Int) : Int :=
  let u := max v 1
  let b := Lib.bitLen u.toNat - 1
  256 * (8 - (b : Int)) - 256 * (u - 2 ^ b) / 2 ^ b
def partsF (o b : Int) : Int := ((if b = 1 then 4096 - o else o) + 8) / 16
def costF (o b : Int) : Int := logF (partsF o b)
def costK (cs : List (Int × Int)) : Nat → Int
  | 0 => 0
  | k + 1 => costK cs k + costF (oddsK cs k (cs.getD k (0, 0)).1) (cs.getD k (0, 0)).2
theorem costK_succ (cs : List (Int × Int)) (k : Nat) : costK cs (k + 1) = costK cs k + costF (oddsK cs k (cs.getD k (0, 0)).1) (cs.getD k (0, 0)).2 := rfl
def oddsCost (places : Int) (cs : List (Int × Int)) : Int := if oddsB places cs = true then costK cs cs.length else -1
theorem partsF_bd (o b : Int) (h : 31 ≤ o ∧ o ≤ 4065) : 2 ≤ partsF o b ∧ partsF o b ≤ 254 := by
  unfold partsF; split <;> omega
theorem logF_all : ∀ v : Fin 257, 0 ≤ logF v.val ∧ logF v.val ≤ 2048 := by decide +kernel
theorem costF_bd (o b : Int) (h : 31 ≤ o ∧ o ≤ 4065) : 0 ≤ costF o b ∧ costF o b ≤ 2048 := by
  have hb := partsF_bd o b h
  have := logF_all ⟨(partsF o b).toNat, by omega⟩
  have e : (((partsF o b).toNat : Nat) : Int) = partsF o b := by omega
  simp only [e] at this
  exact this
theorem costK_bd (cs : List (Int × Int)) : ∀ k, 0 ≤ costK cs k ∧ costK cs k ≤ 2048 * k
  | 0 => by simp [costK]
  | k + 1 => by
    have h := costK_bd cs k
    have := costF_bd _ (cs.getD k (0, 0)).2 (oddsK_bd cs k (cs.getD k (0, 0)).1)
    rw [costK_succ]
    omega

/-! ### A range, its low end, what was told of it -/
/-- Add 1 to the number that the first k bytes are. -/
def carryTo (xs : List Int) : Nat → List Int
  | 0 => xs
  | k + 1 => if (xs.getD k 0 + 1) % 256 ≠ 0 then xs.set k ((xs.getD k 0 + 1) % 256) else carryTo (xs.set k ((xs.getD k 0 + 1) % 256)) k
theorem carryTo_len : ∀ (k : Nat) (xs : List Int), (carryTo xs k).length = xs.length
  | 0, _ => rfl
  | k + 1, xs => by
    unfold carryTo
    split
    · simp
    · rw [carryTo_len k]; simp
def carryF (xs : List Int) : List Int := carryTo xs xs.length
def carryIf (low : Int) (xs : List Int) : List Int := if 4294967296 ≤ low then carryF xs else xs
theorem carryIf_len (low : Int) (xs : List Int) : (carryIf low xs).length = xs.length := by
  unfold carryIf carryF; split
  · exact carryTo_len _ _
  · rfl
/-- low, range, and what was told, as the document has them: a carry waits in low. -/
structure Rg where
  low : Int
  rng : Int
  out : List Int
def shiftF (r : Rg) : Rg := ⟨r.low % 16777216 * 256, r.rng, carryIf r.low r.out ++ [r.low / 16777216 % 256]⟩
def splitF (rng o : Int) : Int := rng / 4096 * o
def bitF (r : Rg) (o b : Int) : Rg := if b = 0 then ⟨r.low, splitF r.rng o, r.out⟩ else ⟨r.low + splitF r.rng o, r.rng - splitF r.rng o, r.out⟩
def widenF (r : Rg) : Rg := if r.rng < 16777216 then shiftF ⟨r.low, r.rng * 256, r.out⟩ else r
def putF (r : Rg) (o b : Int) : Rg := widenF (bitF r o b)
def rg0 : Rg := ⟨0, 4294967295, []⟩
def rgK (cs : List (Int × Int)) : Nat → Rg
  | 0 => rg0
  | k + 1 => putF (rgK cs k) (oddsK cs k (cs.getD k (0, 0)).1) (cs.getD k (0, 0)).2
theorem rgK_succ (cs : List (Int × Int)) (k : Nat) : rgK cs (k + 1) = putF (rgK cs k) (oddsK cs k (cs.getD k (0, 0)).1) (cs.getD k (0, 0)).2 := rfl
/-- What holds of a range between two choices. -/
structure RgOk (r : Rg) : Prop where
  low0 : 0 ≤ r.low
  rng0 : 16777216 ≤ r.rng
  rng1 : r.rng ≤ 4294967295
  sum : r.low + r.rng ≤ 8589934592
theorem split_bd (rng o : Int) (ho : 31 ≤ o ∧ o ≤ 4065) (h0 : 16777216 ≤ rng) : 65536 ≤ splitF rng o ∧ splitF rng o + 65536 ≤ rng := by
  unfold splitF
  have hq : 4096 ≤ rng / 4096 := by omega
  have h1 : rng / 4096 * 31 ≤ rng / 4096 * o := Int.mul_le_mul_of_nonneg_left ho.1 (by omega)
  have h2 : rng / 4096 * o ≤ rng / 4096 * 4065 := Int.mul_le_mul_of_nonneg_left ho.2 (by omega)
  omega
/-- Behind a choice, ahead of the widening. -/
theorem bitF_bd (r : Rg) (o b : Int) (hr : RgOk r) (ho : 31 ≤ o ∧ o ≤ 4065) :
    0 ≤ (bitF r o b).low ∧ 65536 ≤ (bitF r o b).rng ∧ (bitF r o b).rng ≤ 4294967295 ∧ (bitF r o b).low + (bitF r o b).rng ≤ 8589934592 := by
  have hs := split_bd r.rng o ho hr.rng0
  have := hr.low0; have := hr.rng1; have := hr.sum
  unfold bitF
  split
  · exact ⟨by simp; omega, by simp; omega, by simp; omega, by simp; omega⟩
  · exact ⟨by simp; omega, by simp; omega, by simp; omega, by simp; omega⟩
theorem widenF_ok (r : Rg) (h0 : 0 ≤ r.low) (h1 : 65536 ≤ r.rng) (h2 : r.rng ≤ 4294967295) (h3 : r.low + r.rng ≤ 8589934592) : RgOk (widenF r) := by
  unfold widenF shiftF
  split
  · exact ⟨by simp; omega, by simp; omega, by simp; omega, by simp; omega⟩
  · exact ⟨h0, by omega, h2, h3⟩
theorem putF_ok (r : Rg) (o b : Int) (hr : RgOk r) (ho : 31 ≤ o ∧ o ≤ 4065) : RgOk (putF r o b) := by
  have h := bitF_bd r o b hr ho
  exact widenF_ok _ h.1 h.2.1 h.2.2.1 h.2.2.2
theorem rgK_ok (cs : List (Int × Int)) : ∀ k, RgOk (rgK cs k)
  | 0 => by unfold rgK rg0; exact ⟨by simp, by simp, by simp, by simp⟩
  | k + 1 => putF_ok _ _ _ (rgK_ok cs k) (oddsK_bd cs k _)
theorem bitF_out (r : Rg) (o b : Int) : (bitF r o b).out = r.out := by unfold bitF; split <;> rfl
theorem widenF_len (r : Rg) : (widenF r).out.length ≤ r.out.length + 1 := by
  unfold widenF shiftF; split
  · simp [carryIf_len]
  · omega
theorem rgK_len (cs : List (Int × Int)) : ∀ k, (rgK cs k).out.length ≤ k
  | 0 => by simp [rgK, rg0]
  | k + 1 => by
    have := rgK_len cs k
    have h := widenF_len (bitF (rgK cs k) (oddsK cs k (cs.getD k (0, 0)).1) (cs.getD k (0, 0)).2)
    rw [bitF_out] at h
    rw [rgK_succ]; unfold putF; omega
def shiftsF (r : Rg) : Nat → Rg
  | 0 => r
  | k + 1 => shiftF (shiftsF r k)
theorem shiftsF_succ (r : Rg) (k : Nat) : shiftsF r (k + 1) = shiftF (shiftsF r k) := rfl
theorem shiftsF_len (r : Rg) : ∀ k, (shiftsF r k).out.length = r.out.length + k
  | 0 => rfl
  | k + 1 => by rw [shiftsF_succ]; unfold shiftF; simp [carryIf_len, shiftsF_len r k]; omega
theorem shiftsF_low (r : Rg) (h0 : 0 ≤ r.low) (h1 : r.low < 8589934592) : ∀ k, 0 ≤ (shiftsF r k).low ∧ (shiftsF r k).low < 8589934592
  | 0 => ⟨h0, h1⟩
  | k + 1 => by rw [shiftsF_succ]; unfold shiftF; simp; omega
def packL (cs : List (Int × Int)) : List Int := (shiftsF (rgK cs cs.length) 4).out
def oddsPack (places : Int) (cs : List (Int × Int)) : List Int := if oddsB places cs = true then packL cs else []
theorem packL_len (cs : List (Int × Int)) : (packL cs).length ≤ cs.length + 4 := by
  unfold packL; rw [shiftsF_len]; have := rgK_len cs cs.length; omega
theorem oddsPack_len (places : Int) (cs : List (Int × Int)) : (oddsPack places cs).length ≤ 20004 := by
  unfold oddsPack
  split
  · rename_i h
    have := ((oddsB_iff _ _).1 h).2.1
    have := packL_len cs
    omega
  · simp

theorem oddsPack_big (places : Int) (cs : List (Int × Int)) : (oddsPack places cs).length ≤ 1048576 := by have := oddsPack_len places cs; omega
/-! ### The program's: a carry is told at once -/
def toldF (r : Rg) : List Int := carryIf r.low r.out
def lowF (r : Rg) : Int := r.low % 4294967296
theorem shiftF_told (r : Rg) : toldF (shiftF r) = toldF r ++ [lowF r / 16777216] ∧ lowF (shiftF r) = lowF r * 256 % 4294967296 := by
  unfold toldF lowF shiftF
  constructor
  · simp only [carryIf]
    rw [if_neg (show ¬ (4294967296 ≤ r.low % 16777216 * 256) by omega), show r.low / 16777216 % 256 = r.low % 4294967296 / 16777216 by omega]
  · simp only; omega
theorem bitF_told (r : Rg) (o b : Int) (hr : RgOk r) (ho : 31 ≤ o ∧ o ≤ 4065) :
    (b = 0 → toldF (bitF r o b) = toldF r ∧ lowF (bitF r o b) = lowF r) ∧
    (b ≠ 0 → lowF (bitF r o b) = (lowF r + splitF r.rng o) % 4294967296 ∧
      toldF (bitF r o b) = if (lowF r + splitF r.rng o) % 4294967296 < splitF r.rng o then carryF (toldF r) else toldF r) := by
  have hs := split_bd r.rng o ho hr.rng0
  have h0 := hr.low0; have h2 := hr.rng1; have h3 := hr.sum
  refine ⟨fun h => ?_, fun h => ?_⟩
  · unfold bitF; rw [if_pos h]; exact ⟨rfl, rfl⟩
  · unfold bitF; rw [if_neg h]
    unfold lowF toldF carryIf
    simp only
    generalize splitF r.rng o = s at hs ⊢
    refine ⟨by omega, ?_⟩
    by_cases hl : 4294967296 ≤ r.low
    · rw [if_pos hl, if_pos (by omega), if_neg (by omega)]
    · rw [if_neg hl]
      by_cases hl2 : 4294967296 ≤ r.low + s
      · rw [if_pos hl2, if_pos (by omega)]
      · rw [if_neg hl2, if_neg (by omega)]
theorem told_end (r : Rg) (k : Nat) (hk : 0 < k) : toldF (shiftsF r k) = (shiftsF r k).out := by
  obtain ⟨j, rfl⟩ : ∃ j, k = j + 1 := ⟨k - 1, by omega⟩
  rw [shiftsF_succ]
  unfold toldF carryIf shiftF
  simp only
  rw [if_neg (by omega)]
end Go.Proofs.Ytpofmcepjmbmcaa

/- Plain: choices read back by their odds; no program is named here. -/
namespace Go.Proofs.Ytpofmcepjmbmcaa
open Go.RowKit

structure Rd where
  rng : Int
  code : Int
  at_ : Nat
  err : Int
def byteF (ds : List Int) (r : Rd) : Rd := if ds.length ≤ r.at_ then ⟨r.rng, r.code, r.at_, if r.err = 0 then 2 else r.err⟩ else ⟨r.rng, r.code * 256 + ds.getD r.at_ 0, r.at_ + 1, r.err⟩
def rd0 : Rd := ⟨4294967295, 0, 0, 0⟩
def openK (ds : List Int) : Nat → Rd
  | 0 => rd0
  | k + 1 => byteF ds (openK ds k)
theorem openK_succ (ds : List Int) (k : Nat) : openK ds (k + 1) = byteF ds (openK ds k) := rfl
def codeF (r : Rd) : Rd := if r.err = 0 ∧ r.rng ≤ r.code then ⟨r.rng, r.code, r.at_, 4⟩ else r
def openR (ds : List Int) : Rd := codeF (openK ds 4)
def bitOf (r : Rd) (o : Int) : Int := if r.code < splitF r.rng o then 0 else 1
def halfR (r : Rd) (o : Int) : Rd := if r.code < splitF r.rng o then ⟨splitF r.rng o, r.code, r.at_, r.err⟩ else ⟨r.rng - splitF r.rng o, r.code - splitF r.rng o, r.at_, r.err⟩
def wideR (ds : List Int) (r : Rd) : Rd := if r.rng < 16777216 then byteF ds ⟨r.rng * 256, r.code, r.at_, r.err⟩ else r
def takeR (ds : List Int) (r : Rd) (o : Int) : Rd := wideR ds (halfR r o)
def stR (ds ps : List Int) : Nat → (Int → Int) × Rd
  | 0 => (fun _ => 2048, openR ds)
  | k + 1 => if (stR ds ps k).2.err ≠ 0 then stR ds ps k else
      (oddsSet (stR ds ps k).1 (ps.getD k 0, bitOf (stR ds ps k).2 ((stR ds ps k).1 (ps.getD k 0))), takeR ds (stR ds ps k).2 ((stR ds ps k).1 (ps.getD k 0)))
def bitK (ds ps : List Int) (k : Nat) : Int := if (stR ds ps k).2.err ≠ 0 then 0 else bitOf (stR ds ps k).2 ((stR ds ps k).1 (ps.getD k 0))
def bitsR (ds ps : List Int) (k : Nat) : List Int := (List.range k).map (bitK ds ps)
@[simp] theorem bitsR_len (ds ps : List Int) (k : Nat) : (bitsR ds ps k).length = k := by simp [bitsR]
theorem bitsR_succ (ds ps : List Int) (k : Nat) : bitsR ds ps (k + 1) = bitsR ds ps k ++ [bitK ds ps k] := by simp [bitsR, List.range_succ]
theorem stR_bad (ds ps : List Int) (k : Nat) (h : (stR ds ps k).2.err ≠ 0) : stR ds ps (k + 1) = stR ds ps k := by
  show (if (stR ds ps k).2.err ≠ 0 then stR ds ps k else _) = _
  rw [if_pos h]
theorem stR_good (ds ps : List Int) (k : Nat) (h : (stR ds ps k).2.err = 0) : stR ds ps (k + 1) = (oddsSet (stR ds ps k).1 (ps.getD k 0, bitOf (stR ds ps k).2 ((stR ds ps k).1 (ps.getD k 0))), takeR ds (stR ds ps k).2 ((stR ds ps k).1 (ps.getD k 0))) := by
  show (if (stR ds ps k).2.err ≠ 0 then stR ds ps k else _) = _
  rw [if_neg (by simpa using h)]
theorem stR_stays (ds ps : List Int) (k : Nat) (h : (stR ds ps k).2.err ≠ 0) : ∀ d, stR ds ps (k + d) = stR ds ps k
  | 0 => rfl
  | d + 1 => by
    have ih := stR_stays ds ps k h d
    rw [← Nat.add_assoc, stR_bad ds ps (k + d) (by rw [ih]; exact h), ih]
/-- What holds of a reader's numbers. -/
structure RdOk (ds : List Int) (r : Rd) : Prop where
  at0 : r.at_ ≤ ds.length
  code0 : 0 ≤ r.code
  code1 : r.code ≤ 4294967295
  rng1 : r.rng ≤ 4294967295
  errs : r.err = 0 ∨ r.err = 2 ∨ r.err = 4
  good : r.err = 0 → 16777216 ≤ r.rng ∧ r.code < r.rng
def ByteOk (ds : List Int) : Prop := ∀ j, 0 ≤ ds.getD j 0 ∧ ds.getD j 0 ≤ 255
theorem openK_ok (ds : List Int) (hd : ByteOk ds) : ∀ k, k ≤ 4 → (openK ds k).at_ ≤ ds.length ∧ 0 ≤ (openK ds k).code ∧ (openK ds k).code < 2 ^ (8 * k) ∧ (openK ds k).rng = 4294967295 ∧ ((openK ds k).err = 0 ∨ (openK ds k).err = 2)
  | 0, _ => by simp [openK, rd0]
  | k + 1, hk => by
    obtain ⟨h1, h2, h3, h4, h5⟩ := openK_ok ds hd k (by omega)
    have hp : (2 : Int) ^ (8 * (k + 1)) = 2 ^ (8 * k) * 256 := by rw [show 8 * (k + 1) = 8 * k + 8 by omega, Int.pow_add]; rfl
    have hp0 : (0 : Int) < 2 ^ (8 * k) := Int.pow_pos (by omega)
    have hb := hd (openK ds k).at_
    rw [openK_succ]
    unfold byteF
    split
    · refine ⟨h1, h2, by rw [hp]; simp only; omega, h4, ?_⟩
      simp only
      split
      · exact .inr rfl
      · exact h5
    · refine ⟨by simp only; omega, by simp only; omega, by rw [hp]; simp only; omega, h4, h5⟩
theorem openR_ok (ds : List Int) (hd : ByteOk ds) : RdOk ds (openR ds) := by
  obtain ⟨h1, h2, h3, h4, h5⟩ := openK_ok ds hd 4 (by omega)
  unfold openR codeF
  have h3' : (openK ds 4).code ≤ 4294967295 := by have : (2 : Int) ^ (8 * 4) = 4294967296 := by decide
                                                  omega
  split
  · exact ⟨h1, h2, h3', by simp only; omega, .inr (.inr rfl), fun h => by simp at h⟩
  · rename_i h
    refine ⟨h1, h2, h3', by omega, h5.elim .inl (fun h => .inr (.inl h)), fun he => ⟨by omega, ?_⟩⟩
    rcases Int.lt_or_le (openK ds 4).code (openK ds 4).rng with hl | hl
    · exact hl
    · exact absurd ⟨he, hl⟩ h
theorem halfR_bd (ds : List Int) (r : Rd) (o : Int) (hr : RdOk ds r) (he : r.err = 0) (ho : 31 ≤ o ∧ o ≤ 4065) : 65536 ≤ (halfR r o).rng ∧ (halfR r o).rng ≤ 4294967295 ∧ 0 ≤ (halfR r o).code ∧ (halfR r o).code < (halfR r o).rng ∧ (halfR r o).at_ = r.at_ ∧ (halfR r o).err = 0 := by
  obtain ⟨g0, g1⟩ := hr.good he
  have hs := split_bd r.rng o ho g0
  have := hr.code0; have := hr.rng1
  unfold halfR
  split
  · exact ⟨by simp only; omega, by simp only; omega, by simp only; omega, by simp only; omega, rfl, he⟩
  · exact ⟨by simp only; omega, by simp only; omega, by simp only; omega, by simp only; omega, rfl, he⟩
theorem takeR_ok (ds : List Int) (hd : ByteOk ds) (r : Rd) (o : Int) (hr : RdOk ds r) (he : r.err = 0) (ho : 31 ≤ o ∧ o ≤ 4065) : RdOk ds (takeR ds r o) := by
  obtain ⟨h1, h2, h3, h4, h5, h6⟩ := halfR_bd ds r o hr he ho
  have ha := hr.at0
  have hb := hd (halfR r o).at_
  unfold takeR wideR
  split
  · unfold byteF
    split
    · exact ⟨by simp only; omega, h3, by simp only; omega, by simp only; omega, by simp, fun h => by simp at h⟩
    · exact ⟨by simp only at *; omega, by simp only; omega, by simp only; omega, by simp only; omega, .inl h6, fun _ => ⟨by simp only; omega, by simp only; omega⟩⟩
  · exact ⟨by omega, h3, by omega, h2, .inl h6, fun _ => ⟨by omega, h4⟩⟩
theorem stR_ok (ds ps : List Int) (hd : ByteOk ds) : ∀ k, RdOk ds (stR ds ps k).2 ∧ ∀ q, 31 ≤ (stR ds ps k).1 q ∧ (stR ds ps k).1 q ≤ 4065
  | 0 => ⟨openR_ok ds hd, fun q => by simp [stR]⟩
  | k + 1 => by
    have ih := stR_ok ds ps hd k
    by_cases he : (stR ds ps k).2.err = 0
    · rw [stR_good ds ps k he]
      refine ⟨takeR_ok ds hd _ _ ih.1 he (ih.2 _), fun q => ?_⟩
      simp only [oddsSet]
      split
      · exact learnF_bd _ _ (ih.2 _)
      · exact ih.2 q
    · rw [stR_bad ds ps k he]; exact ih
theorem bitOf_bd (r : Rd) (o : Int) : 0 ≤ bitOf r o ∧ bitOf r o ≤ 1 := by unfold bitOf; split <;> omega
def PsOk (places : Int) (ps : List Int) : Prop := ∀ j, j < ps.length → 0 ≤ ps.getD j 0 ∧ ps.getD j 0 < places
def pB (places p : Int) : Bool := decide (0 ≤ p) && decide (p < places)
def psB (places : Int) (ps : List Int) : Bool := ps.all (pB places)
theorem pB_iff (places p : Int) : pB places p = true ↔ 0 ≤ p ∧ p < places := by simp [pB]
theorem psB_iff (places : Int) (ps : List Int) : psB places ps = true ↔ PsOk places ps := by
  unfold psB PsOk
  rw [List.all_eq_true]
  constructor
  · intro h j hj
    rw [List.getD_eq_getElem?_getD, List.getElem?_eq_getElem hj]
    exact (pB_iff _ _).1 (h _ (List.getElem_mem hj))
  · intro h c hc
    obtain ⟨j, hj, rfl⟩ := List.mem_iff_getElem.1 hc
    have := h j hj
    rw [List.getD_eq_getElem?_getD, List.getElem?_eq_getElem hj] at this
    exact (pB_iff _ _).2 this
def unpB (places : Int) (ps : List Int) : Bool := decide (1 ≤ places) && decide (places ≤ 512) && decide (ps.length ≤ 20000) && psB places ps
def oddsUnpack (places : Int) (ds ps : List Int) : Int × List Int × Int :=
  if unpB places ps = true then
    if (stR ds ps ps.length).2.err ≠ 0 then ((stR ds ps ps.length).2.err, [], 0) else (0, bitsR ds ps ps.length, ((stR ds ps ps.length).2.at_ : Int))
  else (1, [], 0)
end Go.Proofs.Ytpofmcepjmbmcaa
