/- The texts behind FnExactSplit, part 0: what each of them says stands at its head. -/
import Derived.Laws.BitsAll
import Derived.WalkKit
import Derived.Test.YtdochjkkgmkdgaaDoorRows
import Derived.WalkSpells
import Derived.WalkLawsBesides
import Derived.BigQuiet
import Derived.Deep.QuietTactic
import Derived.Deep.RegionWith
import Derived.BigRegion
import Derived.Deep.RegionHeld
import Derived.Deep.RegionHeld3
import Derived.Laws.Slices
import Derived.Laws.AppendOwn
import Derived.Maps.AppendAt
import Derived.Laws.AppendOwnNone
import Derived.Lib.AppendZeros
/- Plain arithmetic and lists behind chapter 1: what a check sum is after some bytes, what folding and unfolding a number gives, what the bits of words are; no program is named here. -/
namespace Go.Proofs.YtdochjkkgmkdgaaDoor
open Go.RowKit

theorem take_snoc_getD {α : Type} (zs : List α) (d : α) (k : Nat) (h : k < zs.length) : zs.take (k + 1) = zs.take k ++ [zs.getD k d] := by
  rw [List.take_succ_eq_append_getElem h, List.getD_eq_getElem?_getD, List.getElem?_eq_getElem h]; rfl

theorem hide {p : Prop} (h : p) : Hid p := h
theorem unhide {p : Prop} (h : Hid p) : p := h
theorem ret_int {k : IntKind} {a b : Int} (h : a = b) : Ending.returned (.int k a) = .returned (.int k b) := by rw [h]

/-! ### Adler -/
def adStep (p : Int × Int) (x : Int) : Int × Int := ((p.1 + x) % 65521, (p.2 + (p.1 + x) % 65521) % 65521)
def adTo (zs : List Int) (k : Nat) : Int × Int := (zs.take k).foldl adStep (1, 0)
def adlerF (zs : List Int) : Int := (65536 * (adTo zs zs.length).2 + (adTo zs zs.length).1) % 4294967296
theorem adTo_succ (zs : List Int) (k : Nat) (h : k < zs.length) : adTo zs (k + 1) = adStep (adTo zs k) (zs.getD k 0) := by
  unfold adTo; rw [take_snoc_getD zs 0 k h, List.foldl_append]; rfl
theorem adTo_succ1 (zs : List Int) (k : Nat) (h : k < zs.length) : (adTo zs (k + 1)).1 = ((adTo zs k).1 + zs.getD k 0) % 65521 := by rw [adTo_succ zs k h]; rfl
theorem adTo_succ2 (zs : List Int) (k : Nat) (h : k < zs.length) : (adTo zs (k + 1)).2 = ((adTo zs k).2 + ((adTo zs k).1 + zs.getD k 0) % 65521) % 65521 := by rw [adTo_succ zs k h]; rfl
theorem adStep_bd (p : Int × Int) (x : Int) : (0 ≤ (adStep p x).1 ∧ (adStep p x).1 < 65521) ∧ 0 ≤ (adStep p x).2 ∧ (adStep p x).2 < 65521 := by
  unfold adStep; simp only; omega
theorem adTo_bd (zs : List Int) (k : Nat) : (0 ≤ (adTo zs k).1 ∧ (adTo zs k).1 < 65521) ∧ 0 ≤ (adTo zs k).2 ∧ (adTo zs k).2 < 65521 := by
  unfold adTo
  rcases List.eq_nil_or_concat (zs.take k) with h | ⟨l, x, h⟩
  · rw [h]; simp
  · rw [h, List.concat_eq_append, List.foldl_append]; exact adStep_bd _ _

/-! ### Crc -/
def crcBit (r : Nat) : Nat := if r % 2 = 1 then (r / 2) ^^^ 3988292384 else r / 2
def crcIt : Nat → Nat → Nat
  | 0, r => r
  | m + 1, r => crcBit (crcIt m r)
def crcStep (r : Nat) (x : Int) : Nat := crcIt 8 (r ^^^ x.toNat)
def crcTo (zs : List Int) (k : Nat) : Nat := (zs.take k).foldl (fun r x => crcIt 8 (r ^^^ (x.toNat % 256))) 4294967295
def crcF (zs : List Int) : Int := 4294967295 - (crcTo zs zs.length : Nat)
theorem crcBit_lt (r : Nat) (h : r < 4294967296) : crcBit r < 4294967296 := by
  unfold crcBit; split
  · exact Nat.xor_lt_two_pow (n := 32) (by omega) (by omega)
  · omega
theorem crcIt_lt (m r : Nat) (h : r < 4294967296) : crcIt m r < 4294967296 := by
  induction m with
  | zero => exact h
  | succ m ih => exact crcBit_lt _ ih
theorem u32_and_one (y : Nat) (h : y < 4294967296) : bits .and .u32 (y : Int) 1 = ((y % 2 : Nat) : Int) := by go_bits2
theorem crcBit_odd (y : Nat) (h : y < 4294967296) (ho : y % 2 = 1) : bits .xor .u32 ((y : Int) / 2) 3988292384 = (crcBit y : Nat) := by
  have := u32_xor_nat (y / 2) 3988292384 (by omega) (by omega)
  unfold crcBit; rw [if_pos ho, ← this]; rfl
theorem crcBit_even (y : Nat) (ho : ¬ y % 2 = 1) : (y : Int) / 2 = (crcBit y : Nat) := by
  unfold crcBit; rw [if_neg ho]; omega
theorem crcTo_succ (zs : List Int) (k : Nat) (h : k < zs.length) : crcTo zs (k + 1) = crcIt 8 (crcTo zs k ^^^ ((zs.getD k 0).toNat % 256)) := by
  unfold crcTo; rw [take_snoc_getD zs 0 k h, List.foldl_append]; rfl
theorem crcTo_lt (zs : List Int) (k : Nat) : crcTo zs k < 4294967296 := by
  unfold crcTo
  generalize zs.take k = l
  suffices H : ∀ r, r < 4294967296 → l.foldl (fun r x => crcIt 8 (r ^^^ (x.toNat % 256))) r < 4294967296 from H _ (by omega)
  induction l with
  | nil => intro r h; exact h
  | cons x l ih => intro r h; exact ih _ (crcIt_lt _ _ (Nat.xor_lt_two_pow (n := 32) (by omega) (by omega)))

theorem xor_half (a b : Nat) : (a ^^^ b) / 2 = a / 2 ^^^ b / 2 := Nat.xor_div_two_pow (n := 1)
theorem xor_par (a b : Nat) : (a ^^^ b) % 2 = (a % 2 ^^^ b % 2) := Nat.xor_mod_two_pow (n := 1)
theorem crcBit_xor (a b : Nat) : crcBit (a ^^^ b) = crcBit a ^^^ crcBit b := by
  unfold crcBit
  rw [xor_par, xor_half]
  rcases Nat.mod_two_eq_zero_or_one a with ha | ha <;> rcases Nat.mod_two_eq_zero_or_one b with hb | hb
  · rw [ha, hb]; simp
  · rw [ha, hb]; simp only [show ((0 : Nat) ^^^ 1) = 1 from rfl, if_true, show ¬ ((0 : Nat) = 1) by omega, if_false]
    rw [Nat.xor_assoc]
  · rw [ha, hb]; simp only [show ((1 : Nat) ^^^ 0) = 1 from rfl, if_true, show ¬ ((0 : Nat) = 1) by omega, if_false]
    rw [Nat.xor_assoc, Nat.xor_assoc, Nat.xor_comm (b / 2)]
  · rw [ha, hb]; simp only [show ((1 : Nat) ^^^ 1) = 0 from rfl, if_true, show ¬ ((0 : Nat) = 1) by omega, if_false]
    rw [Nat.xor_assoc, ← Nat.xor_assoc 3988292384 (b / 2), Nat.xor_comm 3988292384 (b / 2), Nat.xor_assoc (b / 2), Nat.xor_self, Nat.xor_zero]
theorem crcIt_xor (m a b : Nat) : crcIt m (a ^^^ b) = crcIt m a ^^^ crcIt m b := by
  induction m with
  | zero => rfl
  | succ m ih => show crcBit _ = crcBit _ ^^^ crcBit _; rw [ih, crcBit_xor]
theorem crcIt_shift (m h : Nat) : crcIt m (2 ^ m * h) = h := by
  induction m generalizing h with
  | zero => show 2 ^ 0 * h = h; omega
  | succ m ih =>
    show crcBit (crcIt m (2 ^ (m + 1) * h)) = h
    rw [Nat.pow_succ, Nat.mul_assoc, ih]
    unfold crcBit; rw [if_neg (by omega)]; omega
theorem split_xor (r : Nat) : r = (256 * (r / 256)) ^^^ (r % 256) := by
  have h1 : ((256 * (r / 256)) ^^^ (r % 256)) / 256 = (256 * (r / 256)) / 256 ^^^ (r % 256) / 256 := Nat.xor_div_two_pow (n := 8)
  have h2 : ((256 * (r / 256)) ^^^ (r % 256)) % 256 = (256 * (r / 256)) % 256 ^^^ (r % 256) % 256 := Nat.xor_mod_two_pow (n := 8)
  rw [show 256 * (r / 256) / 256 = r / 256 by omega, show r % 256 / 256 = 0 by omega, Nat.xor_zero] at h1
  rw [show 256 * (r / 256) % 256 = 0 by omega, show r % 256 % 256 = r % 256 by omega, Nat.zero_xor] at h2
  omega
theorem crc_table (r x : Nat) : crcIt 8 (r ^^^ x) = r / 256 ^^^ crcIt 8 ((r % 256) ^^^ x) := by
  have h := crcIt_shift 8 (r / 256)
  rw [show (2 : Nat) ^ 8 = 256 from rfl] at h
  have e : r ^^^ x = (256 * (r / 256)) ^^^ ((r % 256) ^^^ x) := by
    rw [← Nat.xor_assoc, ← split_xor r]
  rw [e, crcIt_xor, h]
theorem nat_xor_ones32 (x : Nat) (h : x < 4294967296) : 4294967295 ^^^ x = 4294967295 - x := by
  have e : (BitVec.allOnes 32 ^^^ BitVec.ofNat 32 x).toNat = 4294967295 - x := by
    rw [BitVec.allOnes_xor, BitVec.toNat_not, BitVec.toNat_ofNat, Nat.mod_eq_of_lt (by omega)]
  rw [← e, BitVec.toNat_xor, BitVec.toNat_ofNat, Nat.mod_eq_of_lt (by omega), BitVec.toNat_allOnes]
theorem crcF_bits (zs : List Int) : bits .xor .u32 4294967295 (crcTo zs zs.length : Nat) = crcF zs := by
  have hb := crcTo_lt zs zs.length
  have := u32_xor_nat 4294967295 (crcTo zs zs.length) (by omega) hb
  rw [nat_xor_ones32 _ hb] at this
  unfold crcF
  rw [show (4294967295 : Int) - (crcTo zs zs.length : Nat) = ((4294967295 - crcTo zs zs.length : Nat) : Int) by omega, ← this]; rfl

/-! ### Fold, Unfold -/
def foldF (n : Int) : Int := if n < 0 then -2 * n - 1 else 2 * n
def unfoldF (n : Int) : Int := if n % 2 = 1 then -(n / 2) - 1 else n / 2
theorem nat_xor_ones (x : Nat) (h : x < 18446744073709551616) : x ^^^ 18446744073709551615 = 18446744073709551615 - x := by
  have e : (BitVec.ofNat 64 x ^^^ BitVec.allOnes 64).toNat = 18446744073709551615 - x := by
    rw [BitVec.xor_allOnes, BitVec.toNat_not, BitVec.toNat_ofNat, Nat.mod_eq_of_lt (by omega)]
  rw [← e, BitVec.toNat_xor, BitVec.toNat_ofNat, Nat.mod_eq_of_lt (by omega), BitVec.toNat_allOnes]
theorem fold_bits (n : Int) (h0 : -9223372036854775808 ≤ n) (h1 : n ≤ 9223372036854775807) :
    bits .xor .u64 (IntKind.u64.wrap (wrap64 (n * 2))) (IntKind.u64.wrap (n / 9223372036854775808)) = foldF n := by
  rw [IntKind.wrap_u64, IntKind.wrap_u64]
  unfold foldF
  rw [u64_xor _ _ (by omega) (by omega) (by omega) (by omega)]
  split
  · have e1 : (wrap64 (n * 2) % 18446744073709551616).toNat = (2 * n + 18446744073709551616).toNat := by unfold wrap64; omega
    have e2 : (n / 9223372036854775808 % 18446744073709551616).toNat = 18446744073709551615 := by omega
    rw [e1, e2, nat_xor_ones _ (by omega)]; omega
  · have e1 : (wrap64 (n * 2) % 18446744073709551616).toNat = (2 * n).toNat := by unfold wrap64; omega
    have e2 : (n / 9223372036854775808 % 18446744073709551616).toNat = 0 := by omega
    rw [e1, e2, Nat.xor_zero]; omega
theorem unfold_bits (n : Int) (h0 : 0 ≤ n) (h1 : n ≤ 18446744073709551615) :
    bits .xor .i64 (n / 2) (wrap64 (-wrap64 (bits .and .u64 n 1))) = unfoldF n := by
  have e : bits .and .u64 n 1 = n % 2 := by go_bits2
  rw [e]
  unfold unfoldF
  obtain ⟨m, hm⟩ := Int.eq_ofNat_of_zero_le (show 0 ≤ n / 2 by omega)
  split
  · have e1 : wrap64 (-wrap64 (n % 2)) = -1 := by unfold wrap64; omega
    rw [e1, hm]
    show IntKind.i64.wrap ((BitVec.ofInt 64 (m : Int) ^^^ BitVec.ofInt 64 (-1)).toNat : Int) = _
    have e3 : BitVec.ofInt 64 (-1) = BitVec.allOnes 64 := by decide
    rw [e3, BitVec.xor_allOnes, BitVec.toNat_not, ofInt_u64 m (by omega)]
    simp [IntKind.wrap, IntKind.bits, IntKind.signed]
    omega
  · have e1 : wrap64 (-wrap64 (n % 2)) = 0 := by unfold wrap64; omega
    rw [e1, hm]
    show IntKind.i64.wrap ((BitVec.ofInt 64 (m : Int) ^^^ BitVec.ofInt 64 0).toNat : Int) = _
    have e3 : BitVec.ofInt 64 0 = 0#64 := by decide
    rw [e3, BitVec.xor_zero, ofInt_u64 m (by omega)]
    simp [IntKind.wrap, IntKind.bits, IntKind.signed]
    omega
end Go.Proofs.YtdochjkkgmkdgaaDoor

/- Plain: sides of pictures. -/
namespace Go.Proofs.YtdochjkkgmkdgaaDoor
open Go.RowKit

def sideB (w : Int) : Bool := decide (1 ≤ w ∧ w ≤ 512)
def sidesB (w h : Int) : Bool := sideB w && sideB h
theorem sideB_yes {w : Int} (h : 1 ≤ w ∧ w ≤ 512) : sideB w = true := decide_eq_true h
theorem sideB_no {w : Int} (h : ¬ (1 ≤ w ∧ w ≤ 512)) : sideB w = false := decide_eq_false h
theorem sideB_iff {w : Int} : sideB w = true ↔ 1 ≤ w ∧ w ≤ 512 := by unfold sideB; simp
theorem sidesB_yes {w h : Int} (a : 1 ≤ w ∧ w ≤ 512) (b : 1 ≤ h ∧ h ≤ 512) : sidesB w h = true := by unfold sidesB; rw [sideB_yes a, sideB_yes b]; rfl
theorem sidesB_no {w h : Int} (a : ¬ ((1 ≤ w ∧ w ≤ 512) ∧ 1 ≤ h ∧ h ≤ 512)) : sidesB w h = false := by
  unfold sidesB
  by_cases h1 : 1 ≤ w ∧ w ≤ 512
  · rw [sideB_yes h1, sideB_no (fun h2 => a ⟨h1, h2⟩)]; rfl
  · rw [sideB_no h1]; rfl
end Go.Proofs.YtdochjkkgmkdgaaDoor

/- The walks of the laws' own helpers on byte strings: a copy, and whether two are equal. -/
namespace Go.Proofs.YtdochjkkgmkdgaaDoor
open Go.RowKit

theorem below_drewN {B : Nat} {a w : World} (h : Below B a w) (n : Nat) : Below B a (w.drewN n) := h.trans ⟨rfl, rfl, rfl, Nat.le_refl _, fun _ _ => rfl⟩
theorem infoB : (Tryd.prog.info? 5).map (fun i => (i.zero, i.size, i.bytes)) = some (some (.int .u8 0), 1, 1) := by kernel_rfl

/-- What a byte string is, as the walks hand it on: its bytes, all in range, in the cells of a block. -/
def BytesAt (w : World) (b off : Nat) (zs : List Int) : Prop := ∀ j, j < zs.length → w.cell? ⟨b, off + j, none⟩ = some (.int .u8 (zs.getD j 0))
def InB (zs : List Int) : Prop := ∀ j, 0 ≤ zs.getD j 0 ∧ zs.getD j 0 < 256

theorem getD_map_int (zs : List Int) (k : IntKind) (j : Nat) (h : j < zs.length) : (zs.map (Value.int k))[j]? = some (.int k (zs.getD j 0)) := by
  rw [List.getElem?_map, List.getD_eq_getElem?_getD, List.getElem?_eq_getElem h]; rfl

def partCopy (zs : List Int) (k : Nat) : List Value := (zs.take k).map (Value.int .u8) ++ List.replicate (zs.length - k) (.int .u8 0)
theorem partCopy_zero (zs : List Int) : partCopy zs 0 = List.replicate zs.length (.int .u8 0) := by unfold partCopy; simp
theorem partCopy_all (zs : List Int) : partCopy zs zs.length = zs.map (.int .u8) := by unfold partCopy; simp
theorem partCopy_set (zs : List Int) (k : Nat) (h : k < zs.length) : (partCopy zs k).set k (.int .u8 (zs.getD k 0)) = partCopy zs (k + 1) := by
  unfold partCopy
  rw [take_snoc_getD zs 0 k h, List.map_append, List.set_append, if_neg (by simp; omega), List.append_assoc]
  congr 1
  have : zs.length - k = (zs.length - (k + 1)) + 1 := by omega
  rw [this, List.replicate_succ]
  simp [Nat.min_eq_left (Nat.le_of_lt h)]

end Go.Proofs.YtdochjkkgmkdgaaDoor

/- Memory of the call's own, by the blocks in which it lies: what a step keeps, and what a value in such blocks reads as. -/
namespace Go.Proofs.YtdochjkkgmkdgaaDoor
open Go.RowKit

/-- The world is as it was but for the blocks from a on, below b, and for what is new. -/
structure Upd (a b : Nat) (w w' : World) : Prop where
  os : w'.os = w.os
  tape : w'.tape = w.tape
  output : w'.output = w.output
  size : w.heap.size ≤ w'.heap.size
  block : ∀ k, k < w.heap.size → (k < a ∨ b ≤ k) → w'.heap[k]? = w.heap[k]?
theorem Upd.refl (a b : Nat) (w : World) : Upd a b w w := ⟨rfl, rfl, rfl, Nat.le_refl _, fun _ _ _ => rfl⟩
theorem Upd.trans {a b : Nat} {x w w' : World} (h : Upd a b x w) (k : Upd a b w w') : Upd a b x w' :=
  ⟨k.os.trans h.os, k.tape.trans h.tape, k.output.trans h.output, Nat.le_trans h.size k.size, fun i hi hn => (k.block i (Nat.lt_of_lt_of_le hi h.size) hn).trans (h.block i hi hn)⟩
theorem Upd.drewN {a b : Nat} {x w : World} (h : Upd a b x w) (n : Nat) : Upd a b x (w.drewN n) := h.trans ⟨rfl, rfl, rfl, Nat.le_refl _, fun _ _ _ => rfl⟩
theorem Upd.setCell {a b : Nat} {x w : World} (h : Upd a b x w) {r : Nat} (hr : a ≤ r ∧ r < b) (o : Nat) (u : Value) : Upd a b x (w.setCell ⟨r, o, none⟩ u) :=
  h.trans ⟨rfl, rfl, rfl, by simp, fun k _ hk => Below.heap_setCell w ⟨r, o, none⟩ u k (by simp; omega)⟩
theorem Upd.of_below {w w' : World} (h : Below w.heap.size w w') (a b : Nat) : Upd a b w w' := ⟨h.os, h.tape, h.output, h.size, fun k hk _ => h.block k hk⟩
theorem Upd.below {B a b : Nat} {w w' : World} (h : Upd a b w w') (hB : B ≤ w.heap.size) (ha : B ≤ a ∨ b ≤ a) : Below B w w' :=
  ⟨h.os, h.tape, h.output, h.size, fun k hk => h.block k (by omega) (by omega)⟩
theorem Upd.none {w w' : World} (h : Upd 0 0 w w') : Below w.heap.size w w' := h.below (Nat.le_refl _) (.inr (Nat.le_refl _))
theorem below_upd {B a b : Nat} {x w w' : World} (h : Below B x w) (k : Upd a b w w') (hx : B ≤ x.heap.size) (ha : B ≤ a ∨ b ≤ a) : Below B x w' :=
  h.trans (k.below (Nat.le_trans hx h.size) ha)

/-- A value of the call's own: its elements lie in a block from a on, below b. -/
def Own (e : TypeId) (s : Nat) (w : World) (a b : Nat) (v : Value) (n : Nat) (xs : List Value) : Prop := w.ownsRow a e s v n xs ∧ ∀ k, v.ownBlock = some k → k < b
theorem Own.of {e : TypeId} {s : Nat} {w : World} {a : Nat} {v : Value} {n : Nat} {xs : List Value} (h : w.ownsRow a e s v n xs) : Own e s w a w.heap.size v n xs := ⟨h, fun k hk => (h.lt k hk).2⟩
theorem Own.upd {e : TypeId} {s : Nat} {w w' : World} {a b c d : Nat} {v : Value} {n : Nat} {xs : List Value} (h : Own e s w a b v n xs) (u : Upd c d w w') (hd : b ≤ c ∨ d ≤ a) : Own e s w' a b v n xs := by
  refine ⟨⟨h.1.1, ?_⟩, h.2⟩
  rcases h.1.2 with hn | ⟨g, cap, cur, rfl, h1, h2, h3⟩
  · exact .inl hn
  · have hl := h.1.lt g rfl
    have hb := h.2 g rfl
    exact .inr ⟨g, cap, cur, rfl, h1, by rw [u.block g hl.2 (by omega)]; exact h2, h3⟩
theorem Own.keep {e : TypeId} {s : Nat} {w w' : World} {a b : Nat} {v : Value} {n : Nat} {xs : List Value} (h : Own e s w a b v n xs) (u : Upd 0 0 w w') : Own e s w' a b v n xs := h.upd u (.inr (Nat.zero_le _))

theorem own_mono {e : TypeId} {s : Nat} {w : World} {a b a' b' : Nat} {v : Value} {n : Nat} {xs : List Value} (h : Own e s w a b v n xs) (ha : a' ≤ a) (hb : b ≤ b') : Own e s w a' b' v n xs := by
  refine ⟨⟨h.1.1, ?_⟩, fun k hk => Nat.lt_of_lt_of_le (h.2 k hk) hb⟩
  rcases h.1.2 with hn | ⟨g, cap, cur, rfl, h1, h2, h3⟩
  · exact .inl hn
  · exact .inr ⟨g, cap, cur, rfl, Nat.le_trans ha h1, h2, h3⟩

/-- Cells of numbers of a kind. -/
def KindAt (k : IntKind) (w : World) (b off : Nat) (zs : List Int) : Prop := ∀ j, j < zs.length → w.cell? ⟨b, off + j, none⟩ = some (.int k (zs.getD j 0))
/-- Numbers that can be read: where there are any, in the cells of a block. -/
def ReadK (k : IntKind) (w : World) (ad : Option Addr) (zs : List Int) : Prop := zs ≠ [] → ∃ b off, ad = some ⟨b, off, none⟩ ∧ b < w.heap.size ∧ KindAt k w b off zs
theorem ReadK.below {k : IntKind} {w w' : World} {ad : Option Addr} {zs : List Int} (h : ReadK k w ad zs) (hb : Below w.heap.size w w') : ReadK k w' ad zs := by
  intro hne
  obtain ⟨b, off, e, hl, hc⟩ := h hne
  exact ⟨b, off, e, Nat.lt_of_lt_of_le hl hb.size, fun j hj => (hb.cell (by simpa using hl)).trans (hc j hj)⟩
theorem ne_of_lt_length {α : Type} {k : Nat} {zs : List α} (h : k < zs.length) : zs ≠ [] := by rintro rfl; simp at h
theorem readK_of_own {k : IntKind} {e : TypeId} {w : World} {a b : Nat} {v : Value} {zs : List Int} (h : Own e 1 w a b v zs.length (zs.map (.int k))) :
    ∃ ad cap, v = .slice ad zs.length cap ∧ ReadK k w ad zs := by
  rcases h.1.2 with ⟨rfl, hn⟩ | ⟨g, cap, cur, rfl, h1, h2, h3⟩
  · refine ⟨none, 0, by rw [hn], fun hne => absurd (List.length_eq_zero_iff.1 hn) hne⟩
  · refine ⟨some ⟨g, 0, none⟩, cap, rfl, fun _ => ⟨g, 0, rfl, (h.1.lt g rfl).2, fun j hj => ?_⟩⟩
    rw [Nat.zero_add, h.1.cellAt j (by omega)]
    exact getD_map_int zs k j hj
/-- The numbers that a marking leaves. -/
def marks (k n : Nat) : List Int := (List.range n).map fun j => ((k + j : Nat) : Int)
def marksB (k n : Nat) : List Int := (List.range n).map fun j => (((k + j) % 256 : Nat) : Int)
@[simp] theorem marks_length (k n : Nat) : (marks k n).length = n := by simp [marks]
@[simp] theorem marksB_length (k n : Nat) : (marksB k n).length = n := by simp [marksB]
theorem marks_getD (k n j : Nat) (h : j < n) : (marks k n).getD j 0 = ((k + j : Nat) : Int) := by simp [marks, h]
theorem marksB_getD (k n j : Nat) (h : j < n) : (marksB k n).getD j 0 = (((k + j) % 256 : Nat) : Int) := by simp [marksB, h]
/-- A row of which the first t elements are new. -/
def partSet (k : IntKind) (xs : List Value) (zs : List Int) (t : Nat) : List Value := (zs.take t).map (.int k) ++ xs.drop t
theorem partSet_zero (k : IntKind) (xs : List Value) (zs : List Int) : partSet k xs zs 0 = xs := by simp [partSet]
theorem partSet_all (k : IntKind) (xs : List Value) (zs : List Int) (h : xs.length = zs.length) : partSet k xs zs zs.length = zs.map (.int k) := by
  unfold partSet; rw [List.take_length, ← h, List.drop_length, List.append_nil]
theorem partSet_set (k : IntKind) (xs : List Value) (zs : List Int) (t : Nat) (h : t < zs.length) (hl : xs.length = zs.length) : (partSet k xs zs t).set t (.int k (zs.getD t 0)) = partSet k xs zs (t + 1) := by
  unfold partSet
  rw [take_snoc_getD zs 0 t h, List.map_append, List.set_append, if_neg (by simp; omega), List.append_assoc]
  congr 1
  have e : (xs.drop t) = xs[t] :: xs.drop (t + 1) := by rw [List.drop_eq_getElem_cons]
  simp [Nat.min_eq_left (Nat.le_of_lt h)]
  rw [e]; rfl
theorem partSet_length (k : IntKind) (xs : List Value) (zs : List Int) (t : Nat) (h : t ≤ zs.length) (hl : xs.length = zs.length) : (partSet k xs zs t).length = zs.length := by
  unfold partSet; simp; omega
theorem upd_of_same {P : Program} {f : FuncId} {args : Array Value} {w : World} {r : Ending} (h : Calls P f args w fun e w' => e = r ∧ w' = w) : Calls P f args w fun e w' => e = r ∧ Upd 0 0 w w' := by
  refine h.mono ?_
  rintro e w' ⟨rfl, rfl⟩
  exact ⟨rfl, Upd.refl _ _ _⟩
theorem upd_of_belowC {P : Program} {f : FuncId} {args : Array Value} {w : World} {r : Ending} (h : Calls P f args w fun e w' => e = r ∧ Below w.heap.size w w') : Calls P f args w fun e w' => e = r ∧ Upd 0 0 w w' := by
  refine h.mono ?_
  rintro e w' ⟨he, hb⟩
  exact ⟨he, Upd.of_below hb _ _⟩
/-- The first cells of a block. -/
def Held (w : World) (g : Nat) (cs : List Value) : Prop := g < w.heap.size ∧ ∀ j v, cs[j]? = some v → w.cell? ⟨g, j, none⟩ = some v
theorem held_new (w : World) (cs : List Value) (t : TypeId) : Held (w.alloc (.cells cs.toArray t)) w.heap.size cs := by
  refine ⟨by simp, fun j v h => ?_⟩
  rw [World.cell?_alloc_at _ _ _ _ rfl]; simpa using h
theorem Held.upd {w w' : World} {g c e : Nat} {cs : List Value} (h : Held w g cs) (u : Upd c e w w') (hd : g + 1 ≤ c ∨ e ≤ g) : Held w' g cs := by
  refine ⟨Nat.lt_of_lt_of_le h.1 u.size, fun j v hj => ?_⟩
  rw [World.cell?_of_block (w := w) (a := ⟨g, j, none⟩) (u.block g h.1 (by omega))]
  exact h.2 j v hj
theorem Held.keep {w w' : World} {g : Nat} {cs : List Value} (h : Held w g cs) (u : Upd 0 0 w w') : Held w' g cs := h.upd u (.inr (Nat.zero_le _))
def InI (zs : List Int) : Prop := ∀ j, -9223372036854775808 ≤ zs.getD j 0 ∧ zs.getD j 0 ≤ 9223372036854775807
end Go.Proofs.YtdochjkkgmkdgaaDoor

/- Lists of ints, as values of the call's own and as values that can be read. -/
namespace Go.Proofs.YtdochjkkgmkdgaaDoor
open Go.RowKit

theorem infoI : (Tryd.prog.info? 3).map (fun i => (i.zero, i.size, i.bytes)) = some (some (.int .i64 0), 1, 8) := by kernel_rfl
def ints (zs : List Int) : List Value := zs.map (.int .i64)
theorem ints_length (zs : List Int) : (ints zs).length = zs.length := by simp [ints]
abbrev OwnI (w : World) (a b : Nat) (v : Value) (zs : List Int) : Prop := Own 3 1 w a b v zs.length (ints zs)
abbrev ArgI (w : World) (ad : Option Addr) (zs : List Int) : Prop := ReadK .i64 w ad zs
/-- A list of ints as a value that can be read. -/
def RdI (w : World) (v : Value) (zs : List Int) : Prop := ∃ ad cap, v = .slice ad zs.length cap ∧ ArgI w ad zs
theorem RdI.below {w w' : World} {v : Value} {zs : List Int} (h : RdI w v zs) (hb : Below w.heap.size w w') : RdI w' v zs := by
  obtain ⟨ad, cap, e, h⟩ := h
  exact ⟨ad, cap, e, h.below hb⟩
theorem OwnI.rd {w : World} {a b : Nat} {v : Value} {zs : List Int} (h : OwnI w a b v zs) : RdI w v zs := readK_of_own h

end Go.Proofs.YtdochjkkgmkdgaaDoor

/- The walks of the laws' own helpers on lists of ints: a copy, whether two are equal, marks. -/
namespace Go.Proofs.YtdochjkkgmkdgaaDoor
open Go.RowKit

def partI (zs : List Int) (k : Nat) : List Value := ints (zs.take k) ++ List.replicate (zs.length - k) (.int .i64 0)
theorem partI_zero (zs : List Int) : partI zs 0 = List.replicate zs.length (.int .i64 0) := by unfold partI ints; simp
theorem partI_all (zs : List Int) : partI zs zs.length = ints zs := by unfold partI ints; simp
theorem partI_set (zs : List Int) (k : Nat) (h : k < zs.length) : (partI zs k).set k (.int .i64 (zs.getD k 0)) = partI zs (k + 1) := by
  unfold partI ints
  rw [take_snoc_getD zs 0 k h, List.map_append, List.set_append, if_neg (by simp; omega), List.append_assoc]
  congr 1
  have : zs.length - k = (zs.length - (k + 1)) + 1 := by omega
  rw [this, List.replicate_succ]
  simp [Nat.min_eq_left (Nat.le_of_lt h)]
theorem partI_length (zs : List Int) (k : Nat) (h : k ≤ zs.length) : (partI zs k).length = zs.length := by unfold partI ints; simp; omega

set_option maxHeartbeats 1000000 in
theorem toIntS_own (ad : Option Addr) (cap : Nat) (zs : List Int) (w : World) (hn : zs.length ≤ 1048576) (hA : ArgI w ad zs) :
    Calls Tryd.prog 38 #[.slice ad zs.length cap] w fun e w' =>
      ∃ v, e = .returned v ∧ OwnI w' w.heap.size w'.heap.size v zs ∧ Upd 0 0 w w' := by
  obtain ⟨i0, hi, hz0, hz1, hz2⟩ := info_parts infoI
  replace hA := hide hA
  go_enter Tryd.func38, Tryd.ntmps38
  go_wp2_with (at_make; refine wpList_make_full _ rfl _ _ 23 rfl w.heap.size 3 i0 (.int .i64 0) 1 Tryd.underlying23 hi hz0 hz1 .i64 .i64 _ _ zs.length rfl rfl (by omega) (by omega) (by rw [hz2]; omega) (by unfold maxLen; omega) (Nat.le_refl _) ?_; intro w1 hown hgrow)
  have hbel := (Below.refl w.heap.size w).grown hgrow (Nat.le_refl _) (by simp)
  have hown0 : w1.ownsRow w.heap.size 3 1 (.slice (some ⟨w.heap.size, 0, none⟩) zs.length zs.length) zs.length (partI zs 0) := by
    rw [partI_zero]; simpa [toList_madeCells_one, Value.cells] using hown
  clear hown hgrow
  go_loopw [4] (fun i wr => ∃ k : Nat, k ≤ zs.length ∧ i = .int .i64 k ∧ wr.ownsRow w.heap.size 3 1 (.slice (some ⟨w.heap.size, 0, none⟩) zs.length zs.length) zs.length (partI zs k) ∧ Below w.heap.size w wr) (fun i _ => zs.length - (intOf i).toNat)
  case atStart => exact ⟨0, Nat.zero_le _, rfl, hown0, hbel⟩
  case round =>
    clear hown0 hbel
    obtain ⟨k, hk, rfl, hown, hbel⟩ := hrel
    by_cases hlt : k < zs.length
    · obtain ⟨b, off, rfl, hbl, hc⟩ := (unhide hA) (ne_of_lt_length hlt)
      have hck : wr.cell? ⟨b, off + k, none⟩ = some (.int .i64 (zs.getD k 0)) := (hbel.cell (by simpa using hbl)).trans (hc k hlt)
      have hps := partI_set zs k hlt
      generalize zs.getD k 0 = x at hck hps
      have hdst : ∃ u, wr.cell? ⟨w.heap.size, k, none⟩ = some u := by
        rw [hown.cellAt k (by omega)]; exact ⟨_, List.getElem?_eq_getElem (by have := hown.1; omega)⟩
      obtain ⟨u, hdst⟩ := hdst
      have hfz := hown.frozenAt k
      have hst := (hown.stored k (.int .i64 x)).1
      rw [hps] at hst
      have hb2 := hbel.setCell (p := ⟨w.heap.size, k, none⟩) (Nat.le_refl _) (.int .i64 x)
      replace hst := hide hst
      clear hown hps hc
      go_wp2
      go_roundw
      case rel => exact ⟨k + 1, by omega, by go_num, unhide hst, hb2⟩
      case measure => simp [intOf]; omega
    · have hkl : k = zs.length := by omega
      subst hkl
      rw [partI_all] at hown
      replace hown := hide (Own.of hown)
      go_wp2
      go_ret
      exact ⟨_, rfl, unhide hown, Upd.of_below hbel 0 0⟩

set_option maxHeartbeats 1000000 in
theorem eqIntS_rd (u v : Value) (zs : List Int) (w : World) (hn : zs.length ≤ 1048576) (hu : RdI w u zs) (hv : RdI w v zs) :
    Calls Tryd.prog 39 #[u, v] w fun e w' => e = .returned (.bool true) ∧ Upd 0 0 w w' := by
  obtain ⟨ad, cap, rfl, hA⟩ := hu
  obtain ⟨ad', cap', rfl, hA'⟩ := hv
  replace hA := hide hA
  replace hA' := hide hA'
  go_enter Tryd.func39, Tryd.ntmps39
  go_wp2
  go_loopw [5] (fun i wr => ∃ k : Nat, k ≤ zs.length ∧ i = .int .i64 k ∧ ∃ nq, wr = w.drewN nq) (fun i _ => zs.length - (intOf i).toNat)
  case atStart => exact ⟨0, Nat.zero_le _, rfl, 0, rfl⟩
  case round =>
    obtain ⟨k, hk, rfl, nq, rfl⟩ := hrel
    by_cases hlt : k < zs.length
    · obtain ⟨b, off, rfl, hbl, hc⟩ := (unhide hA) (ne_of_lt_length hlt)
      obtain ⟨b', off', rfl, hbl', hc'⟩ := (unhide hA') (ne_of_lt_length hlt)
      have hck := hc k hlt
      have hck' := hc' k hlt
      clear hc hc' hA hA'
      generalize zs.getD k 0 = x at hck hck'
      go_wp2
      go_quiet (fail)
      go_wp2
      go_roundw
      case rel => exact ⟨k + 1, by omega, by go_num, _, rfl⟩
      case measure => simp [intOf]; omega
    · have hkl : k = zs.length := by omega
      subst hkl
      go_wp2
      go_ret
      exact ⟨rfl, (Upd.refl 0 0 _).drewN _⟩

set_option maxHeartbeats 1000000 in
theorem markIntS_none (k : Nat) (w : World) : Calls Tryd.prog 40 #[.slice none 0 0, .int .i64 k] w fun e w' => e = .returned (.int .i64 (k : Int)) ∧ w' = w := by
  go_enter Tryd.func40, Tryd.ntmps40
  go_wp2
  go_loop [1, 5] (fun a i => a = .int .i64 k ∧ i = .int .i64 0) (fun _ _ => 0)
  case atStart => exact ⟨rfl, rfl⟩
  case round =>
    obtain ⟨rfl, rfl⟩ := hrel
    go_wp2
    go_ret
    exact ⟨rfl, rfl⟩

set_option maxHeartbeats 1000000 in
theorem markIntS_some (a g cap n k : Nat) (xs : List Value) (w : World) (hn : n ≤ 1048576) (hk : k ≤ 1099511627776) (h : w.ownsRow a 3 1 (.slice (some ⟨g, 0, none⟩) n cap) n xs) :
    Calls Tryd.prog 40 #[.slice (some ⟨g, 0, none⟩) n cap, .int .i64 k] w fun e w' => e = .returned (.int .i64 ((k + n : Nat) : Int)) ∧ w'.ownsRow a 3 1 (.slice (some ⟨g, 0, none⟩) n cap) n (ints (marks k n)) ∧ Upd g (g + 1) w w' := by
  have hxl : xs.length = n := by have := h.1; omega
  go_enter Tryd.func40, Tryd.ntmps40
  go_wp2
  go_loopw [1, 5] (fun c i wr => ∃ t : Nat, t ≤ n ∧ c = .int .i64 ((k + t : Nat) : Int) ∧ i = .int .i64 t ∧ wr.ownsRow a 3 1 (.slice (some ⟨g, 0, none⟩) n cap) n (partSet .i64 xs (marks k n) t) ∧ Upd g (g + 1) w wr) (fun _ i _ => n - (intOf i).toNat)
  case atStart => exact ⟨0, Nat.zero_le _, rfl, rfl, by rw [partSet_zero]; exact h, Upd.refl _ _ _⟩
  case round =>
    clear h
    obtain ⟨t, ht, rfl, rfl, hown, hupd⟩ := hrel
    have hlen : (partSet .i64 xs (marks k n) t).length = n := by rw [partSet_length _ _ _ _ (by simpa using ht) (by simpa using hxl)]; simp
    by_cases hlt : t < n
    · have hdst : wr.cell? ⟨g, t, none⟩ = some ((partSet .i64 xs (marks k n) t).getD t undef) := by
        rw [hown.cellAt t (by omega), List.getElem?_eq_getElem (by omega), List.getD_eq_getElem?_getD, List.getElem?_eq_getElem (by omega)]; rfl
      have hfz := hown.frozenAt t
      have hst := (hown.stored t (.int .i64 ((k + t : Nat) : Int))).1
      have hps := partSet_set .i64 xs (marks k n) t (by simpa using hlt) (by simpa using hxl)
      rw [marks_getD k n t hlt] at hps
      rw [hps] at hst
      generalize (partSet .i64 xs (marks k n) t).getD t undef = u at hdst
      have ho2 := hupd.setCell (r := g) ⟨Nat.le_refl _, by omega⟩ t (.int .i64 ((k + t : Nat) : Int))
      rw [show (((k + t : Nat) : Int)) = (k : Int) + (t : Int) by omega] at hst ho2
      replace hst := hide hst
      replace ho2 := hide ho2
      clear hown hupd hps hlen
      go_wp2
      go_roundw
      case rel => exact ⟨t + 1, by omega, by go_num, by go_num, unhide hst, unhide ho2⟩
      case measure => simp [intOf]; omega
    · have htn : t = n := by omega
      subst htn
      have hM : wr.ownsRow a 3 1 (.slice (some ⟨g, 0, none⟩) t cap) t (ints (marks k t)) := by
        have := partSet_all .i64 xs (marks k t) (by simpa using hxl)
        rw [marks_length] at this
        rw [this] at hown; exact hown
      replace hM := hide hM
      clear hown
      go_wp2
      go_ret
      exact ⟨rfl, unhide hM, hupd⟩
theorem markIntS_own (a b : Nat) (v : Value) (k : Nat) (zs : List Int) (w : World) (hn : zs.length ≤ 1048576) (hk : k ≤ 1099511627776) (h : OwnI w a b v zs) :
    Calls Tryd.prog 40 #[v, .int .i64 k] w fun e w' => e = .returned (.int .i64 ((k + zs.length : Nat) : Int)) ∧ OwnI w' a b v (marks k zs.length) ∧ Upd a b w w' := by
  rcases h.1.2 with ⟨rfl, h0⟩ | ⟨g, cap, cur, rfl, h1, h2, h3⟩
  · refine (markIntS_none k w).mono ?_
    rintro e w' ⟨rfl, rfl⟩
    rw [h0]
    exact ⟨rfl, ⟨World.ownsRow_nil _ _ _ _, fun k hk => by simp [Value.ownBlock] at hk⟩, Upd.refl _ _ _⟩
  · have hb := h.2 g rfl
    refine (markIntS_some a g cap zs.length k _ w hn hk h.1).mono ?_
    rintro e w' ⟨rfl, ho, hu⟩
    refine ⟨rfl, ⟨?_, h.2⟩, ⟨hu.os, hu.tape, hu.output, hu.size, fun i hi hn => hu.block i hi (by omega)⟩⟩
    rw [marks_length]; exact ho

set_option maxHeartbeats 1000000 in
theorem heldIntS_own (a b : Nat) (v : Value) (k n : Nat) (w : World) (hn : n ≤ 1048576) (hk : k ≤ 1099511627776) (h : OwnI w a b v (marks k n)) :
    Calls Tryd.prog 41 #[v, .int .i64 k] w fun e w' => e = .returned (.int .i64 ((k + n : Nat) : Int)) ∧ w' = w := by
  obtain ⟨ad, cap, rfl, hA⟩ := h.rd
  rw [marks_length]
  replace hA := hide hA
  clear h
  go_enter Tryd.func41, Tryd.ntmps41
  go_wp2
  go_loop [1, 5] (fun a i => ∃ t : Nat, t ≤ n ∧ a = .int .i64 ((k + t : Nat) : Int) ∧ i = .int .i64 t) (fun _ i => n - (intOf i).toNat)
  case atStart => exact ⟨0, Nat.zero_le _, rfl, rfl⟩
  case round =>
    obtain ⟨t, ht, rfl, rfl⟩ := hrel
    by_cases hlt : t < n
    · obtain ⟨b', off, rfl, hbl, hc⟩ := (unhide hA) (ne_of_lt_length (k := t) (by simpa using hlt))
      have hck := hc t (by simpa using hlt)
      rw [marks_getD k n t hlt, show (((k + t : Nat) : Int)) = (k : Int) + (t : Int) by omega] at hck
      clear hc hA
      go_wp2
      go_round
      case rel => exact ⟨t + 1, by omega, by go_num, by go_num⟩
      case measure => simp [intOf]; omega
    · have htn : t = n := by omega
      subst htn
      go_wp2
      go_ret
      exact ⟨rfl, rfl⟩
end Go.Proofs.YtdochjkkgmkdgaaDoor

/- What a step that only lays new blocks keeps of a row of the call's own. -/
namespace Go.Proofs.YtdochjkkgmkdgaaDoor
open Go.RowKit

theorem ownsP_below {w w' : World} {base : Nat} {e : TypeId} {size n : Nat} {v : Value} {xs : List Value} (h : w.ownsRow base e size v n xs) (hb : Below w.heap.size w w') : w'.ownsRow base e size v n xs :=
  ((Own.of h).keep (Upd.of_below hb 0 0)).1
end Go.Proofs.YtdochjkkgmkdgaaDoor

/- Lists of Passs: 6 numbers each; the walks of the laws' own helpers on them. -/
namespace Go.Proofs.YtdochjkkgmkdgaaDoor
open Go.RowKit

abbrev Ps := Int × Int × Int × Int × Int × Int
abbrev Ps0 : Ps := (0, 0, 0, 0, 0, 0)
def cellsPs (ps : List Ps) : List Value := ps.flatMap fun p => [.int .i64 p.1, .int .i64 p.2.1, .int .i64 p.2.2.1, .int .i64 p.2.2.2.1, .int .i64 p.2.2.2.2.1, .int .i64 p.2.2.2.2.2]
theorem cellsPs_length (ps : List Ps) : (cellsPs ps).length = ps.length * 6 := by
  induction ps with
  | nil => rfl
  | cons p ps ih => unfold cellsPs at ih ⊢; rw [List.flatMap_cons, List.length_append, ih]; simp; omega
theorem cellsPs_snoc (ps : List Ps) (p : Ps) : cellsPs (ps ++ [p]) = cellsPs ps ++ [.int .i64 p.1, .int .i64 p.2.1, .int .i64 p.2.2.1, .int .i64 p.2.2.2.1, .int .i64 p.2.2.2.2.1, .int .i64 p.2.2.2.2.2] := by unfold cellsPs; simp
def RowPs (ys : List Value) (ps : List Ps) (k : Nat) : Prop := ∀ j, j < k → ys[j * 6]? = some (.int .i64 (ps.getD j Ps0).1) ∧ ys[j * 6 + 1]? = some (.int .i64 (ps.getD j Ps0).2.1) ∧ ys[j * 6 + 2]? = some (.int .i64 (ps.getD j Ps0).2.2.1) ∧ ys[j * 6 + 3]? = some (.int .i64 (ps.getD j Ps0).2.2.2.1) ∧ ys[j * 6 + 4]? = some (.int .i64 (ps.getD j Ps0).2.2.2.2.1) ∧ ys[j * 6 + 5]? = some (.int .i64 (ps.getD j Ps0).2.2.2.2.2)
theorem cellsPs_at (ps : List Ps) : RowPs (cellsPs ps) ps ps.length := by
  induction ps with
  | nil => intro j hj; simp at hj
  | cons p ps ih =>
    intro j hj
    have e : cellsPs (p :: ps) = [.int .i64 p.1, .int .i64 p.2.1, .int .i64 p.2.2.1, .int .i64 p.2.2.2.1, .int .i64 p.2.2.2.2.1, .int .i64 p.2.2.2.2.2] ++ cellsPs ps := by unfold cellsPs; simp
    rw [e]
    cases j with
    | zero => exact ⟨rfl, rfl, rfl, rfl, rfl, rfl⟩
    | succ j =>
      have h := ih j (by simpa using hj)
      rw [List.getElem?_append_right (by simp; omega), List.getElem?_append_right (by simp; omega), List.getElem?_append_right (by simp; omega), List.getElem?_append_right (by simp; omega), List.getElem?_append_right (by simp; omega), List.getElem?_append_right (by simp; omega)]
      simp only [List.length_cons, List.length_nil, List.getD_cons_succ]
      rw [show (j + 1) * 6 - (0 + 1 + 1 + 1 + 1 + 1 + 1) = j * 6 by omega, show (j + 1) * 6 + 1 - (0 + 1 + 1 + 1 + 1 + 1 + 1) = j * 6 + 1 by omega, show (j + 1) * 6 + 2 - (0 + 1 + 1 + 1 + 1 + 1 + 1) = j * 6 + 2 by omega, show (j + 1) * 6 + 3 - (0 + 1 + 1 + 1 + 1 + 1 + 1) = j * 6 + 3 by omega, show (j + 1) * 6 + 4 - (0 + 1 + 1 + 1 + 1 + 1 + 1) = j * 6 + 4 by omega, show (j + 1) * 6 + 5 - (0 + 1 + 1 + 1 + 1 + 1 + 1) = j * 6 + 5 by omega]
      exact h
theorem cellsPs_of {ys : List Value} {ps : List Ps} (hl : ys.length = ps.length * 6) (h : RowPs ys ps ps.length) : ys = cellsPs ps := by
  apply List.ext_getElem?
  intro i
  by_cases hi : i < ps.length * 6
  · have h1 := h (i / 6) (by omega)
    have h2 := cellsPs_at ps (i / 6) (by omega)
    rcases (show i = i / 6 * 6 ∨ i = i / 6 * 6 + 1 ∨ i = i / 6 * 6 + 2 ∨ i = i / 6 * 6 + 3 ∨ i = i / 6 * 6 + 4 ∨ i = i / 6 * 6 + 5 by omega) with e | e | e | e | e | e
    · rw [e, h1.1, h2.1]
    · rw [e, h1.2.1, h2.2.1]
    · rw [e, h1.2.2.1, h2.2.2.1]
    · rw [e, h1.2.2.2.1, h2.2.2.2.1]
    · rw [e, h1.2.2.2.2.1, h2.2.2.2.2.1]
    · rw [e, h1.2.2.2.2.2, h2.2.2.2.2.2]
  · rw [List.getElem?_eq_none (by omega), List.getElem?_eq_none (by rw [cellsPs_length]; omega)]
def AtPs (w : World) (b off : Nat) (ps : List Ps) : Prop := ∀ j, j < ps.length → w.cell? ⟨b, off + j * 6, none⟩ = some (.int .i64 (ps.getD j Ps0).1) ∧ w.cell? ⟨b, off + j * 6 + 1, none⟩ = some (.int .i64 (ps.getD j Ps0).2.1) ∧ w.cell? ⟨b, off + j * 6 + 2, none⟩ = some (.int .i64 (ps.getD j Ps0).2.2.1) ∧ w.cell? ⟨b, off + j * 6 + 3, none⟩ = some (.int .i64 (ps.getD j Ps0).2.2.2.1) ∧ w.cell? ⟨b, off + j * 6 + 4, none⟩ = some (.int .i64 (ps.getD j Ps0).2.2.2.2.1) ∧ w.cell? ⟨b, off + j * 6 + 5, none⟩ = some (.int .i64 (ps.getD j Ps0).2.2.2.2.2)
def InPs (ps : List Ps) : Prop := ∀ j, (-9223372036854775808 ≤ (ps.getD j Ps0).1 ∧ (ps.getD j Ps0).1 ≤ 9223372036854775807) ∧ (-9223372036854775808 ≤ (ps.getD j Ps0).2.1 ∧ (ps.getD j Ps0).2.1 ≤ 9223372036854775807) ∧ (-9223372036854775808 ≤ (ps.getD j Ps0).2.2.1 ∧ (ps.getD j Ps0).2.2.1 ≤ 9223372036854775807) ∧ (-9223372036854775808 ≤ (ps.getD j Ps0).2.2.2.1 ∧ (ps.getD j Ps0).2.2.2.1 ≤ 9223372036854775807) ∧ (-9223372036854775808 ≤ (ps.getD j Ps0).2.2.2.2.1 ∧ (ps.getD j Ps0).2.2.2.2.1 ≤ 9223372036854775807) ∧ (-9223372036854775808 ≤ (ps.getD j Ps0).2.2.2.2.2 ∧ (ps.getD j Ps0).2.2.2.2.2 ≤ 9223372036854775807)
def ArgPs (w : World) (ad : Option Addr) (ps : List Ps) : Prop := ps ≠ [] → ∃ b off, ad = some ⟨b, off, none⟩ ∧ b < w.heap.size ∧ AtPs w b off ps
theorem ArgPs.below {w w' : World} {ad : Option Addr} {ps : List Ps} (h : ArgPs w ad ps) (hb : Below w.heap.size w w') : ArgPs w' ad ps := by
  intro hne
  obtain ⟨b, off, e, hl, hc⟩ := h hne
  exact ⟨b, off, e, Nat.lt_of_lt_of_le hl hb.size, fun j hj => ⟨(hb.cell (by simpa using hl)).trans (hc j hj).1, (hb.cell (by simpa using hl)).trans (hc j hj).2.1, (hb.cell (by simpa using hl)).trans (hc j hj).2.2.1, (hb.cell (by simpa using hl)).trans (hc j hj).2.2.2.1, (hb.cell (by simpa using hl)).trans (hc j hj).2.2.2.2.1, (hb.cell (by simpa using hl)).trans (hc j hj).2.2.2.2.2⟩⟩
def RdPs (w : World) (v : Value) (ps : List Ps) : Prop := ∃ ad cap, v = .slice ad ps.length cap ∧ ArgPs w ad ps
theorem RdPs.below {w w' : World} {v : Value} {ps : List Ps} (h : RdPs w v ps) (hb : Below w.heap.size w w') : RdPs w' v ps := by
  obtain ⟨ad, cap, e, h⟩ := h
  exact ⟨ad, cap, e, h.below hb⟩
abbrev OwnPs (w : World) (a b : Nat) (v : Value) (ps : List Ps) : Prop := Own 33 6 w a b v ps.length (cellsPs ps)
theorem OwnPs.rd {w : World} {a b : Nat} {v : Value} {ps : List Ps} (h : OwnPs w a b v ps) : RdPs w v ps := by
  rcases h.1.2 with ⟨rfl, hn⟩ | ⟨g, cap, cur, rfl, h1, h2, h3⟩
  · refine ⟨none, 0, by rw [hn], fun hne => absurd (List.length_eq_zero_iff.1 hn) hne⟩
  · refine ⟨some ⟨g, 0, none⟩, cap, rfl, fun _ => ⟨g, 0, rfl, (h.1.lt g rfl).2, fun j hj => ?_⟩⟩
    have := cellsPs_at ps j hj
    rw [Nat.zero_add, h.1.cellAt _ (by omega), h.1.cellAt _ (by omega), h.1.cellAt _ (by omega), h.1.cellAt _ (by omega), h.1.cellAt _ (by omega), h.1.cellAt _ (by omega)]
    exact this
def marksPs (k n : Nat) : List Ps := (List.range n).map fun j => (((k + 6 * j : Nat) : Int), ((k + 6 * j + 1 : Nat) : Int), ((k + 6 * j + 2 : Nat) : Int), ((k + 6 * j + 3 : Nat) : Int), ((k + 6 * j + 4 : Nat) : Int), ((k + 6 * j + 5 : Nat) : Int))
@[simp] theorem marksPs_length (k n : Nat) : (marksPs k n).length = n := by simp [marksPs]
theorem marksPs_at (k n j : Nat) (h : j < n) : (marksPs k n).getD j Ps0 = (((k + 6 * j : Nat) : Int), ((k + 6 * j + 1 : Nat) : Int), ((k + 6 * j + 2 : Nat) : Int), ((k + 6 * j + 3 : Nat) : Int), ((k + 6 * j + 4 : Nat) : Int), ((k + 6 * j + 5 : Nat) : Int)) := by
  unfold marksPs; rw [List.getD_eq_getElem?_getD, List.getElem?_map, List.getElem?_range h]; rfl
theorem infoPs : (Tryd.prog.info? 33).map (fun i => (i.zero, i.size, i.bytes)) = some (some (.agg #[.int .i64 0, .int .i64 0, .int .i64 0, .int .i64 0, .int .i64 0, .int .i64 0]), 6, 48) := by kernel_rfl
theorem own_nilPs (w : World) (a b : Nat) : OwnPs w a b (.slice none 0 0) [] := ⟨World.ownsRow_nil _ _ _ _, fun k hk => by simp [Value.ownBlock] at hk⟩

end Go.Proofs.YtdochjkkgmkdgaaDoor

/- Plain: the passes of a picture of so many columns and rows. -/
namespace Go.Proofs.YtdochjkkgmkdgaaDoor
open Go.RowKit

def cntF (n from_ step : Int) : Int := if n ≤ from_ then 0 else (n - from_ + step - 1) / step
def passT : List (Int × Int × Int × Int) := [(0, 0, 8, 8), (4, 0, 8, 8), (0, 4, 4, 8), (2, 0, 4, 4), (0, 2, 2, 4), (1, 0, 2, 2), (0, 1, 1, 2)]
def passAt (k : Nat) : Int × Int × Int × Int := passT.getD k (0, 0, 0, 0)
theorem passAt_bd (k : Nat) (h : k < 7) : (0 ≤ (passAt k).1 ∧ (passAt k).1 ≤ 4) ∧ (0 ≤ (passAt k).2.1 ∧ (passAt k).2.1 ≤ 4) ∧ (1 ≤ (passAt k).2.2.1 ∧ (passAt k).2.2.1 ≤ 8) ∧ (1 ≤ (passAt k).2.2.2 ∧ (passAt k).2.2.2 ≤ 8) ∧ (passAt k).1 < (passAt k).2.2.1 ∧ (passAt k).2.1 < (passAt k).2.2.2 := by
  rcases (show k = 0 ∨ k = 1 ∨ k = 2 ∨ k = 3 ∨ k = 4 ∨ k = 5 ∨ k = 6 by omega) with e | e | e | e | e | e | e <;> subst e <;> decide
def passOne (w h : Int) (k : Nat) : Ps := ((passAt k).1, (passAt k).2.1, (passAt k).2.2.1, (passAt k).2.2.2, cntF w (passAt k).1 (passAt k).2.2.1, cntF h (passAt k).2.1 (passAt k).2.2.2)
def passAdd (w h : Int) (k : Nat) : List Ps := if 0 < cntF w (passAt k).1 (passAt k).2.2.1 ∧ 0 < cntF h (passAt k).2.1 (passAt k).2.2.2 then [passOne w h k] else []
def passTo (w h : Int) : Nat → List Ps
  | 0 => []
  | k + 1 => passTo w h k ++ passAdd w h k
theorem passTo_len (w h : Int) (k : Nat) : (passTo w h k).length ≤ k := by
  induction k with
  | zero => simp [passTo]
  | succ k ih => rw [passTo, List.length_append]; unfold passAdd; split <;> simp <;> omega
theorem cntF_bd {n f s : Int} (hn : n ≤ 1048576) (hf : 0 ≤ f) (hs : 1 ≤ s ∧ s ≤ 8) : 0 ≤ cntF n f s ∧ cntF n f s ≤ 1048600 := by
  unfold cntF; split
  · omega
  · rename_i h
    obtain ⟨S, rfl⟩ := Int.eq_ofNat_of_zero_le (show 0 ≤ s by omega)
    rcases (show S = 1 ∨ S = 2 ∨ S = 3 ∨ S = 4 ∨ S = 5 ∨ S = 6 ∨ S = 7 ∨ S = 8 by omega) with e | e | e | e | e | e | e | e <;> subst e <;> omega
/-- As the program counts. -/
theorem cntF_steps {n f s : Int} (hn : 1 ≤ n) (hf : 0 ≤ f ∧ f < s) (hs : 1 ≤ s ∧ s ≤ 8) : (n - f + s - 1) / s = cntF n f s := by
  unfold cntF; split
  · obtain ⟨S, rfl⟩ := Int.eq_ofNat_of_zero_le (show 0 ≤ s by omega)
    rcases (show S = 1 ∨ S = 2 ∨ S = 3 ∨ S = 4 ∨ S = 5 ∨ S = 6 ∨ S = 7 ∨ S = 8 by omega) with e | e | e | e | e | e | e | e <;> subst e <;> omega
  · rfl
def passesF (w h : Int) : List Ps := if (1 ≤ w ∧ w ≤ 512) ∧ 1 ≤ h ∧ h ≤ 512 then passTo w h 7 else []
theorem passesF_yes {w h : Int} (a : 1 ≤ w ∧ w ≤ 512) (b : 1 ≤ h ∧ h ≤ 512) : passesF w h = passTo w h 7 := if_pos ⟨a, b⟩
theorem passesF_no {w h : Int} (a : ¬ ((1 ≤ w ∧ w ≤ 512) ∧ 1 ≤ h ∧ h ≤ 512)) : passesF w h = [] := if_neg a
theorem passesF_len (w h : Int) : (passesF w h).length ≤ 1048576 := by
  unfold passesF; split
  · have := passTo_len w h 7; omega
  · simp
theorem six_new (w : World) (x0 x1 x2 x3 x4 x5 : Value) (t : TypeId) : ∀ j v, [x0, x1, x2, x3, x4, x5][j]? = some v → (w.alloc (.cells #[x0, x1, x2, x3, x4, x5] t)).cell? ((⟨w.heap.size, 0, none⟩ : Addr).add j) = some v := by
  intro j v hj
  match j, hj with
  | 0, hj => simp at hj; subst hj; simp [Addr.add]
  | 1, hj => simp at hj; subst hj; simp [Addr.add]
  | 2, hj => simp at hj; subst hj; simp [Addr.add]
  | 3, hj => simp at hj; subst hj; simp [Addr.add]
  | 4, hj => simp at hj; subst hj; simp [Addr.add]
  | 5, hj => simp at hj; subst hj; simp [Addr.add]
theorem six_one (x0 x1 x2 x3 x4 x5 : Int) : ∀ u ∈ [Value.int .i64 x0, .int .i64 x1, .int .i64 x2, .int .i64 x3, .int .i64 x4, .int .i64 x5], u.oneCell' = true := by
  intro u hu
  simp at hu
  rcases hu with h | h | h | h | h | h <;> subst h <;> rfl
end Go.Proofs.YtdochjkkgmkdgaaDoor

/- Plain: a number of some bits taken out of bytes, bit by bit and part by part, in either order. -/
namespace Go.Proofs.YtdochjkkgmkdgaaDoor
open Go.RowKit

def byteAt (zs : List Int) (i : Nat) : Nat := (zs.getD i 0).toNat
def bitLow (zs : List Int) (i : Nat) : Nat := byteAt zs (i / 8) / 2 ^ (i % 8) % 2
def bitHigh (zs : List Int) (i : Nat) : Nat := byteAt zs (i / 8) / 2 ^ (7 - i % 8) % 2
def lowTo (zs : List Int) (p : Nat) : Nat → Nat
  | 0 => 0
  | k + 1 => lowTo zs p k + bitLow zs (p + k) * 2 ^ k
def highTo (zs : List Int) (p : Nat) : Nat → Nat
  | 0 => 0
  | k + 1 => 2 * highTo zs p k + bitHigh zs (p + k)
theorem lowTo_lt (zs : List Int) (p k : Nat) : lowTo zs p k < 2 ^ k := by
  induction k with
  | zero => show 0 < 1; omega
  | succ k ih =>
    have hb : bitLow zs (p + k) ≤ 1 := by unfold bitLow; omega
    have := Nat.mul_le_mul_right (2 ^ k) hb
    show lowTo zs p k + bitLow zs (p + k) * 2 ^ k < 2 ^ (k + 1)
    rw [Nat.pow_succ]; omega
theorem highTo_lt (zs : List Int) (p k : Nat) : highTo zs p k < 2 ^ k := by
  induction k with
  | zero => show 0 < 1; omega
  | succ k ih =>
    have hb : bitHigh zs (p + k) ≤ 1 := by unfold bitHigh; omega
    show 2 * highTo zs p k + bitHigh zs (p + k) < 2 ^ (k + 1)
    rw [Nat.pow_succ]; omega
theorem mod_pow_step (x n : Nat) : x % 2 ^ (n + 1) = x % 2 ^ n + x / 2 ^ n % 2 * 2 ^ n := by
  rw [Nat.pow_succ, Nat.mod_mul, Nat.mul_comm (2 ^ n)]
theorem low_part (zs : List Int) (p d n : Nat) (h : (p + d) % 8 + n ≤ 8) :
    lowTo zs p (d + n) = lowTo zs p d + byteAt zs ((p + d) / 8) / 2 ^ ((p + d) % 8) % 2 ^ n * 2 ^ d := by
  induction n with
  | zero => simp [Nat.mod_one]
  | succ n ih =>
    show lowTo zs p (d + n) + bitLow zs (p + (d + n)) * 2 ^ (d + n) = _
    rw [ih (by omega), mod_pow_step, Nat.add_mul, Nat.add_assoc]
    congr 1
    unfold bitLow
    have e1 : (p + (d + n)) / 8 = (p + d) / 8 := by omega
    have e2 : (p + (d + n)) % 8 = (p + d) % 8 + n := by omega
    rw [e1, e2, Nat.pow_add, ← Nat.div_div_eq_div_mul]
    congr 1
    rw [Nat.mul_assoc, ← Nat.pow_add, Nat.add_comm n d]
theorem high_part (zs : List Int) (p d n : Nat) (h : (p + d) % 8 + n ≤ 8) :
    highTo zs p (d + n) = highTo zs p d * 2 ^ n + byteAt zs ((p + d) / 8) / 2 ^ (8 - (p + d) % 8 - n) % 2 ^ n := by
  induction n with
  | zero => simp [Nat.mod_one]
  | succ n ih =>
    show 2 * highTo zs p (d + n) + bitHigh zs (p + (d + n)) = _
    rw [ih (by omega)]
    unfold bitHigh
    have e1 : (p + (d + n)) / 8 = (p + d) / 8 := by omega
    have e2 : 7 - (p + (d + n)) % 8 = 8 - (p + d) % 8 - (n + 1) := by omega
    have e3 : 8 - (p + d) % 8 - n = (8 - (p + d) % 8 - (n + 1)) + 1 := by omega
    rw [e1, e2, e3, Nat.pow_succ 2 (8 - (p + d) % 8 - (n + 1)), ← Nat.div_div_eq_div_mul]
    generalize byteAt zs ((p + d) / 8) / 2 ^ (8 - (p + d) % 8 - (n + 1)) = y
    have e4 : y % 2 ^ (n + 1) = y % 2 + 2 * (y / 2 % 2 ^ n) := by
      rw [Nat.pow_succ, Nat.mul_comm, Nat.mod_mul]
    rw [e4, Nat.pow_succ]
    generalize highTo zs p d = a
    have : a * (2 ^ n * 2) = 2 * (a * 2 ^ n) := by rw [← Nat.mul_assoc, Nat.mul_comm]
    omega

theorem bit_of_u8 (x s : Nat) (hx : x < 256) : bits .and .u64 (IntKind.u64.wrap ((x : Int) / 2 ^ s)) 1 = ((x / 2 ^ s % 2 : Nat) : Int) := by
  have h := Nat.div_le_self x (2 ^ s)
  rw [show ((x : Int) / 2 ^ s) = ((x / 2 ^ s : Nat) : Int) by simp, IntKind.wrap_u64]
  generalize x / 2 ^ s = y at h ⊢
  rw [show ((y : Int) % 18446744073709551616) = (y : Int) by omega]
  go_bits2
theorem or_bit (v b k : Nat) (hv : v < 2 ^ k) (hb : b ≤ 1) (hk : k < 64) : bits .or .u64 (v : Int) (IntKind.u64.wrap ((b : Int) * 2 ^ k)) = ((v + b * 2 ^ k : Nat) : Int) := by
  have h1 : 2 ^ k ≤ 2 ^ 63 := Nat.pow_le_pow_right (by omega) (by omega)
  have h2 := Nat.mul_le_mul_right (2 ^ k) hb
  have e : IntKind.u64.wrap ((b : Int) * 2 ^ k) = ((b * 2 ^ k : Nat) : Int) := by
    rw [IntKind.wrap_u64, show ((b : Int) * 2 ^ k) = ((b * 2 ^ k : Nat) : Int) by simp]
    omega
  rw [e, u64_or_nat _ _ (by omega) (by omega), Nat.or_comm, nat_join k _ _ (Nat.mul_mod_left _ _) hv, Nat.add_comm]
theorem twice_bit (v b k : Nat) (hv : v < 2 ^ k) (hb : b ≤ 1) (hk : k < 64) : IntKind.u64.wrap (IntKind.u64.wrap ((v : Int) * 2) + (b : Int)) = ((2 * v + b : Nat) : Int) := by
  have h1 : 2 ^ k ≤ 2 ^ 63 := Nat.pow_le_pow_right (by omega) (by omega)
  rw [IntKind.wrap_u64, IntKind.wrap_u64]; omega
theorem mask_bits (v n : Nat) (hv : v < 18446744073709551616) (hn : n ≤ 63) : bits .and .u64 (v : Int) (IntKind.u64.wrap (IntKind.u64.wrap (2 ^ n) - 1)) = ((v % 2 ^ n : Nat) : Int) := by
  have h1 : 2 ^ n ≤ 2 ^ 63 := Nat.pow_le_pow_right (by omega) hn
  have h2 : 0 < 2 ^ n := Nat.pow_pos (by omega)
  have e : IntKind.u64.wrap (IntKind.u64.wrap (2 ^ n) - 1) = ((2 ^ n - 1 : Nat) : Int) := by
    rw [IntKind.wrap_u64, IntKind.wrap_u64, show ((2 : Int) ^ n) = ((2 ^ n : Nat) : Int) by simp]; omega
  rw [e, u64_and_nat _ _ hv (by omega), Nat.and_two_pow_sub_one_eq_mod]
theorem or_part (v c d m : Nat) (hv : v < 2 ^ d) (hc : c < 2 ^ m) (h : d + m ≤ 64) : bits .or .u64 (v : Int) (IntKind.u64.wrap ((c : Int) * 2 ^ d)) = ((v + c * 2 ^ d : Nat) : Int) := by
  have h1 : 2 ^ (d + m) ≤ 2 ^ 64 := Nat.pow_le_pow_right (by omega) h
  have h2 : (c + 1) * 2 ^ d ≤ 2 ^ m * 2 ^ d := Nat.mul_le_mul_right _ (by omega)
  rw [Nat.add_mul, Nat.one_mul, ← Nat.pow_add, Nat.add_comm m d] at h2
  have e : IntKind.u64.wrap ((c : Int) * 2 ^ d) = ((c * 2 ^ d : Nat) : Int) := by
    rw [IntKind.wrap_u64, show ((c : Int) * 2 ^ d) = ((c * 2 ^ d : Nat) : Int) by simp]
    omega
  rw [e, u64_or_nat _ _ (by omega) (by omega), Nat.or_comm, nat_join d _ _ (Nat.mul_mod_left _ _) hv, Nat.add_comm]
theorem part_or (v c d m : Nat) (hv : v < 2 ^ d) (hc : c < 2 ^ m) (h : d + m ≤ 64) : bits .or .u64 (IntKind.u64.wrap ((v : Int) * 2 ^ m)) (c : Int) = ((v * 2 ^ m + c : Nat) : Int) := by
  have h1 : 2 ^ (d + m) ≤ 2 ^ 64 := Nat.pow_le_pow_right (by omega) h
  have h2 : (v + 1) * 2 ^ m ≤ 2 ^ d * 2 ^ m := Nat.mul_le_mul_right _ (by omega)
  rw [Nat.add_mul, Nat.one_mul, ← Nat.pow_add] at h2
  have e : IntKind.u64.wrap ((v : Int) * 2 ^ m) = ((v * 2 ^ m : Nat) : Int) := by
    rw [IntKind.wrap_u64, show ((v : Int) * 2 ^ m) = ((v * 2 ^ m : Nat) : Int) by simp]
    omega
  rw [e, u64_or_nat _ _ (by omega) (by omega), nat_join m _ _ (Nat.mul_mod_left _ _) hc]
def goodAt (len : Nat) (p bits : Int) : Bool := decide (0 ≤ bits) && decide (bits ≤ 64) && decide (0 ≤ p) && decide (p ≤ 8 * len - bits)
end Go.Proofs.YtdochjkkgmkdgaaDoor

/- A byte string that came in, or that the call itself has copied: what the walks know of it. -/
namespace Go.Proofs.YtdochjkkgmkdgaaDoor
open Go.RowKit

/-- A byte string handed in: its bytes in range, and, where there are any, in the cells of an old block. -/
def ArgB (w : World) (ad : Option Addr) (zs : List Int) : Prop := InB zs ∧ (zs ≠ [] → ∃ b off, ad = some ⟨b, off, none⟩ ∧ b < w.heap.size ∧ BytesAt w b off zs)
/-- A byte string of the call's own: at the head of a block. -/
def OwnB (w : World) (g : Nat) (zs : List Int) : Prop := g < w.heap.size ∧ BytesAt w g 0 zs

theorem ArgB.below {w w' : World} {ad : Option Addr} {zs : List Int} (h : ArgB w ad zs) (hb : Below w.heap.size w w') : ArgB w' ad zs := by
  refine ⟨h.1, fun hne => ?_⟩
  obtain ⟨b, off, e, hl, hc⟩ := h.2 hne
  exact ⟨b, off, e, Nat.lt_of_lt_of_le hl hb.size, fun j hj => (hb.cell (by simpa using hl)).trans (hc j hj)⟩
theorem OwnB.below {w w' : World} {g : Nat} {zs : List Int} (h : OwnB w g zs) (hb : Below w.heap.size w w') : OwnB w' g zs :=
  ⟨Nat.lt_of_lt_of_le h.1 hb.size, fun j hj => (hb.cell (by simpa using h.1)).trans (h.2 j hj)⟩
theorem ownB_of_owns {w : World} {base g n cap : Nat} {zs : List Int} (hn : zs.length = n) (h : w.ownsRow base 5 1 (.slice (some ⟨g, 0, none⟩) n cap) n (zs.map (.int .u8))) : OwnB w g zs := by
  subst hn
  refine ⟨(h.lt g rfl).2, fun j hj => ?_⟩
  rw [Nat.zero_add, h.cellAt j (by omega)]
  exact getD_map_int zs .u8 j hj

end Go.Proofs.YtdochjkkgmkdgaaDoor

/- The walks of TakeLow and TakeHigh: the program's small parts. -/
namespace Go.Proofs.YtdochjkkgmkdgaaDoor
open Go.RowKit

/-- The reader in the variable at block r. -/
def ReaderAt (w : World) (r : Nat) (o : Int) (s : Value) (p : Int) : Prop := r < w.heap.size ∧ w.cell? ⟨r, 0, none⟩ = some (.int .i64 o) ∧ w.cell? ⟨r, 1, none⟩ = some s ∧ w.cell? ⟨r, 2, none⟩ = some (.int .i64 p)

/-- The world is as it was but for block r, and for what is new. -/
structure OnlyAt (r : Nat) (w w' : World) : Prop where
  os : w'.os = w.os
  tape : w'.tape = w.tape
  output : w'.output = w.output
  size : w.heap.size ≤ w'.heap.size
  block : ∀ k, k < w.heap.size → k ≠ r → w'.heap[k]? = w.heap[k]?
theorem OnlyAt.refl (r : Nat) (w : World) : OnlyAt r w w := ⟨rfl, rfl, rfl, Nat.le_refl _, fun _ _ _ => rfl⟩
theorem OnlyAt.trans {r : Nat} {a w w' : World} (h : OnlyAt r a w) (k : OnlyAt r w w') : OnlyAt r a w' :=
  ⟨k.os.trans h.os, k.tape.trans h.tape, k.output.trans h.output, Nat.le_trans h.size k.size, fun i hi hn => (k.block i (Nat.lt_of_lt_of_le hi h.size) hn).trans (h.block i hi hn)⟩
theorem OnlyAt.drewN {r : Nat} {a w : World} (h : OnlyAt r a w) (n : Nat) : OnlyAt r a (w.drewN n) := h.trans ⟨rfl, rfl, rfl, Nat.le_refl _, fun _ _ _ => rfl⟩
theorem OnlyAt.setCell {r : Nat} {a w : World} (h : OnlyAt r a w) (o : Nat) (u : Value) : OnlyAt r a (w.setCell ⟨r, o, none⟩ u) :=
  h.trans ⟨rfl, rfl, rfl, by simp, fun k _ hk => Below.heap_setCell w ⟨r, o, none⟩ u k hk⟩
theorem OnlyAt.cell {r : Nat} {w w' : World} (h : OnlyAt r w w') {p : Addr} (hp : p.block < w.heap.size) (hr : p.block ≠ r) : w'.cell? p = w.cell? p := World.cell?_of_block (h.block p.block hp hr)
theorem OnlyAt.frozen {r : Nat} {w w' : World} (h : OnlyAt r w w') {p : Addr} (hp : p.block < w.heap.size) (hr : p.block ≠ r) : w'.frozen? p = w.frozen? p := World.frozen?_of_block (h.block p.block hp hr)
theorem OnlyAt.below {r B : Nat} {w w' : World} (h : OnlyAt r w w') (hB : B ≤ r) (hs : B ≤ w.heap.size) : Below B w w' :=
  ⟨h.os, h.tape, h.output, h.size, fun k hk => h.block k (by omega) (by omega)⟩
theorem ReaderAt.drewN {w : World} {r : Nat} {o : Int} {s : Value} {p : Int} (h : ReaderAt w r o s p) (nq : Nat) : ReaderAt (w.drewN nq) r o s p := h
theorem ReaderAt.moved {w : World} {r : Nat} {o : Int} {s : Value} {p : Int} (h : ReaderAt w r o s p) (q : Int) : ReaderAt (w.setCell ⟨r, 2, none⟩ (.int .i64 q)) r o s q := by
  obtain ⟨h0, h1, h2, h3⟩ := h
  refine ⟨by simpa using h0, ?_, ?_, ?_⟩
  · rw [World.cell?_setCell_other _ _ _ _ (by simp)]; exact h1
  · rw [World.cell?_setCell_other _ _ _ _ (by simp)]; exact h2
  · exact World.cell?_setCell_same _ _ _ h3

end Go.Proofs.YtdochjkkgmkdgaaDoor

/- Plain: bits put one behind the other into bytes, in either order; a part of a number put at once is as many bits. -/
namespace Go.Proofs.YtdochjkkgmkdgaaDoor
open Go.RowKit

def opn (zs : List Nat) (L : Nat) : List Nat := if L % 8 = 0 then zs ++ [0] else zs
def ex (h : Bool) (r : Nat) : Nat := if h then 7 - r else r
def addBit (h : Bool) (zs : List Nat) (L b : Nat) : List Nat := (opn zs L).set (L / 8) ((opn zs L).getD (L / 8) 0 + b * 2 ^ ex h (L % 8))
def fbit (h : Bool) (v n k : Nat) : Nat := if h then v / 2 ^ (n - 1 - k) % 2 else v / 2 ^ k % 2
def ft (h : Bool) (v n : Nat) (zs : List Nat) (L : Nat) : Nat → List Nat
  | 0 => zs
  | k + 1 => addBit h (ft h v n zs L k) (L + k) (fbit h v n k)

/-- The bytes hold so many bits, and the bits that are left in the last one are 0. -/
def Inv (h : Bool) (zs : List Nat) (L : Nat) : Prop :=
  zs.length = (L + 7) / 8 ∧ (∀ j, zs.getD j 0 < 256) ∧ (L % 8 ≠ 0 → if h then zs.getD (L / 8) 0 % 2 ^ (8 - L % 8) = 0 else zs.getD (L / 8) 0 < 2 ^ (L % 8))

theorem opn_len {h : Bool} {zs : List Nat} {L : Nat} (hi : Inv h zs L) : (opn zs L).length = L / 8 + 1 := by
  unfold opn; have := hi.1
  split
  · simp; omega
  · omega
theorem getD_snoc_last (zs : List Nat) (a : Nat) : (zs ++ [a]).getD zs.length 0 = a := by
  rw [List.getD_eq_getElem?_getD, List.getElem?_append_right (Nat.le_refl _), Nat.sub_self]; rfl
theorem getD_snoc (zs : List Nat) (j : Nat) : (zs ++ [0]).getD j 0 = zs.getD j 0 := by
  rw [List.getD_eq_getElem?_getD, List.getD_eq_getElem?_getD]
  rcases Nat.lt_trichotomy j zs.length with h | h | h
  · rw [List.getElem?_append_left h]
  · subst h; rw [List.getElem?_append_right (Nat.le_refl _), Nat.sub_self, List.getElem?_eq_none (Nat.le_refl _)]; rfl
  · rw [List.getElem?_eq_none (by simp; omega), List.getElem?_eq_none (by omega)]
theorem opn_getD (zs : List Nat) (L j : Nat) : (opn zs L).getD j 0 = zs.getD j 0 := by
  unfold opn; split
  · exact getD_snoc zs j
  · rfl
theorem opn_x {h : Bool} {zs : List Nat} {L : Nat} (hi : Inv h zs L) : (opn zs L).getD (L / 8) 0 < 256 ∧ (if h then (opn zs L).getD (L / 8) 0 % 2 ^ (8 - L % 8) = 0 else (opn zs L).getD (L / 8) 0 < 2 ^ (L % 8)) := by
  rw [opn_getD]
  refine ⟨hi.2.1 _, ?_⟩
  by_cases h0 : L % 8 = 0
  · have hz : zs.getD (L / 8) 0 = 0 := by
      rw [List.getD_eq_getElem?_getD, List.getElem?_eq_none (by have := hi.1; omega)]; rfl
    rw [hz, h0]; cases h <;> simp
  · exact hi.2.2 h0
theorem getD_set_same (zs : List Nat) (i a : Nat) (hi : i < zs.length) : (zs.set i a).getD i 0 = a := by
  rw [List.getD_eq_getElem?_getD, List.getElem?_set_self hi]; rfl
theorem getD_set_other (zs : List Nat) (i j a : Nat) (h : i ≠ j) : (zs.set i a).getD j 0 = zs.getD j 0 := by
  rw [List.getD_eq_getElem?_getD, List.getD_eq_getElem?_getD, List.getElem?_set_ne h]
theorem pow_cases (r : Nat) (h : r < 8) : r = 0 ∨ r = 1 ∨ r = 2 ∨ r = 3 ∨ r = 4 ∨ r = 5 ∨ r = 6 ∨ r = 7 := by omega
theorem step_x (h : Bool) (x r b : Nat) (hr : r < 8) (hb : b ≤ 1) (hx : x < 256) (hf : if h then x % 2 ^ (8 - r) = 0 else x < 2 ^ r) :
    x + b * 2 ^ ex h r < 256 ∧ (if h then (x + b * 2 ^ ex h r) % 2 ^ (8 - (r + 1)) = 0 else x + b * 2 ^ ex h r < 2 ^ (r + 1)) := by
  have hb' : b = 0 ∨ b = 1 := by omega
  cases h <;> rcases pow_cases r hr with e | e | e | e | e | e | e | e <;> subst e <;> rcases hb' with e | e <;> subst e <;> simp [ex] at hf ⊢ <;> omega
theorem addBit_inv {h : Bool} {zs : List Nat} {L b : Nat} (hi : Inv h zs L) (hb : b ≤ 1) : Inv h (addBit h zs L b) (L + 1) := by
  have hl := opn_len hi
  have hx := opn_x hi
  have hs := step_x h _ (L % 8) b (by omega) hb hx.1 hx.2
  refine ⟨?_, ?_, ?_⟩
  · unfold addBit; rw [List.length_set, hl]; omega
  · intro j
    unfold addBit
    by_cases e : L / 8 = j
    · subst e; rw [getD_set_same _ _ _ (by omega)]; exact hs.1
    · rw [getD_set_other _ _ _ _ e, opn_getD]; exact hi.2.1 j
  · intro h0
    have e1 : (L + 1) / 8 = L / 8 := by omega
    have e2 : (L + 1) % 8 = L % 8 + 1 := by omega
    rw [e1, e2]
    unfold addBit
    rw [getD_set_same _ _ _ (by omega)]
    exact hs.2
theorem fbit_le (h : Bool) (v n k : Nat) : fbit h v n k ≤ 1 := by unfold fbit; split <;> omega
theorem ft_inv {h : Bool} {v n : Nat} {zs : List Nat} {L : Nat} (hi : Inv h zs L) (k : Nat) : Inv h (ft h v n zs L k) (L + k) := by
  induction k with
  | zero => exact hi
  | succ k ih => exact addBit_inv ih (fbit_le h v n k)

def chunk (h : Bool) (v n d m : Nat) : Nat := if h then v / 2 ^ (n - d - m) % 2 ^ m else v / 2 ^ d % 2 ^ m
def cex (h : Bool) (r m : Nat) : Nat := if h then 8 - r - m else r
theorem chunk_lt (h : Bool) (v n d m : Nat) : chunk h v n d m < 2 ^ m := by
  unfold chunk; split <;> exact Nat.mod_lt _ (Nat.pow_pos (by omega))
theorem ft_chunk {h : Bool} {v n : Nat} {zs : List Nat} {L : Nat} (hi : Inv h zs L) (d m : Nat) (hm : (L + d) % 8 + (m + 1) ≤ 8) (hn : d + (m + 1) ≤ n) :
    ft h v n zs L (d + (m + 1)) = (opn (ft h v n zs L d) (L + d)).set ((L + d) / 8) ((opn (ft h v n zs L d) (L + d)).getD ((L + d) / 8) 0 + chunk h v n d (m + 1) * 2 ^ cex h ((L + d) % 8) (m + 1)) := by
  have hl := opn_len (ft_inv (v := v) (n := n) hi d)
  induction m with
  | zero =>
    show addBit h (ft h v n zs L d) (L + d) (fbit h v n d) = _
    unfold addBit
    congr 2
    have e1 : fbit h v n d = chunk h v n d (0 + 1) := by
      unfold fbit chunk; split
      · rw [show n - 1 - d = n - d - (0 + 1) by omega, Nat.zero_add, Nat.pow_one]
      · rw [Nat.zero_add, Nat.pow_one]
    have e2 : ex h ((L + d) % 8) = cex h ((L + d) % 8) (0 + 1) := by unfold ex cex; split <;> omega
    rw [e1, e2]
  | succ m ih =>
    show addBit h (ft h v n zs L (d + (m + 1))) (L + (d + (m + 1))) (fbit h v n (d + (m + 1))) = _
    rw [ih (by omega) (by omega)]
    have e1 : (L + (d + (m + 1))) / 8 = (L + d) / 8 := by omega
    have e2 : (L + (d + (m + 1))) % 8 = (L + d) % 8 + (m + 1) := by omega
    unfold addBit
    generalize opn (ft h v n zs L d) (L + d) = Y at hl ⊢
    generalize Y.getD ((L + d) / 8) 0 = x
    have e3 : ∀ A, opn A (L + (d + (m + 1))) = A := fun A => by unfold opn; rw [if_neg (by omega)]
    rw [e3, e1, e2, getD_set_same _ _ _ (by omega), List.set_set]
    congr 1
    rw [Nat.add_assoc]
    congr 1
    unfold fbit chunk ex cex
    cases h
    · simp only [Bool.false_eq_true, if_false]
      have hp := mod_pow_step (v / 2 ^ d) (m + 1)
      rw [Nat.div_div_eq_div_mul, ← Nat.pow_add] at hp
      rw [show m + 1 + 1 = (m + 1) + 1 from rfl, hp, Nat.add_mul, Nat.pow_add 2 ((L + d) % 8) (m + 1)]
      rw [Nat.mul_assoc (v / 2 ^ (d + (m + 1)) % 2), Nat.mul_comm (2 ^ (m + 1))]
    · simp only [if_true]
      have e4 : n - 1 - (d + (m + 1)) = n - d - (m + 1 + 1) := by omega
      have e5 : n - d - (m + 1) = (n - d - (m + 1 + 1)) + 1 := by omega
      have e6 : 8 - (L + d) % 8 - (m + 1) = (8 - (L + d) % 8 - (m + 1 + 1)) + 1 := by omega
      have e7 : 7 - ((L + d) % 8 + (m + 1)) = 8 - (L + d) % 8 - (m + 1 + 1) := by omega
      rw [e4, e5, e6, e7, Nat.pow_succ 2 (n - d - (m + 1 + 1)), ← Nat.div_div_eq_div_mul]
      generalize v / 2 ^ (n - d - (m + 1 + 1)) = y
      have e8 : y % 2 ^ (m + 1 + 1) = y % 2 + 2 * (y / 2 % 2 ^ (m + 1)) := by rw [Nat.pow_succ 2 (m + 1), Nat.mul_comm, Nat.mod_mul]
      rw [e8, Nat.pow_succ 2 (8 - (L + d) % 8 - (m + 1 + 1)), Nat.add_mul]
      generalize 2 ^ (8 - (L + d) % 8 - (m + 1 + 1)) = q
      generalize y / 2 % 2 ^ (m + 1) = z
      have : z * (q * 2) = 2 * z * q := by rw [Nat.mul_comm q 2, ← Nat.mul_assoc, Nat.mul_comm z 2]
      omega
theorem or_into (h : Bool) (x r m c : Nat) (hm : r + m ≤ 8) (hf : if h then x % 2 ^ (8 - r) = 0 else x < 2 ^ r) (hc : c < 2 ^ m) : x ||| (c * 2 ^ cex h r m) = x + c * 2 ^ cex h r m := by
  unfold cex
  cases h
  · simp only [Bool.false_eq_true, if_false] at hf ⊢
    rw [Nat.or_comm, nat_join r _ _ (Nat.mul_mod_left _ _) hf, Nat.add_comm]
  · simp only [if_true] at hf ⊢
    refine nat_join (8 - r) _ _ hf ?_
    have := Nat.mul_lt_mul_of_pos_right hc (Nat.pow_pos (n := 8 - r - m) (show 0 < 2 by omega))
    rwa [← Nat.pow_add, show m + (8 - r - m) = 8 - r by omega] at this
end Go.Proofs.YtdochjkkgmkdgaaDoor

/- The walks of the sink of bits: the specification's. -/
namespace Go.Proofs.YtdochjkkgmkdgaaDoor
open Go.RowKit

def vals (zs : List Nat) : List Value := zs.map fun b : Nat => Value.int .u8 (b : Int)
theorem vals_len (zs : List Nat) : (vals zs).length = zs.length := by unfold vals; simp
theorem vals_at (zs : List Nat) (j : Nat) (h : j < zs.length) : (vals zs)[j]? = some (.int .u8 (zs.getD j 0 : Nat)) := by
  unfold vals; rw [List.getElem?_map, List.getD_eq_getElem?_getD, List.getElem?_eq_getElem h]; rfl
theorem vals_set (zs : List Nat) (j a : Nat) : (vals zs).set j (.int .u8 (a : Int)) = vals (zs.set j a) := by unfold vals; rw [List.map_set]
theorem vals_snoc (zs : List Nat) : vals zs ++ [.int .u8 0] = vals (zs ++ [0]) := by unfold vals; simp

/-- A sink or a writer of bits in the variable at block c: its first word, its bytes, its number. -/
def SinkAt (w : World) (c : Nat) (o v : Value) (q : Int) : Prop :=
  c < w.heap.size ∧ w.cell? ⟨c, 0, none⟩ = some o ∧ w.cell? ⟨c, 1, none⟩ = some v ∧ w.cell? ⟨c, 2, none⟩ = some (.int .i64 q) ∧ w.frozen? ⟨c, 1, none⟩ = false ∧ w.frozen? ⟨c, 2, none⟩ = false
def Sink (w : World) (c : Nat) (o : Value) (zs : List Nat) (q : Int) : Prop := ∃ v, SinkAt w c o v q ∧ w.ownsRow (c + 1) 5 1 v zs.length (vals zs)
theorem SinkAt.drewN {w : World} {c : Nat} {o v : Value} {q : Int} (h : SinkAt w c o v q) (n : Nat) : SinkAt (w.drewN n) c o v q := h
theorem SinkAt.drew {w : World} {c : Nat} {o v : Value} {q : Int} (h : SinkAt w c o v q) : SinkAt w.drew c o v q := h
theorem SinkAt.grown {w w' : World} {c : Nat} {o v : Value} {q : Int} {row : Option Nat} (h : SinkAt w c o v q) (hg : w.grownBy w' row) (hr : some c ≠ row) : SinkAt w' c o v q := by
  obtain ⟨h0, h1, h2, h3, f1, f2⟩ := h
  have hb := hg.block c h0 hr
  exact ⟨Nat.lt_of_lt_of_le h0 hg.size, (World.cell?_of_block (a := ⟨c, 0, none⟩) hb).trans h1, (World.cell?_of_block (a := ⟨c, 1, none⟩) hb).trans h2, (World.cell?_of_block (a := ⟨c, 2, none⟩) hb).trans h3,
    (World.frozen?_of_block (a := ⟨c, 1, none⟩) hb).trans f1, (World.frozen?_of_block (a := ⟨c, 2, none⟩) hb).trans f2⟩
theorem SinkAt.data {w : World} {c : Nat} {o v : Value} {q : Int} (h : SinkAt w c o v q) (u : Value) : SinkAt (w.setCell ⟨c, 1, none⟩ u) c o u q := by
  obtain ⟨h0, h1, h2, h3, f1, f2⟩ := h
  refine ⟨by simpa using h0, ?_, World.cell?_setCell_same _ _ _ h2, ?_, (World.frozen?_setCell _ _ _ _).trans f1, (World.frozen?_setCell _ _ _ _).trans f2⟩
  · rw [World.cell?_setCell_other _ _ _ _ (by simp)]; exact h1
  · rw [World.cell?_setCell_other _ _ _ _ (by simp)]; exact h3
theorem SinkAt.num {w : World} {c : Nat} {o v : Value} {q : Int} (h : SinkAt w c o v q) (p : Int) : SinkAt (w.setCell ⟨c, 2, none⟩ (.int .i64 p)) c o v p := by
  obtain ⟨h0, h1, h2, h3, f1, f2⟩ := h
  refine ⟨by simpa using h0, ?_, ?_, World.cell?_setCell_same _ _ _ h3, (World.frozen?_setCell _ _ _ _).trans f1, (World.frozen?_setCell _ _ _ _).trans f2⟩
  · rw [World.cell?_setCell_other _ _ _ _ (by simp)]; exact h1
  · rw [World.cell?_setCell_other _ _ _ _ (by simp)]; exact h2
theorem SinkAt.far {w : World} {c g j : Nat} {o v u : Value} {q : Int} (h : SinkAt w c o v q) (hg : g ≠ c) : SinkAt (w.setCell ⟨g, j, none⟩ u) c o v q := by
  obtain ⟨h0, h1, h2, h3, f1, f2⟩ := h
  refine ⟨by simpa using h0, ?_, ?_, ?_, (World.frozen?_setCell _ _ _ _).trans f1, (World.frozen?_setCell _ _ _ _).trans f2⟩ <;> (rw [World.cell?_setCell_far _ _ _ _ (by simpa using hg)]; assumption)
theorem one_new (w : World) (u : Value) : ∀ j v, [u][j]? = some v → (w.alloc (.cells #[u] 5)).cell? ((⟨w.heap.size, 0, none⟩ : Addr).add j) = some v := by
  intro j v hj
  match j, hj with
  | 0, hj => simp at hj; subst hj; simp [Addr.add]
theorem one_one : ∀ u ∈ [Value.int .u8 0], u.oneCell' = true := by intro u hu; simp at hu; subst hu; rfl
theorem addBit_zero (h : Bool) (zs : List Nat) (L : Nat) (hl : L / 8 < (opn zs L).length) : addBit h zs L 0 = opn zs L := by
  unfold addBit
  rw [Nat.zero_mul, Nat.add_zero, List.getD_eq_getElem?_getD, List.getElem?_eq_getElem hl]
  exact List.set_getElem_self hl
theorem or_bit8 (h : Bool) (x r k : Nat) (hx : x < 256) (hr : r < 8) (hk : k = ex h r) (hf : if h then x % 2 ^ (8 - r) = 0 else x < 2 ^ r) : bits .or .u8 (x : Int) (2 ^ k % 256) = ((x + 1 * 2 ^ ex h r : Nat) : Int) := by
  have hk7 : k ≤ 7 := by subst hk; unfold ex; split <;> omega
  have ho := or_into h x r 1 1 (by omega) hf (by omega)
  have ec : cex h r 1 = ex h r := by unfold ex cex; split <;> omega
  rw [ec, ← hk] at ho
  rw [← hk]
  have e : ((2 : Int) ^ k % 256) = ((2 ^ k : Nat) : Int) := by
    rcases pow_cases k (by omega) with h | h | h | h | h | h | h | h <;> subst h <;> decide
  have hl : 2 ^ k < 256 := by rcases pow_cases k (by omega) with h | h | h | h | h | h | h | h <;> subst h <;> decide
  rw [e, u8_or_nat _ _ hx hl]
  rw [Nat.one_mul] at ho ⊢
  rw [ho]


end Go.Proofs.YtdochjkkgmkdgaaDoor

/- The walks of the sink of bits: the specification's numbers. -/
namespace Go.Proofs.YtdochjkkgmkdgaaDoor
open Go.RowKit

theorem bit_of_u64 (v k : Nat) (hv : v < 18446744073709551616) : bits .and .u64 ((v : Int) / 2 ^ k) 1 = ((v / 2 ^ k % 2 : Nat) : Int) := by
  have h := Nat.div_le_self v (2 ^ k)
  rw [show ((v : Int) / 2 ^ k) = ((v / 2 ^ k : Nat) : Int) by simp]
  generalize v / 2 ^ k = y at h ⊢
  go_bits2

end Go.Proofs.YtdochjkkgmkdgaaDoor

/- Fields, and the walk of the specification's packing of them. -/
namespace Go.Proofs.YtdochjkkgmkdgaaDoor
open Go.RowKit

def FieldsAt (w : World) (b off : Nat) (fs : List (Int × Int)) : Prop := ∀ j, j < fs.length → w.cell? ⟨b, off + j * 2, none⟩ = some (.int .i64 (fs.getD j (0, 0)).1) ∧ w.cell? ⟨b, off + j * 2 + 1, none⟩ = some (.int .u64 (fs.getD j (0, 0)).2)
def InF (fs : List (Int × Int)) : Prop := ∀ j, (-9223372036854775808 ≤ (fs.getD j (0, 0)).1 ∧ (fs.getD j (0, 0)).1 ≤ 9223372036854775807) ∧ 0 ≤ (fs.getD j (0, 0)).2 ∧ (fs.getD j (0, 0)).2 < 18446744073709551616
def OwnF (w : World) (g : Nat) (fs : List (Int × Int)) : Prop := g < w.heap.size ∧ FieldsAt w g 0 fs
theorem OwnF.below {w w' : World} {g : Nat} {fs : List (Int × Int)} (h : OwnF w g fs) (hb : Below w.heap.size w w') : OwnF w' g fs :=
  ⟨Nat.lt_of_lt_of_le h.1 hb.size, fun j hj => ⟨(hb.cell (by simpa using h.1)).trans (h.2 j hj).1, (hb.cell (by simpa using h.1)).trans (h.2 j hj).2⟩⟩
theorem OwnF.belowAt {B : Nat} {w w' : World} {g : Nat} {fs : List (Int × Int)} (h : OwnF w g fs) (hg : g < B) (hb : Below B w w') : OwnF w' g fs :=
  ⟨Nat.lt_of_lt_of_le h.1 hb.size, fun j hj => ⟨(hb.cell (by simpa using hg)).trans (h.2 j hj).1, (hb.cell (by simpa using hg)).trans (h.2 j hj).2⟩⟩

def okF (f : Int × Int) : Prop := 0 ≤ f.1 ∧ f.1 ≤ 64
def packStep (h : Bool) (s : List Nat × Nat) (f : Int × Int) : List Nat × Nat := (ft h f.2.toNat f.1.toNat s.1 s.2 f.1.toNat, s.2 + f.1.toNat)
def packTo (h : Bool) (fs : List (Int × Int)) (k : Nat) : List Nat × Nat := (fs.take k).foldl (packStep h) ([], 0)
theorem packTo_succ (h : Bool) (fs : List (Int × Int)) (k : Nat) (hk : k < fs.length) : packTo h fs (k + 1) = packStep h (packTo h fs k) (fs.getD k (0, 0)) := by
  unfold packTo; rw [take_snoc_getD fs (0, 0) k hk, List.foldl_append]; rfl
theorem inv_nil (h : Bool) : Inv h [] 0 := ⟨rfl, fun j => by simp, fun h => absurd rfl h⟩
theorem packTo_inv (h : Bool) (fs : List (Int × Int)) (k : Nat) (hk : k ≤ fs.length) (hok : ∀ j, j < k → okF (fs.getD j (0, 0))) : Inv h (packTo h fs k).1 (packTo h fs k).2 ∧ (packTo h fs k).2 ≤ 64 * k := by
  induction k with
  | zero => exact ⟨inv_nil h, Nat.le_refl _⟩
  | succ k ih =>
    have h1 := ih (by omega) (fun j hj => hok j (by omega))
    have h2 := hok k (by omega)
    rw [packTo_succ h fs k (by omega)]
    refine ⟨ft_inv h1.1 _, ?_⟩
    show (packTo h fs k).2 + (fs.getD k (0, 0)).1.toNat ≤ _
    have := h2.2
    omega
/-- The packed bytes: none where there are too many fields or one's width is bad. -/
noncomputable def packF (h : Bool) (fs : List (Int × Int)) : List Nat := open Classical in if fs.length ≤ 20000 ∧ ∀ j, j < fs.length → okF (fs.getD j (0, 0)) then (packTo h fs fs.length).1 else []
theorem packF_good (h : Bool) (fs : List (Int × Int)) (h1 : fs.length ≤ 20000) (h2 : ∀ j, j < fs.length → okF (fs.getD j (0, 0))) : packF h fs = (packTo h fs fs.length).1 := if_pos ⟨h1, h2⟩
theorem packF_many (h : Bool) (fs : List (Int × Int)) (h1 : 20000 < fs.length) : packF h fs = [] := if_neg (fun h => by have := h.1; omega)
theorem packF_bad (h : Bool) (fs : List (Int × Int)) (j : Nat) (hj : j < fs.length) (hb : ¬ okF (fs.getD j (0, 0))) : packF h fs = [] := if_neg (fun h => hb (h.2 j hj))

theorem ownsRow_base {w : World} {base base' : Nat} {e : TypeId} {size : Nat} {v : Value} {n : Nat} {xs : List Value} (h : w.ownsRow base e size v n xs) (hb : base' ≤ base) : w.ownsRow base' e size v n xs := by
  refine ⟨h.1, ?_⟩
  rcases h.2 with h | ⟨g, cap, cur, e1, e2, e3⟩
  · exact .inl h
  · exact .inr ⟨g, cap, cur, e1, Nat.le_trans hb e2, e3⟩
theorem Sink.alloc {w : World} {c : Nat} {o : Value} {zs : List Nat} {q : Int} (h : Sink w c o zs q) (ob : Obj) : Sink (w.alloc ob) c o zs q := by
  obtain ⟨v, hS, hown⟩ := h
  exact ⟨v, hS.grown (World.grownBy_alloc w ob none) (by simp), hown.alloc ob⟩
end Go.Proofs.YtdochjkkgmkdgaaDoor

/- The walks of the laws' own helpers on byte strings: a copy, whether two are equal, marksB. -/
namespace Go.Proofs.YtdochjkkgmkdgaaDoor
open Go.RowKit

def byts (zs : List Int) : List Value := zs.map (.int .u8)
theorem byts_length (zs : List Int) : (byts zs).length = zs.length := by simp [byts]
abbrev OwnY (w : World) (a b : Nat) (v : Value) (zs : List Int) : Prop := Own 5 1 w a b v zs.length (byts zs)
abbrev ArgY (w : World) (ad : Option Addr) (zs : List Int) : Prop := ReadK .u8 w ad zs
/-- A byte string as a value that can be read. -/
def RdY (w : World) (v : Value) (zs : List Int) : Prop := ∃ ad cap, v = .slice ad zs.length cap ∧ ArgY w ad zs
theorem RdY.below {w w' : World} {v : Value} {zs : List Int} (h : RdY w v zs) (hb : Below w.heap.size w w') : RdY w' v zs := by
  obtain ⟨ad, cap, e, h⟩ := h
  exact ⟨ad, cap, e, h.below hb⟩
theorem OwnY.rd {w : World} {a b : Nat} {v : Value} {zs : List Int} (h : OwnY w a b v zs) : RdY w v zs := readK_of_own h

def partY (zs : List Int) (k : Nat) : List Value := byts (zs.take k) ++ List.replicate (zs.length - k) (.int .u8 0)
theorem partY_zero (zs : List Int) : partY zs 0 = List.replicate zs.length (.int .u8 0) := by unfold partY byts; simp
theorem partY_all (zs : List Int) : partY zs zs.length = byts zs := by unfold partY byts; simp
theorem partY_set (zs : List Int) (k : Nat) (h : k < zs.length) : (partY zs k).set k (.int .u8 (zs.getD k 0)) = partY zs (k + 1) := by
  unfold partY byts
  rw [take_snoc_getD zs 0 k h, List.map_append, List.set_append, if_neg (by simp; omega), List.append_assoc]
  congr 1
  have : zs.length - k = (zs.length - (k + 1)) + 1 := by omega
  rw [this, List.replicate_succ]
  simp [Nat.min_eq_left (Nat.le_of_lt h)]
theorem partY_length (zs : List Int) (k : Nat) (h : k ≤ zs.length) : (partY zs k).length = zs.length := by unfold partY byts; simp; omega

end Go.Proofs.YtdochjkkgmkdgaaDoor

/- Plain: depths of samples, rows of samples packed into bytes. -/
namespace Go.Proofs.YtdochjkkgmkdgaaDoor
open Go.RowKit

def depthOk (d : Int) : Bool := d == 1 || d == 2 || d == 4 || d == 8 || d == 16
theorem depthOk_cases {d : Int} (h : depthOk d = true) : d = 1 ∨ d = 2 ∨ d = 4 ∨ d = 8 ∨ d = 16 := by
  unfold depthOk at h; simp at h; omega
theorem depthOk_nat {d : Int} (h : depthOk d = true) : ∃ D : Nat, d = (D : Int) ∧ 1 ≤ D ∧ D ≤ 16 := by
  rcases depthOk_cases h with e | e | e | e | e <;> subst e
  · exact ⟨1, rfl, by omega, by omega⟩
  · exact ⟨2, rfl, by omega, by omega⟩
  · exact ⟨4, rfl, by omega, by omega⟩
  · exact ⟨8, rfl, by omega, by omega⟩
  · exact ⟨16, rfl, by omega, by omega⟩
theorem two_pow_16 {D : Nat} (h : D ≤ 16) : (0 : Int) < (2 : Int) ^ D ∧ (2 : Int) ^ D ≤ 65536 := by
  have h1 : 2 ^ D ≤ 2 ^ 16 := Nat.pow_le_pow_right (by omega) h
  have h2 : 0 < 2 ^ D := Nat.pow_pos (by omega)
  have e : (2 : Int) ^ D = ((2 ^ D : Nat) : Int) := by simp
  rw [e]; generalize 2 ^ D = y at h1 h2; omega
theorem two_pow_n {D : Nat} : (2 : Int) ^ D = ((2 ^ D : Nat) : Int) := by simp
/-- All samples are in the range of a depth. -/
def SmpOk (zs : List Int) (d : Int) : Prop := ∀ j, j < zs.length → 0 ≤ zs.getD j 0 ∧ zs.getD j 0 < 2 ^ d.toNat
def RowOk (zs : List Int) (d : Int) : Prop := depthOk d = true ∧ zs.length ≤ 4096 ∧ SmpOk zs d
def rowFs (zs : List Int) (d : Int) : List (Int × Int) := zs.map fun x => (d, x)
@[simp] theorem rowFs_length (zs : List Int) (d : Int) : (rowFs zs d).length = zs.length := by simp [rowFs]
theorem rowFs_at (zs : List Int) (d : Int) (k : Nat) (h : k < zs.length) : (rowFs zs d).getD k (0, 0) = (d, zs.getD k 0) := by
  unfold rowFs
  rw [List.getD_eq_getElem?_getD, List.getD_eq_getElem?_getD, List.getElem?_map, List.getElem?_eq_getElem h]; rfl
theorem rowFs_ok {d : Int} (h : depthOk d = true) (zs : List Int) (k : Nat) (hk : k < zs.length) : okF ((rowFs zs d).getD k (0, 0)) := by
  rw [rowFs_at zs d k hk]
  obtain ⟨D, rfl, h1, h2⟩ := depthOk_nat h
  exact ⟨by simp, by simp; omega⟩
noncomputable def rowB (zs : List Int) (d : Int) : List Nat := open Classical in if RowOk zs d then (packTo true (rowFs zs d) zs.length).1 else []
theorem rowB_yes {zs : List Int} {d : Int} (h : RowOk zs d) : rowB zs d = (packTo true (rowFs zs d) zs.length).1 := by unfold rowB; exact if_pos h
theorem rowB_no {zs : List Int} {d : Int} (h : ¬ RowOk zs d) : rowB zs d = [] := by unfold rowB; exact if_neg h
noncomputable def rowF (zs : List Int) (d : Int) : List Int := (rowB zs d).map fun b : Nat => (b : Int)
theorem rowF_no {zs : List Int} {d : Int} (h : ¬ RowOk zs d) : rowF zs d = [] := by unfold rowF; rw [rowB_no h]; rfl
theorem rowF_length (zs : List Int) (d : Int) : (rowF zs d).length = (rowB zs d).length := by simp [rowF]
theorem rowF_byts (zs : List Int) (d : Int) : byts (rowF zs d) = vals (rowB zs d) := by unfold rowF byts vals; simp
theorem row_inv {d : Int} (h : depthOk d = true) (zs : List Int) (k : Nat) (hk : k ≤ zs.length) : Inv true (packTo true (rowFs zs d) k).1 (packTo true (rowFs zs d) k).2 ∧ (packTo true (rowFs zs d) k).2 ≤ 64 * k :=
  packTo_inv true (rowFs zs d) k (by simpa using hk) (fun j hj => rowFs_ok h zs j (by omega))
theorem row_step {zs : List Int} {D : Nat} {k : Nat} (hk : k < zs.length) (u : Nat) (hu : zs.getD k 0 = (u : Int)) :
    (packTo true (rowFs zs D) (k + 1)).1 = ft true u D (packTo true (rowFs zs D) k).1 (packTo true (rowFs zs D) k).2 D ∧ (packTo true (rowFs zs D) (k + 1)).2 = (packTo true (rowFs zs D) k).2 + D := by
  rw [packTo_succ true _ k (by simpa using hk), rowFs_at zs D k hk]
  unfold packStep
  rw [hu]
  exact ⟨rfl, rfl⟩
theorem rowF_len (zs : List Int) (d : Int) : (rowF zs d).length ≤ 1048576 := by
  rw [rowF_length]
  by_cases h : RowOk zs d
  · rw [rowB_yes h]
    have h1 := row_inv h.1 zs zs.length (Nat.le_refl _)
    have h2 := h1.1.1
    have := h.2.1
    omega
  · rw [rowB_no h]; simp
end Go.Proofs.YtdochjkkgmkdgaaDoor

/- How much a list of ints holds. -/
namespace Go.Proofs.YtdochjkkgmkdgaaDoor
open Go.RowKit

theorem bcellU {W w1 : World} (hb : Upd 0 0 W w1) : (∀ b o, b < W.heap.size → w1.cell? ⟨b, o, none⟩ = W.cell? ⟨b, o, none⟩) ∧ (∀ b o, b < W.heap.size → w1.frozen? ⟨b, o, none⟩ = W.frozen? ⟨b, o, none⟩) :=
  ⟨fun b o h => hb.none.cell (p := ⟨b, o, none⟩) h, fun b o h => hb.none.frozen (p := ⟨b, o, none⟩) h⟩

theorem Upd.drew1 (w : World) : Upd 0 0 w w.drew := ⟨rfl, rfl, rfl, Nat.le_refl _, fun _ _ _ => rfl⟩
theorem Own.set {e : TypeId} {s : Nat} {w : World} {a b : Nat} {v : Value} {n : Nat} {xs : List Value} (h : Own e s w a b v n xs) {c : Nat} (hc : c < a) (o : Nat) (u : Value) : Own e s (w.setCell ⟨c, o, none⟩ u) a b v n xs :=
  ⟨ownsRow_setCell_below h.1 hc u, h.2⟩

set_option maxHeartbeats 1000000 in
theorem szIntS_any (ad : Option Addr) (n cap : Nat) (left : Int) (w : World) (h0 : 0 ≤ left) (h1 : left ≤ 1099511627776) (hn : n ≤ 9223372036854775807) :
    Calls Tryd.prog 36 #[.slice ad n cap, .int .i64 left] w fun e w' => e = .returned (.int .i64 (if left < n then -1 else left - n)) ∧ w' = w := by
  by_cases hlt : left < n
  · rw [if_pos hlt]
    go_enter Tryd.func36, Tryd.ntmps36
    go_wp2
    go_ret
    exact ⟨rfl, rfl⟩
  · rw [if_neg hlt]
    go_enter Tryd.func36, Tryd.ntmps36
    go_wp2
    go_ret
    exact ⟨rfl, rfl⟩

end Go.Proofs.YtdochjkkgmkdgaaDoor

/- Images as arguments and answers: four numbers and a list; the walks of the laws' own helpers on them. -/
namespace Go.Proofs.YtdochjkkgmkdgaaDoor
open Go.RowKit

abbrev Im := Int × Int × Int × Int × List Int
abbrev imv (d : Im) (vl : Value) : Value := .agg #[.int .i64 d.1, .int .i64 d.2.1, .int .i64 d.2.2.1, .int .i64 d.2.2.2.1, vl]
abbrev imc (d : Im) (vl : Value) : List Value := [.int .i64 d.1, .int .i64 d.2.1, .int .i64 d.2.2.1, .int .i64 d.2.2.2.1, vl]
abbrev ims (d : Im) : List Int := d.2.2.2.2
def RdIm (w : World) (v : Value) (d : Im) : Prop := ∃ vl, v = imv d vl ∧ RdI w vl (ims d)
def OwnIm (w : World) (a b : Nat) (v : Value) (d : Im) : Prop := ∃ vl, v = imv d vl ∧ OwnI w a b vl (ims d)
theorem OwnIm.rd {w : World} {a b : Nat} {v : Value} {d : Im} (h : OwnIm w a b v d) : RdIm w v d := by
  obtain ⟨vl, rfl, h⟩ := h
  exact ⟨vl, rfl, h.rd⟩
theorem RdIm.below {w w' : World} {v : Value} {d : Im} (h : RdIm w v d) (hb : Below w.heap.size w w') : RdIm w' v d := by
  obtain ⟨vl, rfl, h⟩ := h
  exact ⟨vl, rfl, h.below hb⟩
theorem OwnIm.upd {w w' : World} {a b c e : Nat} {v : Value} {d : Im} (h : OwnIm w a b v d) (u : Upd c e w w') (hd : b ≤ c ∨ e ≤ a) : OwnIm w' a b v d := by
  obtain ⟨vl, rfl, h⟩ := h
  exact ⟨vl, rfl, h.upd u hd⟩
theorem OwnIm.keep {w w' : World} {a b : Nat} {v : Value} {d : Im} (h : OwnIm w a b v d) (u : Upd 0 0 w w') : OwnIm w' a b v d := h.upd u (.inr (Nat.zero_le _))
theorem OwnIm.form {w : World} {a b : Nat} {v : Value} {d : Im} (h : OwnIm w a b v d) : ∃ ad cap, v = imv d (.slice ad (ims d).length cap) := by
  obtain ⟨vl, rfl, h⟩ := h
  obtain ⟨ad, cap, rfl, _⟩ := h.rd
  exact ⟨ad, cap, rfl⟩
/-- All numbers fit. -/
def InIm (d : Im) : Prop := (-9223372036854775808 ≤ d.1 ∧ d.1 ≤ 9223372036854775807) ∧ (-9223372036854775808 ≤ d.2.1 ∧ d.2.1 ≤ 9223372036854775807) ∧ (-9223372036854775808 ≤ d.2.2.1 ∧ d.2.2.1 ≤ 9223372036854775807) ∧ (-9223372036854775808 ≤ d.2.2.2.1 ∧ d.2.2.2.1 ≤ 9223372036854775807) ∧ InI (ims d)
def imCount (d : Im) : Nat := (ims d).length
def imMarked (k : Nat) (d : Im) : Im := (d.1, d.2.1, d.2.2.1, d.2.2.2.1, marks k (ims d).length)

set_option maxHeartbeats 1000000 in
theorem szImage_any (x0 x1 x2 x3 : Int) (ad : Option Addr) (n cap : Nat) (left : Int) (w : World) (h0 : 0 ≤ left) (h1 : left ≤ 1099511627776) (hn : n ≤ 9223372036854775807) :
    Calls Tryd.prog 12 #[.agg #[.int .i64 x0, .int .i64 x1, .int .i64 x2, .int .i64 x3, .slice ad n cap], .int .i64 left] w fun e w' => e = .returned (.int .i64 (if left < n then -1 else left - n)) ∧ Upd 0 0 w w' := by
  have hS := hide (fun W => szIntS_any ad n cap left W h0 h1 hn)
  have hB := hide (Upd.of_below ((Below.refl w.heap.size w).alloc (Nat.le_refl _) (.cells #[.int .i64 x0, .int .i64 x1, .int .i64 x2, .int .i64 x3, .slice ad n cap] 37)) 0 0)
  by_cases hlt : left < n
  · rw [if_pos hlt] at hS ⊢
    go_enter Tryd.func12, Tryd.ntmps12
    go_wp2_with fail
    refine (unhide hS _).mono ?_
    rintro e w1 ⟨rfl, rfl⟩
    go_wp2
    go_ret
    exact ⟨rfl, unhide hB⟩
  · rw [if_neg hlt] at hS ⊢
    have q : decide (left - (n : Int) < 0) = false := by simp; omega
    go_enter Tryd.func12, Tryd.ntmps12
    go_wp2_with fail
    refine (unhide hS _).mono ?_
    rintro e w1 ⟨rfl, rfl⟩
    go_wp2
    go_ret
    exact ⟨rfl, unhide hB⟩

set_option maxHeartbeats 2000000 in
set_option maxRecDepth 100000 in
theorem toImage_own (v : Value) (d : Im) (w : World) (hn : (ims d).length ≤ 1048576) (hv : RdIm w v d) :
    Calls Tryd.prog 14 #[v] w fun e w' => ∃ u, e = .returned u ∧ OwnIm w' w.heap.size w'.heap.size u d ∧ Upd 0 0 w w' := by
  obtain ⟨vl, rfl, h⟩ := hv
  obtain ⟨ad, cap, rfl, hA⟩ := h
  obtain ⟨x0, x1, x2, x3, zs⟩ := d
  simp only [ims, imv] at hn hA ⊢
  have hB' := (((Below.refl w.heap.size w).alloc (Nat.le_refl _) (.cells #[.int .i64 x0, .int .i64 x1, .int .i64 x2, .int .i64 x3, .slice ad zs.length cap] 37)).alloc (by simp) (.cells #[.int .i64 0, .int .i64 0, .int .i64 0, .int .i64 0, .slice none 0 0] 25)).alloc (by simp; omega) (.cells #[.int .i64 x0, .int .i64 x1, .int .i64 x2, .int .i64 x3, .slice none 0 0] 25)
  have hT := hide (toIntS_own ad cap zs _ hn (hA.below hB'))
  replace hB' := hide hB'
  clear hA
  go_enter Tryd.func14, Tryd.ntmps14
  go_wp2_with fail
  refine (unhide hT).mono ?_
  rintro e w1 ⟨u, rfl, ho, hu⟩
  obtain ⟨hc, hf⟩ := bcellU hu
  obtain ⟨ad', cap', rfl, _⟩ := ho.rd
  have hsz := hu.size
  simp at hsz
  replace ho := hide ho
  have huB := hide ((Upd.of_below (unhide hB') 0 0).trans hu)
  clear hT hu hB'
  go_wp2
  have hbl := (unhide huB).none
  refine bodyPost_ret (v := .agg #[.int .i64 x0, .int .i64 x1, .int .i64 x2, .int .i64 x3, .slice ad' zs.length cap']) (by simp [results, Tryd.results14, go_sem, hc]) rfl ⟨_, rfl, ⟨_, rfl, own_mono ((((((unhide ho).set (by simp) _ _).set (by simp) _ _).set (by simp) _ _).set (by simp) _ _).set (by simp) _ _ |>.set (by simp) _ _) (by simp; omega) (by simp)⟩, Upd.of_below (((((((hbl.setCell (by simp; omega) _).setCell (by simp) _).setCell (by simp) _).setCell (by simp) _).setCell (by simp) _).setCell (by simp) _)) 0 0⟩

set_option maxHeartbeats 2000000 in
set_option maxRecDepth 100000 in
theorem eqImage_rd (u v : Value) (d : Im) (w : World) (hn : (ims d).length ≤ 1048576) (hu : RdIm w u d) (hv : RdIm w v d) :
    Calls Tryd.prog 16 #[u, v] w fun e w' => e = .returned (.bool true) ∧ Upd 0 0 w w' := by
  obtain ⟨ul, rfl, hu⟩ := hu
  obtain ⟨vl, rfl, hv⟩ := hv
  obtain ⟨x0, x1, x2, x3, zs⟩ := d
  obtain ⟨ad, cap, rfl, hA⟩ := hu
  obtain ⟨ad', cap', rfl, hA'⟩ := hv
  simp only [ims, imv] at hn hA hA' ⊢
  have hB := (((Below.refl w.heap.size w).alloc (Nat.le_refl _) (.cells #[.int .i64 x0, .int .i64 x1, .int .i64 x2, .int .i64 x3, .slice ad zs.length cap] 25)).alloc (by simp) (.cells #[.int .i64 x0, .int .i64 x1, .int .i64 x2, .int .i64 x3, .slice ad' zs.length cap'] 25))
  have hE := hide (eqIntS_rd _ _ zs _ hn ⟨ad, cap, rfl, hA.below hB⟩ ⟨ad', cap', rfl, hA'.below hB⟩)
  replace hB := hide hB
  clear hA hA'
  go_enter Tryd.func16, Tryd.ntmps16
  go_wp2_with fail
  refine (unhide hE).mono ?_
  rintro e w1 ⟨rfl, hu⟩
  replace hu := hide ((Upd.of_below (unhide hB) 0 0).trans hu)
  clear hE
  go_wp2
  go_ret
  exact ⟨rfl, unhide hu⟩

set_option maxHeartbeats 1000000 in
theorem markImage_own {w : World} {a b : Nat} {v : Value} {d : Im} (k : Nat) (hL : (ims d).length ≤ 1048576) (hk : k ≤ 1099511627776) (hv : OwnIm w a b v d) :
    Calls Tryd.prog 17 #[v, .int .i64 k] w fun e w' => e = .returned (.int .i64 ((k + imCount d : Nat) : Int)) ∧ OwnIm w' a b v (imMarked k d) ∧ Upd a b w w' := by
  obtain ⟨vl, rfl, hv⟩ := hv
  obtain ⟨x0, x1, x2, x3, zs⟩ := d
  simp only [ims, imv, imCount, imMarked] at hL hv ⊢
  have hB := Upd.of_below ((Below.refl w.heap.size w).alloc (Nat.le_refl _) (.cells #[.int .i64 x0, .int .i64 x1, .int .i64 x2, .int .i64 x3, vl] 25)) a b
  have hv1 := hv.keep (Upd.of_below ((Below.refl w.heap.size w).alloc (Nat.le_refl _) (.cells #[.int .i64 x0, .int .i64 x1, .int .i64 x2, .int .i64 x3, vl] 25)) 0 0)
  have hM := hide (markIntS_own a b vl k zs _ hL hk hv1)
  replace hB := hide hB
  clear hv1 hv
  go_enter Tryd.func17, Tryd.ntmps17
  go_wp2_with fail
  refine (unhide hM).mono ?_
  rintro e' w1 ⟨rfl, ho, hu⟩
  replace hu := hide ((unhide hB).trans hu)
  replace ho := hide ho
  clear hM
  go_wp2
  go_ret
  exact ⟨rfl, ⟨vl, rfl, unhide ho⟩, unhide hu⟩

set_option maxHeartbeats 1000000 in
theorem heldImage_own {w : World} {a b : Nat} {v : Value} {d : Im} (k : Nat) (hL : (ims d).length ≤ 1048576) (hk : k ≤ 1099511627776) (hv : OwnIm w a b v (imMarked k d)) :
    Calls Tryd.prog 23 #[v, .int .i64 k] w fun e w' => e = .returned (.int .i64 ((k + imCount d : Nat) : Int)) ∧ Upd 0 0 w w' := by
  obtain ⟨vl, rfl, hv⟩ := hv
  obtain ⟨x0, x1, x2, x3, zs⟩ := d
  simp only [ims, imv, imCount, imMarked] at hL hv ⊢
  have hB := Upd.of_below ((Below.refl w.heap.size w).alloc (Nat.le_refl _) (.cells #[.int .i64 x0, .int .i64 x1, .int .i64 x2, .int .i64 x3, vl] 25)) 0 0
  have hv1 := hv.keep hB
  have hM := hide (heldIntS_own a b vl k zs.length _ hL hk hv1)
  replace hB := hide hB
  clear hv1 hv
  go_enter Tryd.func23, Tryd.ntmps23
  go_wp2_with fail
  refine (unhide hM).mono ?_
  rintro e' w1 ⟨rfl, hw⟩
  subst hw
  clear hM
  go_wp2
  go_ret
  exact ⟨rfl, unhide hB⟩
end Go.Proofs.YtdochjkkgmkdgaaDoor

/- Plain: good images. -/
namespace Go.Proofs.YtdochjkkgmkdgaaDoor
open Go.RowKit

/-- Sides, planes and depth. -/
def ShapeOk (w h p dp : Int) : Prop := (1 ≤ w ∧ w ≤ 512) ∧ (1 ≤ h ∧ h ≤ 512) ∧ w * h ≤ 4096 ∧ (1 ≤ p ∧ p ≤ 4) ∧ depthOk dp = true ∧ (p = 1 ∨ 8 ≤ dp)
instance (w h p dp : Int) : Decidable (ShapeOk w h p dp) := by unfold ShapeOk; infer_instance
def shapeB (w h p dp : Int) : Bool := decide (ShapeOk w h p dp)
theorem shapeB_yes {w h p dp : Int} (a : ShapeOk w h p dp) : shapeB w h p dp = true := decide_eq_true a
theorem shapeB_no {w h p dp : Int} (a : ¬ ShapeOk w h p dp) : shapeB w h p dp = false := decide_eq_false a
def GoodIm (d : Im) : Prop := ShapeOk d.1 d.2.1 d.2.2.1 d.2.2.2.1 ∧ (d.2.2.2.2.length : Int) = d.1 * d.2.1 * d.2.2.1 ∧ SmpOk d.2.2.2.2 d.2.2.2.1
noncomputable def goodImB (d : Im) : Bool := open Classical in decide (GoodIm d)
theorem goodImB_yes {d : Im} (h : GoodIm d) : goodImB d = true := by unfold goodImB; simpa using h
theorem goodImB_no {d : Im} (h : ¬ GoodIm d) : goodImB d = false := by unfold goodImB; simpa using h
theorem prod_bd {w h : Int} (hw : 1 ≤ w ∧ w ≤ 512) (hh : 1 ≤ h ∧ h ≤ 512) : ∃ P : Int, w * h = P ∧ 1 ≤ P ∧ P ≤ 262144 := by
  obtain ⟨W, rfl⟩ := Int.eq_ofNat_of_zero_le (show 0 ≤ w by omega)
  obtain ⟨H, rfl⟩ := Int.eq_ofNat_of_zero_le (show 0 ≤ h by omega)
  have h1 : W * H ≤ 512 * 512 := Nat.mul_le_mul (by omega) (by omega)
  have h2 : 1 * 1 ≤ W * H := Nat.mul_le_mul (by omega) (by omega)
  exact ⟨((W * H : Nat) : Int), by simp, by omega, by omega⟩
theorem prod3_bd {P p : Int} (hP : 1 ≤ P ∧ P ≤ 4096) (hp : 1 ≤ p ∧ p ≤ 4) : ∃ Q : Int, P * p = Q ∧ 1 ≤ Q ∧ Q ≤ 16384 := by
  obtain ⟨W, rfl⟩ := Int.eq_ofNat_of_zero_le (show 0 ≤ P by omega)
  obtain ⟨H, rfl⟩ := Int.eq_ofNat_of_zero_le (show 0 ≤ p by omega)
  have h1 : W * H ≤ 4096 * 4 := Nat.mul_le_mul (by omega) (by omega)
  have h2 : 1 * 1 ≤ W * H := Nat.mul_le_mul (by omega) (by omega)
  exact ⟨((W * H : Nat) : Int), by simp, by omega, by omega⟩
end Go.Proofs.YtdochjkkgmkdgaaDoor

/- Chunks, plainly: a number in four bytes, what a name is, the bytes of a chunk; no program is named here. -/
namespace Go.Proofs.YtdochjkkgmkdgaaDoor
open Go.RowKit

def four (n : Nat) : List Nat := [n / 16777216 % 256, n / 65536 % 256, n / 256 % 256, n % 256]
theorem byte_step (v : Nat) (zs : List Nat) (d : Nat) (hd : d % 8 = 0) (h32 : d + 8 ≤ 32) (hz : (ft true v 32 [] 0 d) = zs) (hl : zs.length = d / 8) :
    ft true v 32 [] 0 (d + 8) = zs ++ [v / 2 ^ (24 - d) % 256] := by
  have h := ft_chunk (h := true) (v := v) (n := 32) (zs := []) (L := 0) (inv_nil true) d 7 (by omega) (by omega)
  rw [hz] at h
  have ho : opn zs (0 + d) = zs ++ [0] := by unfold opn; rw [if_pos (by omega)]
  rw [ho] at h
  have hi : (0 + d) / 8 = zs.length := by omega
  rw [hi] at h
  rw [h, List.set_append, if_neg (by omega)]
  have e0 : (zs ++ [0]).getD zs.length 0 = 0 := getD_snoc_last zs 0
  rw [e0]
  have e1 : (0 + d) % 8 = 0 := by omega
  rw [e1]
  simp [chunk, cex, show 32 - d - 8 = 24 - d by omega]
theorem packF_four (n : Nat) : packF true [(32, (n : Int))] = four n := by
  rw [packF_good _ _ (by simp) (by intro j hj; simp at hj; subst hj; unfold okF; simp)]
  have hp : (packTo true [(32, (n : Int))] [(32, (n : Int))].length).1 = ft true n 32 [] 0 32 := by
    simp [packTo, packStep]
  refine hp.trans ?_
  have h1 := byte_step n [] 0 rfl (by omega) rfl rfl
  have h2 := byte_step n _ 8 rfl (by omega) h1 rfl
  have h3 := byte_step n _ 16 rfl (by omega) h2 rfl
  have h4 := byte_step n _ 24 rfl (by omega) h3 rfl
  rw [h4]
  unfold four
  simp
theorem four_length (n : Nat) : (four n).length = 4 := rfl

/-- The bytes of a text. -/
def strB (s : ByteArray) : List Int := s.data.toList.map fun b => (b.toNat : Int)
theorem strB_length (s : ByteArray) : (strB s).length = s.size := by simp [strB]
theorem strB_getD (s : ByteArray) (k : Nat) (h : k < s.size) : (strB s).getD k 0 = ((s[k]'h).toNat : Int) := by
  unfold strB
  rw [List.getD_eq_getElem?_getD, List.getElem?_map, List.getElem?_eq_getElem (by simpa using h)]
  rfl
def letterI (x : Int) : Bool := (decide (97 ≤ x) && decide (x ≤ 122)) || (decide (65 ≤ x) && decide (x ≤ 90))
def nameOk (s : ByteArray) : Prop := s.size = 4 ∧ ∀ k, k < s.size → letterI ((strB s).getD k 0) = true
noncomputable def nameB (s : ByteArray) : Bool := open Classical in decide (nameOk s)
theorem nameB_yes {s : ByteArray} (h : nameOk s) : nameB s = true := by unfold nameB; simpa using h
theorem nameB_no {s : ByteArray} (h : ¬ nameOk s) : nameB s = false := by unfold nameB; simpa using h
theorem crcF_nat (zs : List Int) : ∃ n : Nat, crcF zs = (n : Int) ∧ n < 4294967296 := by
  have h := crcTo_lt zs zs.length
  refine ⟨4294967295 - crcTo zs zs.length, ?_, by omega⟩
  unfold crcF; omega
noncomputable def chunkF (s : ByteArray) (zs : List Int) : List Int :=
  open Classical in if nameOk s ∧ zs.length ≤ 60000 then (four zs.length).map (fun n : Nat => (n : Int)) ++ (strB s ++ zs) ++ (four (crcF (strB s ++ zs)).toNat).map (fun n : Nat => (n : Int)) else []
theorem chunkF_len (s : ByteArray) (zs : List Int) : (chunkF s zs).length ≤ 1048576 := by
  unfold chunkF; split
  · rename_i h
    simp [strB_length, four_length]; have := h.1.1; omega
  · simp
theorem chunkF_yes {s : ByteArray} {zs : List Int} (h1 : nameOk s) (h2 : zs.length ≤ 60000) (n : Nat) (hn : crcF (strB s ++ zs) = (n : Int)) :
    chunkF s zs = (four zs.length).map (fun n : Nat => (n : Int)) ++ (strB s ++ zs) ++ (four n).map (fun n : Nat => (n : Int)) := by
  unfold chunkF; rw [if_pos ⟨h1, h2⟩, hn, Int.toNat_natCast]
theorem chunkF_name {s : ByteArray} {zs : List Int} (h1 : ¬ nameOk s) : chunkF s zs = [] := by unfold chunkF; rw [if_neg (fun h => h1 h.1)]
theorem chunkF_long {s : ByteArray} {zs : List Int} (h2 : ¬ zs.length ≤ 60000) : chunkF s zs = [] := by unfold chunkF; rw [if_neg (fun h => h2 h.2)]
end Go.Proofs.YtdochjkkgmkdgaaDoor

/- Cells of a block that may be written, known one by one. -/
namespace Go.Proofs.YtdochjkkgmkdgaaDoor
open Go.RowKit

def HeldF (w : World) (g : Nat) (cs : List Value) : Prop := Held w g cs ∧ ∀ j, w.frozen? ⟨g, j, none⟩ = false
theorem heldF_new (w : World) (cs : List Value) (t : TypeId) : HeldF (w.alloc (.cells cs.toArray t)) w.heap.size cs :=
  ⟨held_new w cs t, fun _ => World.frozen?_alloc_at _ _ _ _ rfl⟩
theorem HeldF.upd {w w' : World} {g c e : Nat} {cs : List Value} (h : HeldF w g cs) (u : Upd c e w w') (hd : g + 1 ≤ c ∨ e ≤ g) : HeldF w' g cs :=
  ⟨h.1.upd u hd, fun j => (World.frozen?_of_block (a := ⟨g, j, none⟩) (u.block g h.1.1 (by omega))).trans (h.2 j)⟩
theorem HeldF.keep {w w' : World} {g : Nat} {cs : List Value} (h : HeldF w g cs) (u : Upd 0 0 w w') : HeldF w' g cs := h.upd u (.inr (Nat.zero_le _))
theorem HeldF.other {w : World} {g : Nat} {cs : List Value} (h : HeldF w g cs) {g' : Nat} (hne : g' ≠ g) (o : Nat) (u : Value) : HeldF (w.setCell ⟨g', o, none⟩ u) g cs := by
  refine ⟨⟨by simpa using h.1.1, fun j v hj => ?_⟩, fun j => ?_⟩
  · rw [World.cell?_setCell_other _ _ _ _ (by simp_all; try omega)]; exact h.1.2 j v hj
  · rw [World.frozen?_setCell]; exact h.2 j
theorem HeldF.set {w : World} {g : Nat} {cs : List Value} (h : HeldF w g cs) (o : Nat) (u : Value) (ho : o < cs.length) : HeldF (w.setCell ⟨g, o, none⟩ u) g (cs.set o u) := by
  refine ⟨⟨by simpa using h.1.1, fun j v hj => ?_⟩, fun j => ?_⟩
  · by_cases e : o = j
    · subst e
      rw [List.getElem?_set_self ho] at hj
      cases hj
      exact World.cell?_setCell_same _ _ _ (h.1.2 o _ (List.getElem?_eq_getElem ho))
    · rw [List.getElem?_set_ne e] at hj
      rw [World.cell?_setCell_other _ _ _ _ (by simp_all; try omega)]; exact h.1.2 j v hj
  · rw [World.frozen?_setCell]; exact h.2 j
theorem Own.set' {e : TypeId} {s : Nat} {w : World} {a b : Nat} {v : Value} {n : Nat} {xs : List Value} (h : Own e s w a b v n xs) {c : Nat} (hc : c < a) (o : Nat) (u : Value) : Own e s (w.setCell ⟨c, o, none⟩ u) a b v n xs :=
  ⟨ownsRow_setCell_below h.1 hc u, h.2⟩
end Go.Proofs.YtdochjkkgmkdgaaDoor

/- Lists of Notes: 2 numbers each; the walks of the laws' own helpers on them. -/
namespace Go.Proofs.YtdochjkkgmkdgaaDoor
open Go.RowKit

abbrev Nt := ByteArray × ByteArray
abbrev Nt0 : Nt := (⟨#[]⟩, ⟨#[]⟩)
def cellsNt (ps : List Nt) : List Value := ps.flatMap fun p => [.string p.1, .string p.2]
theorem cellsNt_length (ps : List Nt) : (cellsNt ps).length = ps.length * 2 := by
  induction ps with
  | nil => rfl
  | cons p ps ih => unfold cellsNt at ih ⊢; rw [List.flatMap_cons, List.length_append, ih]; simp; omega
theorem cellsNt_snoc (ps : List Nt) (p : Nt) : cellsNt (ps ++ [p]) = cellsNt ps ++ [.string p.1, .string p.2] := by unfold cellsNt; simp
def RowNt (ys : List Value) (ps : List Nt) (k : Nat) : Prop := ∀ j, j < k → ys[j * 2]? = some (.string (ps.getD j Nt0).1) ∧ ys[j * 2 + 1]? = some (.string (ps.getD j Nt0).2)
theorem cellsNt_at (ps : List Nt) : RowNt (cellsNt ps) ps ps.length := by
  induction ps with
  | nil => intro j hj; simp at hj
  | cons p ps ih =>
    intro j hj
    have e : cellsNt (p :: ps) = [.string p.1, .string p.2] ++ cellsNt ps := by unfold cellsNt; simp
    rw [e]
    cases j with
    | zero => exact ⟨rfl, rfl⟩
    | succ j =>
      have h := ih j (by simpa using hj)
      rw [List.getElem?_append_right (by simp; omega), List.getElem?_append_right (by simp; omega)]
      simp only [List.length_cons, List.length_nil, List.getD_cons_succ]
      rw [show (j + 1) * 2 - (0 + 1 + 1) = j * 2 by omega, show (j + 1) * 2 + 1 - (0 + 1 + 1) = j * 2 + 1 by omega]
      exact h
theorem cellsNt_of {ys : List Value} {ps : List Nt} (hl : ys.length = ps.length * 2) (h : RowNt ys ps ps.length) : ys = cellsNt ps := by
  apply List.ext_getElem?
  intro i
  by_cases hi : i < ps.length * 2
  · have h1 := h (i / 2) (by omega)
    have h2 := cellsNt_at ps (i / 2) (by omega)
    rcases (show i = i / 2 * 2 ∨ i = i / 2 * 2 + 1 by omega) with e | e
    · rw [e, h1.1, h2.1]
    · rw [e, h1.2, h2.2]
  · rw [List.getElem?_eq_none (by omega), List.getElem?_eq_none (by rw [cellsNt_length]; omega)]
def AtNt (w : World) (b off : Nat) (ps : List Nt) : Prop := ∀ j, j < ps.length → w.cell? ⟨b, off + j * 2, none⟩ = some (.string (ps.getD j Nt0).1) ∧ w.cell? ⟨b, off + j * 2 + 1, none⟩ = some (.string (ps.getD j Nt0).2)
def InNt (ps : List Nt) : Prop := ∀ j, (ps.getD j Nt0).1.size ≤ 9223372036854775807 ∧ (ps.getD j Nt0).2.size ≤ 9223372036854775807
def ArgNt (w : World) (ad : Option Addr) (ps : List Nt) : Prop := ps ≠ [] → ∃ b off, ad = some ⟨b, off, none⟩ ∧ b < w.heap.size ∧ AtNt w b off ps
theorem ArgNt.below {w w' : World} {ad : Option Addr} {ps : List Nt} (h : ArgNt w ad ps) (hb : Below w.heap.size w w') : ArgNt w' ad ps := by
  intro hne
  obtain ⟨b, off, e, hl, hc⟩ := h hne
  exact ⟨b, off, e, Nat.lt_of_lt_of_le hl hb.size, fun j hj => ⟨(hb.cell (by simpa using hl)).trans (hc j hj).1, (hb.cell (by simpa using hl)).trans (hc j hj).2⟩⟩
def RdNt (w : World) (v : Value) (ps : List Nt) : Prop := ∃ ad cap, v = .slice ad ps.length cap ∧ ArgNt w ad ps
theorem RdNt.below {w w' : World} {v : Value} {ps : List Nt} (h : RdNt w v ps) (hb : Below w.heap.size w w') : RdNt w' v ps := by
  obtain ⟨ad, cap, e, h⟩ := h
  exact ⟨ad, cap, e, h.below hb⟩
end Go.Proofs.YtdochjkkgmkdgaaDoor

/- Notes as arguments and answers; the walks of the laws' own helpers on them. -/
namespace Go.Proofs.YtdochjkkgmkdgaaDoor
open Go.RowKit

abbrev N1 := ByteArray × ByteArray
abbrev N1v (d : N1) : Value := .agg #[.string d.1, .string d.2]
def RdN1 (_w : World) (v : Value) (d : N1) : Prop := v = N1v d
def OwnN1 (_w : World) (_a _b : Nat) (v : Value) (d : N1) : Prop := v = N1v d
theorem OwnN1.rd {w : World} {a b : Nat} {v : Value} {d : N1} (h : OwnN1 w a b v d) : RdN1 w v d := h
theorem RdN1.below {w w' : World} {v : Value} {d : N1} (h : RdN1 w v d) (_hb : Below w.heap.size w w') : RdN1 w' v d := h
theorem OwnN1.upd {w w' : World} {a b c e : Nat} {v : Value} {d : N1} (h : OwnN1 w a b v d) (_u : Upd c e w w') (_hd : b ≤ c ∨ e ≤ a) : OwnN1 w' a b v d := h
theorem OwnN1.keep {w w' : World} {a b : Nat} {v : Value} {d : N1} (h : OwnN1 w a b v d) (_u : Upd 0 0 w w') : OwnN1 w' a b v d := h
theorem OwnN1.form {w : World} {a b : Nat} {v : Value} {d : N1} (h : OwnN1 w a b v d) : v = N1v d := h
def N1Count (_d : N1) : Nat := 0
def N1Marked (_k : Nat) (d : N1) : N1 := d
/-- All numbers fit. -/
def InN1 (d : N1) : Prop := d.1.size ≤ 9223372036854775807 ∧ d.2.size ≤ 9223372036854775807

end Go.Proofs.YtdochjkkgmkdgaaDoor

/- Lists of notes: how much they hold. -/
namespace Go.Proofs.YtdochjkkgmkdgaaDoor
open Go.RowKit

def ntTo (ps : List Nt) (k : Nat) : Nat := ((ps.take k).map fun p => p.1.size + p.2.size).sum
def ntSize (ps : List Nt) : Nat := ps.length + ntTo ps ps.length
theorem ntTo_succ (ps : List Nt) (k : Nat) (h : k < ps.length) : ntTo ps (k + 1) = ntTo ps k + ((ps.getD k Nt0).1.size + (ps.getD k Nt0).2.size) := by
  unfold ntTo; rw [take_snoc_getD ps Nt0 k h]; simp
theorem ntTo_le (ps : List Nt) (k : Nat) : ntTo ps k ≤ ntTo ps ps.length := by
  have e : ntTo ps ps.length = ntTo ps k + ((ps.drop k).map fun p => p.1.size + p.2.size).sum := by
    unfold ntTo; rw [List.take_length, ← List.sum_append, ← List.map_append, List.take_append_drop]
  omega

end Go.Proofs.YtdochjkkgmkdgaaDoor

/- Stills as arguments and answers; the walks of the laws' own helpers on them. -/
namespace Go.Proofs.YtdochjkkgmkdgaaDoor
open Go.RowKit

abbrev St := Im × List Int × List Nt × Bool
abbrev Stv (d : St) (v0 v1 v2 : Value) : Value := .agg #[.int .i64 d.1.1, .int .i64 d.1.2.1, .int .i64 d.1.2.2.1, .int .i64 d.1.2.2.2.1, v0, v1, v2, .bool d.2.2.2]
def RdSt (w : World) (v : Value) (d : St) : Prop := ∃ v0 v1 v2, v = Stv d v0 v1 v2 ∧ RdI w v0 d.1.2.2.2.2 ∧ RdI w v1 d.2.1 ∧ RdNt w v2 d.2.2.1
theorem RdSt.below {w w' : World} {v : Value} {d : St} (h : RdSt w v d) (hb : Below w.heap.size w w') : RdSt w' v d := by
  obtain ⟨v0, v1, v2, rfl, h0, h1, h2⟩ := h
  exact ⟨v0, v1, v2, rfl, h0.below hb, h1.below hb, h2.below hb⟩
/-- All numbers fit. -/
def InSt (d : St) : Prop := InIm d.1 ∧ InI d.2.1 ∧ InNt d.2.2.1
def StSize (d : St) : Nat := d.1.2.2.2.2.length + d.2.1.length + ntSize d.2.2.1
def StCount (d : St) : Nat := d.1.2.2.2.2.length + d.2.1.length + 2 * d.2.2.1.length

end Go.Proofs.YtdochjkkgmkdgaaDoor

/- Plain: good stills. -/
namespace Go.Proofs.YtdochjkkgmkdgaaDoor
open Go.RowKit

def rowOf (w p d : Int) : Int := (w * p * d + 7) / 8
def sidesOf (a b : Int) (wv : Bool) : List (Int × Int) := if wv then (passTo a b 7).map (fun q : Ps => (q.2.2.2.2.1, q.2.2.2.2.2)) else [(a, b)]
def totTo (l : List (Int × Int)) (p d : Int) (k : Nat) : Int := ((l.take k).map fun x => x.2 * (1 + rowOf x.1 p d)).sum
def totOf (m : Im) (wv : Bool) : Int := totTo (sidesOf m.1 m.2.1 wv) m.2.2.1 m.2.2.2.1 (sidesOf m.1 m.2.1 wv).length
theorem totTo_succ (l : List (Int × Int)) (p d : Int) (k : Nat) (h : k < l.length) : totTo l p d (k + 1) = totTo l p d k + (l.getD k (0, 0)).2 * (1 + rowOf (l.getD k (0, 0)).1 p d) := by
  unfold totTo; rw [take_snoc_getD l (0, 0) k h]; simp
def InSide (l : List (Int × Int)) : Prop := ∀ j, j < l.length → (1 ≤ (l.getD j (0, 0)).1 ∧ (l.getD j (0, 0)).1 ≤ 512) ∧ (1 ≤ (l.getD j (0, 0)).2 ∧ (l.getD j (0, 0)).2 ≤ 512)

theorem cntK_bd {n : Int} (hn : 1 ≤ n ∧ n ≤ 512) (k : Nat) (hk : k < 7) : cntF n (passAt k).1 (passAt k).2.2.1 ≤ 512 ∧ cntF n (passAt k).2.1 (passAt k).2.2.2 ≤ 512 := by
  match k, hk with
  | 0, _ | 1, _ | 2, _ | 3, _ | 4, _ | 5, _ | 6, _ =>
    constructor <;> (unfold cntF passAt passT; simp; try (split <;> omega))
theorem passTo_in {a b : Int} (ha : 1 ≤ a ∧ a ≤ 512) (hb : 1 ≤ b ∧ b ≤ 512) (k : Nat) (hk : k ≤ 7) : ∀ q ∈ passTo a b k, (1 ≤ q.2.2.2.2.1 ∧ q.2.2.2.2.1 ≤ 512) ∧ (1 ≤ q.2.2.2.2.2 ∧ q.2.2.2.2.2 ≤ 512) := by
  induction k with
  | zero => intro q hq; simp [passTo] at hq
  | succ k ih =>
    intro q hq
    rw [passTo, List.mem_append] at hq
    rcases hq with hq | hq
    · exact ih (by omega) q hq
    · unfold passAdd at hq
      split at hq
      · rename_i h
        have h1 := (cntK_bd ha k (by omega)).1
        have h2 := (cntK_bd hb k (by omega)).2
        simp [passOne] at hq
        subst hq
        exact ⟨⟨by simp only; omega, by simp only; omega⟩, by simp only; omega, by simp only; omega⟩
      · simp at hq
theorem sidesOf_in {a b : Int} (wv : Bool) (ha : 1 ≤ a ∧ a ≤ 512) (hb : 1 ≤ b ∧ b ≤ 512) : InSide (sidesOf a b wv) := by
  intro j hj
  cases wv with
  | false => simp [sidesOf] at hj ⊢; subst hj; simp; omega
  | true =>
    simp only [sidesOf, if_true] at hj ⊢
    rw [List.getD_eq_getElem?_getD, List.getElem?_eq_getElem hj]
    have := passTo_in ha hb 7 (Nat.le_refl _) _ (List.getElem_mem (by simpa using hj : j < (passTo a b 7).length))
    simpa using this
theorem sidesOf_len (a b : Int) (wv : Bool) : (sidesOf a b wv).length ≤ 7 := by
  cases wv with
  | false => simp [sidesOf]
  | true => simp [sidesOf]; exact passTo_len a b 7
theorem rowOf_bd {w p d : Int} (hw : 1 ≤ w ∧ w ≤ 512) (hp : 1 ≤ p ∧ p ≤ 4) (hd : 1 ≤ d ∧ d ≤ 16) : ∃ x y : Int, w * p = x ∧ x * d = y ∧ (1 ≤ x ∧ x ≤ 2048) ∧ 1 ≤ y ∧ y ≤ 32768 ∧ rowOf w p d = (y + 7) / 8 := by
  obtain ⟨W, rfl⟩ := Int.eq_ofNat_of_zero_le (show 0 ≤ w by omega)
  obtain ⟨P, rfl⟩ := Int.eq_ofNat_of_zero_le (show 0 ≤ p by omega)
  obtain ⟨D, rfl⟩ := Int.eq_ofNat_of_zero_le (show 0 ≤ d by omega)
  have h1 : W * P ≤ 512 * 4 := Nat.mul_le_mul (by omega) (by omega)
  have h2 : 1 * 1 ≤ W * P := Nat.mul_le_mul (by omega) (by omega)
  have h3 : W * P * D ≤ 2048 * 16 := Nat.mul_le_mul (by omega) (by omega)
  have h4 : 1 * 1 ≤ W * P * D := Nat.mul_le_mul (by omega) (by omega)
  refine ⟨((W * P : Nat) : Int), ((W * P * D : Nat) : Int), by simp, by simp, ⟨by omega, by omega⟩, by omega, by omega, ?_⟩
  unfold rowOf; simp
theorem part_bd {h r : Int} (hh : 1 ≤ h ∧ h ≤ 512) (hr : 1 ≤ r ∧ r ≤ 4097) : ∃ y : Int, h * (1 + r) = y ∧ 1 ≤ y ∧ y ≤ 4000000 := by
  obtain ⟨H, rfl⟩ := Int.eq_ofNat_of_zero_le (show 0 ≤ h by omega)
  obtain ⟨R, hR⟩ := Int.eq_ofNat_of_zero_le (show 0 ≤ 1 + r by omega)
  have h1 : H * R ≤ 512 * 4098 := Nat.mul_le_mul (by omega) (by omega)
  have h2 : 1 * 1 ≤ H * R := Nat.mul_le_mul (by omega) (by omega)
  exact ⟨((H * R : Nat) : Int), by rw [hR]; simp, by omega, by omega⟩
theorem totTo_bd {l : List (Int × Int)} {p d : Int} (hl : InSide l) (hp : 1 ≤ p ∧ p ≤ 4) (hd : 1 ≤ d ∧ d ≤ 16) (k : Nat) (hk : k ≤ l.length) : 0 ≤ totTo l p d k ∧ totTo l p d k ≤ 4000000 * k := by
  induction k with
  | zero => simp [totTo]
  | succ k ih =>
    have := ih (by omega)
    rw [totTo_succ l p d k (by omega)]
    obtain ⟨h1, h2⟩ := hl k (by omega)
    obtain ⟨x, y, _, _, _, y1, y2, hr⟩ := rowOf_bd h1 hp hd
    obtain ⟨z, hz, z1, z2⟩ := part_bd h2 (r := rowOf (l.getD k (0, 0)).1 p d) (by omega)
    rw [hz]; omega

def ColOk (zs : List Int) : Prop := zs.length ≤ 256 ∧ ∀ j, j < zs.length → 0 ≤ zs.getD j 0 ∧ zs.getD j 0 ≤ 16777215
def SmpIn (zs : List Int) (n : Nat) : Prop := ∀ j, j < zs.length → zs.getD j 0 < (n : Int)
def PalOk (d : St) : Prop := 0 < d.2.1.length → d.1.2.2.1 = 1 ∧ d.1.2.2.2.1 ≤ 8 ∧ SmpIn (ims d.1) d.2.1.length
def KeyOk (s : ByteArray) : Prop := (1 ≤ s.size ∧ s.size ≤ 40) ∧ ∀ k, k < s.size → 32 ≤ (strB s).getD k 0 ∧ (strB s).getD k 0 ≤ 126
def ValOk (s : ByteArray) : Prop := s.size ≤ 1000 ∧ ∀ k, k < s.size → (strB s).getD k 0 ≠ 0
def NoteOk (n : Nt) : Prop := KeyOk n.1 ∧ ValOk n.2
def NotesOk (ps : List Nt) : Prop := ps.length ≤ 20 ∧ ∀ j, j < ps.length → NoteOk (ps.getD j Nt0)
def GoodSt (d : St) : Prop := GoodIm d.1 ∧ ColOk d.2.1 ∧ PalOk d ∧ NotesOk d.2.2.1 ∧ totOf d.1 d.2.2.2 ≤ 6000
noncomputable def pB (p : Prop) : Bool := open Classical in decide p
theorem pB_yes {p : Prop} (h : p) : pB p = true := by unfold pB; simpa using h
theorem pB_no {p : Prop} (h : ¬ p) : pB p = false := by unfold pB; simpa using h
end Go.Proofs.YtdochjkkgmkdgaaDoor

/- The rows of an image's samples: each a piece of the list itself. -/
namespace Go.Proofs.YtdochjkkgmkdgaaDoor
open Go.RowKit

theorem infoLI : (Tryd.prog.info? 23).map (fun i => (i.zero, i.size, i.bytes)) = some (some (.slice none 0 0), 1, 24) := by kernel_rfl
/-- A piece of a block of numbers. -/
def piece (g o n : Nat) : Value := .slice (some ⟨g, o, none⟩) n n
def partRows (g n H k : Nat) : List Value := (List.range H).map fun y => if y < k then piece g (y * n) n else .slice none 0 0
theorem partRows_length (g n H k : Nat) : (partRows g n H k).length = H := by simp [partRows]
theorem partRows_zero (g n H : Nat) : partRows g n H 0 = List.replicate H (.slice none 0 0) := by
  apply List.ext_getElem?
  intro i
  by_cases h : i < H
  · simp [partRows, h]
  · rw [List.getElem?_eq_none (by simp [partRows]; omega), List.getElem?_eq_none (by simp; omega)]
theorem partRows_set (g n H k : Nat) (h : k < H) : (partRows g n H k).set k (piece g (k * n) n) = partRows g n H (k + 1) := by
  apply List.ext_getElem?
  intro i
  by_cases hi : i < H
  · by_cases e : i = k
    · subst e
      rw [List.getElem?_set_self (by rw [partRows_length]; exact hi)]
      simp [partRows, hi]
    · rw [List.getElem?_set_ne (by omega)]
      have : (i < k + 1) = (i < k) := propext ⟨fun h => by omega, fun h => by omega⟩
      simp [partRows, hi, this]
  · rw [List.getElem?_eq_none (by simp [partRows]; omega), List.getElem?_eq_none (by simp [partRows]; omega)]

set_option maxHeartbeats 4000000 in
set_option maxRecDepth 100000 in
theorem implSampleRows (W H P g cap L : Nat) (dp : Int) (w : World) (hW : 1 ≤ W ∧ W ≤ 512) (hH : 1 ≤ H ∧ H ≤ 512) (hP : 1 ≤ P ∧ P ≤ 4) (hL : L = H * (W * P)) (hcap : L ≤ cap) :
    Calls Tryd.prog 50 #[.agg #[.int .i64 W, .int .i64 H, .int .i64 P, .int .i64 dp, .slice (some ⟨g, 0, none⟩) L cap]] w fun e w' => ∃ v, e = .returned v ∧ Own 23 1 w' w.heap.size w'.heap.size v H (partRows g (W * P) H H) ∧ Upd 0 0 w w' := by
  obtain ⟨i0, hi, hz0, hz1, hz2⟩ := info_parts infoLI
  have hn : 1 ≤ W * P ∧ W * P ≤ 2048 := ⟨Nat.mul_pos hW.1 hP.1, Nat.le_trans (Nat.mul_le_mul hW.2 hP.2) (by omega)⟩
  have hH2 := held_new w [.int .i64 (W : Int), .int .i64 (H : Int), .int .i64 (P : Int), .int .i64 dp, .slice (some ⟨g, 0, none⟩) L cap] 25
  have hU := (Below.refl w.heap.size w).alloc (Nat.le_refl _) (.cells #[.int .i64 W, .int .i64 H, .int .i64 P, .int .i64 dp, .slice (some ⟨g, 0, none⟩) L cap] 25)
  have hm : (W : Int) * (P : Int) = ((W * P : Nat) : Int) := by simp
  generalize hn0 : W * P = n at hn hm hL ⊢
  subst hL
  go_enter Tryd.func50, Tryd.ntmps50
  have hs1 : (w.alloc (.cells #[.int .i64 W, .int .i64 H, .int .i64 P, .int .i64 dp, .slice (some ⟨g, 0, none⟩) (H * n) cap] 25)).heap.size = w.heap.size + 1 := by simp
  go_wp2_with (at_make; generalize w.alloc (.cells #[.int .i64 W, .int .i64 H, .int .i64 P, .int .i64 dp, .slice (some ⟨g, 0, none⟩) (H * n) cap] 25) = W1 at hH2 hU hs1 ⊢; refine wpList_make_full _ rfl _ _ 49 rfl W1.heap.size 23 i0 (.slice none 0 0) 1 Tryd.underlying49 hi hz0 hz1 .i64 .i64 _ _ H rfl rfl (by omega) (by omega) (by rw [hz2]; omega) (by unfold maxLen; omega) (Nat.le_refl _) ?_; intro w1 hown hgrow)
  have hb1 := (Below.refl W1.heap.size W1).grown hgrow (Nat.le_refl _) (by simp)
  rw [show (madeCells (Value.cells (.slice none 0 0)) (H * 1)).toList = partRows g n H 0 by rw [partRows_zero, List.eq_replicate_iff]; refine ⟨by simp [madeCells], fun b hb => ?_⟩; simp [madeCells, Value.cells, Nat.mod_one] at hb; exact hb.2.symm] at hown
  have hB := hU.trans (hb1.mono (by omega))
  have c4 := (hb1.cell (p := ⟨w.heap.size, 4, none⟩) (by simp; omega)).trans (hH2.2 4 _ rfl)
  clear hgrow hb1 hH2 hU
  rw [hs1] at hown
  go_loopw [16] (fun i wr => ∃ y : Nat, y ≤ H ∧ i = .int .i64 y ∧ wr.ownsRow (w.heap.size + 1) 23 1 (.slice (some ⟨w.heap.size + 1, 0, none⟩) H H) H (partRows g n H y) ∧ wr.cell? ⟨w.heap.size, 4, none⟩ = some (.slice (some ⟨g, 0, none⟩) (H * n) cap) ∧ Below w.heap.size w wr) (fun i _ => H - (intOf i).toNat)
  case atStart => exact ⟨0, Nat.zero_le _, rfl, hown, c4, hB⟩
  case round =>
    clear hown c4 hB
    obtain ⟨y, hy, rfl, hown, c4, hB⟩ := hrel
    by_cases hlt : y < H
    · obtain ⟨q, hq⟩ : ∃ q, q = y * n := ⟨_, rfl⟩
      have h1 : (y : Int) * (n : Int) = (q : Int) := by rw [hq]; simp
      have h2 : ((y : Int) + 1) * (n : Int) = ((q + n : Nat) : Int) := by rw [Int.add_mul, h1]; simp
      have h3 : q + n ≤ H * n := by rw [hq]; calc y * n + n = (y + 1) * n := by rw [Nat.add_mul, Nat.one_mul]
                                                  _ ≤ H * n := Nat.mul_le_mul_right _ (by omega)
      have h4 : q + n ≤ 1048576 := by have : H * n ≤ 512 * 2048 := Nat.mul_le_mul hH.2 hn.2; omega
      have hset := hide (partRows_set g n H y hlt)
      have hl := partRows_length g n H y
      have e0 : ∃ a, wr.cell? ⟨w.heap.size + 1, y, none⟩ = some a := by rw [hown.cellAt _ (by omega)]; exact ⟨_, List.getElem?_eq_getElem (by omega)⟩
      obtain ⟨a0, e0⟩ := e0
      have f0 := hown.frozenAt y
      have hst := hide ((hown.stored y (piece g (y * n) n)).1)
      have hB2 := hide (hB.setCell (p := ⟨w.heap.size + 1, y, none⟩) (by simp) (piece g (y * n) n))
      have c42 := hide ((World.cell?_setCell_far wr ⟨w.heap.size + 1, y, none⟩ ⟨w.heap.size, 4, none⟩ (piece g (y * n) n) (by simp)).trans c4)
      rw [unhide hset] at hst
      simp only [piece, ← hq] at hst hB2 c42
      clear hown hB hl hset hq
      go_wp2
      trace_state
      go_roundw
      case rel => exact ⟨y + 1, by omega, by go_num, unhide hst, unhide c42, unhide hB2⟩
      case measure => simp [intOf]; omega
    · have hyH : y = H := by omega
      subst hyH
      replace hown := hide (Own.of hown)
      replace hB := hide hB
      go_wp2
      go_ret
      exact ⟨_, rfl, own_mono (unhide hown) (by omega) (Nat.le_refl _), Upd.of_below (unhide hB) 0 0⟩
end Go.Proofs.YtdochjkkgmkdgaaDoor

/- The pixels of a pass: each a piece of the image's own samples. -/
namespace Go.Proofs.YtdochjkkgmkdgaaDoor
open Go.RowKit

def pixRow (g n P X SX r k : Nat) : List Value := (List.range k).map fun x => piece g (r * n + (X + x * SX) * P) P
def pixAll (g n P X Y SX SY Pw y : Nat) : List Value := (List.range y).flatMap fun y => pixRow g n P X SX (Y + y * SY) Pw
theorem pixRow_succ (g n P X SX r k : Nat) : pixRow g n P X SX r (k + 1) = pixRow g n P X SX r k ++ [piece g (r * n + (X + k * SX) * P) P] := by simp [pixRow, List.range_succ]
theorem pixAll_succ (g n P X Y SX SY Pw y : Nat) : pixAll g n P X Y SX SY Pw (y + 1) = pixAll g n P X Y SX SY Pw y ++ pixRow g n P X SX (Y + y * SY) Pw := by simp [pixAll, List.range_succ]
theorem partRows_at (g n H r : Nat) (h : r < H) : (partRows g n H H)[r]? = some (piece g (r * n) n) := by simp [partRows, h]
theorem one_newI (w : World) (u : Value) : ∀ j v, [u][j]? = some v → (w.alloc (.cells #[u] 23)).cell? ((⟨w.heap.size, 0, none⟩ : Addr).add j) = some v := by
  intro j v hj
  match j, hj with
  | 0, hj => simp at hj; subst hj; simp [Addr.add]

set_option maxHeartbeats 8000000 in
set_option maxRecDepth 100000 in
theorem implPixels (X Y SX SY Pw Ph W H P g cap L : Nat) (dp : Int) (w : World) (hW : 1 ≤ W ∧ W ≤ 512) (hH : 1 ≤ H ∧ H ≤ 512) (hP : 1 ≤ P ∧ P ≤ 4) (hL : L = H * (W * P)) (hcap : L ≤ cap)
    (hX : ∀ x, x < Pw → X + x * SX < W) (hY : ∀ y, y < Ph → Y + y * SY < H) (hw : Pw ≤ 512) (hh : Ph ≤ 512) :
    Calls Tryd.prog 27 #[.agg #[.int .i64 X, .int .i64 Y, .int .i64 SX, .int .i64 SY, .int .i64 Pw, .int .i64 Ph], .agg #[.int .i64 W, .int .i64 H, .int .i64 P, .int .i64 dp, .slice (some ⟨g, 0, none⟩) L cap]] w
      fun e w' => ∃ v, e = .returned v ∧ Own 23 1 w' w.heap.size w'.heap.size v (Ph * Pw) (pixAll g (W * P) P X Y SX SY Pw Ph) ∧ Upd 0 0 w w' := by
  obtain ⟨i0, hi, hz0, hz1, hz2⟩ := info_parts infoLI
  have hS := hide (fun V => implSampleRows W H P g cap L dp V hW hH hP hL hcap)
  have hn : 1 ≤ W * P ∧ W * P ≤ 2048 := ⟨Nat.mul_pos hW.1 hP.1, Nat.le_trans (Nat.mul_le_mul hW.2 hP.2) (by omega)⟩
  have hA2 := held_new w [.int .i64 (X : Int), .int .i64 (Y : Int), .int .i64 (SX : Int), .int .i64 (SY : Int), .int .i64 (Pw : Int), .int .i64 (Ph : Int)] 33
  have hA := hA2.upd (Upd.of_below ((Below.refl _ (w.alloc (.cells #[.int .i64 X, .int .i64 Y, .int .i64 SX, .int .i64 SY, .int .i64 Pw, .int .i64 Ph] 33))).alloc (Nat.le_refl _) (.cells #[.int .i64 W, .int .i64 H, .int .i64 P, .int .i64 dp, .slice (some ⟨g, 0, none⟩) L cap] 25)) 0 0) (.inr (Nat.zero_le _))
  have hB := held_new (w.alloc (.cells #[.int .i64 X, .int .i64 Y, .int .i64 SX, .int .i64 SY, .int .i64 Pw, .int .i64 Ph] 33)) [.int .i64 (W : Int), .int .i64 (H : Int), .int .i64 (P : Int), .int .i64 dp, .slice (some ⟨g, 0, none⟩) L cap] 25
  have hU := ((Below.refl w.heap.size w).alloc (Nat.le_refl _) (.cells #[.int .i64 X, .int .i64 Y, .int .i64 SX, .int .i64 SY, .int .i64 Pw, .int .i64 Ph] 33)).alloc (by simp) (.cells #[.int .i64 W, .int .i64 H, .int .i64 P, .int .i64 dp, .slice (some ⟨g, 0, none⟩) L cap] 25)
  rw [World.size_alloc] at hB
  clear hA2
  replace hX := hide hX
  replace hY := hide hY
  replace hL := hide hL
  replace hcap := hide hcap
  replace hA := hide hA
  replace hB := hide hB
  replace hU := hide hU
  go_enter Tryd.func27, Tryd.ntmps27
  go_wp2_with fail
  refine (unhide hS _).mono ?_
  rintro e w2 ⟨vr, rfl, ho, hu⟩
  have kA := (unhide hA).keep hu
  have kB := (unhide hB).keep hu
  have hU2 := hide ((unhide hU).trans (hu.below (B := w.heap.size) (by simp; omega) (.inr (Nat.zero_le _))))
  have hws : w.heap.size + 2 ≤ w2.heap.size := by have := hu.size; simp at this; omega
  clear hA hB hU hu hS
  generalize hn0 : W * P = n at hn hL ho ⊢
  obtain ⟨gr, capr, rfl⟩ : ∃ gr capr, vr = .slice (some ⟨gr, 0, none⟩) H capr := by
    rcases ho.1.2 with ⟨_, h0⟩ | ⟨gr, capr, cur, rfl, _⟩
    · omega
    · exact ⟨gr, capr, rfl⟩
  have hgr := (ho.1.lt gr rfl).2
  have hRow := hide (fun r (hr : r < H) => (show w2.cell? ⟨gr, r, none⟩ = some (piece g (r * n) n) by rw [ho.1.cellAt r (by omega)]; exact partRows_at g n H r hr))
  clear ho
  have k0 := kA.2 0 _ rfl
  have k1 := kA.2 1 _ rfl
  have k2 := kA.2 2 _ rfl
  have k3 := kA.2 3 _ rfl
  have k4 := kA.2 4 _ rfl
  have k5 := kA.2 5 _ rfl
  have k6 := kB.2 2 _ rfl
  clear kA kB
  have hK := hide (And.intro k0 (And.intro k1 (And.intro k2 (And.intro k3 (And.intro k4 k6)))))
  clear k0 k1 k2 k3 k4 k6
  go_wp2
  clear k5
  go_loopw [6, 15] (fun out i wr => ∃ y : Nat, y ≤ Ph ∧ i = .int .i64 y ∧ Hid (wr.ownsRow w2.heap.size 23 1 out (y * Pw) (pixAll g n P X Y SX SY Pw y)) ∧ Hid (Below w2.heap.size w2 wr)) (fun _ i _ => Ph - (intOf i).toNat)
  case atStart => exact ⟨0, Nat.zero_le _, rfl, by simp [pixAll]; exact hide (World.ownsRow_nil _ _ _ _), hide (Below.refl _ _)⟩
  case round =>
    obtain ⟨y, hy, rfl, hown, hbel⟩ := hrel
    by_cases hlt : y < Ph
    · obtain ⟨q, hq⟩ : ∃ q, q = y * SY := ⟨_, rfl⟩
      have h1 : (y : Int) * (SY : Int) = (q : Int) := by rw [hq]; simp
      have h2 := unhide hY y hlt
      rw [← hq] at h2
      obtain ⟨c0, c1, c2, c3, c4, c6⟩ := unhide hK
      have b1 := ((unhide hbel).cell (p := ⟨w.heap.size, 1, none⟩) (by simp; omega)).trans c1
      have b3 := ((unhide hbel).cell (p := ⟨w.heap.size, 3, none⟩) (by simp; omega)).trans c3
      have b4 := ((unhide hbel).cell (p := ⟨w.heap.size, 4, none⟩) (by simp; omega)).trans c4
      have br := ((unhide hbel).cell (p := ⟨gr, Y + q, none⟩) (by simp; omega)).trans (unhide hRow (Y + q) h2)
      simp only [piece] at br
      have hall := hide (show pixAll g n P X Y SX SY Pw (y + 1) = pixAll g n P X Y SX SY Pw y ++ pixRow g n P X SX (Y + q) Pw by rw [pixAll_succ, hq])
      clear hq c0 c1 c2 c3 c4 c6
      go_wp2
      clear b1 b3 br
      obtain ⟨rn, hrn⟩ : ∃ rn, rn = (Y + q) * n := ⟨_, rfl⟩
      have hprow := hide (show ∀ x, pixRow g n P X SX (Y + q) (x + 1) = pixRow g n P X SX (Y + q) x ++ [piece g (rn + (X + x * SX) * P) P] by intro x; rw [pixRow_succ, hrn])
      rw [← hrn]
      have hr0 : pixRow g n P X SX (Y + q) 0 = [] := rfl
      clear hrn
      have hyp : y * Pw + Pw ≤ 262144 := by have : y * Pw ≤ 511 * 512 := Nat.mul_le_mul (by omega) hw; omega
      obtain ⟨T, hT⟩ : ∃ T, T = y * Pw := ⟨_, rfl⟩
      rw [← hT] at hown hyp
      replace hT := hide hT
      go_loopw [6, 30] (fun out i wq => ∃ x : Nat, x ≤ Pw ∧ i = .int .i64 x ∧ Hid (wq.ownsRow w2.heap.size 23 1 out (T + x) (pixAll g n P X Y SX SY Pw y ++ pixRow g n P X SX (Y + q) x)) ∧ Hid (Below w2.heap.size w2 wq)) (fun _ i _ => Pw - (intOf i).toNat)
      case atStart => exact ⟨0, Nat.zero_le _, rfl, by rw [hr0, List.append_nil]; exact hown, hbel⟩
      case round =>
        clear hown hbel b4
        obtain ⟨x, hx, rfl, hown, hbel⟩ := hrel
        by_cases hlx : x < Pw
        · obtain ⟨p, hp⟩ : ∃ p, p = x * SX := ⟨_, rfl⟩
          have h3 : (x : Int) * (SX : Int) = (p : Int) := by rw [hp]; simp
          have h4 := unhide hX x hlx
          rw [← hp] at h4
          obtain ⟨s, hs⟩ : ∃ s, s = (X + p) * P := ⟨_, rfl⟩
          have h5 : ((X : Int) + (p : Int)) * (P : Int) = (s : Int) := by rw [hs]; simp
          have h6 : s + P ≤ n := by
            rw [hs, ← hn0]
            calc (X + p) * P + P = (X + p + 1) * P := by rw [Nat.add_mul (X + p) 1 P, Nat.one_mul]
              _ ≤ W * P := Nat.mul_le_mul_right _ (by omega)
          have hpr := hide (unhide hprow x)
          rw [← hp, ← hs] at hpr
          obtain ⟨c0, c1, c2, c3, c4, c6⟩ := unhide hK
          have b0 := ((unhide hbel).cell (p := ⟨w.heap.size, 0, none⟩) (by simp; omega)).trans c0
          have b2 := ((unhide hbel).cell (p := ⟨w.heap.size, 2, none⟩) (by simp; omega)).trans c2
          have b6 := ((unhide hbel).cell (p := ⟨w.heap.size + 1, 2, none⟩) (by simp; omega)).trans c6
          clear hp hs c0 c1 c2 c3 c4 c6
          replace hown := unhide hown
          have hbs := (unhide hbel).size
          go_wp2_with (at_builtin; refine wpList_append_own _ rfl (.tmp 43) (.tmp 55) 49 rfl w2.heap.size 23 i0 (.slice none 0 0) 1 24 Tryd.underlying49 hi hz0 hz1 hz2 rfl (by decide) _ _ _ rfl (hown.alloc _) ⟨wr.heap.size, 0, none⟩ 1 1 [.slice (some ⟨g, rn + s, none⟩) P P] rfl rfl (one_newI wr _) (by intro u hu; simp at hu; subst hu; rfl) (by unfold maxLen; omega) (by omega) (by simp; omega) ?_)
          intro v' w3 hown' hgrow _
          have hbel2 := hide (((unhide hbel).alloc (by omega) (.cells #[.slice (some ⟨g, rn + s, none⟩) P P] 23)).grown hgrow (by simp; omega) (fun j hj => (hown.lt j hj).1))
          rw [show [Value.slice (some ⟨g, rn + s, none⟩) P P] = [piece g (rn + s) P] from rfl, ← unhide hpr] at hown'
          replace hown' := hide hown'
          clear hgrow hown hbel hbs b0 b2 b6
          go_wp2
          go_roundw
          case rel => exact ⟨x + 1, by omega, by go_num, hown', hbel2⟩
          case measure => simp [intOf]; omega
        · have hxw : x = Pw := by omega
          subst hxw
          rw [← unhide hall] at hown
          have hT2 : T + x = (y + 1) * x := by rw [unhide hT, Nat.add_mul, Nat.one_mul]
          rw [hT2] at hown
          clear hT2
          go_wp2
          go_roundw
          case rel => exact ⟨y + 1, by omega, by go_num, hown, hbel⟩
          case measure => simp [intOf]; omega
    · have hyp : y = Ph := by omega
      subst hyp
      have ho := hide (Own.of (unhide hown))
      clear hown
      go_wp2
      go_ret
      rw [hn0]
      exact ⟨_, rfl, own_mono (unhide ho) (by omega) (Nat.le_refl _), Upd.of_below ((unhide hU2).trans ((unhide hbel).mono (by omega))) 0 0⟩
end Go.Proofs.YtdochjkkgmkdgaaDoor

/- Appending ints to a row of the call's own, whatever slice they come in. -/
namespace Go.Proofs.YtdochjkkgmkdgaaDoor
open Go.RowKit

theorem ints_lengthA (zs : List Int) : (ints zs).length = zs.length := by simp [ints]
theorem ints_append (a b : List Int) : ints (a ++ b) = ints a ++ ints b := by simp [ints]
theorem ints_one (zs : List Int) : ∀ u ∈ ints zs, u.oneCell' = true := by
  intro u hu
  simp only [ints, List.mem_map] at hu
  obtain ⟨b, _, rfl⟩ := hu
  rfl
theorem ints_cells {w : World} {b off : Nat} {ys : List Int} (h : KindAt .i64 w b off ys) : ∀ j u, (ints ys)[j]? = some u → w.cell? ((⟨b, off, none⟩ : Addr).add j) = some u := by
  intro j u hu
  rw [add_cellAI]
  have hj : j < ys.length := by
    rcases Nat.lt_or_ge j ys.length with h' | h'
    · exact h'
    · rw [List.getElem?_eq_none (by rw [ints_lengthA]; exact h')] at hu; cases hu
  have := getD_map_int ys .i64 j hj
  unfold ints at hu
  rw [this] at hu
  cases hu
  exact h j hj
where
  add_cellAI {g o j : Nat} : (⟨g, o, none⟩ : Addr).add j = ⟨g, o + j, none⟩ := by unfold Addr.add; split <;> simp_all

/-- Ints that can be read: nil, or in the cells of a block. -/
def RdJ (w : World) (u : Value) (ys : List Int) : Prop := (u = .slice none 0 0 ∧ ys = []) ∨ ∃ b off cap, u = .slice (some ⟨b, off, none⟩) ys.length cap ∧ b < w.heap.size ∧ KindAt .i64 w b off ys
theorem RdJ.below {w w' : World} {u : Value} {ys : List Int} (h : RdJ w u ys) (hb : Below w.heap.size w w') : RdJ w' u ys := by
  rcases h with h | ⟨b, off, cap, e, hl, hc⟩
  · exact .inl h
  · exact .inr ⟨b, off, cap, e, Nat.lt_of_lt_of_le hl hb.size, fun j hj => (hb.cell (by simpa using hl)).trans (hc j hj)⟩
theorem RdJ.form {w : World} {u : Value} {ys : List Int} (h : RdJ w u ys) : ∃ ad cap, u = .slice ad ys.length cap := by
  rcases h with ⟨rfl, rfl⟩ | ⟨b, off, cap, rfl, _⟩
  · exact ⟨_, _, rfl⟩
  · exact ⟨_, _, rfl⟩
theorem rdJ_of_owns {w : World} {base : Nat} {v : Value} {zs : List Int} (h : w.ownsRow base 3 1 v zs.length (ints zs)) : RdJ w v zs := by
  rcases h.2 with ⟨rfl, hn⟩ | ⟨g, cap, cur, rfl, h1, h2, h3⟩
  · exact .inl ⟨rfl, List.length_eq_zero_iff.1 hn⟩
  · refine .inr ⟨g, 0, cap, rfl, (h.lt g rfl).2, fun j hj => ?_⟩
    rw [Nat.zero_add, h.cellAt j (by omega)]
    exact getD_map_int zs .i64 j hj
theorem rdJ_of_own {w : World} {a b : Nat} {v : Value} {zs : List Int} (h : OwnI w a b v zs) : RdJ w v zs := rdJ_of_owns h.1

theorem wpList_appI {ops : Array Oper} {rest : List Oper} {o : Oper} {a : Act} {Q : Exit → Act → World → Prop} {w : World} (hgd : o.guard = none) (s x : Operand)
    (ho : o.op = .call { callee := .builtin .append, args := #[s, x], argTypes := #[23, 23] }) (base : Nat) (v : Value) (zs : List Int) (hs : a.eval s = v)
    (hown : w.ownsRow base 3 1 v zs.length (ints zs)) (u : Value) (ys : List Int) (hx : a.eval x = u) (hr : RdJ w u ys) (h63 : zs.length + ys.length ≤ 1099511627776) (hbase : base ≤ w.heap.size)
    (h : ∀ v' w', w'.ownsRow base 3 1 v' (zs ++ ys).length (ints (zs ++ ys)) → w.grownBy w' v.ownBlock → (v'.ownBlock = v.ownBlock ∨ v'.ownBlock = some w.heap.size) → wpList Tryd.prog ops Q rest (a.put o.dst v') w') :
    wpList Tryd.prog ops Q (o :: rest) a w := by
  obtain ⟨i0, hi0, hz0, hz1, hz2⟩ := info_parts infoI
  rcases hr with ⟨rfl, rfl⟩ | ⟨b, off, cap, rfl, hl, hc⟩
  · refine wpList_append_own_none hgd s x 23 ho base 3 i0 1 Tryd.underlying23 hi0 v _ _ hs hown hx ?_
    refine h v w ?_ ⟨rfl, rfl, rfl, Nat.le_refl _, fun _ _ _ => rfl⟩ (.inl rfl)
    rw [List.append_nil]; exact hown
  · refine wpList_append_own_at _ hgd s x 23 ho base 3 i0 (.int .i64 0) 1 8 Tryd.underlying23 hi0 hz0 hz1 hz2 rfl (by decide) v zs.length (ints zs) hs hown ⟨b, off, none⟩ ys.length cap (ints ys) hx (by rw [ints_lengthA]; omega) (ints_cells hc) (ints_one ys) (by unfold maxLen; omega) (by omega) hbase ?_
    intro v' w' h1 h2 _ h4
    refine h v' w' ?_ h2 h4
    rw [List.length_append, ints_append]; exact h1

theorem own_nilI (w : World) (a b : Nat) : OwnI w a b (.slice none 0 0) [] := ⟨World.ownsRow_nil _ _ _ _, fun k hk => by simp [Value.ownBlock] at hk⟩
theorem upd_of_grownI {w w' : World} {a : Nat} {e : TypeId} {s : Nat} {v : Value} {n : Nat} {xs : List Value} (hg : w.grownBy w' v.ownBlock) (ho : w.ownsRow a e s v n xs) : Upd a w.heap.size w w' :=
  ⟨hg.os, hg.tape, hg.output, hg.size, fun k hk hn => hg.block k hk (fun e => by have := ho.lt k e.symm; omega)⟩
end Go.Proofs.YtdochjkkgmkdgaaDoor

/- slices.Grow and slices.Concat of slices of ints: a row of the call's own. -/
namespace Go.Proofs.YtdochjkkgmkdgaaDoor
open Go.RowKit

theorem drewBelowJ (w : World) : Below w.heap.size w w.drew := ⟨rfl, rfl, rfl, Nat.le_refl _, fun _ _ => rfl⟩
theorem upd_of_grownJ {w w' : World} {a : Nat} {e : TypeId} {s : Nat} {v : Value} {n : Nat} {xs : List Value} (hg : w.grownBy w' v.ownBlock) (ho : w.ownsRow a e s v n xs) : Upd a w.heap.size w w' :=
  ⟨hg.os, hg.tape, hg.output, hg.size, fun k hk hn => hg.block k hk (fun e => by have := ho.lt k e.symm; omega)⟩
set_option maxHeartbeats 1000000 in
theorem growJ (n : Nat) (w : World) (hn : n ≤ 1099511627776) :
    Calls Tryd.prog 49 #[.slice none 0 0, .int .i64 n] w fun e w' => ∃ v, e = .returned v ∧ w'.ownsRow w.heap.size 3 1 v 0 [] ∧ Below w.heap.size w w' := by
  by_cases h0 : n = 0
  · subst h0
    go_enter Tryd.func49, Tryd.ntmps49
    go_wp2
    go_ret
    exact ⟨_, rfl, World.ownsRow_nil _ _ _ _, Below.refl _ _⟩
  · have h0' : 0 < n := by omega
    obtain ⟨i0, hi0, hz0, hz1, hz2⟩ := info_parts infoI
    have hrun := Lib.run_append_nil_zeros (P := Tryd.prog) w 23 3 23 3 i0 (.int .i64 0) .i64 .i64 Tryd.underlying23 Tryd.underlying3 hi0 hz0 n h0' (by omega) (by omega) (by rw [hz2]; omega)
    have hge := grownCap_ge w n 0 3
    have hle := grownCap_le_maxLen w n 0 3 (by unfold maxLen; omega)
    have hsize : (Builtin.zeroCells (Value.int .i64 0).cells n ++ Builtin.zeroCells (Value.int .i64 0).cells (grownCap w n 0 3 - n)).size = grownCap w n 0 3 * 1 := by
      rw [Array.size_append, size_zeroCells, size_zeroCells]; simp [Value.cells]; omega
    have hown := World.ownsRow_made (base := w.heap.size) (e := 3) (size := 1) w.drew _ (grownCap w n 0 3) (Nat.le_refl _) hle hsize
    have hbel : Below w.heap.size w (w.drew.alloc (.cells (Builtin.zeroCells (Value.int .i64 0).cells n ++ Builtin.zeroCells (Value.int .i64 0).cells (grownCap w n 0 3 - n)) 3)) := (drewBelowJ w).alloc (Nat.le_refl _) _
    generalize w.drew.alloc (.cells (Builtin.zeroCells (Value.int .i64 0).cells n ++ Builtin.zeroCells (Value.int .i64 0).cells (grownCap w n 0 3 - n)) 3) = w1 at hrun hown hbel
    clear hsize
    generalize grownCap w n 0 3 = cp at hrun hown hge hle
    replace hown := hide hown
    replace hbel := hide hbel
    have hge' : (n : Int) ≤ cp := by omega
    go_enter Tryd.func49, Tryd.ntmps49
    go_wp2_with (at_builtin; go_loud (refine Lib.wpList_append_run _ rfl (.tmp 20) (.tmp 21) _ _ rfl _ _ rfl rfl _ _ hrun ?_))
    go_ret
    exact ⟨_, rfl, unhide hown, unhide hbel⟩
abbrev PartsJ := List (Value × List Int)
def catToJ (ps : PartsJ) (k : Nat) : List Int := ((ps.take k).map (·.2)).flatten
def catFJ (ps : PartsJ) : List Int := (ps.map (·.2)).flatten
theorem catToJ_all (ps : PartsJ) : catToJ ps ps.length = catFJ ps := by unfold catToJ catFJ; rw [List.take_length]
theorem catToJ_succ (ps : PartsJ) (k : Nat) (h : k < ps.length) : catToJ ps (k + 1) = catToJ ps k ++ (ps.getD k (.slice none 0 0, [])).2 := by
  unfold catToJ; rw [take_snoc_getD ps (.slice none 0 0, []) k h]; simp
theorem catToJ_le (ps : PartsJ) (k : Nat) : (catToJ ps k).length ≤ (catFJ ps).length := by
  have : catFJ ps = catToJ ps k ++ ((ps.drop k).map (·.2)).flatten := by
    unfold catFJ catToJ; rw [← List.flatten_append, ← List.map_append, List.take_append_drop]
  rw [this, List.length_append]; omega
/-- Slices of bytes, one behind the other in a block, that can be read. -/
def PartsAtJ (w : World) (b off : Nat) (ps : PartsJ) : Prop := ∀ j, j < ps.length → w.cell? ⟨b, off + j, none⟩ = some (ps.getD j (.slice none 0 0, [])).1 ∧ RdJ w (ps.getD j (.slice none 0 0, [])).1 (ps.getD j (.slice none 0 0, [])).2
theorem partsAtJ_new (w : World) (ps : PartsJ) (t : TypeId) (h : ∀ j, j < ps.length → RdJ w (ps.getD j (.slice none 0 0, [])).1 (ps.getD j (.slice none 0 0, [])).2) :
    PartsAtJ (w.alloc (.cells (ps.map (·.1)).toArray t)) w.heap.size 0 ps := by
  intro j hj
  constructor
  · rw [World.cell?_alloc_at _ _ _ _ rfl, Nat.zero_add]
    simp [List.getD_eq_getElem?_getD, List.getElem?_eq_getElem hj]
  · exact (h j hj).below ((Below.refl w.heap.size w).alloc (Nat.le_refl _) _)
set_option maxHeartbeats 2000000 in
theorem concatJ (b off cap : Nat) (ps : PartsJ) (w : World) (hn : ps.length ≤ 1099511627776) (hl : (catFJ ps).length ≤ 1099511627776) (hb : b < w.heap.size) (hp : PartsAtJ w b off ps) :
    Calls Tryd.prog 26 #[.slice (some ⟨b, off, none⟩) ps.length cap] w fun e w' => ∃ v, e = .returned v ∧ w'.ownsRow w.heap.size 3 1 v (catFJ ps).length (ints (catFJ ps)) ∧ Below w.heap.size w w' := by
  replace hp := hide hp
  have hE := hide (catToJ_all ps)
  replace hl := hide hl
  go_enter Tryd.func26, Tryd.ntmps26
  go_wp2
  go_loop [3, 11] (fun s i => ∃ k : Nat, k ≤ ps.length ∧ i = .int .i64 k ∧ s = .int .i64 ((catToJ ps k).length : Nat)) (fun _ i => ps.length - (intOf i).toNat)
  case atStart => exact ⟨0, Nat.zero_le _, rfl, rfl⟩
  case round =>
    obtain ⟨k, hk, rfl, rfl⟩ := hrel
    by_cases hlt : k < ps.length
    · obtain ⟨hc, hr⟩ := unhide hp k hlt
      have hs := hide (catToJ_succ ps k hlt)
      have hle := catToJ_le ps k
      have hle' := catToJ_le ps (k + 1)
      obtain ⟨ad, cp, hf⟩ := hr.form
      rw [hf] at hc
      have hle2 := hle'
      rw [unhide hs, List.length_append] at hle2
      have hl1 := unhide hl
      clear hr hf
      generalize (ps.getD k (.slice none 0 0, [])).2 = ys at hc hs hle2
      generalize hm : (catToJ ps k).length = m at hle hle2
      have hm' : Hid ((catToJ ps (k + 1)).length = m + ys.length) := hide (by rw [unhide hs, List.length_append, hm])
      clear hs hm hle'
      go_wp2
      go_round
      case rel => exact ⟨k + 1, by omega, by go_num, by rw [unhide hm']; go_num⟩
      case measure => simp [intOf]; omega
    · have hkl : k = ps.length := by omega
      subst hkl
      rw [unhide hE]
      have hl1 := unhide hl
      have hG := hide (growJ (catFJ ps).length w hl1)
      generalize (catFJ ps).length = m at hG hl1
      clear hl1
      go_wp2_with fail
      refine (unhide hG).mono ?_
      rintro e w1 ⟨v1, rfl, ho1, hb1⟩
      clear hG
      replace ho1 := hide ho1
      replace hb1 := hide hb1
      go_wp2
      go_loopw [6, 27] (fun v i wx => ∃ k : Nat, k ≤ ps.length ∧ i = .int .i64 k ∧ wx.ownsRow w.heap.size 3 1 v (catToJ ps k).length (ints (catToJ ps k)) ∧ Below w.heap.size w wx) (fun _ i _ => ps.length - (intOf i).toNat)
      case atStart => exact ⟨0, Nat.zero_le _, rfl, unhide ho1, unhide hb1⟩
      case round =>
        clear ho1 hb1
        obtain ⟨k, hk, rfl, hown, hbel⟩ := hrel
        by_cases hlt : k < ps.length
        · obtain ⟨hc, hr⟩ := unhide hp k hlt
          replace hc := (hbel.cell (p := ⟨b, off + k, none⟩) (by simpa using hb)).trans hc
          replace hr := hide (hr.below hbel)
          have hs := hide (catToJ_succ ps k hlt)
          have hle' := catToJ_le ps (k + 1)
          rw [unhide hs, List.length_append] at hle'
          have hsz := hbel.size
          replace hle' := hide hle'
          replace hown := hide hown
          replace hbel := hide hbel
          obtain ⟨u, hu⟩ : ∃ u, u = (ps.getD k (.slice none 0 0, [])).1 := ⟨_, rfl⟩
          rw [← hu] at hc hr
          clear hu
          generalize (ps.getD k (.slice none 0 0, [])).2 = ys at hr hs hle'
          go_wp2_with (at_builtin; go_loud (refine wpList_appI rfl (.tmp 31) (.tmp 32) rfl w.heap.size _ _ rfl (unhide hown) _ _ rfl (unhide hr) (by have := unhide hle'; have := unhide hl; omega) hsz ?_))
          intro v2 w2 ho2 hg2 _
          have hb2 := hide (below_upd (unhide hbel) (upd_of_grownJ hg2 (unhide hown)) (Nat.le_refl _) (.inl (Nat.le_refl _)))
          rw [← List.length_append] at ho2
          rw [← unhide hs] at ho2
          replace ho2 := hide ho2
          clear hg2 hbel hown
          go_wp2
          go_roundw
          case rel => exact ⟨k + 1, by omega, by go_num, unhide ho2, unhide hb2⟩
          case measure => simp [intOf]; omega
        · have hkl : k = ps.length := by omega
          subst hkl
          rw [unhide hE] at hown
          replace hown := hide hown
          go_wp2
          go_ret
          exact ⟨_, rfl, unhide hown, hbel⟩
end Go.Proofs.YtdochjkkgmkdgaaDoor

/- The pixels of a pass, one behind the other: what slices.Concat makes of the pieces. -/
namespace Go.Proofs.YtdochjkkgmkdgaaDoor
open Go.RowKit

def pixOff (n P X Y SX SY y x : Nat) : Nat := (Y + y * SY) * n + (X + x * SX) * P
def pixParts (zs : List Int) (g n P X Y SX SY Pw Ph : Nat) : PartsJ := (List.range Ph).flatMap fun y => (List.range Pw).map fun x => (piece g (pixOff n P X Y SX SY y x) P, (zs.drop (pixOff n P X Y SX SY y x)).take P)
/-- The samples of a pass's pixels, rows from above, columns from the left. -/
def pixInts (zs : List Int) (n P X Y SX SY Pw Ph : Nat) : List Int := (List.range Ph).flatMap fun y => (List.range Pw).flatMap fun x => (zs.drop (pixOff n P X Y SX SY y x)).take P
theorem pixParts_fst (zs : List Int) (g n P X Y SX SY Pw Ph : Nat) : (pixParts zs g n P X Y SX SY Pw Ph).map (·.1) = pixAll g n P X Y SX SY Pw Ph := by
  unfold pixParts pixAll pixRow pixOff
  rw [List.map_flatMap]
  congr 1
  funext y
  rw [List.map_map]
  rfl
theorem pixParts_cat (zs : List Int) (g n P X Y SX SY Pw Ph : Nat) : catFJ (pixParts zs g n P X Y SX SY Pw Ph) = pixInts zs n P X Y SX SY Pw Ph := by
  unfold catFJ pixParts pixInts
  induction Ph with
  | zero => simp
  | succ k ih =>
    rw [List.range_succ, List.flatMap_append, List.map_append, List.flatten_append, ih, List.flatMap_append]
    congr 1
    simp [List.flatMap, Function.comp_def]
theorem pixOff_le {n P X Y SX SY W H y x : Nat} (hn : n = W * P) (hx : X + x * SX < W) (hy : Y + y * SY < H) : pixOff n P X Y SX SY y x + P ≤ H * n := by
  unfold pixOff
  have h1 : (X + x * SX) * P + P ≤ n := by
    rw [hn]
    calc (X + x * SX) * P + P = (X + x * SX + 1) * P := by rw [Nat.add_mul (X + x * SX) 1 P, Nat.one_mul]
      _ ≤ W * P := Nat.mul_le_mul_right _ (by omega)
  have h2 : (Y + y * SY) * n + n ≤ H * n := by
    calc (Y + y * SY) * n + n = (Y + y * SY + 1) * n := by rw [Nat.add_mul (Y + y * SY) 1 n, Nat.one_mul]
      _ ≤ H * n := Nat.mul_le_mul_right _ (by omega)
  omega
theorem pixParts_rd {w : World} {g : Nat} {zs : List Int} (hg : g < w.heap.size) (hk : KindAt .i64 w g 0 zs) {n P X Y SX SY Pw Ph W H : Nat} (hn : n = W * P) (hl : zs.length = H * n)
    (hX : ∀ x, x < Pw → X + x * SX < W) (hY : ∀ y, y < Ph → Y + y * SY < H) : ∀ q ∈ pixParts zs g n P X Y SX SY Pw Ph, RdJ w q.1 q.2 := by
  intro q hq
  unfold pixParts at hq
  rw [List.mem_flatMap] at hq
  obtain ⟨y, hy, hq⟩ := hq
  rw [List.mem_map] at hq
  obtain ⟨x, hx, rfl⟩ := hq
  have ho := pixOff_le (SX := SX) (SY := SY) hn (hX x (List.mem_range.1 hx)) (hY y (List.mem_range.1 hy))
  generalize pixOff n P X Y SX SY y x = o at ho
  have hle : ((zs.drop o).take P).length = P := by rw [List.length_take, List.length_drop]; omega
  refine .inr ⟨g, o, P, by simp only [piece]; rw [hle], hg, fun j hj => ?_⟩
  rw [hle] at hj
  have := hk (o + j) (by omega)
  rw [Nat.zero_add] at this
  simp only
  rw [this]
  simp [List.getD_eq_getElem?_getD, hj]

theorem concatPix (g n P X Y SX SY Pw Ph W H : Nat) (zs : List Int) (v : Value) (a b : Nat) (w : World) (hg : g < w.heap.size) (hk : KindAt .i64 w g 0 zs) (hn : n = W * P) (hl : zs.length = H * n) (hlen : (pixInts zs n P X Y SX SY Pw Ph).length ≤ 1048576)
    (hX : ∀ x, x < Pw → X + x * SX < W) (hY : ∀ y, y < Ph → Y + y * SY < H) (hp : 0 < Ph * Pw) (hq : Ph * Pw ≤ 1048576) (ho : Own 23 1 w a b v (Ph * Pw) (pixAll g n P X Y SX SY Pw Ph)) :
    Calls Tryd.prog 26 #[v] w fun e w' => ∃ u, e = .returned u ∧ w'.ownsRow w.heap.size 3 1 u (pixInts zs n P X Y SX SY Pw Ph).length (ints (pixInts zs n P X Y SX SY Pw Ph)) ∧ Below w.heap.size w w' := by
  have hr := pixParts_rd hg hk hn hl hX hY
  have hfst := pixParts_fst zs g n P X Y SX SY Pw Ph
  have hcat := pixParts_cat zs g n P X Y SX SY Pw Ph
  rcases ho.1.2 with ⟨_, h0⟩ | ⟨c, cap, cur, rfl, _⟩
  · omega
  · have hlp : (pixParts zs g n P X Y SX SY Pw Ph).length = Ph * Pw := by
      have := ho.1.1
      rw [← hfst, List.length_map] at this
      omega
    have := concatJ c 0 cap (pixParts zs g n P X Y SX SY Pw Ph) w (by omega) (by rw [hcat]; omega) (ho.1.lt c rfl).2 (fun j hj => by
      have hm : (pixParts zs g n P X Y SX SY Pw Ph).getD j (.slice none 0 0, []) = (pixParts zs g n P X Y SX SY Pw Ph)[j] := by simp [List.getD_eq_getElem?_getD, List.getElem?_eq_getElem hj]
      rw [hm]
      refine ⟨?_, hr _ (List.getElem_mem hj)⟩
      rw [Nat.zero_add, ho.1.cellAt j (by omega), ← hfst, List.getElem?_map, List.getElem?_eq_getElem hj]
      rfl)
    rw [hlp, hcat] at this
    exact this
end Go.Proofs.YtdochjkkgmkdgaaDoor

/- Lists of Images, each with a list of its own; the walks of the laws' own helpers on them. -/
namespace Go.Proofs.YtdochjkkgmkdgaaDoor
open Go.RowKit

abbrev Is := List Im
abbrev Im0 : Im := (0, 0, 0, 0, [])
abbrev Iss (d : Im) : List Int := d.2.2.2.2
def RowIs (ys : List Value) (ds : Is) (vs : Nat → Value) (k : Nat) : Prop := ∀ j, j < k → ys[j * 5]? = some (.int .i64 (ds.getD j Im0).1) ∧ ys[j * 5 + 1]? = some (.int .i64 (ds.getD j Im0).2.1) ∧ ys[j * 5 + 2]? = some (.int .i64 (ds.getD j Im0).2.2.1) ∧ ys[j * 5 + 3]? = some (.int .i64 (ds.getD j Im0).2.2.2.1) ∧ ys[j * 5 + 4]? = some ((vs j))
/-- No two of the lists lie in one block. -/
def DistIs (vs : Nat → Value) (k : Nat) : Prop := ∀ i j, i < k → j < k → i ≠ j → ∀ g, (vs i).ownBlock = some g → (vs j).ownBlock ≠ some g
def OwnIs (w : World) (a b : Nat) (v : Value) (ds : Is) : Prop := ∃ (ys : List Value) (vs : Nat → Value), Own 25 5 w a b v ds.length ys ∧ RowIs ys ds vs ds.length ∧
  (∀ j, j < ds.length → OwnI w a b (vs j) (Iss (ds.getD j Im0))) ∧ DistIs vs ds.length ∧ ∀ j, j < ds.length → ∀ g, (vs j).ownBlock = some g → v.ownBlock ≠ some g
def AtIs (w : World) (b off : Nat) (ds : Is) (vs : Nat → Value) : Prop := ∀ j, j < ds.length → w.cell? ⟨b, off + j * 5, none⟩ = some (.int .i64 (ds.getD j Im0).1) ∧ w.cell? ⟨b, off + j * 5 + 1, none⟩ = some (.int .i64 (ds.getD j Im0).2.1) ∧ w.cell? ⟨b, off + j * 5 + 2, none⟩ = some (.int .i64 (ds.getD j Im0).2.2.1) ∧ w.cell? ⟨b, off + j * 5 + 3, none⟩ = some (.int .i64 (ds.getD j Im0).2.2.2.1) ∧ w.cell? ⟨b, off + j * 5 + 4, none⟩ = some ((vs j))
def ArgIs (w : World) (ad : Option Addr) (ds : Is) : Prop := ds ≠ [] → ∃ b off vs, ad = some ⟨b, off, none⟩ ∧ b < w.heap.size ∧ AtIs w b off ds vs ∧ ∀ j, j < ds.length → RdI w (vs j) (Iss (ds.getD j Im0))
def RdIs (w : World) (v : Value) (ds : Is) : Prop := ∃ ad cap, v = .slice ad ds.length cap ∧ ArgIs w ad ds
theorem ArgIs.below {w w' : World} {ad : Option Addr} {ds : Is} (h : ArgIs w ad ds) (hb : Below w.heap.size w w') : ArgIs w' ad ds := by
  intro hne
  obtain ⟨b, off, vs, e, hl, hc, hr⟩ := h hne
  exact ⟨b, off, vs, e, Nat.lt_of_lt_of_le hl hb.size, fun j hj => ⟨(hb.cell (by simpa using hl)).trans (hc j hj).1, (hb.cell (by simpa using hl)).trans (hc j hj).2.1, (hb.cell (by simpa using hl)).trans (hc j hj).2.2.1, (hb.cell (by simpa using hl)).trans (hc j hj).2.2.2.1, (hb.cell (by simpa using hl)).trans (hc j hj).2.2.2.2⟩, fun j hj => (hr j hj).below hb⟩
theorem RdIs.below {w w' : World} {v : Value} {ds : Is} (h : RdIs w v ds) (hb : Below w.heap.size w w') : RdIs w' v ds := by
  obtain ⟨ad, cap, e, h⟩ := h
  exact ⟨ad, cap, e, h.below hb⟩
theorem OwnIs.rd {w : World} {a b : Nat} {v : Value} {ds : Is} (h : OwnIs w a b v ds) : RdIs w v ds := by
  obtain ⟨ys, vs, ho, hr, he, _, _⟩ := h
  rcases ho.1.2 with ⟨rfl, hn⟩ | ⟨g, cap, cur, rfl, h1, h2, h3⟩
  · exact ⟨none, 0, by rw [hn], fun hne => absurd (List.length_eq_zero_iff.1 hn) hne⟩
  · refine ⟨some ⟨g, 0, none⟩, cap, rfl, fun _ => ⟨g, 0, vs, rfl, (ho.1.lt g rfl).2, fun j hj => ?_, fun j hj => OwnI.rd (he j hj)⟩⟩
    have := hr j hj
    rw [Nat.zero_add, ho.1.cellAt _ (by omega), ho.1.cellAt _ (by omega), ho.1.cellAt _ (by omega), ho.1.cellAt _ (by omega), ho.1.cellAt _ (by omega)]
    exact this
theorem OwnIs.upd {w w' : World} {a b c e : Nat} {v : Value} {ds : Is} (h : OwnIs w a b v ds) (u : Upd c e w w') (hd : b ≤ c ∨ e ≤ a) : OwnIs w' a b v ds := by
  obtain ⟨ys, vs, ho, hr, he, h4, h5⟩ := h
  exact ⟨ys, vs, ho.upd u hd, hr, fun j hj => (he j hj).upd u hd, h4, h5⟩
theorem OwnIs.keep {w w' : World} {a b : Nat} {v : Value} {ds : Is} (h : OwnIs w a b v ds) (u : Upd 0 0 w w') : OwnIs w' a b v ds := h.upd u (.inr (Nat.zero_le _))
theorem OwnIs.mono {w : World} {a b a' b' : Nat} {v : Value} {ds : Is} (h : OwnIs w a b v ds) (ha : a' ≤ a) (hb : b ≤ b') : OwnIs w a' b' v ds := by
  obtain ⟨ys, vs, ho, hr, he, h4, h5⟩ := h
  exact ⟨ys, vs, own_mono ho ha hb, hr, fun j hj => own_mono (he j hj) ha hb, h4, h5⟩
theorem OwnIs.set' {w : World} {a b : Nat} {v : Value} {ds : Is} (h : OwnIs w a b v ds) {c : Nat} (hc : c < a) (o : Nat) (u : Value) : OwnIs (w.setCell ⟨c, o, none⟩ u) a b v ds := by
  obtain ⟨ys, vs, ho, hr, he, h4, h5⟩ := h
  exact ⟨ys, vs, ho.set' hc o u, hr, fun j hj => (he j hj).set' hc o u, h4, h5⟩
/-- All numbers fit, and no list is longer than a list can be. -/
def InIs (ds : Is) : Prop := (∀ j, InIm (ds.getD j Im0)) ∧ ∀ j, (Iss (ds.getD j Im0)).length ≤ 9223372036854775807
theorem infoIs : (Tryd.prog.info? 25).map (fun i => (i.zero, i.size, i.bytes)) = some (some (.agg #[.int .i64 0, .int .i64 0, .int .i64 0, .int .i64 0, .slice none 0 0]), 5, 56) := by kernel_rfl
/-- How much a list of Images holds. -/
def size1Is (d : Im) : Nat := (Iss d).length
def szToIs (ds : Is) (k : Nat) : Nat := ((ds.take k).map size1Is).sum
def sizeIs (ds : Is) : Nat := ds.length + szToIs ds ds.length
theorem szToIs_succ (ds : Is) (k : Nat) (h : k < ds.length) : szToIs ds (k + 1) = szToIs ds k + size1Is (ds.getD k Im0) := by
  unfold szToIs; rw [take_snoc_getD ds Im0 k h]; simp
theorem szToIs_le (ds : Is) (k : Nat) : szToIs ds k ≤ szToIs ds ds.length := by
  have e : szToIs ds ds.length = szToIs ds k + ((ds.drop k).map size1Is).sum := by
    unfold szToIs; rw [List.take_length, ← List.sum_append, ← List.map_append, List.take_append_drop]
  omega
theorem size1Is_le (ds : Is) (k : Nat) (h : k < ds.length) : size1Is (ds.getD k Im0) ≤ szToIs ds ds.length := by
  have := szToIs_succ ds k h
  have := szToIs_le ds (k + 1)
  omega

theorem Own.setsIs {e : TypeId} {s : Nat} {w : World} {a b : Nat} {v : Value} {n : Nat} {xs : List Value} (h : Own e s w a b v n xs) {c : Nat} (hc : c < a) (o : Nat) (u0 u1 u2 u3 u4 : Value) :
    Own e s (((((w.setCell ⟨c, o, none⟩ u0).setCell ⟨c, o + 1, none⟩ u1).setCell ⟨c, o + 2, none⟩ u2).setCell ⟨c, o + 3, none⟩ u3).setCell ⟨c, o + 4, none⟩ u4) a b v n xs := (Own.set' (Own.set' (Own.set' (Own.set' (Own.set' h hc (o) u0) hc (o + 1) u1) hc (o + 2) u2) hc (o + 3) u3) hc (o + 4) u4)
theorem sizesIs (w : World) (c o : Nat) (u0 u1 u2 u3 u4 : Value) : (((((w.setCell ⟨c, o, none⟩ u0).setCell ⟨c, o + 1, none⟩ u1).setCell ⟨c, o + 2, none⟩ u2).setCell ⟨c, o + 3, none⟩ u3).setCell ⟨c, o + 4, none⟩ u4).heap.size = w.heap.size := by simp

set_option maxHeartbeats 8000000 in
set_option maxRecDepth 100000 in
theorem toImageS_own (ad : Option Addr) (cap : Nat) (ds : Is) (w : World) (hsz : sizeIs ds ≤ 1048576) (hA : ArgIs w ad ds) :
    Calls Tryd.prog 22 #[.slice ad ds.length cap] w fun e w' => ∃ v, e = .returned v ∧ OwnIs w' w.heap.size w'.heap.size v ds ∧ Upd 0 0 w w' := by
  have hn : ds.length ≤ 1048576 := by unfold sizeIs at hsz; omega
  have hEach : Hid (∀ k, k < ds.length → (Iss (ds.getD k Im0)).length ≤ 1048576) := hide (fun k hk => by have := size1Is_le ds k hk; unfold sizeIs at hsz; unfold size1Is at this; omega)
  obtain ⟨i0, hi, hz0, hz1, hz2⟩ := info_parts infoIs
  replace hA := hide hA
  go_enter Tryd.func22, Tryd.ntmps22
  go_wp2_with (at_make; refine wpList_make_full _ rfl _ _ 27 rfl w.heap.size 25 i0 (.agg #[.int .i64 0, .int .i64 0, .int .i64 0, .int .i64 0, .slice none 0 0]) 5 Tryd.underlying27 hi hz0 hz1 .i64 .i64 _ _ ds.length rfl rfl (by omega) (by omega) (by rw [hz2]; omega) (by unfold maxLen; omega) (Nat.le_refl _) ?_; intro w1 hown hgrow)
  have hbel := (Below.refl w.heap.size w).grown hgrow (Nat.le_refl _) (by simp)
  generalize (madeCells (Value.cells (.agg #[.int .i64 0, .int .i64 0, .int .i64 0, .int .i64 0, .slice none 0 0])) (ds.length * 5)).toList = ys0 at hown
  clear hgrow
  go_loopw [4] (fun i wr => ∃ (k : Nat) (ys : List Value) (vs : Nat → Value), k ≤ ds.length ∧ i = .int .i64 k ∧ wr.ownsRow w.heap.size 25 5 (.slice (some ⟨w.heap.size, 0, none⟩) ds.length ds.length) ds.length ys ∧ Hid (RowIs ys ds vs k) ∧ Hid (∀ j, j < k → OwnI wr (w.heap.size + 1) wr.heap.size (vs j) (Iss (ds.getD j Im0))) ∧ Hid (DistIs vs k) ∧ Below w.heap.size w wr) (fun i _ => ds.length - (intOf i).toNat)
  case atStart => exact ⟨0, ys0, fun _ => undef, Nat.zero_le _, rfl, hown, fun j hj => by omega, fun j hj => by omega, fun i j hi => by omega, hbel⟩
  case round =>
    clear hown hbel
    obtain ⟨k, ys, vs, hk, rfl, hown, hrow, hel, hdi, hbel⟩ := hrel
    by_cases hlt : k < ds.length
    · obtain ⟨b, off, us, rfl, hbl, hc, hru⟩ := ((unhide hA).below hbel) (ne_of_lt_length hlt)
      have hl : ys.length = ds.length * 5 := hown.1
      have hnk := unhide hEach k hlt
      obtain ⟨d0, d1, d2, d3, d4⟩ := hc k hlt
      have hru2 := hru k hlt
      clear hc hru
      generalize hf : ds.getD k Im0 = f at d0 d1 d2 d3 d4 hru2 hnk
      replace hf := hide hf
      obtain ⟨x0, x1, x2, x3, zs⟩ := f
      obtain ⟨uk, huk⟩ : ∃ uk, us k = uk := ⟨_, rfl⟩
      rw [huk] at d4 hru2
      clear huk
      obtain ⟨adk, capk, rfl, hAk⟩ := hru2
      simp only [Iss] at d0 d1 d2 d3 d4 hnk hAk
      have hsz1 : w.heap.size + 1 ≤ wr.heap.size := (hown.lt w.heap.size rfl).2
      have hTo := hide (toImage_own _ (x0, x1, x2, x3, zs) wr hnk ⟨_, rfl, adk, capk, rfl, hAk⟩)
      replace hown := hide (Own.of hown)
      replace hbel := hide hbel
      clear hAk
      go_wp2_with fail
      refine (unhide hTo).mono ?_
      rintro e w2 ⟨u2, rfl, ho2, hu2⟩
      obtain ⟨vl, rfl, ho2⟩ := ho2
      obtain ⟨ad2, cap2, rfl, _⟩ := OwnI.rd ho2
      replace ho2 : OwnI w2 wr.heap.size w2.heap.size (.slice ad2 zs.length cap2) zs := ho2
      have hwz : wr.heap.size ≤ w2.heap.size := hu2.size
      have hel2 := hide (fun j (hj : j < k) => own_mono ((unhide hel j hj).keep hu2) (Nat.le_refl _) hwz)
      have helb := hide (fun j (hj : j < k) => (unhide hel j hj).2)
      have hown2 := ((unhide hown).keep hu2).1
      have hbel2 := below_upd (unhide hbel) hu2 (Nat.le_refl _) (.inr (Nat.le_refl _))
      clear hown hbel hel hu2 d0 d1 d2 d3 d4
      have e0 : ∃ a, w2.cell? ⟨w.heap.size, k * 5, none⟩ = some a := by rw [hown2.cellAt _ (by omega)]; exact ⟨_, List.getElem?_eq_getElem (by omega)⟩
      have e1 : ∃ a, w2.cell? ⟨w.heap.size, k * 5 + 1, none⟩ = some a := by rw [hown2.cellAt _ (by omega)]; exact ⟨_, List.getElem?_eq_getElem (by omega)⟩
      have e2 : ∃ a, w2.cell? ⟨w.heap.size, k * 5 + 2, none⟩ = some a := by rw [hown2.cellAt _ (by omega)]; exact ⟨_, List.getElem?_eq_getElem (by omega)⟩
      have e3 : ∃ a, w2.cell? ⟨w.heap.size, k * 5 + 3, none⟩ = some a := by rw [hown2.cellAt _ (by omega)]; exact ⟨_, List.getElem?_eq_getElem (by omega)⟩
      have e4 : ∃ a, w2.cell? ⟨w.heap.size, k * 5 + 4, none⟩ = some a := by rw [hown2.cellAt _ (by omega)]; exact ⟨_, List.getElem?_eq_getElem (by omega)⟩
      obtain ⟨a0, e0⟩ := e0
      obtain ⟨a1, e1⟩ := e1
      obtain ⟨a2, e2⟩ := e2
      obtain ⟨a3, e3⟩ := e3
      obtain ⟨a4, e4⟩ := e4
      have f0 := hown2.frozenAt (k * 5)
      have f1 := hown2.frozenAt (k * 5 + 1)
      have f2 := hown2.frozenAt (k * 5 + 2)
      have f3 := hown2.frozenAt (k * 5 + 3)
      have f4 := hown2.frozenAt (k * 5 + 4)
      have hst := hide ((((((hown2.stored (k * 5) (.int .i64 x0)).1.stored (k * 5 + 1) (.int .i64 x1)).1.stored (k * 5 + 2) (.int .i64 x2)).1.stored (k * 5 + 3) (.int .i64 x3)).1.stored (k * 5 + 4) (.slice ad2 zs.length cap2)).1)
      have hB2 := hide ((((((hbel2.setCell (p := ⟨w.heap.size, k * 5, none⟩) (Nat.le_refl _) (.int .i64 x0)).setCell (p := ⟨w.heap.size, k * 5 + 1, none⟩) (Nat.le_refl _) (.int .i64 x1)).setCell (p := ⟨w.heap.size, k * 5 + 2, none⟩) (Nat.le_refl _) (.int .i64 x2)).setCell (p := ⟨w.heap.size, k * 5 + 3, none⟩) (Nat.le_refl _) (.int .i64 x3)).setCell (p := ⟨w.heap.size, k * 5 + 4, none⟩) (Nat.le_refl _) (.slice ad2 zs.length cap2)))
      have ho3 : OwnI w2 (w.heap.size + 1) w2.heap.size (.slice ad2 zs.length cap2) zs := own_mono ho2 hsz1 (Nat.le_refl _)
      have hrow2 : Hid (RowIs (((((ys.set (k * 5) (.int .i64 x0)).set (k * 5 + 1) (.int .i64 x1)).set (k * 5 + 2) (.int .i64 x2)).set (k * 5 + 3) (.int .i64 x3)).set (k * 5 + 4) (.slice ad2 zs.length cap2)) ds (fun j => if j = k then .slice ad2 zs.length cap2 else vs j) (k + 1)) := by
        intro j hj
        by_cases e : j = k
        · subst e
          rw [unhide hf]
          refine ⟨?_, ?_, ?_, ?_, ?_⟩
          · rw [List.getElem?_set_ne (by omega), List.getElem?_set_ne (by omega), List.getElem?_set_ne (by omega), List.getElem?_set_ne (by omega), List.getElem?_set_self (by first | omega | (simp; omega))]
          · rw [List.getElem?_set_ne (by omega), List.getElem?_set_ne (by omega), List.getElem?_set_ne (by omega), List.getElem?_set_self (by first | omega | (simp; omega))]
          · rw [List.getElem?_set_ne (by omega), List.getElem?_set_ne (by omega), List.getElem?_set_self (by first | omega | (simp; omega))]
          · rw [List.getElem?_set_ne (by omega), List.getElem?_set_self (by first | omega | (simp; omega))]
          · refine Eq.trans ?_ (congrArg some (if_pos rfl).symm); rw [List.getElem?_set_self (by first | omega | (simp; omega))]
        · have := unhide hrow j (by omega)
          refine ⟨?_, ?_, ?_, ?_, ?_⟩
          · rw [List.getElem?_set_ne (by omega), List.getElem?_set_ne (by omega), List.getElem?_set_ne (by omega), List.getElem?_set_ne (by omega), List.getElem?_set_ne (by omega)]; exact this.1
          · rw [List.getElem?_set_ne (by omega), List.getElem?_set_ne (by omega), List.getElem?_set_ne (by omega), List.getElem?_set_ne (by omega), List.getElem?_set_ne (by omega)]; exact this.2.1
          · rw [List.getElem?_set_ne (by omega), List.getElem?_set_ne (by omega), List.getElem?_set_ne (by omega), List.getElem?_set_ne (by omega), List.getElem?_set_ne (by omega)]; exact this.2.2.1
          · rw [List.getElem?_set_ne (by omega), List.getElem?_set_ne (by omega), List.getElem?_set_ne (by omega), List.getElem?_set_ne (by omega), List.getElem?_set_ne (by omega)]; exact this.2.2.2.1
          · refine Eq.trans ?_ (congrArg some (if_neg e).symm); rw [List.getElem?_set_ne (by omega), List.getElem?_set_ne (by omega), List.getElem?_set_ne (by omega), List.getElem?_set_ne (by omega), List.getElem?_set_ne (by omega)]; exact this.2.2.2.2
      have hel3 : Hid (∀ j, j < k + 1 → OwnI (((((w2.setCell ⟨w.heap.size, k * 5, none⟩ (.int .i64 x0)).setCell ⟨w.heap.size, k * 5 + 1, none⟩ (.int .i64 x1)).setCell ⟨w.heap.size, k * 5 + 2, none⟩ (.int .i64 x2)).setCell ⟨w.heap.size, k * 5 + 3, none⟩ (.int .i64 x3)).setCell ⟨w.heap.size, k * 5 + 4, none⟩ (.slice ad2 zs.length cap2)) (w.heap.size + 1) (((((w2.setCell ⟨w.heap.size, k * 5, none⟩ (.int .i64 x0)).setCell ⟨w.heap.size, k * 5 + 1, none⟩ (.int .i64 x1)).setCell ⟨w.heap.size, k * 5 + 2, none⟩ (.int .i64 x2)).setCell ⟨w.heap.size, k * 5 + 3, none⟩ (.int .i64 x3)).setCell ⟨w.heap.size, k * 5 + 4, none⟩ (.slice ad2 zs.length cap2)).heap.size (if j = k then .slice ad2 zs.length cap2 else vs j) (Iss (ds.getD j Im0))) := by
        intro j hj
        rw [sizesIs]
        by_cases e : j = k
        · subst e
          rw [if_pos rfl, unhide hf]
          exact Own.setsIs ho3 (Nat.lt_succ_self _) _ (.int .i64 x0) (.int .i64 x1) (.int .i64 x2) (.int .i64 x3) (.slice ad2 zs.length cap2)
        · rw [if_neg e]
          exact Own.setsIs (unhide hel2 j (by omega)) (Nat.lt_succ_self _) _ (.int .i64 x0) (.int .i64 x1) (.int .i64 x2) (.int .i64 x3) (.slice ad2 zs.length cap2)
      have hdi2 : Hid (DistIs (fun j => if j = k then .slice ad2 zs.length cap2 else vs j) (k + 1)) := by
        intro i j hi hj hne g hg hg'
        simp only at hg hg'
        by_cases e : i = k
        · rw [if_pos e] at hg
          rw [if_neg (by omega)] at hg'
          have h1 := (ho2.1.lt g hg).1
          have h2 := unhide helb j (by omega) g hg'
          omega
        · rw [if_neg e] at hg
          by_cases e' : j = k
          · rw [if_pos e'] at hg'
            have h1 := (ho2.1.lt g hg').1
            have h2 := unhide helb i (by omega) g hg
            omega
          · rw [if_neg e'] at hg'
            exact unhide hdi i j (by omega) (by omega) hne g hg hg'
      clear hown2 hbel2 hrow hf hel2 helb ho2 ho3 hdi hTo hEach
      simp only [imv, ims]
      go_wp2
      go_roundw
      case rel => exact ⟨k + 1, _, _, by omega, by go_num, unhide hst, hrow2, hel3, hdi2, unhide hB2⟩
      case measure => simp [intOf]; omega
    · have hkl : k = ds.length := by omega
      subst hkl
      replace hown := hide hown
      replace hbel := hide hbel
      go_wp2
      go_ret
      refine ⟨_, rfl, ⟨ys, vs, Own.of (unhide hown), unhide hrow, fun j hj => own_mono (unhide hel j hj) (by omega) (Nat.le_refl _), unhide hdi, fun j hj g hg => ?_⟩, Upd.of_below (unhide hbel) 0 0⟩
      have := ((unhide hel j hj).1.lt g hg).1
      simp [Value.ownBlock]
      omega

set_option maxHeartbeats 8000000 in
set_option maxRecDepth 100000 in
theorem eqImageS_rd (u v : Value) (ds : Is) (w : World) (hsz : sizeIs ds ≤ 1048576) (hu : RdIs w u ds) (hv : RdIs w v ds) :
    Calls Tryd.prog 15 #[u, v] w fun e w' => e = .returned (.bool true) ∧ Upd 0 0 w w' := by
  have hn : ds.length ≤ 1048576 := by unfold sizeIs at hsz; omega
  have hEach : Hid (∀ k, k < ds.length → (Iss (ds.getD k Im0)).length ≤ 1048576) := hide (fun k hk => by have := size1Is_le ds k hk; unfold sizeIs at hsz; unfold size1Is at this; omega)
  obtain ⟨ad, cap, rfl, hA⟩ := hu
  obtain ⟨ad', cap', rfl, hA'⟩ := hv
  replace hA := hide hA
  replace hA' := hide hA'
  go_enter Tryd.func15, Tryd.ntmps15
  go_wp2
  go_loopw [5] (fun i wr => ∃ k : Nat, k ≤ ds.length ∧ i = .int .i64 k ∧ Below w.heap.size w wr) (fun i _ => ds.length - (intOf i).toNat)
  case atStart => exact ⟨0, Nat.zero_le _, rfl, Below.refl _ _⟩
  case round =>
    obtain ⟨k, hk, rfl, hbel⟩ := hrel
    by_cases hlt : k < ds.length
    · obtain ⟨b, off, us, rfl, hbl, hc, hr⟩ := ((unhide hA).below hbel) (ne_of_lt_length hlt)
      obtain ⟨b', off', us', rfl, hbl', hc', hr'⟩ := ((unhide hA').below hbel) (ne_of_lt_length hlt)
      obtain ⟨d0, d1, d2, d3, d4⟩ := hc k hlt
      obtain ⟨g0, g1, g2, g3, g4⟩ := hc' k hlt
      have hr2 := hr k hlt
      have hr2' := hr' k hlt
      have hnk := unhide hEach k hlt
      clear hc hc' hbl hbl' hr hr'
      generalize ds.getD k Im0 = f at d0 d1 d2 d3 d4 g0 g1 g2 g3 g4 hr2 hr2' hnk
      obtain ⟨x0, x1, x2, x3, zs⟩ := f
      obtain ⟨uk, huk⟩ : ∃ uk, us k = uk := ⟨_, rfl⟩
      obtain ⟨uk', huk'⟩ : ∃ uk', us' k = uk' := ⟨_, rfl⟩
      rw [huk] at d4 hr2
      rw [huk'] at g4 hr2'
      clear huk huk'
      simp only [Iss] at d0 d1 d2 d3 d4 g0 g1 g2 g3 g4 hr2 hr2' hnk
      have hEq := hide (fun (W : World) (hW : Below wr.heap.size wr W) => eqImage_rd _ _ (x0, x1, x2, x3, zs) W hnk ⟨_, rfl, hr2.below hW⟩ ⟨_, rfl, hr2'.below hW⟩)
      clear hr2 hr2' hnk
      have hk0 : (0 : Int) ≤ (k : Int) := by omega
      have hk1 : (k : Int) < (ds.length : Int) := by omega
      go_wp2_with fail
      go_region_with (go_at_call 16; refine (unhide hEq _ (Below.refl _ _).drew).mono ?_; rintro e w2 ⟨rfl, hb2⟩)
      all_goals
        have hb3 := hbel.drew.trans (hb2.below (B := w.heap.size) (by simpa using hbel.size) (.inr (Nat.zero_le _)))
        clear hb2
        go_wp2
        go_roundw
        case rel => exact ⟨k + 1, by omega, by go_num, hb3⟩
        case measure => simp [intOf]; omega
    · have hkl : k = ds.length := by omega
      subst hkl
      go_wp2
      go_ret
      exact ⟨rfl, Upd.of_below hbel 0 0⟩

set_option maxHeartbeats 8000000 in
set_option maxRecDepth 100000 in
theorem szImageS_any (ad : Option Addr) (ds : Is) (cap : Nat) (left : Int) (w : World) (h0 : 0 ≤ left) (h1 : left ≤ 1099511627776) (hn : ds.length ≤ 9223372036854775807) (hI : ∀ j, (Iss (ds.getD j Im0)).length ≤ 9223372036854775807) (hA : ArgIs w ad ds) :
    Calls Tryd.prog 20 #[.slice ad ds.length cap, .int .i64 left] w fun e w' => e = .returned (.int .i64 (if left < ((sizeIs ds : Nat) : Int) then -1 else left - ((sizeIs ds : Nat) : Int))) ∧ Upd 0 0 w w' := by
  by_cases hlt : left < ds.length
  · have hc : left < ((sizeIs ds : Nat) : Int) := by unfold sizeIs; omega
    rw [if_pos hc]
    clear hA hI
    go_enter Tryd.func20, Tryd.ntmps20
    go_wp2
    go_ret
    exact ⟨rfl, Upd.refl _ _ _⟩
  · replace hA := hide hA
    replace hI := hide hI
    have q : decide (left - (ds.length : Int) < 0) = false := by simp; omega
    obtain ⟨R, hR⟩ : ∃ R : Int, R = if left < ((sizeIs ds : Nat) : Int) then -1 else left - ((sizeIs ds : Nat) : Int) := ⟨_, rfl⟩
    rw [← hR]
    replace hR := hide hR
    go_enter Tryd.func20, Tryd.ntmps20
    go_wp2
    go_loopw [1, 5] (fun l i wr => ∃ k : Nat, k ≤ ds.length ∧ i = .int .i64 k ∧ l = .int .i64 (left - (ds.length : Int) - ((szToIs ds k : Nat) : Int)) ∧ Hid (0 ≤ left - (ds.length : Int) - ((szToIs ds k : Nat) : Int)) ∧ Below w.heap.size w wr) (fun _ i _ => ds.length - (intOf i).toNat)
    case atStart => exact ⟨0, Nat.zero_le _, rfl, by simp [szToIs], hide (by simp [szToIs]; omega), Below.refl _ _⟩
    case round =>
      obtain ⟨k, hk, rfl, rfl, hp, hbel⟩ := hrel
      by_cases hk' : k < ds.length
      · obtain ⟨b, off, us, rfl, hbl, hc, hru⟩ := ((unhide hA).below hbel) (ne_of_lt_length hk')
        obtain ⟨d0, d1, d2, d3, d4⟩ := hc k hk'
        have hru2 := hru k hk'
        have hnk := unhide hI k
        have hs := hide (szToIs_succ ds k hk')
        have hle := hide (szToIs_le ds (k + 1))
        have hp' := unhide hp
        clear hc hbl hru
        generalize ds.getD k Im0 = f at d0 d1 d2 d3 d4 hru2 hnk hs
        obtain ⟨x0, x1, x2, x3, zs⟩ := f
        obtain ⟨uk, huk⟩ : ∃ uk, us k = uk := ⟨_, rfl⟩
        rw [huk] at d4 hru2
        clear huk
        obtain ⟨adk, capk, rfl, _⟩ := hru2
        simp only [Iss] at d0 d1 d2 d3 d4 hnk
        change Hid (szToIs ds (k + 1) = szToIs ds k + (zs.length)) at hs
        obtain ⟨l0, hl0⟩ : ∃ l0 : Int, l0 = left - (ds.length : Int) - ((szToIs ds k : Nat) : Int) := ⟨_, rfl⟩
        rw [← hl0] at hp' ⊢
        have hSz := hide (szImage_any x0 x1 x2 x3 adk zs.length capk l0 wr hp' (by omega) hnk)
        replace hl0 := hide hl0
        replace hp' := hide hp'
        clear hp hnk hlt q h0 h1
        by_cases hx : l0 < ((zs.length : Nat) : Int)
        · rw [if_pos hx] at hSz
          go_wp2_with fail
          refine (unhide hSz).mono ?_
          rintro e w2 ⟨rfl, hu⟩
          have hb2 := hide (below_upd hbel hu (Nat.le_refl _) (.inr (Nat.zero_le _)))
          have hE : R = -1 := by
            rw [unhide hR, if_pos]
            have := unhide hl0; have := unhide hs; have := unhide hle
            unfold sizeIs; omega
          subst hE
          clear hu hSz
          go_wp2
          go_ret
          exact ⟨rfl, Upd.of_below (unhide hb2) 0 0⟩
        · rw [if_neg hx] at hSz
          have q2 : decide (l0 - ((zs.length : Nat) : Int) < 0) = false := by simp; omega
          have hnx : Hid (0 ≤ l0 - ((zs.length : Nat) : Int)) := hide (by omega)
          have he : Hid (l0 - ((zs.length : Nat) : Int) = left - (ds.length : Int) - ((szToIs ds (k + 1) : Nat) : Int)) := hide (by have := unhide hl0; have := unhide hs; omega)
          obtain ⟨l1, hl1⟩ : ∃ l1 : Int, l1 = l0 - ((zs.length : Nat) : Int) := ⟨_, rfl⟩
          rw [← hl1] at hSz q2 hnx he
          clear hl1 hx
          go_wp2_with fail
          refine (unhide hSz).mono ?_
          rintro e w2 ⟨rfl, hu⟩
          have hb2 := hide (below_upd hbel hu (Nat.le_refl _) (.inr (Nat.zero_le _)))
          clear hu hSz
          go_wp2
          go_roundw
          case rel => exact ⟨k + 1, by omega, by go_num, by rw [← unhide he], by rw [← unhide he]; exact hnx, unhide hb2⟩
          case measure => simp [intOf]; omega
      · have hkl : k = ds.length := by omega
        subst hkl
        have hE : R = left - (ds.length : Int) - ((szToIs ds ds.length : Nat) : Int) := by
          rw [unhide hR, if_neg]
          · unfold sizeIs; omega
          · have := unhide hp; unfold sizeIs; omega
        replace hbel := hide hbel
        rw [← hE] at hp ⊢
        clear hE hR hlt q
        go_wp2
        go_ret
        exact ⟨rfl, Upd.of_below (unhide hbel) 0 0⟩
theorem szImageS_in (ad : Option Addr) (ds : Is) (cap : Nat) (left : Int) (w : World) (h0 : 0 ≤ left) (h1 : left ≤ 1099511627776) (hn : ds.length ≤ 9223372036854775807) (hI : InIs ds) (hA : ArgIs w ad ds) :
    Calls Tryd.prog 20 #[.slice ad ds.length cap, .int .i64 left] w fun e w' => e = .returned (.int .i64 (if left < ((sizeIs ds : Nat) : Int) then -1 else left - ((sizeIs ds : Nat) : Int))) ∧ Upd 0 0 w w' := szImageS_any ad ds cap left w h0 h1 hn hI.2 hA
end Go.Proofs.YtdochjkkgmkdgaaDoor

/- Rows that lie in other blocks than those that a step writes. -/
namespace Go.Proofs.YtdochjkkgmkdgaaDoor
open Go.RowKit

theorem Own.re {e : TypeId} {s : Nat} {w : World} {a b c d : Nat} {v : Value} {n : Nat} {xs : List Value} (h : Own e s w a b v n xs) (hx : ∀ g, v.ownBlock = some g → c ≤ g ∧ g < d) : Own e s w c d v n xs := by
  refine ⟨⟨h.1.1, ?_⟩, fun k hk => (hx k hk).2⟩
  rcases h.1.2 with hn | ⟨g, cap, cur, rfl, h1, h2, h3⟩
  · exact .inl hn
  · exact .inr ⟨g, cap, cur, rfl, (hx g rfl).1, h2, h3⟩
theorem Own.off {e : TypeId} {s : Nat} {w w' : World} {a b c d : Nat} {v : Value} {n : Nat} {xs : List Value} (h : Own e s w a b v n xs) (u : Upd c d w w') (hx : ∀ g, v.ownBlock = some g → g < c ∨ d ≤ g) : Own e s w' a b v n xs := by
  refine ⟨⟨h.1.1, ?_⟩, h.2⟩
  rcases h.1.2 with hn | ⟨g, cap, cur, rfl, h1, h2, h3⟩
  · exact .inl hn
  · have hl := h.1.lt g rfl
    exact .inr ⟨g, cap, cur, rfl, h1, by rw [u.block g hl.2 (hx g rfl)]; exact h2, h3⟩
theorem Own.bnd {e : TypeId} {s : Nat} {w : World} {a b : Nat} {v : Value} {n : Nat} {xs : List Value} (h : Own e s w a b v n xs) : ∀ g, v.ownBlock = some g → a ≤ g ∧ g < b := fun g hg => ⟨(h.1.lt g hg).1, h.2 g hg⟩
theorem Upd.wide {w w' : World} {a b c d : Nat} (u : Upd c d w w') (h : ∀ g, c ≤ g → g < d → a ≤ g ∧ g < b) : Upd a b w w' :=
  ⟨u.os, u.tape, u.output, u.size, fun i hi hn => u.block i hi (by have := h i; omega)⟩

theorem markIntS_at (a b : Nat) (v : Value) (k : Nat) (zs : List Int) (w : World) (hn : zs.length ≤ 1048576) (hk : k ≤ 1099511627776) (h : OwnI w a b v zs) :
    Calls Tryd.prog 40 #[v, .int .i64 k] w fun e w' => e = .returned (.int .i64 ((k + zs.length : Nat) : Int)) ∧ OwnI w' a b v (marks k zs.length) ∧ ∃ c d, Upd c d w w' ∧ ∀ g, c ≤ g → g < d → v.ownBlock = some g := by
  by_cases hg : ∃ g, v.ownBlock = some g
  · obtain ⟨g, hg⟩ := hg
    have hx : ∀ x, v.ownBlock = some x → g ≤ x ∧ x < g + 1 := fun x hx => by rw [hg] at hx; cases hx; omega
    refine (markIntS_own g (g + 1) v k zs w hn hk (h.re hx)).mono ?_
    rintro e w' ⟨rfl, ho, hu⟩
    exact ⟨rfl, ho.re h.bnd, g, g + 1, hu, fun x h1 h2 => by rw [hg, show x = g by omega]⟩
  · have hx : ∀ x, v.ownBlock = some x → 0 ≤ x ∧ x < 0 := fun x hx => absurd ⟨x, hx⟩ hg
    refine (markIntS_own 0 0 v k zs w hn hk (h.re hx)).mono ?_
    rintro e w' ⟨rfl, ho, hu⟩
    exact ⟨rfl, ho.re h.bnd, 0, 0, hu, fun x _ h2 => by omega⟩
end Go.Proofs.YtdochjkkgmkdgaaDoor

/- A list of Images grows by one. -/
namespace Go.Proofs.YtdochjkkgmkdgaaDoor
open Go.RowKit

theorem Own.grown {e : TypeId} {s : Nat} {w w' : World} {a : Nat} {v : Value} {n : Nat} {xs : List Value} {row : Option Nat} (h : Own e s w a w.heap.size v n xs) (hg : w.grownBy w' row) (hne : ∀ g, v.ownBlock = some g → row ≠ some g) : Own e s w' a w'.heap.size v n xs := by
  have hk : v.ownBlock = none ∨ v.ownBlock ≠ row := by
    cases hv : v.ownBlock with
    | none => exact .inl rfl
    | some g => exact .inr (fun e => hne g hv e.symm)
  exact Own.of (h.1.kept hg hk)
theorem getD_snoc_lt {α : Type} (l : List α) (x z : α) (j : Nat) (h : j < l.length) : (l ++ [x]).getD j z = l.getD j z := by
  simp [List.getD_eq_getElem?_getD, List.getElem?_append_left h]
theorem getD_snoc_eq {α : Type} (l : List α) (x z : α) : (l ++ [x]).getD l.length z = x := by simp [List.getD_eq_getElem?_getD]
theorem ownIs_snoc {w3 w4 : World} {B : Nat} {out v' u : Value} {ds : Is} {d : Im} {ys : List Value} {vs : Nat → Value} (he : ∀ j, j < ds.length → OwnI w3 B w3.heap.size (vs j) (Iss (ds.getD j Im0))) (hr : RowIs ys ds vs ds.length)
    (hd : DistIs vs ds.length) (hx : ∀ j, j < ds.length → ∀ g, (vs j).ownBlock = some g → out.ownBlock ≠ some g) (hlen : ys.length = ds.length * 5) (hu : OwnI w3 B w3.heap.size u (Iss d))
    (hun : ∀ g, u.ownBlock = some g → out.ownBlock ≠ some g ∧ ∀ j, j < ds.length → (vs j).ownBlock ≠ some g) (ho : w4.ownsRow B 25 5 v' (ds.length + 1) (ys ++ imc d u)) (hg : w3.grownBy w4 out.ownBlock)
    (hb : v'.ownBlock = out.ownBlock ∨ v'.ownBlock = some w3.heap.size) : OwnIs w4 B w4.heap.size v' (ds ++ [d]) := by
  have hl : (ds ++ [d]).length = ds.length + 1 := by simp
  have hnew : ∀ x : Value, ∀ g, x.ownBlock = some g → g < w3.heap.size → out.ownBlock ≠ some g → v'.ownBlock ≠ some g := by
    intro x g _ hlt hne hv
    rcases hb with e | e
    · exact hne (e ▸ hv)
    · rw [e] at hv; cases hv; omega
  refine ⟨ys ++ imc d u, fun j => if j = ds.length then u else vs j, ?_, ?_, ?_, ?_, ?_⟩
  · rw [hl]; exact Own.of ho
  · rw [hl]
    intro j hj
    by_cases e : j = ds.length
    · subst e
      rw [getD_snoc_eq]
      refine ⟨?_, ?_, ?_, ?_, ?_⟩
      · rw [List.getElem?_append_right (by omega), hlen]; simp
      · rw [List.getElem?_append_right (by omega), hlen, show ds.length * 5 + 1 - ds.length * 5 = 1 by omega]; rfl
      · rw [List.getElem?_append_right (by omega), hlen, show ds.length * 5 + 2 - ds.length * 5 = 2 by omega]; rfl
      · rw [List.getElem?_append_right (by omega), hlen, show ds.length * 5 + 3 - ds.length * 5 = 3 by omega]; rfl
      · rw [List.getElem?_append_right (by omega), hlen, show ds.length * 5 + 4 - ds.length * 5 = 4 by omega]; simp [imc]
    · have hj' : j < ds.length := by omega
      obtain ⟨h0, h1, h2, h3, h4⟩ := hr j hj'
      rw [getD_snoc_lt ds d Im0 j hj']
      refine ⟨?_, ?_, ?_, ?_, ?_⟩
      · rw [List.getElem?_append_left (by omega)]; exact h0
      · rw [List.getElem?_append_left (by omega)]; exact h1
      · rw [List.getElem?_append_left (by omega)]; exact h2
      · rw [List.getElem?_append_left (by omega)]; exact h3
      · rw [List.getElem?_append_left (by omega)]; exact h4.trans (congrArg some (if_neg e).symm)
  · rw [hl]
    intro j hj
    by_cases e : j = ds.length
    · subst e
      rw [getD_snoc_eq]
      simp only [if_pos]
      exact hu.grown hg (fun g h => (hun g h).1)
    · have hj' : j < ds.length := by omega
      rw [getD_snoc_lt ds d Im0 j hj']
      simp only [if_neg e]
      exact (he j hj').grown hg (hx j hj')
  · rw [hl]
    intro i j hi hj hne g h1 h2
    simp only at h1 h2
    by_cases e : i = ds.length
    · rw [if_pos e] at h1
      rw [if_neg (by omega)] at h2
      exact (hun g h1).2 j (by omega) h2
    · rw [if_neg e] at h1
      by_cases e' : j = ds.length
      · rw [if_pos e'] at h2
        exact (hun g h2).2 i (by omega) h1
      · rw [if_neg e'] at h2
        exact hd i j (by omega) (by omega) hne g h1 h2
  · rw [hl]
    intro j hj g h1
    simp only at h1
    by_cases e : j = ds.length
    · rw [if_pos e] at h1
      exact hnew u g h1 (hu.2 g h1) (hun g h1).1
    · rw [if_neg e] at h1
      exact hnew (vs j) g h1 ((he j (by omega)).2 g h1) (hx j (by omega) g h1)
end Go.Proofs.YtdochjkkgmkdgaaDoor
