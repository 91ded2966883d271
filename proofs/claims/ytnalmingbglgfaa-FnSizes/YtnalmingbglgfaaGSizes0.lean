/- The texts behind FnSizes, part 0: what each of them says stands at its head. -/
import Derived.Laws.BitsAll
import Derived.WalkKit
import Derived.Test.YtnalmingbglgfaaRows
import Derived.WalkSpells
import Derived.WalkLawsBesides
import Derived.BigQuiet
import Derived.Deep.QuietTactic
import Derived.Maps.AppendAt
import Derived.Laws.AppendOwnNone
import Derived.Deep.DeepCutAuto
import Derived.Deep.RegionHeld
import Derived.Deep.RegionHeld3
import Derived.BigRegion
/- Plain arithmetic and lists behind chapter 1: what a check sum is after some bytes, what folding and unfolding a number gives, what the bits of words are; no program is named here. -/
namespace Go.Proofs.Ytnalmingbglgfaa
open Go.RowKit

theorem take_snoc_getD {α : Type} (zs : List α) (d : α) (k : Nat) (h : k < zs.length) : zs.take (k + 1) = zs.take k ++ [zs.getD k d] := by
  rw [List.take_succ_eq_append_getElem h, List.getD_eq_getElem?_getD, List.getElem?_eq_getElem h]; rfl

theorem hide {p : Prop} (h : p) : Hid p := h
theorem unhide {p : Prop} (h : Hid p) : p := h
theorem ret_int {k : IntKind} {a b : Int} (h : a = b) : Ending.returned (.int k a) = .returned (.int k b) := by rw [h]

/-! ### Adler -/
def adStep (p : Int × Int) (x : Int) : Int × Int := ((p.1 + x) % 65521, (p.2 + (p.1 + x) % 65521) % 65521)
def adTo (zs : List Int) (k : Nat) : Int × Int := (zs.take k).foldl adStep (1, 0)
def adlerF (zs : List Int) : Int := (65536 * (adTo zs zs.length).2 + (adTo zs zs.length).1) % 4294967296
theorem adTo_succ (zs : List Int) (k : Nat) (h : k < zs.length) : adTo zs (k + 1) = adStep (adTo zs k) (zs.getD k 0) := by
  unfold adTo; rw [take_snoc_getD zs 0 k h, List.foldl_append]; rfl
theorem adTo_succ1 (zs : List Int) (k : Nat) (h : k < zs.length) : (adTo zs (k + 1)).1 = ((adTo zs k).1 + zs.getD k 0) % 65521 := by rw [adTo_succ zs k h]; rfl
theorem adTo_succ2 (zs : List Int) (k : Nat) (h : k < zs.length) : (adTo zs (k + 1)).2 = ((adTo zs k).2 + ((adTo zs k).1 + zs.getD k 0) % 65521) % 65521 := by rw [adTo_succ zs k h]; rfl
theorem adStep_bd (p : Int × Int) (x : Int) : (0 ≤ (adStep p x).1 ∧ (adStep p x).1 < 65521) ∧ 0 ≤ (adStep p x).2 ∧ (adStep p x).2 < 65521 := by
  unfold adStep; simp only; omega
theorem adTo_bd (zs : List Int) (k : Nat) : (0 ≤ (adTo zs k).1 ∧ (adTo zs k).1 < 65521) ∧ 0 ≤ (adTo zs k).2 ∧ (adTo zs k).2 < 65521 := by
  unfold adTo
  rcases List.eq_nil_or_concat (zs.take k) with h | ⟨l, x, h⟩
  · rw [h]; simp
  · rw [h, List.concat_eq_append, List.foldl_append]; exact adStep_bd _ _

/-! ### Crc -/
def crcBit (r : Nat) : Nat := if r % 2 = 1 then (r / 2) ^^^ 3988292384 else r / 2
def crcIt : Nat → Nat → Nat
  | 0, r => r
  | m + 1, r => crcBit (crcIt m r)
def crcStep (r : Nat) (x : Int) : Nat := crcIt 8 (r ^^^ x.toNat)
def crcTo (zs : List Int) (k : Nat) : Nat := (zs.take k).foldl (fun r x => crcIt 8 (r ^^^ (x.toNat % 256))) 4294967295
def crcF (zs : List Int) : Int := 4294967295 - (crcTo zs zs.length : Nat)
theorem crcBit_lt (r : Nat) (h : r < 4294967296) : crcBit r < 4294967296 := by
  unfold crcBit; split
  · exact Nat.xor_lt_two_pow (n := 32) (by omega) (by omega)
  · omega
theorem crcIt_lt (m r : Nat) (h : r < 4294967296) : crcIt m r < 4294967296 := by
  induction m with
  | zero => exact h
  | succ m ih => exact crcBit_lt _ ih
theorem u32_and_one (y : Nat) (h : y < 4294967296) : bits .and .u32 (y : Int) 1 = ((y % 2 : Nat) : Int) := by go_bits2
theorem crcBit_odd (y : Nat) (h : y < 4294967296) (ho : y % 2 = 1) : bits .xor .u32 ((y : Int) / 2) 3988292384 = (crcBit y : Nat) := by
  have := u32_xor_nat (y / 2) 3988292384 (by omega) (by omega)
  unfold crcBit; rw [if_pos ho, ← this]; rfl
theorem crcBit_even (y : Nat) (ho : ¬ y % 2 = 1) : (y : Int) / 2 = (crcBit y : Nat) := by
  unfold crcBit; rw [if_neg ho]; omega
theorem crcTo_succ (zs : List Int) (k : Nat) (h : k < zs.length) : crcTo zs (k + 1) = crcIt 8 (crcTo zs k ^^^ ((zs.getD k 0).toNat % 256)) := by
  unfold crcTo; rw [take_snoc_getD zs 0 k h, List.foldl_append]; rfl
theorem crcTo_lt (zs : List Int) (k : Nat) : crcTo zs k < 4294967296 := by
  unfold crcTo
  generalize zs.take k = l
  suffices H : ∀ r, r < 4294967296 → l.foldl (fun r x => crcIt 8 (r ^^^ (x.toNat % 256))) r < 4294967296 from H _ (by omega)
  induction l with
  | nil => intro r h; exact h
  | cons x l ih => intro r h; exact ih _ (crcIt_lt _ _ (Nat.xor_lt_two_pow (n := 32) (by omega) (by omega)))

theorem xor_half (a b : Nat) : (a ^^^ b) / 2 = a / 2 ^^^ b / 2 := Nat.xor_div_two_pow (n := 1)
theorem xor_par (a b : Nat) : (a ^^^ b) % 2 = (a % 2 ^^^ b % 2) := Nat.xor_mod_two_pow (n := 1)
theorem crcBit_xor (a b : Nat) : crcBit (a ^^^ b) = crcBit a ^^^ crcBit b := by
  unfold crcBit
  rw [xor_par, xor_half]
  rcases Nat.mod_two_eq_zero_or_one a with ha | ha <;> rcases Nat.mod_two_eq_zero_or_one b with hb | hb
  · rw [ha, hb]; simp
  · rw [ha, hb]; simp only [show ((0 : Nat) ^^^ 1) = 1 from rfl, if_true, show ¬ ((0 : Nat) = 1) by omega, if_false]
    rw [Nat.xor_assoc]
  · rw [ha, hb]; simp only [show ((1 : Nat) ^^^ 0) = 1 from rfl, if_true, show ¬ ((0 : Nat) = 1) by omega, if_false]
    rw [Nat.xor_assoc, Nat.xor_assoc, Nat.xor_comm (b / 2)]
  · rw [ha, hb]; simp only [show ((1 : Nat) ^^^ 1) = 0 from rfl, if_true, show ¬ ((0 : Nat) = 1) by omega, if_false]
    rw [Nat.xor_assoc, ← Nat.xor_assoc 3988292384 (b / 2), Nat.xor_comm 3988292384 (b / 2), Nat.xor_assoc (b / 2), Nat.xor_self, Nat.xor_zero]
theorem crcIt_xor (m a b : Nat) : crcIt m (a ^^^ b) = crcIt m a ^^^ crcIt m b := by
  induction m with
  | zero => rfl
  | succ m ih => show crcBit _ = crcBit _ ^^^ crcBit _; rw [ih, crcBit_xor]
theorem crcIt_shift (m h : Nat) : crcIt m (2 ^ m * h) = h := by
  induction m generalizing h with
  | zero => show 2 ^ 0 * h = h; omega
  | succ m ih =>
    show crcBit (crcIt m (2 ^ (m + 1) * h)) = h
    rw [Nat.pow_succ, Nat.mul_assoc, ih]
    unfold crcBit; rw [if_neg (by omega)]; omega
theorem split_xor (r : Nat) : r = (256 * (r / 256)) ^^^ (r % 256) := by
  have h1 : ((256 * (r / 256)) ^^^ (r % 256)) / 256 = (256 * (r / 256)) / 256 ^^^ (r % 256) / 256 := Nat.xor_div_two_pow (n := 8)
  have h2 : ((256 * (r / 256)) ^^^ (r % 256)) % 256 = (256 * (r / 256)) % 256 ^^^ (r % 256) % 256 := Nat.xor_mod_two_pow (n := 8)
  rw [show 256 * (r / 256) / 256 = r / 256 by omega, show r % 256 / 256 = 0 by omega, Nat.xor_zero] at h1
  rw [show 256 * (r / 256) % 256 = 0 by omega, show r % 256 % 256 = r % 256 by omega, Nat.zero_xor] at h2
  omega
theorem crc_table (r x : Nat) : crcIt 8 (r ^^^ x) = r / 256 ^^^ crcIt 8 ((r % 256) ^^^ x) := by
  have h := crcIt_shift 8 (r / 256)
  rw [show (2 : Nat) ^ 8 = 256 from rfl] at h
  have e : r ^^^ x = (256 * (r / 256)) ^^^ ((r % 256) ^^^ x) := by
    rw [← Nat.xor_assoc, ← split_xor r]
  rw [e, crcIt_xor, h]
theorem nat_xor_ones32 (x : Nat) (h : x < 4294967296) : 4294967295 ^^^ x = 4294967295 - x := by
  have e : (BitVec.allOnes 32 ^^^ BitVec.ofNat 32 x).toNat = 4294967295 - x := by
    rw [BitVec.allOnes_xor, BitVec.toNat_not, BitVec.toNat_ofNat, Nat.mod_eq_of_lt (by omega)]
  rw [← e, BitVec.toNat_xor, BitVec.toNat_ofNat, Nat.mod_eq_of_lt (by omega), BitVec.toNat_allOnes]
theorem crcF_bits (zs : List Int) : bits .xor .u32 4294967295 (crcTo zs zs.length : Nat) = crcF zs := by
  have hb := crcTo_lt zs zs.length
  have := u32_xor_nat 4294967295 (crcTo zs zs.length) (by omega) hb
  rw [nat_xor_ones32 _ hb] at this
  unfold crcF
  rw [show (4294967295 : Int) - (crcTo zs zs.length : Nat) = ((4294967295 - crcTo zs zs.length : Nat) : Int) by omega, ← this]; rfl

/-! ### Fold, Unfold -/
def foldF (n : Int) : Int := if n < 0 then -2 * n - 1 else 2 * n
def unfoldF (n : Int) : Int := if n % 2 = 1 then -(n / 2) - 1 else n / 2
theorem nat_xor_ones (x : Nat) (h : x < 18446744073709551616) : x ^^^ 18446744073709551615 = 18446744073709551615 - x := by
  have e : (BitVec.ofNat 64 x ^^^ BitVec.allOnes 64).toNat = 18446744073709551615 - x := by
    rw [BitVec.xor_allOnes, BitVec.toNat_not, BitVec.toNat_ofNat, Nat.mod_eq_of_lt (by omega)]
  rw [← e, BitVec.toNat_xor, BitVec.toNat_ofNat, Nat.mod_eq_of_lt (by omega), BitVec.toNat_allOnes]
theorem fold_bits (n : Int) (h0 : -9223372036854775808 ≤ n) (h1 : n ≤ 9223372036854775807) :
    bits .xor .u64 (IntKind.u64.wrap (wrap64 (n * 2))) (IntKind.u64.wrap (n / 9223372036854775808)) = foldF n := by
  rw [IntKind.wrap_u64, IntKind.wrap_u64]
  unfold foldF
  rw [u64_xor _ _ (by omega) (by omega) (by omega) (by omega)]
  split
  · have e1 : (wrap64 (n * 2) % 18446744073709551616).toNat = (2 * n + 18446744073709551616).toNat := by unfold wrap64; omega
    have e2 : (n / 9223372036854775808 % 18446744073709551616).toNat = 18446744073709551615 := by omega
    rw [e1, e2, nat_xor_ones _ (by omega)]; omega
  · have e1 : (wrap64 (n * 2) % 18446744073709551616).toNat = (2 * n).toNat := by unfold wrap64; omega
    have e2 : (n / 9223372036854775808 % 18446744073709551616).toNat = 0 := by omega
    rw [e1, e2, Nat.xor_zero]; omega
theorem unfold_bits (n : Int) (h0 : 0 ≤ n) (h1 : n ≤ 18446744073709551615) :
    bits .xor .i64 (n / 2) (wrap64 (-wrap64 (bits .and .u64 n 1))) = unfoldF n := by
  have e : bits .and .u64 n 1 = n % 2 := by go_bits2
  rw [e]
  unfold unfoldF
  obtain ⟨m, hm⟩ := Int.eq_ofNat_of_zero_le (show 0 ≤ n / 2 by omega)
  split
  · have e1 : wrap64 (-wrap64 (n % 2)) = -1 := by unfold wrap64; omega
    rw [e1, hm]
    show IntKind.i64.wrap ((BitVec.ofInt 64 (m : Int) ^^^ BitVec.ofInt 64 (-1)).toNat : Int) = _
    have e3 : BitVec.ofInt 64 (-1) = BitVec.allOnes 64 := by decide
    rw [e3, BitVec.xor_allOnes, BitVec.toNat_not, ofInt_u64 m (by omega)]
    simp [IntKind.wrap, IntKind.bits, IntKind.signed]
    omega
  · have e1 : wrap64 (-wrap64 (n % 2)) = 0 := by unfold wrap64; omega
    rw [e1, hm]
    show IntKind.i64.wrap ((BitVec.ofInt 64 (m : Int) ^^^ BitVec.ofInt 64 0).toNat : Int) = _
    have e3 : BitVec.ofInt 64 0 = 0#64 := by decide
    rw [e3, BitVec.xor_zero, ofInt_u64 m (by omega)]
    simp [IntKind.wrap, IntKind.bits, IntKind.signed]
    omega
end Go.Proofs.Ytnalmingbglgfaa

/- Plain: blocks of eight by eight: what is one, scales, coarse and fine numbers, waves. -/
namespace Go.Proofs.Ytnalmingbglgfaa
open Go.RowKit

/-- All numbers lie within two ends. -/
def InR (lo hi : Int) (zs : List Int) : Prop := ∀ j, j < zs.length → lo ≤ zs.getD j 0 ∧ zs.getD j 0 ≤ hi
noncomputable def inRB (lo hi : Int) (zs : List Int) : Bool := open Classical in decide (InR lo hi zs)
theorem inRB_yes {lo hi : Int} {zs : List Int} (h : InR lo hi zs) : inRB lo hi zs = true := by unfold inRB; simpa using h
theorem inRB_no {lo hi : Int} {zs : List Int} (h : ¬ InR lo hi zs) : inRB lo hi zs = false := by unfold inRB; simpa using h
def BlOk (zs : List Int) : Prop := zs.length = 64 ∧ InR (-32768) 32767 zs
noncomputable def blB (zs : List Int) : Bool := open Classical in decide (BlOk zs)
theorem blB_yes {zs : List Int} (h : BlOk zs) : blB zs = true := by unfold blB; simpa using h
theorem blB_no {zs : List Int} (h : ¬ BlOk zs) : blB zs = false := by unfold blB; simpa using h
def ScOk (zs : List Int) : Prop := zs.length = 64 ∧ InR 1 255 zs
noncomputable def scB (zs : List Int) : Bool := open Classical in decide (ScOk zs)
theorem scB_yes {zs : List Int} (h : ScOk zs) : scB zs = true := by unfold scB; simpa using h
theorem scB_no {zs : List Int} (h : ¬ ScOk zs) : scB zs = false := by unfold scB; simpa using h

/-- 64 numbers told by their places. -/
def tab (f : Nat → Int) : List Int := (List.range 64).map f
@[simp] theorem tab_length (f : Nat → Int) : (tab f).length = 64 := by simp [tab]
theorem tab_getD (f : Nat → Int) (k : Nat) (h : k < 64) : (tab f).getD k 0 = f k := by
  unfold tab
  rw [List.getD_eq_getElem?_getD, List.getElem?_map, List.getElem?_range h]; rfl
theorem tab_inR (f : Nat → Int) (lo hi : Int) (h : ∀ k, k < 64 → lo ≤ f k ∧ f k ≤ hi) : InR lo hi (tab f) := by
  intro j hj
  rw [tab_length] at hj
  rw [tab_getD f j hj]; exact h j hj

/-! ### Scales -/
def baseZ (v u : Nat) (c : Bool) : Int := if c then 10 + 6 * ((u : Int) + v) else 8 + 3 * ((u : Int) + v) + ((u * v / 2 : Nat) : Int)
def percZ (q : Int) : Int := if q < 50 then 5000 / q else 200 - 2 * q
def cutZ (a b n : Int) : Int := if n < a then a else if b < n then b else n
def scaleZ (q : Int) (c : Bool) (i : Nat) : Int := cutZ 1 255 ((baseZ (i / 8) (i % 8) c * percZ q + 50) / 100)
def scalesF (q : Int) (c : Bool) : List Int := if 1 ≤ q ∧ q ≤ 100 then tab (scaleZ q c) else []
theorem scalesF_len (q : Int) (c : Bool) : (scalesF q c).length ≤ 1048576 := by unfold scalesF; split <;> simp
theorem baseZ_bd (v u : Nat) (c : Bool) (hv : v < 8) (hu : u < 8) : 8 ≤ baseZ v u c ∧ baseZ v u c ≤ 94 := by
  unfold baseZ
  have h : u * v ≤ 7 * 7 := Nat.mul_le_mul (by omega) (by omega)
  split <;> omega
theorem percZ_bd (q : Int) (h1 : 1 ≤ q) (h2 : q ≤ 100) : 0 ≤ percZ q ∧ percZ q ≤ 5000 := by
  unfold percZ
  split
  · have h0 : 5000 / q ≤ 5000 := Int.ediv_le_self _ (by omega)
    have h3 : 0 ≤ 5000 / q := Int.ediv_nonneg (by omega) (by omega)
    omega
  · omega
theorem cutZ_bd (a b n : Int) (h : a ≤ b) : a ≤ cutZ a b n ∧ cutZ a b n ≤ b := by unfold cutZ; split <;> (try split) <;> omega
theorem cutZ_max (a b n : Int) (h : a ≤ b) : max a (min b n) = cutZ a b n := by unfold cutZ; split <;> (try split) <;> omega
theorem scalesF_ok (q : Int) (c : Bool) (h : 1 ≤ q ∧ q ≤ 100) : ScOk (scalesF q c) := by
  unfold scalesF
  rw [if_pos h]
  exact ⟨by simp, tab_inR _ _ _ (fun k _ => cutZ_bd _ _ _ (by omega))⟩

/-! ### Coarse and fine numbers -/
def coarseZ (n t : Int) : Int := if n < 0 then -((-n + t / 2) / t) else (n + t / 2) / t
def fineZ (n t : Int) : Int := cutZ (-32768) 32767 (n * t)
noncomputable def twoF (g : Int → Int → Int) (zs ts : List Int) : List Int := if blB zs && scB ts then tab (fun i => g (zs.getD i 0) (ts.getD i 0)) else []
theorem twoF_len (g : Int → Int → Int) (zs ts : List Int) : (twoF g zs ts).length ≤ 1048576 := by unfold twoF; split <;> simp
theorem twoF_no {g : Int → Int → Int} {zs ts : List Int} (h : ¬ (BlOk zs ∧ ScOk ts)) : twoF g zs ts = [] := by
  unfold twoF
  by_cases h1 : BlOk zs
  · rw [blB_yes h1, scB_no (fun h2 => h ⟨h1, h2⟩)]; rfl
  · rw [blB_no h1]; rfl
theorem twoF_yes {g : Int → Int → Int} {zs ts : List Int} (h1 : BlOk zs) (h2 : ScOk ts) : twoF g zs ts = tab (fun i => g (zs.getD i 0) (ts.getD i 0)) := by
  unfold twoF; rw [blB_yes h1, scB_yes h2]; rfl
theorem quot_bd (n t : Int) (hn : 0 ≤ n) (ht : 1 ≤ t) : 0 ≤ (n + t / 2) / t ∧ (n + t / 2) / t ≤ n := by
  have h1 : 0 ≤ (n + t / 2) / t := Int.ediv_nonneg (by omega) (by omega)
  refine ⟨h1, ?_⟩
  rcases Int.lt_or_le n ((n + t / 2) / t) with h | h
  · exfalso
    have h2 : (n + t / 2) / t * t ≤ n + t / 2 := Int.ediv_mul_le _ (by omega)
    have h3 : (n + 1) * t ≤ (n + t / 2) / t * t := Int.mul_le_mul_of_nonneg_right (by omega) (by omega)
    have h4 : n * t ≥ n := by
      have : n * 1 ≤ n * t := Int.mul_le_mul_of_nonneg_left ht hn
      omega
    rw [Int.add_mul] at h3
    omega
  · exact h
theorem coarseZ_bd (n t : Int) (hn : -32768 ≤ n ∧ n ≤ 32767) (ht : 1 ≤ t) : -32768 ≤ coarseZ n t ∧ coarseZ n t ≤ 32767 := by
  unfold coarseZ
  split
  · have := quot_bd (-n) t (by omega) ht; omega
  · have := quot_bd n t (by omega) ht; omega
theorem twoF_ok {g : Int → Int → Int} {zs ts : List Int} (h1 : BlOk zs) (h2 : ScOk ts) (hg : ∀ n t, (-32768 ≤ n ∧ n ≤ 32767) → (1 ≤ t ∧ t ≤ 255) → -32768 ≤ g n t ∧ g n t ≤ 32767) : BlOk (twoF g zs ts) := by
  rw [twoF_yes h1 h2]
  exact ⟨by simp, tab_inR _ _ _ (fun k hk => hg _ _ (h1.2 k (by rw [h1.1]; exact hk)) (h2.2 k (by rw [h2.1]; exact hk)))⟩
/-- Half a scale away at most. -/
theorem near_mul (n t : Int) (ht : 1 ≤ t) : -t ≤ 2 * ((n + t / 2) / t * t - n) ∧ 2 * ((n + t / 2) / t * t - n) ≤ t := by
  have h1 : (n + t / 2) / t * t ≤ n + t / 2 := Int.ediv_mul_le _ (by omega)
  have h2 : n + t / 2 < ((n + t / 2) / t + 1) * t := Int.lt_ediv_add_one_mul_self _ (by omega)
  rw [Int.add_mul] at h2
  generalize (n + t / 2) / t * t = q at h1 h2 ⊢
  omega
theorem coarse_near (n t : Int) (ht : 1 ≤ t) : -t ≤ 2 * (coarseZ n t * t - n) ∧ 2 * (coarseZ n t * t - n) ≤ t := by
  unfold coarseZ
  split
  · have h := near_mul (-n) t ht
    rw [Int.neg_mul]
    generalize (-n + t / 2) / t * t = q at h ⊢
    omega
  · exact near_mul n t ht
theorem quot_mul (m t : Int) (ht : 1 ≤ t) : (m * t + t / 2) / t = m := by
  rw [Int.add_comm, Int.add_mul_ediv_right _ _ (by omega), Int.ediv_eq_zero_of_lt (by omega) (by omega), Int.zero_add]
theorem coarse_fine (m t : Int) (ht : 1 ≤ t) : coarseZ (m * t) t = m := by
  unfold coarseZ
  by_cases h : m < 0
  · have h1 : m * t < 0 := Int.mul_neg_of_neg_of_pos h (by omega)
    rw [if_pos h1, ← Int.neg_mul, quot_mul _ _ ht]; omega
  · have h1 : ¬ m * t < 0 := by have := Int.mul_nonneg (show 0 ≤ m by omega) (show 0 ≤ t by omega); omega
    rw [if_neg h1, quot_mul _ _ ht]
end Go.Proofs.Ytnalmingbglgfaa

/- Plain: the places of a block in slanting lines. -/
namespace Go.Proofs.Ytnalmingbglgfaa
open Go.RowKit

def rowS (k i : Nat) : Nat := if k % 2 = 0 then k - i else i
def scanIn (k : Nat) : Nat → List Int
  | 0 => []
  | i + 1 => scanIn k i ++ (if rowS k i < 8 ∧ k - rowS k i < 8 then [((8 * rowS k i + k - rowS k i : Nat) : Int)] else [])
def scanTo : Nat → List Int
  | 0 => []
  | k + 1 => scanTo k ++ scanIn k (k + 1)
def scanL : List Int := scanTo 15
theorem scan_len : ∀ k, k < 16 → ∀ i, i < 17 → (scanTo k ++ scanIn k i).length ≤ 1000 := by decide
theorem scanTo_len (k : Nat) (h : k < 16) : (scanTo k).length ≤ 1000 := by
  have := scan_len k h 0 (by omega)
  rw [List.length_append] at this
  omega
theorem scanL_length : scanL.length = 64 := by decide
theorem scanL_bd : ∀ j, j < 64 → 0 ≤ scanL.getD j 0 ∧ scanL.getD j 0 < 64 := by decide
theorem scanL_inR : InR 0 63 scanL := by
  intro j hj
  rw [scanL_length] at hj
  have := scanL_bd j hj
  omega
theorem scanL_zero : scanL.getD 0 0 = 0 := by decide
theorem rowS_le (k i : Nat) (h : i ≤ k) : rowS k i ≤ k := by unfold rowS; split <;> omega
end Go.Proofs.Ytnalmingbglgfaa

/- The walks of the laws' own helpers on byte strings: a copy, and whether two are equal. -/
namespace Go.Proofs.Ytnalmingbglgfaa
open Go.RowKit

theorem below_drewN {B : Nat} {a w : World} (h : Below B a w) (n : Nat) : Below B a (w.drewN n) := h.trans ⟨rfl, rfl, rfl, Nat.le_refl _, fun _ _ => rfl⟩
theorem infoB : (Try.prog.info? 5).map (fun i => (i.zero, i.size, i.bytes)) = some (some (.int .u8 0), 1, 1) := by kernel_rfl

/-- What a byte string is, as the walks hand it on: its bytes, all in range, in the cells of a block. -/
def BytesAt (w : World) (b off : Nat) (zs : List Int) : Prop := ∀ j, j < zs.length → w.cell? ⟨b, off + j, none⟩ = some (.int .u8 (zs.getD j 0))
def InB (zs : List Int) : Prop := ∀ j, 0 ≤ zs.getD j 0 ∧ zs.getD j 0 < 256

theorem getD_map_int (zs : List Int) (k : IntKind) (j : Nat) (h : j < zs.length) : (zs.map (Value.int k))[j]? = some (.int k (zs.getD j 0)) := by
  rw [List.getElem?_map, List.getD_eq_getElem?_getD, List.getElem?_eq_getElem h]; rfl

def partCopy (zs : List Int) (k : Nat) : List Value := (zs.take k).map (Value.int .u8) ++ List.replicate (zs.length - k) (.int .u8 0)
theorem partCopy_zero (zs : List Int) : partCopy zs 0 = List.replicate zs.length (.int .u8 0) := by unfold partCopy; simp
theorem partCopy_all (zs : List Int) : partCopy zs zs.length = zs.map (.int .u8) := by unfold partCopy; simp
theorem partCopy_set (zs : List Int) (k : Nat) (h : k < zs.length) : (partCopy zs k).set k (.int .u8 (zs.getD k 0)) = partCopy zs (k + 1) := by
  unfold partCopy
  rw [take_snoc_getD zs 0 k h, List.map_append, List.set_append, if_neg (by simp; omega), List.append_assoc]
  congr 1
  have : zs.length - k = (zs.length - (k + 1)) + 1 := by omega
  rw [this, List.replicate_succ]
  simp [Nat.min_eq_left (Nat.le_of_lt h)]

end Go.Proofs.Ytnalmingbglgfaa

/- Memory of the call's own, by the blocks in which it lies: what a step keeps, and what a value in such blocks reads as. -/
namespace Go.Proofs.Ytnalmingbglgfaa
open Go.RowKit

/-- The world is as it was but for the blocks from a on, below b, and for what is new. -/
structure Upd (a b : Nat) (w w' : World) : Prop where
  os : w'.os = w.os
  tape : w'.tape = w.tape
  output : w'.output = w.output
  size : w.heap.size ≤ w'.heap.size
  block : ∀ k, k < w.heap.size → (k < a ∨ b ≤ k) → w'.heap[k]? = w.heap[k]?
theorem Upd.refl (a b : Nat) (w : World) : Upd a b w w := ⟨rfl, rfl, rfl, Nat.le_refl _, fun _ _ _ => rfl⟩
theorem Upd.trans {a b : Nat} {x w w' : World} (h : Upd a b x w) (k : Upd a b w w') : Upd a b x w' :=
  ⟨k.os.trans h.os, k.tape.trans h.tape, k.output.trans h.output, Nat.le_trans h.size k.size, fun i hi hn => (k.block i (Nat.lt_of_lt_of_le hi h.size) hn).trans (h.block i hi hn)⟩
theorem Upd.drewN {a b : Nat} {x w : World} (h : Upd a b x w) (n : Nat) : Upd a b x (w.drewN n) := h.trans ⟨rfl, rfl, rfl, Nat.le_refl _, fun _ _ _ => rfl⟩
theorem Upd.setCell {a b : Nat} {x w : World} (h : Upd a b x w) {r : Nat} (hr : a ≤ r ∧ r < b) (o : Nat) (u : Value) : Upd a b x (w.setCell ⟨r, o, none⟩ u) :=
  h.trans ⟨rfl, rfl, rfl, by simp, fun k _ hk => Below.heap_setCell w ⟨r, o, none⟩ u k (by simp; omega)⟩
theorem Upd.of_below {w w' : World} (h : Below w.heap.size w w') (a b : Nat) : Upd a b w w' := ⟨h.os, h.tape, h.output, h.size, fun k hk _ => h.block k hk⟩
theorem Upd.below {B a b : Nat} {w w' : World} (h : Upd a b w w') (hB : B ≤ w.heap.size) (ha : B ≤ a ∨ b ≤ a) : Below B w w' :=
  ⟨h.os, h.tape, h.output, h.size, fun k hk => h.block k (by omega) (by omega)⟩
theorem Upd.none {w w' : World} (h : Upd 0 0 w w') : Below w.heap.size w w' := h.below (Nat.le_refl _) (.inr (Nat.le_refl _))
theorem below_upd {B a b : Nat} {x w w' : World} (h : Below B x w) (k : Upd a b w w') (hx : B ≤ x.heap.size) (ha : B ≤ a ∨ b ≤ a) : Below B x w' :=
  h.trans (k.below (Nat.le_trans hx h.size) ha)

/-- A value of the call's own: its elements lie in a block from a on, below b. -/
def Own (e : TypeId) (s : Nat) (w : World) (a b : Nat) (v : Value) (n : Nat) (xs : List Value) : Prop := w.ownsRow a e s v n xs ∧ ∀ k, v.ownBlock = some k → k < b
theorem Own.of {e : TypeId} {s : Nat} {w : World} {a : Nat} {v : Value} {n : Nat} {xs : List Value} (h : w.ownsRow a e s v n xs) : Own e s w a w.heap.size v n xs := ⟨h, fun k hk => (h.lt k hk).2⟩
theorem Own.upd {e : TypeId} {s : Nat} {w w' : World} {a b c d : Nat} {v : Value} {n : Nat} {xs : List Value} (h : Own e s w a b v n xs) (u : Upd c d w w') (hd : b ≤ c ∨ d ≤ a) : Own e s w' a b v n xs := by
  refine ⟨⟨h.1.1, ?_⟩, h.2⟩
  rcases h.1.2 with hn | ⟨g, cap, cur, rfl, h1, h2, h3⟩
  · exact .inl hn
  · have hl := h.1.lt g rfl
    have hb := h.2 g rfl
    exact .inr ⟨g, cap, cur, rfl, h1, by rw [u.block g hl.2 (by omega)]; exact h2, h3⟩
theorem Own.keep {e : TypeId} {s : Nat} {w w' : World} {a b : Nat} {v : Value} {n : Nat} {xs : List Value} (h : Own e s w a b v n xs) (u : Upd 0 0 w w') : Own e s w' a b v n xs := h.upd u (.inr (Nat.zero_le _))

theorem own_mono {e : TypeId} {s : Nat} {w : World} {a b a' b' : Nat} {v : Value} {n : Nat} {xs : List Value} (h : Own e s w a b v n xs) (ha : a' ≤ a) (hb : b ≤ b') : Own e s w a' b' v n xs := by
  refine ⟨⟨h.1.1, ?_⟩, fun k hk => Nat.lt_of_lt_of_le (h.2 k hk) hb⟩
  rcases h.1.2 with hn | ⟨g, cap, cur, rfl, h1, h2, h3⟩
  · exact .inl hn
  · exact .inr ⟨g, cap, cur, rfl, Nat.le_trans ha h1, h2, h3⟩

/-- Cells of numbers of a kind. -/
def KindAt (k : IntKind) (w : World) (b off : Nat) (zs : List Int) : Prop := ∀ j, j < zs.length → w.cell? ⟨b, off + j, none⟩ = some (.int k (zs.getD j 0))
/-- Numbers that can be read: where there are any, in the cells of a block. -/
def ReadK (k : IntKind) (w : World) (ad : Option Addr) (zs : List Int) : Prop := zs ≠ [] → ∃ b off, ad = some ⟨b, off, none⟩ ∧ b < w.heap.size ∧ KindAt k w b off zs
theorem ReadK.below {k : IntKind} {w w' : World} {ad : Option Addr} {zs : List Int} (h : ReadK k w ad zs) (hb : Below w.heap.size w w') : ReadK k w' ad zs := by
  intro hne
  obtain ⟨b, off, e, hl, hc⟩ := h hne
  exact ⟨b, off, e, Nat.lt_of_lt_of_le hl hb.size, fun j hj => (hb.cell (by simpa using hl)).trans (hc j hj)⟩
theorem ne_of_lt_length {α : Type} {k : Nat} {zs : List α} (h : k < zs.length) : zs ≠ [] := by rintro rfl; simp at h
theorem readK_of_own {k : IntKind} {e : TypeId} {w : World} {a b : Nat} {v : Value} {zs : List Int} (h : Own e 1 w a b v zs.length (zs.map (.int k))) :
    ∃ ad cap, v = .slice ad zs.length cap ∧ ReadK k w ad zs := by
  rcases h.1.2 with ⟨rfl, hn⟩ | ⟨g, cap, cur, rfl, h1, h2, h3⟩
  · refine ⟨none, 0, by rw [hn], fun hne => absurd (List.length_eq_zero_iff.1 hn) hne⟩
  · refine ⟨some ⟨g, 0, none⟩, cap, rfl, fun _ => ⟨g, 0, rfl, (h.1.lt g rfl).2, fun j hj => ?_⟩⟩
    rw [Nat.zero_add, h.1.cellAt j (by omega)]
    exact getD_map_int zs k j hj
/-- The numbers that a marking leaves. -/
def marks (k n : Nat) : List Int := (List.range n).map fun j => ((k + j : Nat) : Int)
def marksB (k n : Nat) : List Int := (List.range n).map fun j => (((k + j) % 256 : Nat) : Int)
@[simp] theorem marks_length (k n : Nat) : (marks k n).length = n := by simp [marks]
@[simp] theorem marksB_length (k n : Nat) : (marksB k n).length = n := by simp [marksB]
theorem marks_getD (k n j : Nat) (h : j < n) : (marks k n).getD j 0 = ((k + j : Nat) : Int) := by simp [marks, h]
theorem marksB_getD (k n j : Nat) (h : j < n) : (marksB k n).getD j 0 = (((k + j) % 256 : Nat) : Int) := by simp [marksB, h]
/-- A row of which the first t elements are new. -/
def partSet (k : IntKind) (xs : List Value) (zs : List Int) (t : Nat) : List Value := (zs.take t).map (.int k) ++ xs.drop t
theorem partSet_zero (k : IntKind) (xs : List Value) (zs : List Int) : partSet k xs zs 0 = xs := by simp [partSet]
theorem partSet_all (k : IntKind) (xs : List Value) (zs : List Int) (h : xs.length = zs.length) : partSet k xs zs zs.length = zs.map (.int k) := by
  unfold partSet; rw [List.take_length, ← h, List.drop_length, List.append_nil]
theorem partSet_set (k : IntKind) (xs : List Value) (zs : List Int) (t : Nat) (h : t < zs.length) (hl : xs.length = zs.length) : (partSet k xs zs t).set t (.int k (zs.getD t 0)) = partSet k xs zs (t + 1) := by
  unfold partSet
  rw [take_snoc_getD zs 0 t h, List.map_append, List.set_append, if_neg (by simp; omega), List.append_assoc]
  congr 1
  have e : (xs.drop t) = xs[t] :: xs.drop (t + 1) := by rw [List.drop_eq_getElem_cons]
  simp [Nat.min_eq_left (Nat.le_of_lt h)]
  rw [e]; rfl
theorem partSet_length (k : IntKind) (xs : List Value) (zs : List Int) (t : Nat) (h : t ≤ zs.length) (hl : xs.length = zs.length) : (partSet k xs zs t).length = zs.length := by
  unfold partSet; simp; omega
theorem upd_of_same {P : Program} {f : FuncId} {args : Array Value} {w : World} {r : Ending} (h : Calls P f args w fun e w' => e = r ∧ w' = w) : Calls P f args w fun e w' => e = r ∧ Upd 0 0 w w' := by
  refine h.mono ?_
  rintro e w' ⟨rfl, rfl⟩
  exact ⟨rfl, Upd.refl _ _ _⟩
theorem upd_of_belowC {P : Program} {f : FuncId} {args : Array Value} {w : World} {r : Ending} (h : Calls P f args w fun e w' => e = r ∧ Below w.heap.size w w') : Calls P f args w fun e w' => e = r ∧ Upd 0 0 w w' := by
  refine h.mono ?_
  rintro e w' ⟨he, hb⟩
  exact ⟨he, Upd.of_below hb _ _⟩
/-- The first cells of a block. -/
def Held (w : World) (g : Nat) (cs : List Value) : Prop := g < w.heap.size ∧ ∀ j v, cs[j]? = some v → w.cell? ⟨g, j, none⟩ = some v
theorem held_new (w : World) (cs : List Value) (t : TypeId) : Held (w.alloc (.cells cs.toArray t)) w.heap.size cs := by
  refine ⟨by simp, fun j v h => ?_⟩
  rw [World.cell?_alloc_at _ _ _ _ rfl]; simpa using h
theorem Held.upd {w w' : World} {g c e : Nat} {cs : List Value} (h : Held w g cs) (u : Upd c e w w') (hd : g + 1 ≤ c ∨ e ≤ g) : Held w' g cs := by
  refine ⟨Nat.lt_of_lt_of_le h.1 u.size, fun j v hj => ?_⟩
  rw [World.cell?_of_block (w := w) (a := ⟨g, j, none⟩) (u.block g h.1 (by omega))]
  exact h.2 j v hj
theorem Held.keep {w w' : World} {g : Nat} {cs : List Value} (h : Held w g cs) (u : Upd 0 0 w w') : Held w' g cs := h.upd u (.inr (Nat.zero_le _))
def InI (zs : List Int) : Prop := ∀ j, -9223372036854775808 ≤ zs.getD j 0 ∧ zs.getD j 0 ≤ 9223372036854775807
end Go.Proofs.Ytnalmingbglgfaa

/- Lists of ints, as values of the call's own and as values that can be read. -/
namespace Go.Proofs.Ytnalmingbglgfaa
open Go.RowKit

theorem infoI : (Try.prog.info? 3).map (fun i => (i.zero, i.size, i.bytes)) = some (some (.int .i64 0), 1, 8) := by kernel_rfl
def ints (zs : List Int) : List Value := zs.map (.int .i64)
theorem ints_length (zs : List Int) : (ints zs).length = zs.length := by simp [ints]
abbrev OwnI (w : World) (a b : Nat) (v : Value) (zs : List Int) : Prop := Own 3 1 w a b v zs.length (ints zs)
abbrev ArgI (w : World) (ad : Option Addr) (zs : List Int) : Prop := ReadK .i64 w ad zs
/-- A list of ints as a value that can be read. -/
def RdI (w : World) (v : Value) (zs : List Int) : Prop := ∃ ad cap, v = .slice ad zs.length cap ∧ ArgI w ad zs
theorem RdI.below {w w' : World} {v : Value} {zs : List Int} (h : RdI w v zs) (hb : Below w.heap.size w w') : RdI w' v zs := by
  obtain ⟨ad, cap, e, h⟩ := h
  exact ⟨ad, cap, e, h.below hb⟩
theorem OwnI.rd {w : World} {a b : Nat} {v : Value} {zs : List Int} (h : OwnI w a b v zs) : RdI w v zs := readK_of_own h

end Go.Proofs.Ytnalmingbglgfaa

/- The walks of the laws' own helpers on lists of ints: a copy, whether two are equal, marks. -/
namespace Go.Proofs.Ytnalmingbglgfaa
open Go.RowKit

def partI (zs : List Int) (k : Nat) : List Value := ints (zs.take k) ++ List.replicate (zs.length - k) (.int .i64 0)
theorem partI_zero (zs : List Int) : partI zs 0 = List.replicate zs.length (.int .i64 0) := by unfold partI ints; simp
theorem partI_all (zs : List Int) : partI zs zs.length = ints zs := by unfold partI ints; simp
theorem partI_set (zs : List Int) (k : Nat) (h : k < zs.length) : (partI zs k).set k (.int .i64 (zs.getD k 0)) = partI zs (k + 1) := by
  unfold partI ints
  rw [take_snoc_getD zs 0 k h, List.map_append, List.set_append, if_neg (by simp; omega), List.append_assoc]
  congr 1
  have : zs.length - k = (zs.length - (k + 1)) + 1 := by omega
  rw [this, List.replicate_succ]
  simp [Nat.min_eq_left (Nat.le_of_lt h)]
theorem partI_length (zs : List Int) (k : Nat) (h : k ≤ zs.length) : (partI zs k).length = zs.length := by unfold partI ints; simp; omega

set_option maxHeartbeats 1000000 in
theorem toIntS_own (ad : Option Addr) (cap : Nat) (zs : List Int) (w : World) (hn : zs.length ≤ 1048576) (hA : ArgI w ad zs) :
    Calls Try.prog 37 #[.slice ad zs.length cap] w fun e w' =>
      ∃ v, e = .returned v ∧ OwnI w' w.heap.size w'.heap.size v zs ∧ Upd 0 0 w w' := by
  obtain ⟨i0, hi, hz0, hz1, hz2⟩ := info_parts infoI
  replace hA := hide hA
  go_enter Try.func37, Try.ntmps37
  go_wp2_with (at_make; refine wpList_make_full _ rfl _ _ 23 rfl w.heap.size 3 i0 (.int .i64 0) 1 Try.underlying23 hi hz0 hz1 .i64 .i64 _ _ zs.length rfl rfl (by omega) (by omega) (by rw [hz2]; omega) (by unfold maxLen; omega) (Nat.le_refl _) ?_; intro w1 hown hgrow)
  have hbel := (Below.refl w.heap.size w).grown hgrow (Nat.le_refl _) (by simp)
  have hown0 : w1.ownsRow w.heap.size 3 1 (.slice (some ⟨w.heap.size, 0, none⟩) zs.length zs.length) zs.length (partI zs 0) := by
    rw [partI_zero]; simpa [toList_madeCells_one, Value.cells] using hown
  clear hown hgrow
  go_loopw [4] (fun i wr => ∃ k : Nat, k ≤ zs.length ∧ i = .int .i64 k ∧ wr.ownsRow w.heap.size 3 1 (.slice (some ⟨w.heap.size, 0, none⟩) zs.length zs.length) zs.length (partI zs k) ∧ Below w.heap.size w wr) (fun i _ => zs.length - (intOf i).toNat)
  case atStart => exact ⟨0, Nat.zero_le _, rfl, hown0, hbel⟩
  case round =>
    clear hown0 hbel
    obtain ⟨k, hk, rfl, hown, hbel⟩ := hrel
    by_cases hlt : k < zs.length
    · obtain ⟨b, off, rfl, hbl, hc⟩ := (unhide hA) (ne_of_lt_length hlt)
      have hck : wr.cell? ⟨b, off + k, none⟩ = some (.int .i64 (zs.getD k 0)) := (hbel.cell (by simpa using hbl)).trans (hc k hlt)
      have hps := partI_set zs k hlt
      generalize zs.getD k 0 = x at hck hps
      have hdst : ∃ u, wr.cell? ⟨w.heap.size, k, none⟩ = some u := by
        rw [hown.cellAt k (by omega)]; exact ⟨_, List.getElem?_eq_getElem (by have := hown.1; omega)⟩
      obtain ⟨u, hdst⟩ := hdst
      have hfz := hown.frozenAt k
      have hst := (hown.stored k (.int .i64 x)).1
      rw [hps] at hst
      have hb2 := hbel.setCell (p := ⟨w.heap.size, k, none⟩) (Nat.le_refl _) (.int .i64 x)
      replace hst := hide hst
      clear hown hps hc
      go_wp2
      go_roundw
      case rel => exact ⟨k + 1, by omega, by go_num, unhide hst, hb2⟩
      case measure => simp [intOf]; omega
    · have hkl : k = zs.length := by omega
      subst hkl
      rw [partI_all] at hown
      replace hown := hide (Own.of hown)
      go_wp2
      go_ret
      exact ⟨_, rfl, unhide hown, Upd.of_below hbel 0 0⟩

set_option maxHeartbeats 1000000 in
theorem eqIntS_rd (u v : Value) (zs : List Int) (w : World) (hn : zs.length ≤ 1048576) (hu : RdI w u zs) (hv : RdI w v zs) :
    Calls Try.prog 34 #[u, v] w fun e w' => e = .returned (.bool true) ∧ Upd 0 0 w w' := by
  obtain ⟨ad, cap, rfl, hA⟩ := hu
  obtain ⟨ad', cap', rfl, hA'⟩ := hv
  replace hA := hide hA
  replace hA' := hide hA'
  go_enter Try.func34, Try.ntmps34
  go_wp2
  go_loopw [5] (fun i wr => ∃ k : Nat, k ≤ zs.length ∧ i = .int .i64 k ∧ ∃ nq, wr = w.drewN nq) (fun i _ => zs.length - (intOf i).toNat)
  case atStart => exact ⟨0, Nat.zero_le _, rfl, 0, rfl⟩
  case round =>
    obtain ⟨k, hk, rfl, nq, rfl⟩ := hrel
    by_cases hlt : k < zs.length
    · obtain ⟨b, off, rfl, hbl, hc⟩ := (unhide hA) (ne_of_lt_length hlt)
      obtain ⟨b', off', rfl, hbl', hc'⟩ := (unhide hA') (ne_of_lt_length hlt)
      have hck := hc k hlt
      have hck' := hc' k hlt
      clear hc hc' hA hA'
      generalize zs.getD k 0 = x at hck hck'
      go_wp2
      go_quiet (fail)
      go_wp2
      go_roundw
      case rel => exact ⟨k + 1, by omega, by go_num, _, rfl⟩
      case measure => simp [intOf]; omega
    · have hkl : k = zs.length := by omega
      subst hkl
      go_wp2
      go_ret
      exact ⟨rfl, (Upd.refl 0 0 _).drewN _⟩

set_option maxHeartbeats 1000000 in
theorem markIntS_none (k : Nat) (w : World) : Calls Try.prog 35 #[.slice none 0 0, .int .i64 k] w fun e w' => e = .returned (.int .i64 (k : Int)) ∧ w' = w := by
  go_enter Try.func35, Try.ntmps35
  go_wp2
  go_loop [1, 5] (fun a i => a = .int .i64 k ∧ i = .int .i64 0) (fun _ _ => 0)
  case atStart => exact ⟨rfl, rfl⟩
  case round =>
    obtain ⟨rfl, rfl⟩ := hrel
    go_wp2
    go_ret
    exact ⟨rfl, rfl⟩

set_option maxHeartbeats 1000000 in
theorem markIntS_some (a g cap n k : Nat) (xs : List Value) (w : World) (hn : n ≤ 1048576) (hk : k ≤ 1099511627776) (h : w.ownsRow a 3 1 (.slice (some ⟨g, 0, none⟩) n cap) n xs) :
    Calls Try.prog 35 #[.slice (some ⟨g, 0, none⟩) n cap, .int .i64 k] w fun e w' => e = .returned (.int .i64 ((k + n : Nat) : Int)) ∧ w'.ownsRow a 3 1 (.slice (some ⟨g, 0, none⟩) n cap) n (ints (marks k n)) ∧ Upd g (g + 1) w w' := by
  have hxl : xs.length = n := by have := h.1; omega
  go_enter Try.func35, Try.ntmps35
  go_wp2
  go_loopw [1, 5] (fun c i wr => ∃ t : Nat, t ≤ n ∧ c = .int .i64 ((k + t : Nat) : Int) ∧ i = .int .i64 t ∧ wr.ownsRow a 3 1 (.slice (some ⟨g, 0, none⟩) n cap) n (partSet .i64 xs (marks k n) t) ∧ Upd g (g + 1) w wr) (fun _ i _ => n - (intOf i).toNat)
  case atStart => exact ⟨0, Nat.zero_le _, rfl, rfl, by rw [partSet_zero]; exact h, Upd.refl _ _ _⟩
  case round =>
    clear h
    obtain ⟨t, ht, rfl, rfl, hown, hupd⟩ := hrel
    have hlen : (partSet .i64 xs (marks k n) t).length = n := by rw [partSet_length _ _ _ _ (by simpa using ht) (by simpa using hxl)]; simp
    by_cases hlt : t < n
    · have hdst : wr.cell? ⟨g, t, none⟩ = some ((partSet .i64 xs (marks k n) t).getD t undef) := by
        rw [hown.cellAt t (by omega), List.getElem?_eq_getElem (by omega), List.getD_eq_getElem?_getD, List.getElem?_eq_getElem (by omega)]; rfl
      have hfz := hown.frozenAt t
      have hst := (hown.stored t (.int .i64 ((k + t : Nat) : Int))).1
      have hps := partSet_set .i64 xs (marks k n) t (by simpa using hlt) (by simpa using hxl)
      rw [marks_getD k n t hlt] at hps
      rw [hps] at hst
      generalize (partSet .i64 xs (marks k n) t).getD t undef = u at hdst
      have ho2 := hupd.setCell (r := g) ⟨Nat.le_refl _, by omega⟩ t (.int .i64 ((k + t : Nat) : Int))
      rw [show (((k + t : Nat) : Int)) = (k : Int) + (t : Int) by omega] at hst ho2
      replace hst := hide hst
      replace ho2 := hide ho2
      clear hown hupd hps hlen
      go_wp2
      go_roundw
      case rel => exact ⟨t + 1, by omega, by go_num, by go_num, unhide hst, unhide ho2⟩
      case measure => simp [intOf]; omega
    · have htn : t = n := by omega
      subst htn
      have hM : wr.ownsRow a 3 1 (.slice (some ⟨g, 0, none⟩) t cap) t (ints (marks k t)) := by
        have := partSet_all .i64 xs (marks k t) (by simpa using hxl)
        rw [marks_length] at this
        rw [this] at hown; exact hown
      replace hM := hide hM
      clear hown
      go_wp2
      go_ret
      exact ⟨rfl, unhide hM, hupd⟩
theorem markIntS_own (a b : Nat) (v : Value) (k : Nat) (zs : List Int) (w : World) (hn : zs.length ≤ 1048576) (hk : k ≤ 1099511627776) (h : OwnI w a b v zs) :
    Calls Try.prog 35 #[v, .int .i64 k] w fun e w' => e = .returned (.int .i64 ((k + zs.length : Nat) : Int)) ∧ OwnI w' a b v (marks k zs.length) ∧ Upd a b w w' := by
  rcases h.1.2 with ⟨rfl, h0⟩ | ⟨g, cap, cur, rfl, h1, h2, h3⟩
  · refine (markIntS_none k w).mono ?_
    rintro e w' ⟨rfl, rfl⟩
    rw [h0]
    exact ⟨rfl, ⟨World.ownsRow_nil _ _ _ _, fun k hk => by simp [Value.ownBlock] at hk⟩, Upd.refl _ _ _⟩
  · have hb := h.2 g rfl
    refine (markIntS_some a g cap zs.length k _ w hn hk h.1).mono ?_
    rintro e w' ⟨rfl, ho, hu⟩
    refine ⟨rfl, ⟨?_, h.2⟩, ⟨hu.os, hu.tape, hu.output, hu.size, fun i hi hn => hu.block i hi (by omega)⟩⟩
    rw [marks_length]; exact ho

set_option maxHeartbeats 1000000 in
theorem heldIntS_own (a b : Nat) (v : Value) (k n : Nat) (w : World) (hn : n ≤ 1048576) (hk : k ≤ 1099511627776) (h : OwnI w a b v (marks k n)) :
    Calls Try.prog 36 #[v, .int .i64 k] w fun e w' => e = .returned (.int .i64 ((k + n : Nat) : Int)) ∧ w' = w := by
  obtain ⟨ad, cap, rfl, hA⟩ := h.rd
  rw [marks_length]
  replace hA := hide hA
  clear h
  go_enter Try.func36, Try.ntmps36
  go_wp2
  go_loop [1, 5] (fun a i => ∃ t : Nat, t ≤ n ∧ a = .int .i64 ((k + t : Nat) : Int) ∧ i = .int .i64 t) (fun _ i => n - (intOf i).toNat)
  case atStart => exact ⟨0, Nat.zero_le _, rfl, rfl⟩
  case round =>
    obtain ⟨t, ht, rfl, rfl⟩ := hrel
    by_cases hlt : t < n
    · obtain ⟨b', off, rfl, hbl, hc⟩ := (unhide hA) (ne_of_lt_length (k := t) (by simpa using hlt))
      have hck := hc t (by simpa using hlt)
      rw [marks_getD k n t hlt, show (((k + t : Nat) : Int)) = (k : Int) + (t : Int) by omega] at hck
      clear hc hA
      go_wp2
      go_round
      case rel => exact ⟨t + 1, by omega, by go_num, by go_num⟩
      case measure => simp [intOf]; omega
    · have htn : t = n := by omega
      subst htn
      go_wp2
      go_ret
      exact ⟨rfl, rfl⟩
end Go.Proofs.Ytnalmingbglgfaa

/- Appending ints to a row of the call's own, whatever slice they come in. -/
namespace Go.Proofs.Ytnalmingbglgfaa
open Go.RowKit

theorem ints_lengthA (zs : List Int) : (ints zs).length = zs.length := by simp [ints]
theorem ints_append (a b : List Int) : ints (a ++ b) = ints a ++ ints b := by simp [ints]
theorem ints_one (zs : List Int) : ∀ u ∈ ints zs, u.oneCell' = true := by
  intro u hu
  simp only [ints, List.mem_map] at hu
  obtain ⟨b, _, rfl⟩ := hu
  rfl
theorem ints_cells {w : World} {b off : Nat} {ys : List Int} (h : KindAt .i64 w b off ys) : ∀ j u, (ints ys)[j]? = some u → w.cell? ((⟨b, off, none⟩ : Addr).add j) = some u := by
  intro j u hu
  rw [add_cellAI]
  have hj : j < ys.length := by
    rcases Nat.lt_or_ge j ys.length with h' | h'
    · exact h'
    · rw [List.getElem?_eq_none (by rw [ints_lengthA]; exact h')] at hu; cases hu
  have := getD_map_int ys .i64 j hj
  unfold ints at hu
  rw [this] at hu
  cases hu
  exact h j hj
where
  add_cellAI {g o j : Nat} : (⟨g, o, none⟩ : Addr).add j = ⟨g, o + j, none⟩ := by unfold Addr.add; split <;> simp_all

/-- Ints that can be read: nil, or in the cells of a block. -/
def RdJ (w : World) (u : Value) (ys : List Int) : Prop := (u = .slice none 0 0 ∧ ys = []) ∨ ∃ b off cap, u = .slice (some ⟨b, off, none⟩) ys.length cap ∧ b < w.heap.size ∧ KindAt .i64 w b off ys
theorem RdJ.below {w w' : World} {u : Value} {ys : List Int} (h : RdJ w u ys) (hb : Below w.heap.size w w') : RdJ w' u ys := by
  rcases h with h | ⟨b, off, cap, e, hl, hc⟩
  · exact .inl h
  · exact .inr ⟨b, off, cap, e, Nat.lt_of_lt_of_le hl hb.size, fun j hj => (hb.cell (by simpa using hl)).trans (hc j hj)⟩
theorem RdJ.form {w : World} {u : Value} {ys : List Int} (h : RdJ w u ys) : ∃ ad cap, u = .slice ad ys.length cap := by
  rcases h with ⟨rfl, rfl⟩ | ⟨b, off, cap, rfl, _⟩
  · exact ⟨_, _, rfl⟩
  · exact ⟨_, _, rfl⟩
theorem rdJ_of_owns {w : World} {base : Nat} {v : Value} {zs : List Int} (h : w.ownsRow base 3 1 v zs.length (ints zs)) : RdJ w v zs := by
  rcases h.2 with ⟨rfl, hn⟩ | ⟨g, cap, cur, rfl, h1, h2, h3⟩
  · exact .inl ⟨rfl, List.length_eq_zero_iff.1 hn⟩
  · refine .inr ⟨g, 0, cap, rfl, (h.lt g rfl).2, fun j hj => ?_⟩
    rw [Nat.zero_add, h.cellAt j (by omega)]
    exact getD_map_int zs .i64 j hj
theorem rdJ_of_own {w : World} {a b : Nat} {v : Value} {zs : List Int} (h : OwnI w a b v zs) : RdJ w v zs := rdJ_of_owns h.1

theorem wpList_appI {ops : Array Oper} {rest : List Oper} {o : Oper} {a : Act} {Q : Exit → Act → World → Prop} {w : World} (hgd : o.guard = none) (s x : Operand)
    (ho : o.op = .call { callee := .builtin .append, args := #[s, x], argTypes := #[23, 23] }) (base : Nat) (v : Value) (zs : List Int) (hs : a.eval s = v)
    (hown : w.ownsRow base 3 1 v zs.length (ints zs)) (u : Value) (ys : List Int) (hx : a.eval x = u) (hr : RdJ w u ys) (h63 : zs.length + ys.length ≤ 1099511627776) (hbase : base ≤ w.heap.size)
    (h : ∀ v' w', w'.ownsRow base 3 1 v' (zs ++ ys).length (ints (zs ++ ys)) → w.grownBy w' v.ownBlock → (v'.ownBlock = v.ownBlock ∨ v'.ownBlock = some w.heap.size) → wpList Try.prog ops Q rest (a.put o.dst v') w') :
    wpList Try.prog ops Q (o :: rest) a w := by
  obtain ⟨i0, hi0, hz0, hz1, hz2⟩ := info_parts infoI
  rcases hr with ⟨rfl, rfl⟩ | ⟨b, off, cap, rfl, hl, hc⟩
  · refine wpList_append_own_none hgd s x 23 ho base 3 i0 1 Try.underlying23 hi0 v _ _ hs hown hx ?_
    refine h v w ?_ ⟨rfl, rfl, rfl, Nat.le_refl _, fun _ _ _ => rfl⟩ (.inl rfl)
    rw [List.append_nil]; exact hown
  · refine wpList_append_own_at _ hgd s x 23 ho base 3 i0 (.int .i64 0) 1 8 Try.underlying23 hi0 hz0 hz1 hz2 rfl (by decide) v zs.length (ints zs) hs hown ⟨b, off, none⟩ ys.length cap (ints ys) hx (by rw [ints_lengthA]; omega) (ints_cells hc) (ints_one ys) (by unfold maxLen; omega) (by omega) hbase ?_
    intro v' w' h1 h2 _ h4
    refine h v' w' ?_ h2 h4
    rw [List.length_append, ints_append]; exact h1

theorem own_nilI (w : World) (a b : Nat) : OwnI w a b (.slice none 0 0) [] := ⟨World.ownsRow_nil _ _ _ _, fun k hk => by simp [Value.ownBlock] at hk⟩
theorem upd_of_grownI {w w' : World} {a : Nat} {e : TypeId} {s : Nat} {v : Value} {n : Nat} {xs : List Value} (hg : w.grownBy w' v.ownBlock) (ho : w.ownsRow a e s v n xs) : Upd a w.heap.size w w' :=
  ⟨hg.os, hg.tape, hg.output, hg.size, fun k hk hn => hg.block k hk (fun e => by have := ho.lt k e.symm; omega)⟩
end Go.Proofs.Ytnalmingbglgfaa

/- Cells of a block that may be written, known one by one. -/
namespace Go.Proofs.Ytnalmingbglgfaa
open Go.RowKit

def HeldF (w : World) (g : Nat) (cs : List Value) : Prop := Held w g cs ∧ ∀ j, w.frozen? ⟨g, j, none⟩ = false
theorem heldF_new (w : World) (cs : List Value) (t : TypeId) : HeldF (w.alloc (.cells cs.toArray t)) w.heap.size cs :=
  ⟨held_new w cs t, fun _ => World.frozen?_alloc_at _ _ _ _ rfl⟩
theorem HeldF.upd {w w' : World} {g c e : Nat} {cs : List Value} (h : HeldF w g cs) (u : Upd c e w w') (hd : g + 1 ≤ c ∨ e ≤ g) : HeldF w' g cs :=
  ⟨h.1.upd u hd, fun j => (World.frozen?_of_block (a := ⟨g, j, none⟩) (u.block g h.1.1 (by omega))).trans (h.2 j)⟩
theorem HeldF.keep {w w' : World} {g : Nat} {cs : List Value} (h : HeldF w g cs) (u : Upd 0 0 w w') : HeldF w' g cs := h.upd u (.inr (Nat.zero_le _))
theorem HeldF.other {w : World} {g : Nat} {cs : List Value} (h : HeldF w g cs) {g' : Nat} (hne : g' ≠ g) (o : Nat) (u : Value) : HeldF (w.setCell ⟨g', o, none⟩ u) g cs := by
  refine ⟨⟨by simpa using h.1.1, fun j v hj => ?_⟩, fun j => ?_⟩
  · rw [World.cell?_setCell_other _ _ _ _ (by simp_all; try omega)]; exact h.1.2 j v hj
  · rw [World.frozen?_setCell]; exact h.2 j
theorem HeldF.set {w : World} {g : Nat} {cs : List Value} (h : HeldF w g cs) (o : Nat) (u : Value) (ho : o < cs.length) : HeldF (w.setCell ⟨g, o, none⟩ u) g (cs.set o u) := by
  refine ⟨⟨by simpa using h.1.1, fun j v hj => ?_⟩, fun j => ?_⟩
  · by_cases e : o = j
    · subst e
      rw [List.getElem?_set_self ho] at hj
      cases hj
      exact World.cell?_setCell_same _ _ _ (h.1.2 o _ (List.getElem?_eq_getElem ho))
    · rw [List.getElem?_set_ne e] at hj
      rw [World.cell?_setCell_other _ _ _ _ (by simp_all; try omega)]; exact h.1.2 j v hj
  · rw [World.frozen?_setCell]; exact h.2 j
theorem Own.set' {e : TypeId} {s : Nat} {w : World} {a b : Nat} {v : Value} {n : Nat} {xs : List Value} (h : Own e s w a b v n xs) {c : Nat} (hc : c < a) (o : Nat) (u : Value) : Own e s (w.setCell ⟨c, o, none⟩ u) a b v n xs :=
  ⟨ownsRow_setCell_below h.1 hc u, h.2⟩
end Go.Proofs.Ytnalmingbglgfaa

/- The specification's ScanOrder. -/
namespace Go.Proofs.Ytnalmingbglgfaa
open Go.RowKit

set_option maxHeartbeats 16000000 in
set_option maxRecDepth 100000 in
theorem specScanOrder (w : World) :
    Calls Try.prog 39 #[] w fun e w' => ∃ v, e = .returned v ∧ OwnI w' w.heap.size w'.heap.size v scanL ∧ Upd 0 0 w w' := by
  go_enter Try.func39, Try.ntmps39
  go_wp2
  have hrow0 : Hid (w.ownsRow w.heap.size 3 1 (.slice none 0 0) 0 (ints [])) := hide (World.ownsRow_nil _ _ _ _)
  go_loopw [1, 2] (fun s k wr => ∃ (m : Nat) (ad : Option Addr) (cp : Nat) (L : List Int), s = .slice ad L.length cp ∧ k = .int .i64 (m : Int) ∧ m ≤ 15 ∧ Hid (L = scanTo m) ∧ Hid (wr.ownsRow w.heap.size 3 1 (.slice ad L.length cp) L.length (ints L)) ∧ Hid (Below w.heap.size w wr)) (fun _ k _ => 15 - (intOf k).toNat)
  case atStart => exact ⟨0, none, 0, [], rfl, rfl, by omega, hide rfl, hrow0, hide (Below.refl _ _)⟩
  case round =>
    clear hrow0
    obtain ⟨m, ad, cp, L, rfl, rfl, hm, hL, hrow, hbel⟩ := hrel
    by_cases hlt : m < 15
    · have hln : L.length ≤ 1000 := by rw [unhide hL]; exact scanTo_len m (by omega)
      have hL0 : Hid (L = scanTo m ++ scanIn m 0) := hide (by rw [unhide hL]; simp [scanIn])
      have hnx : Hid (∀ L' : List Int, L' = scanTo m ++ scanIn m (m + 1) → L' = scanTo (m + 1)) := hide (fun L' h => h)
      clear hL
      have hmb : decide ((m : Int) < 15) = true := decide_eq_true (by omega)
      go_wp2
      go_loopw [1, 3] (fun s i wr => ∃ (j : Nat) (ad : Option Addr) (cp : Nat) (L : List Int), s = .slice ad L.length cp ∧ i = .int .i64 (j : Int) ∧ j ≤ m + 1 ∧ Hid (L = scanTo m ++ scanIn m j) ∧ Hid (wr.ownsRow w.heap.size 3 1 (.slice ad L.length cp) L.length (ints L)) ∧ Hid (Below w.heap.size w wr)) (fun _ i _ => m + 1 - (intOf i).toNat)
      case atStart => exact ⟨0, ad, cp, L, rfl, rfl, by omega, hL0, hrow, hbel⟩
      case round =>
        clear hrow hbel hL0 hln
        obtain ⟨j, ad, cp, L, rfl, rfl, hj, hL, hrow, hbel⟩ := hrel
        have hln : L.length ≤ 1000 := by rw [unhide hL]; exact scan_len m (by omega) j (by omega)
        by_cases hjm : j ≤ m
        · obtain ⟨r, hr⟩ : ∃ r, rowS m j = r := ⟨_, rfl⟩
          have hrm : r ≤ m := by rw [← hr]; exact rowS_le m j hjm
          have hs : Hid (scanTo m ++ scanIn m (j + 1) = L ++ (if r < 8 ∧ m - r < 8 then [((8 * r + m - r : Nat) : Int)] else [])) := hide (by
            rw [unhide hL, ← hr, List.append_assoc]; rfl)
          clear hL
          have hrE : Hid (r = if m % 2 = 0 then m - j else j) := hide (by rw [← hr]; rfl)
          clear hr
          go_upto_if 17 with fail
          go_cut [4] (fun s wx => s = .int .i64 (r : Int) ∧ wx = wr)
          case first =>
            by_cases hp : m % 2 = 0
            · have hb : ((m : Int) % 2 == 0) = true := by simp; omega
              have hr' := unhide hrE
              rw [if_pos hp] at hr'
              have hr3 : (m : Int) - (j : Int) = (r : Int) := by omega
              clear hr'
              go_wp2
              go_meet
              exact ⟨by first | rfl | simp, rfl⟩
            · have hb : ((m : Int) % 2 == 0) = false := by simp; omega
              have hr' := unhide hrE
              rw [if_neg hp] at hr'
              subst hr'
              go_wp2
              go_meet
              exact ⟨rfl, rfl⟩
          case rest =>
            obtain ⟨rfl, hwx⟩ := hcut
            subst hwx
            clear hrE
            by_cases h1 : r < 8
            case neg =>
              have hs' := unhide hs
              rw [if_neg (fun h => h1 h.1), List.append_nil] at hs'
              have hs2 := hide hs'.symm
              clear hs' hs
              go_wp2
              go_roundw
              case rel => exact ⟨j + 1, ad, cp, L, rfl, by go_num, by omega, hs2, hrow, hbel⟩
              case measure => simp [intOf]; omega
            by_cases h2 : m - r < 8
            case neg =>
              have hs' := unhide hs
              rw [if_neg (fun h => h2 h.2), List.append_nil] at hs'
              have hs2 := hide hs'.symm
              clear hs' hs
              have h3 : ¬ (m : Int) - (r : Int) < 8 := by omega
              go_wp2
              go_roundw
              case rel => exact ⟨j + 1, ad, cp, L, rfl, by go_num, by omega, hs2, hrow, hbel⟩
              case measure => simp [intOf]; omega
            have hs' := unhide hs
            rw [if_pos ⟨h1, h2⟩] at hs'
            obtain ⟨X, hX⟩ : ∃ X : Int, ((8 * r + m - r : Nat) : Int) = X := ⟨_, rfl⟩
            rw [hX] at hs'
            have hX2 : 8 * (r : Int) + (m : Int) - (r : Int) = X := by omega
            have hs2 := hide hs'.symm
            clear hs' hs hX
            have h3 : (m : Int) - (r : Int) < 8 := by omega
            have hu5 := Upd.of_below ((Below.refl wc.heap.size wc).alloc (Nat.le_refl _) (.cells #[.int .i64 X] 3)) 0 0
            have kB5 := hide (below_upd (unhide hbel) hu5 (Nat.le_refl _) (.inr (Nat.le_refl _)))
            have hO5 := hide ((Own.of (unhide hrow)).keep hu5).1
            have hnk := heldF_new wc [.int .i64 X] 3
            have hrn : Hid (RdJ (wc.alloc (.cells #[.int .i64 X] 3)) (.slice (some ⟨wc.heap.size, 0, none⟩) 1 1) [X]) := hide (.inr ⟨wc.heap.size, 0, 1, rfl, by simp, fun j hj => by
              have hj0 : j = 0 := by simp at hj; omega
              subst hj0
              exact hnk.1.2 0 _ rfl⟩)
            have hsz : w.heap.size ≤ wc.heap.size := (unhide hbel).size
            clear hu5 hnk hrow
            go_upto_region 12 with fail
            go_wp2_with (at_builtin; go_loud (refine wpList_appI rfl (.tmp 29) (.tmp 36) rfl w.heap.size (.slice ad L.length cp) L rfl (unhide hO5) _ [X] rfl (unhide hrn) (by simp; omega) (by simp; omega) ?_; intro v6 w6 ho6 hg6 _; have hu6 := upd_of_grownI hg6 (unhide hO5); have kB6 := hide (below_upd (unhide kB5) hu6 (Nat.le_refl _) (.inl (Nat.le_refl _))); obtain ⟨ad6, cp6, rfl, _⟩ := readK_of_own (Own.of ho6); replace ho6 := hide ho6; clear hu6 hg6))
            go_roundw
            case rel => exact ⟨j + 1, ad6, cp6, L ++ [X], by simp, by go_num, by omega, hs2, ho6, kB6⟩
            case measure => simp [intOf]; omega
        · have hjm2 : j = m + 1 := by omega
          subst hjm2
          have hL2 := hide (unhide hnx _ (unhide hL))
          have hn : ¬ ((m : Int) + 1 ≤ (m : Int)) := by omega
          go_wp2
          go_roundw
          case rel => exact ⟨m + 1, ad, cp, L, rfl, by go_num, by omega, hL2, hrow, hbel⟩
          case measure => simp [intOf]; omega
    · have hm15 : m = 15 := by omega
      subst hm15
      have ho := hide (Own.of (unhide hrow))
      have hL2 : Hid (L = scanL) := hL
      go_wp2
      go_ret
      exact ⟨_, rfl, by rw [← unhide hL2]; exact unhide ho, Upd.of_below (unhide hbel) 0 0⟩
end Go.Proofs.Ytnalmingbglgfaa

/- Plain: a number of some bits taken out of bytes, bit by bit and part by part, in either order. -/
namespace Go.Proofs.Ytnalmingbglgfaa
open Go.RowKit

def byteAt (zs : List Int) (i : Nat) : Nat := (zs.getD i 0).toNat
def bitLow (zs : List Int) (i : Nat) : Nat := byteAt zs (i / 8) / 2 ^ (i % 8) % 2
def bitHigh (zs : List Int) (i : Nat) : Nat := byteAt zs (i / 8) / 2 ^ (7 - i % 8) % 2
def lowTo (zs : List Int) (p : Nat) : Nat → Nat
  | 0 => 0
  | k + 1 => lowTo zs p k + bitLow zs (p + k) * 2 ^ k
def highTo (zs : List Int) (p : Nat) : Nat → Nat
  | 0 => 0
  | k + 1 => 2 * highTo zs p k + bitHigh zs (p + k)
theorem lowTo_lt (zs : List Int) (p k : Nat) : lowTo zs p k < 2 ^ k := by
  induction k with
  | zero => show 0 < 1; omega
  | succ k ih =>
    have hb : bitLow zs (p + k) ≤ 1 := by unfold bitLow; omega
    have := Nat.mul_le_mul_right (2 ^ k) hb
    show lowTo zs p k + bitLow zs (p + k) * 2 ^ k < 2 ^ (k + 1)
    rw [Nat.pow_succ]; omega
theorem highTo_lt (zs : List Int) (p k : Nat) : highTo zs p k < 2 ^ k := by
  induction k with
  | zero => show 0 < 1; omega
  | succ k ih =>
    have hb : bitHigh zs (p + k) ≤ 1 := by unfold bitHigh; omega
    show 2 * highTo zs p k + bitHigh zs (p + k) < 2 ^ (k + 1)
    rw [Nat.pow_succ]; omega
theorem mod_pow_step (x n : Nat) : x % 2 ^ (n + 1) = x % 2 ^ n + x / 2 ^ n % 2 * 2 ^ n := by
  rw [Nat.pow_succ, Nat.mod_mul, Nat.mul_comm (2 ^ n)]
theorem low_part (zs : List Int) (p d n : Nat) (h : (p + d) % 8 + n ≤ 8) :
    lowTo zs p (d + n) = lowTo zs p d + byteAt zs ((p + d) / 8) / 2 ^ ((p + d) % 8) % 2 ^ n * 2 ^ d := by
  induction n with
  | zero => simp [Nat.mod_one]
  | succ n ih =>
    show lowTo zs p (d + n) + bitLow zs (p + (d + n)) * 2 ^ (d + n) = _
    rw [ih (by omega), mod_pow_step, Nat.add_mul, Nat.add_assoc]
    congr 1
    unfold bitLow
    have e1 : (p + (d + n)) / 8 = (p + d) / 8 := by omega
    have e2 : (p + (d + n)) % 8 = (p + d) % 8 + n := by omega
    rw [e1, e2, Nat.pow_add, ← Nat.div_div_eq_div_mul]
    congr 1
    rw [Nat.mul_assoc, ← Nat.pow_add, Nat.add_comm n d]
theorem high_part (zs : List Int) (p d n : Nat) (h : (p + d) % 8 + n ≤ 8) :
    highTo zs p (d + n) = highTo zs p d * 2 ^ n + byteAt zs ((p + d) / 8) / 2 ^ (8 - (p + d) % 8 - n) % 2 ^ n := by
  induction n with
  | zero => simp [Nat.mod_one]
  | succ n ih =>
    show 2 * highTo zs p (d + n) + bitHigh zs (p + (d + n)) = _
    rw [ih (by omega)]
    unfold bitHigh
    have e1 : (p + (d + n)) / 8 = (p + d) / 8 := by omega
    have e2 : 7 - (p + (d + n)) % 8 = 8 - (p + d) % 8 - (n + 1) := by omega
    have e3 : 8 - (p + d) % 8 - n = (8 - (p + d) % 8 - (n + 1)) + 1 := by omega
    rw [e1, e2, e3, Nat.pow_succ 2 (8 - (p + d) % 8 - (n + 1)), ← Nat.div_div_eq_div_mul]
    generalize byteAt zs ((p + d) / 8) / 2 ^ (8 - (p + d) % 8 - (n + 1)) = y
    have e4 : y % 2 ^ (n + 1) = y % 2 + 2 * (y / 2 % 2 ^ n) := by
      rw [Nat.pow_succ, Nat.mul_comm, Nat.mod_mul]
    rw [e4, Nat.pow_succ]
    generalize highTo zs p d = a
    have : a * (2 ^ n * 2) = 2 * (a * 2 ^ n) := by rw [← Nat.mul_assoc, Nat.mul_comm]
    omega

theorem bit_of_u8 (x s : Nat) (hx : x < 256) : bits .and .u64 (IntKind.u64.wrap ((x : Int) / 2 ^ s)) 1 = ((x / 2 ^ s % 2 : Nat) : Int) := by
  have h := Nat.div_le_self x (2 ^ s)
  rw [show ((x : Int) / 2 ^ s) = ((x / 2 ^ s : Nat) : Int) by simp, IntKind.wrap_u64]
  generalize x / 2 ^ s = y at h ⊢
  rw [show ((y : Int) % 18446744073709551616) = (y : Int) by omega]
  go_bits2
theorem or_bit (v b k : Nat) (hv : v < 2 ^ k) (hb : b ≤ 1) (hk : k < 64) : bits .or .u64 (v : Int) (IntKind.u64.wrap ((b : Int) * 2 ^ k)) = ((v + b * 2 ^ k : Nat) : Int) := by
  have h1 : 2 ^ k ≤ 2 ^ 63 := Nat.pow_le_pow_right (by omega) (by omega)
  have h2 := Nat.mul_le_mul_right (2 ^ k) hb
  have e : IntKind.u64.wrap ((b : Int) * 2 ^ k) = ((b * 2 ^ k : Nat) : Int) := by
    rw [IntKind.wrap_u64, show ((b : Int) * 2 ^ k) = ((b * 2 ^ k : Nat) : Int) by simp]
    omega
  rw [e, u64_or_nat _ _ (by omega) (by omega), Nat.or_comm, nat_join k _ _ (Nat.mul_mod_left _ _) hv, Nat.add_comm]
theorem twice_bit (v b k : Nat) (hv : v < 2 ^ k) (hb : b ≤ 1) (hk : k < 64) : IntKind.u64.wrap (IntKind.u64.wrap ((v : Int) * 2) + (b : Int)) = ((2 * v + b : Nat) : Int) := by
  have h1 : 2 ^ k ≤ 2 ^ 63 := Nat.pow_le_pow_right (by omega) (by omega)
  rw [IntKind.wrap_u64, IntKind.wrap_u64]; omega
theorem mask_bits (v n : Nat) (hv : v < 18446744073709551616) (hn : n ≤ 63) : bits .and .u64 (v : Int) (IntKind.u64.wrap (IntKind.u64.wrap (2 ^ n) - 1)) = ((v % 2 ^ n : Nat) : Int) := by
  have h1 : 2 ^ n ≤ 2 ^ 63 := Nat.pow_le_pow_right (by omega) hn
  have h2 : 0 < 2 ^ n := Nat.pow_pos (by omega)
  have e : IntKind.u64.wrap (IntKind.u64.wrap (2 ^ n) - 1) = ((2 ^ n - 1 : Nat) : Int) := by
    rw [IntKind.wrap_u64, IntKind.wrap_u64, show ((2 : Int) ^ n) = ((2 ^ n : Nat) : Int) by simp]; omega
  rw [e, u64_and_nat _ _ hv (by omega), Nat.and_two_pow_sub_one_eq_mod]
theorem or_part (v c d m : Nat) (hv : v < 2 ^ d) (hc : c < 2 ^ m) (h : d + m ≤ 64) : bits .or .u64 (v : Int) (IntKind.u64.wrap ((c : Int) * 2 ^ d)) = ((v + c * 2 ^ d : Nat) : Int) := by
  have h1 : 2 ^ (d + m) ≤ 2 ^ 64 := Nat.pow_le_pow_right (by omega) h
  have h2 : (c + 1) * 2 ^ d ≤ 2 ^ m * 2 ^ d := Nat.mul_le_mul_right _ (by omega)
  rw [Nat.add_mul, Nat.one_mul, ← Nat.pow_add, Nat.add_comm m d] at h2
  have e : IntKind.u64.wrap ((c : Int) * 2 ^ d) = ((c * 2 ^ d : Nat) : Int) := by
    rw [IntKind.wrap_u64, show ((c : Int) * 2 ^ d) = ((c * 2 ^ d : Nat) : Int) by simp]
    omega
  rw [e, u64_or_nat _ _ (by omega) (by omega), Nat.or_comm, nat_join d _ _ (Nat.mul_mod_left _ _) hv, Nat.add_comm]
theorem part_or (v c d m : Nat) (hv : v < 2 ^ d) (hc : c < 2 ^ m) (h : d + m ≤ 64) : bits .or .u64 (IntKind.u64.wrap ((v : Int) * 2 ^ m)) (c : Int) = ((v * 2 ^ m + c : Nat) : Int) := by
  have h1 : 2 ^ (d + m) ≤ 2 ^ 64 := Nat.pow_le_pow_right (by omega) h
  have h2 : (v + 1) * 2 ^ m ≤ 2 ^ d * 2 ^ m := Nat.mul_le_mul_right _ (by omega)
  rw [Nat.add_mul, Nat.one_mul, ← Nat.pow_add] at h2
  have e : IntKind.u64.wrap ((v : Int) * 2 ^ m) = ((v * 2 ^ m : Nat) : Int) := by
    rw [IntKind.wrap_u64, show ((v : Int) * 2 ^ m) = ((v * 2 ^ m : Nat) : Int) by simp]
    omega
  rw [e, u64_or_nat _ _ (by omega) (by omega), nat_join m _ _ (Nat.mul_mod_left _ _) hc]
def goodAt (len : Nat) (p bits : Int) : Bool := decide (0 ≤ bits) && decide (bits ≤ 64) && decide (0 ≤ p) && decide (p ≤ 8 * len - bits)
end Go.Proofs.Ytnalmingbglgfaa

/- A byte string that came in, or that the call itself has copied: what the walks know of it. -/
namespace Go.Proofs.Ytnalmingbglgfaa
open Go.RowKit

/-- A byte string handed in: its bytes in range, and, where there are any, in the cells of an old block. -/
def ArgB (w : World) (ad : Option Addr) (zs : List Int) : Prop := InB zs ∧ (zs ≠ [] → ∃ b off, ad = some ⟨b, off, none⟩ ∧ b < w.heap.size ∧ BytesAt w b off zs)
/-- A byte string of the call's own: at the head of a block. -/
def OwnB (w : World) (g : Nat) (zs : List Int) : Prop := g < w.heap.size ∧ BytesAt w g 0 zs

theorem ArgB.below {w w' : World} {ad : Option Addr} {zs : List Int} (h : ArgB w ad zs) (hb : Below w.heap.size w w') : ArgB w' ad zs := by
  refine ⟨h.1, fun hne => ?_⟩
  obtain ⟨b, off, e, hl, hc⟩ := h.2 hne
  exact ⟨b, off, e, Nat.lt_of_lt_of_le hl hb.size, fun j hj => (hb.cell (by simpa using hl)).trans (hc j hj)⟩
theorem OwnB.below {w w' : World} {g : Nat} {zs : List Int} (h : OwnB w g zs) (hb : Below w.heap.size w w') : OwnB w' g zs :=
  ⟨Nat.lt_of_lt_of_le h.1 hb.size, fun j hj => (hb.cell (by simpa using h.1)).trans (h.2 j hj)⟩
theorem ownB_of_owns {w : World} {base g n cap : Nat} {zs : List Int} (hn : zs.length = n) (h : w.ownsRow base 5 1 (.slice (some ⟨g, 0, none⟩) n cap) n (zs.map (.int .u8))) : OwnB w g zs := by
  subst hn
  refine ⟨(h.lt g rfl).2, fun j hj => ?_⟩
  rw [Nat.zero_add, h.cellAt j (by omega)]
  exact getD_map_int zs .u8 j hj

end Go.Proofs.Ytnalmingbglgfaa

/- The walks of TakeLow and TakeHigh: the program's small parts. -/
namespace Go.Proofs.Ytnalmingbglgfaa
open Go.RowKit

/-- The reader in the variable at block r. -/
def ReaderAt (w : World) (r : Nat) (o : Int) (s : Value) (p : Int) : Prop := r < w.heap.size ∧ w.cell? ⟨r, 0, none⟩ = some (.int .i64 o) ∧ w.cell? ⟨r, 1, none⟩ = some s ∧ w.cell? ⟨r, 2, none⟩ = some (.int .i64 p)

/-- The world is as it was but for block r, and for what is new. -/
structure OnlyAt (r : Nat) (w w' : World) : Prop where
  os : w'.os = w.os
  tape : w'.tape = w.tape
  output : w'.output = w.output
  size : w.heap.size ≤ w'.heap.size
  block : ∀ k, k < w.heap.size → k ≠ r → w'.heap[k]? = w.heap[k]?
theorem OnlyAt.refl (r : Nat) (w : World) : OnlyAt r w w := ⟨rfl, rfl, rfl, Nat.le_refl _, fun _ _ _ => rfl⟩
theorem OnlyAt.trans {r : Nat} {a w w' : World} (h : OnlyAt r a w) (k : OnlyAt r w w') : OnlyAt r a w' :=
  ⟨k.os.trans h.os, k.tape.trans h.tape, k.output.trans h.output, Nat.le_trans h.size k.size, fun i hi hn => (k.block i (Nat.lt_of_lt_of_le hi h.size) hn).trans (h.block i hi hn)⟩
theorem OnlyAt.drewN {r : Nat} {a w : World} (h : OnlyAt r a w) (n : Nat) : OnlyAt r a (w.drewN n) := h.trans ⟨rfl, rfl, rfl, Nat.le_refl _, fun _ _ _ => rfl⟩
theorem OnlyAt.setCell {r : Nat} {a w : World} (h : OnlyAt r a w) (o : Nat) (u : Value) : OnlyAt r a (w.setCell ⟨r, o, none⟩ u) :=
  h.trans ⟨rfl, rfl, rfl, by simp, fun k _ hk => Below.heap_setCell w ⟨r, o, none⟩ u k hk⟩
theorem OnlyAt.cell {r : Nat} {w w' : World} (h : OnlyAt r w w') {p : Addr} (hp : p.block < w.heap.size) (hr : p.block ≠ r) : w'.cell? p = w.cell? p := World.cell?_of_block (h.block p.block hp hr)
theorem OnlyAt.frozen {r : Nat} {w w' : World} (h : OnlyAt r w w') {p : Addr} (hp : p.block < w.heap.size) (hr : p.block ≠ r) : w'.frozen? p = w.frozen? p := World.frozen?_of_block (h.block p.block hp hr)
theorem OnlyAt.below {r B : Nat} {w w' : World} (h : OnlyAt r w w') (hB : B ≤ r) (hs : B ≤ w.heap.size) : Below B w w' :=
  ⟨h.os, h.tape, h.output, h.size, fun k hk => h.block k (by omega) (by omega)⟩
theorem ReaderAt.drewN {w : World} {r : Nat} {o : Int} {s : Value} {p : Int} (h : ReaderAt w r o s p) (nq : Nat) : ReaderAt (w.drewN nq) r o s p := h
theorem ReaderAt.moved {w : World} {r : Nat} {o : Int} {s : Value} {p : Int} (h : ReaderAt w r o s p) (q : Int) : ReaderAt (w.setCell ⟨r, 2, none⟩ (.int .i64 q)) r o s q := by
  obtain ⟨h0, h1, h2, h3⟩ := h
  refine ⟨by simpa using h0, ?_, ?_, ?_⟩
  · rw [World.cell?_setCell_other _ _ _ _ (by simp)]; exact h1
  · rw [World.cell?_setCell_other _ _ _ _ (by simp)]; exact h2
  · exact World.cell?_setCell_same _ _ _ h3

end Go.Proofs.Ytnalmingbglgfaa

/- The walks of the cursor that draws numbers out of a byte string: each returns, in its range, and writes into its own variable alone. -/
namespace Go.Proofs.Ytnalmingbglgfaa
open Go.RowKit

def CurAt (w : World) (c : Nat) (ad : Option Addr) (cap : Nat) (zs : List Int) (p s : Int) : Prop :=
  c < w.heap.size ∧ w.cell? ⟨c, 0, none⟩ = some (.slice ad zs.length cap) ∧ w.cell? ⟨c, 1, none⟩ = some (.int .i64 p) ∧ w.cell? ⟨c, 2, none⟩ = some (.int .u64 s) ∧
  w.frozen? ⟨c, 1, none⟩ = false ∧ w.frozen? ⟨c, 2, none⟩ = false ∧ InB zs ∧ (zs ≠ [] → ∃ b off, ad = some ⟨b, off, none⟩ ∧ b < w.heap.size ∧ b ≠ c ∧ BytesAt w b off zs)

theorem CurAt.drewN {w : World} {c : Nat} {ad : Option Addr} {cap : Nat} {zs : List Int} {p s : Int} (h : CurAt w c ad cap zs p s) (n : Nat) : CurAt (w.drewN n) c ad cap zs p s := h
theorem CurAt.moved {w : World} {c : Nat} {ad : Option Addr} {cap : Nat} {zs : List Int} {p s : Int} (h : CurAt w c ad cap zs p s) (q : Int) : CurAt (w.setCell ⟨c, 1, none⟩ (.int .i64 q)) c ad cap zs q s := by
  obtain ⟨h0, h1, h2, h3, f1, f2, hz, hb⟩ := h
  refine ⟨by simpa using h0, ?_, World.cell?_setCell_same _ _ _ h2, ?_, (World.frozen?_setCell _ _ _ _).trans f1, (World.frozen?_setCell _ _ _ _).trans f2, hz, fun hne => ?_⟩
  · rw [World.cell?_setCell_other _ _ _ _ (by simp)]; exact h1
  · rw [World.cell?_setCell_other _ _ _ _ (by simp)]; exact h3
  · obtain ⟨b, off, e, hl, hbc, hB⟩ := hb hne
    refine ⟨b, off, e, by simpa using hl, hbc, fun j hj => ?_⟩
    rw [World.cell?_setCell_far _ _ _ _ (by simpa using fun h => hbc h.symm)]; exact hB j hj
theorem CurAt.seeded {w : World} {c : Nat} {ad : Option Addr} {cap : Nat} {zs : List Int} {p s : Int} (h : CurAt w c ad cap zs p s) (q : Int) : CurAt (w.setCell ⟨c, 2, none⟩ (.int .u64 q)) c ad cap zs p q := by
  obtain ⟨h0, h1, h2, h3, f1, f2, hz, hb⟩ := h
  refine ⟨by simpa using h0, ?_, ?_, World.cell?_setCell_same _ _ _ h3, (World.frozen?_setCell _ _ _ _).trans f1, (World.frozen?_setCell _ _ _ _).trans f2, hz, fun hne => ?_⟩
  · rw [World.cell?_setCell_other _ _ _ _ (by simp)]; exact h1
  · rw [World.cell?_setCell_other _ _ _ _ (by simp)]; exact h2
  · obtain ⟨b, off, e, hl, hbc, hB⟩ := hb hne
    refine ⟨b, off, e, by simpa using hl, hbc, fun j hj => ?_⟩
    rw [World.cell?_setCell_far _ _ _ _ (by simpa using fun h => hbc h.symm)]; exact hB j hj
theorem u64_wrap_bd (n : Int) : 0 ≤ IntKind.u64.wrap n ∧ IntKind.u64.wrap n < 18446744073709551616 := by rw [IntKind.wrap_u64]; omega
theorem and_255 (n : Int) (h0 : 0 ≤ n) (h1 : n < 18446744073709551616) : bits .and .u64 n 255 = n % 256 := by go_bits2

theorem seed_bd (n : Int) : 0 ≤ wrap64 (bits .and .u64 (IntKind.u64.wrap n / 1099511627776) 255) ∧ wrap64 (bits .and .u64 (IntKind.u64.wrap n / 1099511627776) 255) < 256 := by
  have h := u64_wrap_bd n
  rw [and_255 _ (by omega) (by omega)]
  unfold wrap64; omega
set_option maxHeartbeats 2000000 in
set_option maxRecDepth 100000 in
theorem curNext (c : Nat) (ad : Option Addr) (cap : Nat) (zs : List Int) (p s : Int) (w : World) (h : CurAt w c ad cap zs p s) (hp0 : 0 ≤ p) (hp1 : p ≤ 1099511627776) (hl : zs.length ≤ 1048576) :
    Calls Try.prog 85 #[.pointer (some ⟨c, 0, none⟩)] w fun e w' => ∃ x s', e = .returned (.int .i64 x) ∧ 0 ≤ x ∧ x < 256 ∧ 0 ≤ s' ∧ s' < 18446744073709551616 ∧ CurAt w' c ad cap zs (p + 1) s' ∧ OnlyAt c w w' := by
  have hh := hide h
  obtain ⟨_, c0, c1, c2, f1, f2, hz, hb⟩ := h
  by_cases hlt : p < zs.length
  · obtain ⟨q, rfl⟩ := Int.eq_ofNat_of_zero_le hp0
    obtain ⟨b, off, rfl, hbl, hbc, hB⟩ := hb (by rintro rfl; simp at hlt; omega)
    have hck := hB q (by omega)
    have hzq := hz q
    clear hz hb hB
    generalize zs.getD q 0 = x at hck hzq
    have hdl : decide ((q : Int) < (zs.length : Int)) = true := by simp; omega
    go_enter Try.func85, Try.ntmps85
    go_wp2_with fail
    go_quiet (fail)
    go_wp2_with fail
    go_quiet (fail)
    go_wp2_with fail
    go_quiet (fail)
    go_wp2
    go_ret
    refine ⟨x, _, rfl, hzq.1, hzq.2, ?_, ?_, ((((unhide hh).drewN _).moved _).seeded _).drewN _, ((((OnlyAt.refl _ _).drewN _).setCell _ _).setCell _ _).drewN _⟩
    · exact (u64_wrap_bd _).1
    · exact (u64_wrap_bd _).2
  · clear hb
    have hdl : decide ((p : Int) < (zs.length : Int)) = false := by simp; omega
    have hdl2 : decide ((p : Int) + 1 ≤ (zs.length : Int)) = false := by simp; omega
    go_enter Try.func85, Try.ntmps85
    go_wp2_with fail
    go_quiet (fail)
    go_wp2_with fail
    go_quiet (fail)
    go_wp2
    go_ret
    refine ⟨_, _, rfl, (seed_bd _).1, (seed_bd _).2, (u64_wrap_bd _).1, (u64_wrap_bd _).2, ((((unhide hh).drewN _).moved _).seeded _).drewN _, ((((OnlyAt.refl _ _).drewN _).setCell _ _).setCell _ _).drewN _⟩

/-- The cursor as the laws use it: somewhere in its bytes, at most so far. -/
def CurIn (w : World) (c : Nat) (ad : Option Addr) (cap : Nat) (zs : List Int) (m : Nat) : Prop :=
  ∃ p s : Int, CurAt w c ad cap zs p s ∧ 0 ≤ p ∧ p ≤ m ∧ 0 ≤ s ∧ s < 18446744073709551616
theorem curNextIn (c : Nat) (ad : Option Addr) (cap : Nat) (zs : List Int) (m : Nat) (w : World) (h : CurIn w c ad cap zs m) (hm : m ≤ 1099511627776) (hl : zs.length ≤ 1048576) :
    Calls Try.prog 85 #[.pointer (some ⟨c, 0, none⟩)] w fun e w' => ∃ x, e = .returned (.int .i64 x) ∧ 0 ≤ x ∧ x < 256 ∧ CurIn w' c ad cap zs (m + 1) ∧ OnlyAt c w w' := by
  obtain ⟨p, s, hc, h0, h1, _, _⟩ := h
  refine (curNext c ad cap zs p s w hc h0 (by omega) hl).mono ?_
  rintro e w' ⟨x, s', rfl, x0, x1, s0, s1, hc', ho⟩
  exact ⟨x, rfl, x0, x1, ⟨p + 1, s', hc', by omega, by omega, s0, s1⟩, ho⟩

set_option maxHeartbeats 1000000 in
theorem curPick (c : Nat) (ad : Option Addr) (cap : Nat) (zs : List Int) (m : Nat) (n : Int) (w : World) (h : CurIn w c ad cap zs m) (hm : m ≤ 1099511627776) (hl : zs.length ≤ 1048576) (hn : 1 < n) (hn2 : n ≤ 200) :
    Calls Try.prog 47 #[.pointer (some ⟨c, 0, none⟩), .int .i64 n] w fun e w' => ∃ x, e = .returned (.int .i64 x) ∧ 0 ≤ x ∧ x < n ∧ CurIn w' c ad cap zs (m + 1) ∧ OnlyAt c w w' := by
  have hN := hide (curNextIn c ad cap zs m w h hm hl)
  clear h
  go_enter Try.func47, Try.ntmps47
  go_wp2_with fail
  refine (unhide hN).mono ?_
  rintro e w1 ⟨x, rfl, x0, x1, hc, ho⟩
  clear hN
  go_wp2
  go_ret
  exact ⟨x % n, rfl, Int.emod_nonneg _ (by omega), Int.emod_lt_of_pos _ (by omega), hc, ho⟩

set_option maxHeartbeats 1000000 in
theorem curOne (c : Nat) (ad : Option Addr) (cap : Nat) (zs : List Int) (m : Nat) (n : Int) (w : World) (h : CurIn w c ad cap zs m) (hm : m ≤ 1099511627776) (hl : zs.length ≤ 1048576) (hn : 1 < n) (hn2 : n ≤ 200) :
    Calls Try.prog 83 #[.pointer (some ⟨c, 0, none⟩), .int .i64 n] w fun e w' => ∃ b, e = .returned (.bool b) ∧ CurIn w' c ad cap zs (m + 1) ∧ OnlyAt c w w' := by
  have hN := hide (curPick c ad cap zs m n w h hm hl hn hn2)
  clear h
  go_enter Try.func83, Try.ntmps83
  go_wp2_with fail
  refine (unhide hN).mono ?_
  rintro e w1 ⟨x, rfl, x0, x1, hc, ho⟩
  clear hN
  go_wp2
  all_goals go_ret
  all_goals exact ⟨_, rfl, hc, ho⟩

theorem curIn_new (w : World) (ad : Option Addr) (cap : Nat) (zs : List Int) (h : ArgB w ad zs) :
    CurIn (w.alloc (.cells #[.slice ad zs.length cap, .int .i64 0, .int .u64 0] 60)) w.heap.size ad cap zs 0 := by
  refine ⟨0, 0, ⟨by simp, ?_, ?_, ?_, World.frozen?_alloc_at _ _ _ _ rfl, World.frozen?_alloc_at _ _ _ _ rfl, h.1, fun hne => ?_⟩, by omega, by omega, by omega, by omega⟩
  · rw [World.cell?_alloc_at _ _ _ _ rfl]; rfl
  · rw [World.cell?_alloc_at _ _ _ _ rfl]; rfl
  · rw [World.cell?_alloc_at _ _ _ _ rfl]; rfl
  · obtain ⟨b, off, e, hl, hB⟩ := h.2 hne
    exact ⟨b, off, e, by simp; omega, by omega, fun j hj => by rw [World.cell?_alloc_past _ _ _ hl]; exact hB j hj⟩

end Go.Proofs.Ytnalmingbglgfaa

/- What a step that only lays new blocks keeps of a row of the call's own. -/
namespace Go.Proofs.Ytnalmingbglgfaa
open Go.RowKit

theorem ownsP_below {w w' : World} {base : Nat} {e : TypeId} {size n : Nat} {v : Value} {xs : List Value} (h : w.ownsRow base e size v n xs) (hb : Below w.heap.size w w') : w'.ownsRow base e size v n xs :=
  ((Own.of h).keep (Upd.of_below hb 0 0)).1
end Go.Proofs.Ytnalmingbglgfaa

/- The cursor that draws: a number below any bound, and lists of samples. -/
namespace Go.Proofs.Ytnalmingbglgfaa
open Go.RowKit

theorem CurIn.more {w : World} {c : Nat} {ad : Option Addr} {cap : Nat} {zs : List Int} {m m' : Nat} (h : CurIn w c ad cap zs m) (hm : m ≤ m') : CurIn w c ad cap zs m' := by
  obtain ⟨p, s, hc, h0, h1, h2, h3⟩ := h
  exact ⟨p, s, hc, h0, by omega, h2, h3⟩

set_option maxHeartbeats 2000000 in
/-- A number below n, whatever n is. -/
theorem curPickAny (c : Nat) (ad : Option Addr) (cap : Nat) (zs : List Int) (m : Nat) (n : Int) (w : World) (h : CurIn w c ad cap zs m) (hm : m ≤ 1099511627000) (hl : zs.length ≤ 1048576) (hn2 : n ≤ 1000000) :
    Calls Try.prog 47 #[.pointer (some ⟨c, 0, none⟩), .int .i64 n] w fun e w' => ∃ x, e = .returned (.int .i64 x) ∧ 0 ≤ x ∧ (1 ≤ n → x < n) ∧ CurIn w' c ad cap zs (m + 3) ∧ OnlyAt c w w' := by
  by_cases h1 : n ≤ 1
  · have hc := hide (h.more (show m ≤ m + 3 by omega))
    clear h
    go_enter Try.func47, Try.ntmps47
    go_wp2
    go_ret
    exact ⟨0, rfl, by omega, fun h => by omega, unhide hc, OnlyAt.refl _ _⟩
  · by_cases h2 : n ≤ 200
    · refine (curPick c ad cap zs m n w h (by omega) hl (by omega) h2).mono ?_
      rintro e w' ⟨x, rfl, x0, x1, hc, ho⟩
      exact ⟨x, rfl, x0, fun _ => x1, hc.more (by omega), ho⟩
    · have hN := hide (curNextIn c ad cap zs m w h (by omega) hl)
      clear h
      by_cases h3 : n ≤ 50000
      · go_enter Try.func47, Try.ntmps47
        go_wp2_with fail
        refine (unhide hN).mono ?_
        rintro e w1 ⟨x, rfl, x0, x1, hc, ho⟩
        clear hN
        have hN2 := hide (curNextIn c ad cap zs (m + 1) w1 hc (by omega) hl)
        clear hc
        go_wp2_with fail
        refine (unhide hN2).mono ?_
        rintro e w2 ⟨y, rfl, y0, y1, hc2, ho2⟩
        have hc3 := hide (hc2.more (show m + 1 + 1 ≤ m + 3 by omega))
        have ho3 := hide (ho.trans ho2)
        clear hN2 hc2 ho ho2
        go_wp2
        go_ret
        exact ⟨_, rfl, Int.emod_nonneg _ (by omega), fun _ => Int.emod_lt_of_pos _ (by omega), unhide hc3, unhide ho3⟩
      · go_enter Try.func47, Try.ntmps47
        go_wp2_with fail
        refine (unhide hN).mono ?_
        rintro e w1 ⟨x, rfl, x0, x1, hc, ho⟩
        clear hN
        have hN2 := hide (curNextIn c ad cap zs (m + 1) w1 hc (by omega) hl)
        clear hc
        go_wp2_with fail
        refine (unhide hN2).mono ?_
        rintro e w2 ⟨y, rfl, y0, y1, hc2, ho2⟩
        have hN3 := hide (curNextIn c ad cap zs (m + 1 + 1) w2 hc2 (by omega) hl)
        clear hN2 hc2
        go_wp2_with fail
        refine (unhide hN3).mono ?_
        rintro e w3 ⟨z, rfl, z0, z1, hc3, ho3⟩
        have hc4 := hide (hc3.more (show m + 1 + 1 + 1 ≤ m + 3 by omega))
        have ho4 := hide ((ho.trans ho2).trans ho3)
        clear hN3 hc3 ho ho2 ho3
        go_wp2
        go_ret
        exact ⟨_, rfl, Int.emod_nonneg _ (by omega), fun _ => Int.emod_lt_of_pos _ (by omega), unhide hc4, unhide ho4⟩

/-- All in 0 .. T - 1. -/
def InT (T : Int) (xs : List Int) : Prop := ∀ j, j < xs.length → 0 ≤ xs.getD j 0 ∧ xs.getD j 0 < T
theorem InT.set {T : Int} {xs : List Int} (h : InT T xs) {x : Int} (h0 : 0 ≤ x) (h1 : x < T) (k : Nat) : InT T (xs.set k x) := by
  intro j hj
  rw [List.length_set] at hj
  rw [List.getD_eq_getElem?_getD]
  by_cases e : k = j
  · subst e; rw [List.getElem?_set_self hj]; exact ⟨h0, h1⟩
  · rw [List.getElem?_set_ne e, ← List.getD_eq_getElem?_getD]; exact h j hj
theorem inT_zeros {T : Int} (hT : 0 < T) (n : Nat) : InT T (List.replicate n 0) := by
  intro j hj
  rw [List.getD_eq_getElem?_getD, List.getElem?_replicate]
  split <;> simp <;> omega
theorem ints_zeros (n : Nat) : ints (List.replicate n 0) = List.replicate n (.int .i64 0) := by unfold ints; simp
theorem ints_set (xs : List Int) (k : Nat) (x : Int) : (ints xs).set k (.int .i64 x) = ints (xs.set k x) := by unfold ints; rw [List.map_set]
theorem owns_onlyI {w w' : World} {base r g : Nat} {e : TypeId} {size n c : Nat} {xs : List Value} (h : w.ownsRow base e size (.slice (some ⟨g, 0, none⟩) n c) n xs) (hne : g ≠ r) (ho : OnlyAt r w w') : w'.ownsRow base e size (.slice (some ⟨g, 0, none⟩) n c) n xs := by
  refine ⟨h.1, ?_⟩
  rcases h.2 with hn | ⟨g', cap, cur, e', h1, h2, h3⟩
  · exact .inl hn
  · simp only [Value.slice.injEq, Option.some.injEq, Addr.mk.injEq, and_true, true_and] at e'
    obtain ⟨rfl, rfl⟩ := e'
    exact .inr ⟨g, c, cur, rfl, h1, by rw [ho.block g (h.lt g rfl).2 hne]; exact h2, h3⟩
/-- The cursor stays where new blocks come. -/
theorem CurIn.grown {w w' : World} {c : Nat} {ad : Option Addr} {cap : Nat} {zs : List Int} {m : Nat} (h : CurIn w c ad cap zs m) (hb : Below w.heap.size w w') : CurIn w' c ad cap zs m := by
  obtain ⟨p, s, ⟨h0, h1, h2, h3, f1, f2, hz, hbs⟩, r⟩ := h
  refine ⟨p, s, ⟨Nat.lt_of_lt_of_le h0 hb.size, (hb.cell (by simpa using h0)).trans h1, (hb.cell (by simpa using h0)).trans h2, (hb.cell (by simpa using h0)).trans h3, (hb.frozen (by simpa using h0)).trans f1, (hb.frozen (by simpa using h0)).trans f2, hz, fun hne => ?_⟩, r⟩
  obtain ⟨b, off, e, hl, hbc, hB⟩ := hbs hne
  exact ⟨b, off, e, Nat.lt_of_lt_of_le hl hb.size, hbc, fun j hj => (hb.cell (by simpa using hl)).trans (hB j hj)⟩
theorem CurIn.setFar {w : World} {c g o : Nat} {u : Value} {ad : Option Addr} {cap : Nat} {zs : List Int} {m : Nat} (h : CurIn w c ad cap zs m) (hg : g ≠ c) (hga : ∀ b off, ad = some ⟨b, off, none⟩ → zs ≠ [] → g ≠ b) : CurIn (w.setCell ⟨g, o, none⟩ u) c ad cap zs m := by
  obtain ⟨p, s, ⟨h0, h1, h2, h3, f1, f2, hz, hbs⟩, r⟩ := h
  refine ⟨p, s, ⟨by simpa using h0, ?_, ?_, ?_, (World.frozen?_setCell _ _ _ _).trans f1, (World.frozen?_setCell _ _ _ _).trans f2, hz, fun hne => ?_⟩, r⟩
  · rw [World.cell?_setCell_far _ _ _ _ (by simpa using hg)]; exact h1
  · rw [World.cell?_setCell_far _ _ _ _ (by simpa using hg)]; exact h2
  · rw [World.cell?_setCell_far _ _ _ _ (by simpa using hg)]; exact h3
  · obtain ⟨b, off, e, hl, hbc, hB⟩ := hbs hne
    exact ⟨b, off, e, by simpa using hl, hbc, fun j hj => by rw [World.cell?_setCell_far _ _ _ _ (by simpa using hga b off e hne)]; exact hB j hj⟩
end Go.Proofs.Ytnalmingbglgfaa

/- Triples as arguments and answers; the walks of the laws' own helpers on them. -/
namespace Go.Proofs.Ytnalmingbglgfaa
open Go.RowKit

abbrev Tr := Int × Int × Int
abbrev Trv (d : Tr) : Value := .agg #[.int .i64 d.1, .int .i64 d.2.1, .int .i64 d.2.2]
def RdTr (_w : World) (v : Value) (d : Tr) : Prop := v = Trv d 
def OwnTr (_w : World) (_a _b : Nat) (v : Value) (d : Tr) : Prop := v = Trv d
theorem OwnTr.rd {w : World} {a b : Nat} {v : Value} {d : Tr} (h : OwnTr w a b v d) : RdTr w v d := by
  exact h
theorem RdTr.below {w w' : World} {v : Value} {d : Tr} (h : RdTr w v d) (_hb : Below w.heap.size w w') : RdTr w' v d := by
  exact h
theorem OwnTr.upd {w w' : World} {a b c e : Nat} {v : Value} {d : Tr} (h : OwnTr w a b v d) (_u : Upd c e w w') (_hd : b ≤ c ∨ e ≤ a) : OwnTr w' a b v d := by
  exact h
theorem OwnTr.keep {w w' : World} {a b : Nat} {v : Value} {d : Tr} (h : OwnTr w a b v d) (u : Upd 0 0 w w') : OwnTr w' a b v d := h.upd u (.inr (Nat.zero_le _))
theorem OwnTr.form {w : World} {a b : Nat} {v : Value} {d : Tr} (h : OwnTr w a b v d) : v = Trv d := h
/-- All numbers fit. -/
def InTr (d : Tr) : Prop := (-9223372036854775808 ≤ d.1 ∧ d.1 ≤ 9223372036854775807) ∧ (-9223372036854775808 ≤ d.2.1 ∧ d.2.1 ≤ 9223372036854775807) ∧ (-9223372036854775808 ≤ d.2.2 ∧ d.2.2 ≤ 9223372036854775807)
def TrSize (_d : Tr) : Nat := 0
def TrCount (_d : Tr) : Nat := 0
def TrMarked (_k : Nat) (d : Tr) : Tr := d

end Go.Proofs.Ytnalmingbglgfaa

/- The drawing of colours. -/
namespace Go.Proofs.Ytnalmingbglgfaa
open Go.RowKit

theorem HeldF.only {w w' : World} {g r : Nat} {cs : List Value} (h : HeldF w g cs) (o : OnlyAt r w w') (hne : g ≠ r) : HeldF w' g cs :=
  ⟨⟨Nat.lt_of_lt_of_le h.1.1 o.size, fun j v hj => (o.cell (p := ⟨g, j, none⟩) h.1.1 hne).trans (h.1.2 j v hj)⟩, fun j => (o.frozen (p := ⟨g, j, none⟩) h.1.1 hne).trans (h.2 j)⟩
theorem OnlyAt.past {c g : Nat} {w w' : World} (h : OnlyAt c w w') (hg : w.heap.size ≤ g) {k : Nat} {u : Value} : OnlyAt c w (w'.setCell ⟨g, k, none⟩ u) :=
  ⟨h.os, h.tape, h.output, by simpa using h.size, fun j hj hjc => (Below.heap_setCell w' ⟨g, k, none⟩ u j (by simp; omega)).trans (h.block j hj hjc)⟩
end Go.Proofs.Ytnalmingbglgfaa

/- The drawing of a block. -/
namespace Go.Proofs.Ytnalmingbglgfaa
open Go.RowKit

theorem InR.set {lo hi : Int} {xs : List Int} (h : InR lo hi xs) {x : Int} (h0 : lo ≤ x ∧ x ≤ hi) (k : Nat) : InR lo hi (xs.set k x) := by
  intro j hj
  rw [List.length_set] at hj
  rw [List.getD_eq_getElem?_getD]
  by_cases e : k = j
  · subst e; rw [List.getElem?_set_self hj]; exact h0
  · rw [List.getElem?_set_ne e, ← List.getD_eq_getElem?_getD]; exact h j hj
theorem inR_zeros (lo hi : Int) (h : lo ≤ 0 ∧ 0 ≤ hi) (n : Nat) : InR lo hi (List.replicate n 0) := by
  intro j hj
  rw [List.getD_eq_getElem?_getD, List.getElem?_replicate]
  split <;> simp <;> omega
theorem OnlyAt.of_below {c : Nat} {w w' : World} (h : Below w.heap.size w w') : OnlyAt c w w' := ⟨h.os, h.tape, h.output, h.size, fun k hk _ => h.block k hk⟩
/-- What stands while 64 numbers are drawn into a row of the call's own. -/
structure DrSt (w wr : World) (c : Nat) (ad : Option Addr) (cap : Nat) (zs : List Int) (m : Nat) (xs : List Int) : Prop where
  len : xs.length = 64
  own : wr.ownsRow w.heap.size 3 1 (.slice (some ⟨w.heap.size, 0, none⟩) 64 64) 64 (ints xs)
  cur : CurIn wr c ad cap zs m
  only : OnlyAt c w wr
  cw : c < w.heap.size
  far : ∀ b' off, ad = some ⟨b', off, none⟩ → zs ≠ [] → b' < w.heap.size
theorem DrSt.pick {w wr wx : World} {c : Nat} {ad : Option Addr} {cap : Nat} {zs : List Int} {m m' : Nat} {xs : List Int} (h : DrSt w wr c ad cap zs m xs) (hc : CurIn wx c ad cap zs m') (ho : OnlyAt c wr wx) : DrSt w wx c ad cap zs m' xs :=
  ⟨h.len, owns_onlyI h.own (by have := h.cw; omega) ho, hc, h.only.trans ho, h.cw, h.far⟩
theorem DrSt.grown {w wr wx : World} {c : Nat} {ad : Option Addr} {cap : Nat} {zs : List Int} {m : Nat} {xs : List Int} (h : DrSt w wr c ad cap zs m xs) (hb : Below wr.heap.size wr wx) : DrSt w wx c ad cap zs m xs :=
  ⟨h.len, owns_onlyI h.own (show w.heap.size ≠ c by have := h.cw; omega) (OnlyAt.of_below hb), h.cur.grown hb, h.only.trans (OnlyAt.of_below hb), h.cw, h.far⟩
theorem DrSt.put {w wr : World} {c : Nat} {ad : Option Addr} {cap : Nat} {zs : List Int} {m : Nat} {xs : List Int} (h : DrSt w wr c ad cap zs m xs) (k : Nat) (x : Int) : DrSt w (wr.setCell ⟨w.heap.size, k, none⟩ (.int .i64 x)) c ad cap zs m (xs.set k x) :=
  ⟨by rw [List.length_set]; exact h.len, by have := (h.own.stored k (.int .i64 x)).1; rw [ints_set] at this; exact this,
    h.cur.setFar (by have := h.cw; omega) (fun b' off e hne => by have := h.far b' off e hne; omega), h.only.past (Nat.le_refl _), h.cw, h.far⟩
theorem DrSt.more {w wr : World} {c : Nat} {ad : Option Addr} {cap : Nat} {zs : List Int} {m m' : Nat} {xs : List Int} (h : DrSt w wr c ad cap zs m xs) (hm : m ≤ m') : DrSt w wr c ad cap zs m' xs :=
  ⟨h.len, h.own, h.cur.more hm, h.only, h.cw, h.far⟩
theorem DrSt.at {w wr : World} {c : Nat} {ad : Option Addr} {cap : Nat} {zs : List Int} {m : Nat} {xs : List Int} (h : DrSt w wr c ad cap zs m xs) {k : Nat} (hk : k < 64) : (∃ u, wr.cell? ⟨w.heap.size, k, none⟩ = some u) ∧ wr.frozen? ⟨w.heap.size, k, none⟩ = false :=
  ⟨by rw [h.own.cellAt k (by omega)]; exact ⟨_, List.getElem?_eq_getElem (by have := h.own.1; omega)⟩, h.own.frozenAt k⟩

set_option maxHeartbeats 16000000 in
set_option maxRecDepth 1000000 in
theorem curBlock (c : Nat) (ad : Option Addr) (cap : Nat) (zs : List Int) (m : Nat) (w : World) (h : CurIn w c ad cap zs m) (hm : m ≤ 1099511000000) (hl : zs.length ≤ 1048576) :
    Calls Try.prog 95 #[.pointer (some ⟨c, 0, none⟩)] w fun e w' => ∃ v xs, e = .returned v ∧ xs.length = 64 ∧ InR (-32768) 32767 xs ∧ OwnI w' w.heap.size w'.heap.size v xs ∧ CurIn w' c ad cap zs (m + 400) ∧ OnlyAt c w w' := by
  obtain ⟨i0, hi, hz0, hz1, hz2⟩ := info_parts infoI
  have hcl : c < w.heap.size := by obtain ⟨_, _, ⟨h0, _⟩, _⟩ := h; exact h0
  have hadl : ∀ b' off, ad = some ⟨b', off, none⟩ → zs ≠ [] → b' < w.heap.size := fun b' off e hne => by
    obtain ⟨_, _, ⟨_, _, _, _, _, _, _, hbs⟩, _⟩ := h
    obtain ⟨b2, off2, e2, hl2, _⟩ := hbs hne
    rw [e] at e2
    simp only [Option.some.injEq, Addr.mk.injEq, and_true] at e2
    omega
  replace hadl := hide hadl
  have hpick := hide (fun (m' : Nat) (n : Int) (W : World) (hc : CurIn W c ad cap zs m') (h1 : m' ≤ 1099511627000) (h2 : n ≤ 1000000) => curPickAny c ad cap zs m' n W hc h1 hl h2)
  have hone := hide (fun (m' : Nat) (W : World) (hc : CurIn W c ad cap zs m') (h1 : m' ≤ 1099511627000) => curOne c ad cap zs m' 7 W hc (by omega) hl (by omega) (by omega))
  replace h := hide h
  go_enter Try.func95, Try.ntmps95
  go_wp2_with (at_make; refine wpList_make_full _ rfl _ _ 23 rfl w.heap.size 3 i0 (.int .i64 0) 1 Try.underlying23 hi hz0 hz1 .i64 .i64 _ _ 64 rfl rfl (by omega) (by omega) (by rw [hz2]; omega) (by unfold maxLen; omega) (Nat.le_refl _) ?_; intro w1 hown hgrow)
  have hbel := (Below.refl w.heap.size w).grown hgrow (Nat.le_refl _) (by simp)
  have hD : DrSt w w1 c ad cap zs m (List.replicate 64 0) := ⟨by simp, by rw [ints_zeros]; simpa [toList_madeCells_one, Value.cells] using hown, (unhide h).grown hbel, OnlyAt.of_below hbel, hcl, unhide hadl⟩
  replace hD := hide hD
  clear hown hgrow hbel h hadl
  go_wp2_with fail
  refine (unhide hpick m 5 w1 (unhide hD).cur (by omega) (by omega)).mono ?_
  rintro e wq ⟨kd, rfl, kd0, kd1, hcq, hoq⟩
  replace kd1 := kd1 (by omega)
  replace hD := hide ((unhide hD).pick hcq hoq)
  clear hcq hoq
  go_wp2_with fail
  go_loopw [12] (fun i wr => ∃ k : Nat, ∃ xs : List Int, k ≤ 64 ∧ i = .int .i64 k ∧ Hid (InR (-32768) 32767 xs) ∧ Hid (DrSt w wr c ad cap zs (m + 3 + 4 * k) xs)) (fun i _ => 64 - (intOf i).toNat)
  case atStart => exact ⟨0, List.replicate 64 0, Nat.zero_le _, rfl, inR_zeros _ _ (by omega) 64, hD⟩
  case round =>
    clear hD
    obtain ⟨k, xs, hk, rfl, hR, hD⟩ := hrel
    by_cases hlt : k < 64
    · have hlt2 : (k : Int) < 64 := by omega
      rcases (show kd = 0 ∨ kd = 1 ∨ kd = 2 ∨ kd = 3 ∨ kd = 4 by omega) with e | e | e | e | e
      · subst e
        go_wp2_with fail
        refine (unhide hpick (m + 3 + 4 * k) 256 wr (unhide hD).cur (by omega) (by omega)).mono ?_
        rintro e wq ⟨pk, rfl, pk0, pk1, hcq, hoq⟩
        replace pk1 := pk1 (by omega)
        replace hD := hide ((unhide hD).pick hcq hoq)
        clear hcq hoq
        obtain ⟨⟨uu, hdst⟩, hfz⟩ := (unhide hD).at hlt
        have hst := hide ((unhide hD).put k (pk - 128))
        have hir := hide ((unhide hR).set (x := pk - 128) (by omega) k)
        clear hD
        go_wp2
        go_roundw
        case rel => exact ⟨k + 1, _, by omega, by go_num, hir, hide ((unhide hst).more (by omega))⟩
        case measure => simp [intOf]; omega
      · subst e
        go_wp2_with fail
        refine (unhide hone (m + 3 + 4 * k) wr (unhide hD).cur (by omega)).mono ?_
        rintro e wq ⟨b, rfl, hcq, hoq⟩
        replace hD := hide ((unhide hD).pick hcq hoq)
        clear hcq hoq
        cases b
        · go_wp2
          go_roundw
          case rel => exact ⟨k + 1, xs, by omega, by go_num, hR, hide ((unhide hD).more (by omega))⟩
          case measure => simp [intOf]; omega
        · have hDD := hD
          clear hD
          have hD := hDD
          clear hDD
          go_wp2_with fail
          refine (unhide hpick (m + 3 + 4 * k + 1) 60 wq (unhide hD).cur (by omega) (by omega)).mono ?_
          rintro e wp ⟨pk, rfl, pk0, pk1, hcq, hoq⟩
          replace pk1 := pk1 (by omega)
          replace hD := hide ((unhide hD).pick hcq hoq)
          clear hcq hoq
          obtain ⟨⟨uu, hdst⟩, hfz⟩ := (unhide hD).at hlt
          have hst := hide ((unhide hD).put k (pk - 30))
          have hir := hide ((unhide hR).set (x := pk - 30) (by omega) k)
          clear hD
          go_wp2
          go_roundw
          case rel => exact ⟨k + 1, _, by omega, by go_num, hir, hide ((unhide hst).more (by omega))⟩
          case measure => simp [intOf]; omega
      · subst e
        go_wp2_with fail
        refine (unhide hpick (m + 3 + 4 * k) 4096 wr (unhide hD).cur (by omega) (by omega)).mono ?_
        rintro e wq ⟨pk, rfl, pk0, pk1, hcq, hoq⟩
        replace pk1 := pk1 (by omega)
        replace hD := hide ((unhide hD).pick hcq hoq)
        clear hcq hoq
        obtain ⟨⟨uu, hdst⟩, hfz⟩ := (unhide hD).at hlt
        have hst := hide ((unhide hD).put k (pk - 2048))
        have hir := hide ((unhide hR).set (x := pk - 2048) (by omega) k)
        clear hD
        go_wp2
        go_roundw
        case rel => exact ⟨k + 1, _, by omega, by go_num, hir, hide ((unhide hst).more (by omega))⟩
        case measure => simp [intOf]; omega
      · subst e
        obtain ⟨⟨uu, hdst⟩, hfz⟩ := (unhide hD).at hlt
        have hst := hide ((unhide hD).put k ((k : Int) / 8 * 9 - (k : Int) % 8 * 7))
        have hir := hide ((unhide hR).set (x := (k : Int) / 8 * 9 - (k : Int) % 8 * 7) (by omega) k)
        clear hD
        go_wp2
        go_roundw
        case rel => exact ⟨k + 1, _, by omega, by go_num, hir, hide ((unhide hst).more (by omega))⟩
        case measure => simp [intOf]; omega
      · subst e
        have hB := (Below.refl wr.heap.size wr).alloc (Nat.le_refl _) (.cells #[.int .i64 (-32768), .int .i64 32767] 3)
        have hc := hide (heldF_new wr [.int .i64 (-32768), .int .i64 32767] 3)
        have hne : wr.heap.size ≠ c := by have := (unhide hD).cur; obtain ⟨_, _, ⟨h0, _⟩, _⟩ := this; omega
        replace hD := hide ((unhide hD).grown hB)
        clear hB
        go_wp2_with fail
        refine (unhide hpick (m + 3 + 4 * k) 2 _ (unhide hD).cur (by omega) (by omega)).mono ?_
        rintro e wq ⟨pk, rfl, pk0, pk1, hcq, hoq⟩
        replace pk1 := pk1 (by omega)
        replace hD := hide ((unhide hD).pick hcq hoq)
        replace hc := hide ((unhide hc).only hoq hne)
        clear hcq hoq
        rcases (show pk = 0 ∨ pk = 1 by omega) with e | e
        · subst e
          have k0 := (unhide hc).1.2 0 _ rfl
          obtain ⟨⟨uu, hdst⟩, hfz⟩ := (unhide hD).at hlt
          have hst := hide ((unhide hD).put k (-32768))
          have hir := hide ((unhide hR).set (x := -32768) (by omega) k)
          clear hD
          go_wp2
          go_roundw
          case rel => exact ⟨k + 1, _, by omega, by go_num, hir, hide ((unhide hst).more (by omega))⟩
          case measure => simp [intOf]; omega
        · subst e
          have k0 := (unhide hc).1.2 1 _ rfl
          obtain ⟨⟨uu, hdst⟩, hfz⟩ := (unhide hD).at hlt
          have hst := hide ((unhide hD).put k (32767))
          have hir := hide ((unhide hR).set (x := 32767) (by omega) k)
          clear hD
          go_wp2
          go_roundw
          case rel => exact ⟨k + 1, _, by omega, by go_num, hir, hide ((unhide hst).more (by omega))⟩
          case measure => simp [intOf]; omega
    · have hkl : k = 64 := by omega
      subst hkl
      by_cases hk1 : kd = 1
      · subst hk1
        go_wp2_with fail
        refine (unhide hpick (m + 3 + 4 * 64) 44 wr (unhide hD).cur (by omega) (by omega)).mono ?_
        rintro e wq ⟨pk, rfl, pk0, pk1, hcq, hoq⟩
        replace pk1 := pk1 (by omega)
        replace hD := hide ((unhide hD).pick hcq hoq)
        clear hcq hoq
        obtain ⟨P, rfl⟩ := Int.eq_ofNat_of_zero_le pk0
        go_wp2_with fail
        go_loopw [6] (fun i wr => ∃ k : Nat, ∃ xs : List Int, k ≤ 64 ∧ i = .int .i64 k ∧ Hid (InR (-32768) 32767 xs) ∧ Hid (DrSt w wr c ad cap zs (m + 3 + 4 * 64 + 3) xs)) (fun i _ => 64 - (intOf i).toNat)
        case atStart => exact ⟨20 + P, xs, by omega, by go_num, hR, hD⟩
        case round =>
          clear hD hR
          obtain ⟨k, xs, hk, rfl, hR, hD⟩ := hrel
          by_cases hlt : k < 64
          · have hlt2 : (k : Int) < 64 := by omega
            go_wp2_with fail
            refine (specScanOrder wr).mono ?_
            rintro e wq ⟨v, rfl, ho, hu⟩
            replace hD := hide ((unhide hD).grown hu.none)
            obtain ⟨a', cp', rfl, hA⟩ := readK_of_own ho
            rw [scanL_length]
            obtain ⟨b, off, rfl, hbl, hc⟩ := hA (ne_of_lt_length (k := k) (by rw [scanL_length]; exact hlt))
            have hck := hc k (by rw [scanL_length]; exact hlt)
            have hxb := scanL_bd k hlt
            generalize scanL.getD k 0 = x at hck hxb
            obtain ⟨x0, x1⟩ := hxb
            obtain ⟨X, rfl⟩ := Int.eq_ofNat_of_zero_le x0
            have hX64 : X < 64 := by omega
            obtain ⟨⟨uu, hdst⟩, hfz⟩ := (unhide hD).at hX64
            have hst := hide ((unhide hD).put X 0)
            have hir := hide ((unhide hR).set (x := 0) (by omega) X)
            clear hD ho hu hA hc
            go_wp2
            go_roundw
            case rel => exact ⟨k + 1, _, by omega, by go_num, hir, hst⟩
            case measure => simp [intOf]; omega
          · have hkl : k = 64 := by omega
            subst hkl
            have ho := hide (Own.of (unhide hD).own)
            go_wp2
            go_ret
            exact ⟨_, xs, rfl, (unhide hD).len, unhide hR, by unfold OwnI; rw [(unhide hD).len]; exact unhide ho, (unhide hD).cur.more (by omega), (unhide hD).only⟩
      · have hkb : (kd == 1) = false := beq_eq_false_iff_ne.2 hk1
        have ho := hide (Own.of (unhide hD).own)
        go_wp2
        go_ret
        exact ⟨_, xs, rfl, (unhide hD).len, unhide hR, by unfold OwnI; rw [(unhide hD).len]; exact unhide ho, (unhide hD).cur.more (by omega), (unhide hD).only⟩
end Go.Proofs.Ytnalmingbglgfaa

/- Plain: bits put one behind the other into bytes, in either order; a part of a number put at once is as many bits. -/
namespace Go.Proofs.Ytnalmingbglgfaa
open Go.RowKit

def opn (zs : List Nat) (L : Nat) : List Nat := if L % 8 = 0 then zs ++ [0] else zs
def ex (h : Bool) (r : Nat) : Nat := if h then 7 - r else r
def addBit (h : Bool) (zs : List Nat) (L b : Nat) : List Nat := (opn zs L).set (L / 8) ((opn zs L).getD (L / 8) 0 + b * 2 ^ ex h (L % 8))
def fbit (h : Bool) (v n k : Nat) : Nat := if h then v / 2 ^ (n - 1 - k) % 2 else v / 2 ^ k % 2
def ft (h : Bool) (v n : Nat) (zs : List Nat) (L : Nat) : Nat → List Nat
  | 0 => zs
  | k + 1 => addBit h (ft h v n zs L k) (L + k) (fbit h v n k)

/-- The bytes hold so many bits, and the bits that are left in the last one are 0. -/
def Inv (h : Bool) (zs : List Nat) (L : Nat) : Prop :=
  zs.length = (L + 7) / 8 ∧ (∀ j, zs.getD j 0 < 256) ∧ (L % 8 ≠ 0 → if h then zs.getD (L / 8) 0 % 2 ^ (8 - L % 8) = 0 else zs.getD (L / 8) 0 < 2 ^ (L % 8))

theorem opn_len {h : Bool} {zs : List Nat} {L : Nat} (hi : Inv h zs L) : (opn zs L).length = L / 8 + 1 := by
  unfold opn; have := hi.1
  split
  · simp; omega
  · omega
theorem getD_snoc_last (zs : List Nat) (a : Nat) : (zs ++ [a]).getD zs.length 0 = a := by
  rw [List.getD_eq_getElem?_getD, List.getElem?_append_right (Nat.le_refl _), Nat.sub_self]; rfl
theorem getD_snoc (zs : List Nat) (j : Nat) : (zs ++ [0]).getD j 0 = zs.getD j 0 := by
  rw [List.getD_eq_getElem?_getD, List.getD_eq_getElem?_getD]
  rcases Nat.lt_trichotomy j zs.length with h | h | h
  · rw [List.getElem?_append_left h]
  · subst h; rw [List.getElem?_append_right (Nat.le_refl _), Nat.sub_self, List.getElem?_eq_none (Nat.le_refl _)]; rfl
  · rw [List.getElem?_eq_none (by simp; omega), List.getElem?_eq_none (by omega)]
theorem opn_getD (zs : List Nat) (L j : Nat) : (opn zs L).getD j 0 = zs.getD j 0 := by
  unfold opn; split
  · exact getD_snoc zs j
  · rfl
theorem opn_x {h : Bool} {zs : List Nat} {L : Nat} (hi : Inv h zs L) : (opn zs L).getD (L / 8) 0 < 256 ∧ (if h then (opn zs L).getD (L / 8) 0 % 2 ^ (8 - L % 8) = 0 else (opn zs L).getD (L / 8) 0 < 2 ^ (L % 8)) := by
  rw [opn_getD]
  refine ⟨hi.2.1 _, ?_⟩
  by_cases h0 : L % 8 = 0
  · have hz : zs.getD (L / 8) 0 = 0 := by
      rw [List.getD_eq_getElem?_getD, List.getElem?_eq_none (by have := hi.1; omega)]; rfl
    rw [hz, h0]; cases h <;> simp
  · exact hi.2.2 h0
theorem getD_set_same (zs : List Nat) (i a : Nat) (hi : i < zs.length) : (zs.set i a).getD i 0 = a := by
  rw [List.getD_eq_getElem?_getD, List.getElem?_set_self hi]; rfl
theorem getD_set_other (zs : List Nat) (i j a : Nat) (h : i ≠ j) : (zs.set i a).getD j 0 = zs.getD j 0 := by
  rw [List.getD_eq_getElem?_getD, List.getD_eq_getElem?_getD, List.getElem?_set_ne h]
theorem pow_cases (r : Nat) (h : r < 8) : r = 0 ∨ r = 1 ∨ r = 2 ∨ r = 3 ∨ r = 4 ∨ r = 5 ∨ r = 6 ∨ r = 7 := by omega
theorem step_x (h : Bool) (x r b : Nat) (hr : r < 8) (hb : b ≤ 1) (hx : x < 256) (hf : if h then x % 2 ^ (8 - r) = 0 else x < 2 ^ r) :
    x + b * 2 ^ ex h r < 256 ∧ (if h then (x + b * 2 ^ ex h r) % 2 ^ (8 - (r + 1)) = 0 else x + b * 2 ^ ex h r < 2 ^ (r + 1)) := by
  have hb' : b = 0 ∨ b = 1 := by omega
  cases h <;> rcases pow_cases r hr with e | e | e | e | e | e | e | e <;> subst e <;> rcases hb' with e | e <;> subst e <;> simp [ex] at hf ⊢ <;> omega
theorem addBit_inv {h : Bool} {zs : List Nat} {L b : Nat} (hi : Inv h zs L) (hb : b ≤ 1) : Inv h (addBit h zs L b) (L + 1) := by
  have hl := opn_len hi
  have hx := opn_x hi
  have hs := step_x h _ (L % 8) b (by omega) hb hx.1 hx.2
  refine ⟨?_, ?_, ?_⟩
  · unfold addBit; rw [List.length_set, hl]; omega
  · intro j
    unfold addBit
    by_cases e : L / 8 = j
    · subst e; rw [getD_set_same _ _ _ (by omega)]; exact hs.1
    · rw [getD_set_other _ _ _ _ e, opn_getD]; exact hi.2.1 j
  · intro h0
    have e1 : (L + 1) / 8 = L / 8 := by omega
    have e2 : (L + 1) % 8 = L % 8 + 1 := by omega
    rw [e1, e2]
    unfold addBit
    rw [getD_set_same _ _ _ (by omega)]
    exact hs.2
theorem fbit_le (h : Bool) (v n k : Nat) : fbit h v n k ≤ 1 := by unfold fbit; split <;> omega
theorem ft_inv {h : Bool} {v n : Nat} {zs : List Nat} {L : Nat} (hi : Inv h zs L) (k : Nat) : Inv h (ft h v n zs L k) (L + k) := by
  induction k with
  | zero => exact hi
  | succ k ih => exact addBit_inv ih (fbit_le h v n k)

def chunk (h : Bool) (v n d m : Nat) : Nat := if h then v / 2 ^ (n - d - m) % 2 ^ m else v / 2 ^ d % 2 ^ m
def cex (h : Bool) (r m : Nat) : Nat := if h then 8 - r - m else r
theorem chunk_lt (h : Bool) (v n d m : Nat) : chunk h v n d m < 2 ^ m := by
  unfold chunk; split <;> exact Nat.mod_lt _ (Nat.pow_pos (by omega))
theorem ft_chunk {h : Bool} {v n : Nat} {zs : List Nat} {L : Nat} (hi : Inv h zs L) (d m : Nat) (hm : (L + d) % 8 + (m + 1) ≤ 8) (hn : d + (m + 1) ≤ n) :
    ft h v n zs L (d + (m + 1)) = (opn (ft h v n zs L d) (L + d)).set ((L + d) / 8) ((opn (ft h v n zs L d) (L + d)).getD ((L + d) / 8) 0 + chunk h v n d (m + 1) * 2 ^ cex h ((L + d) % 8) (m + 1)) := by
  have hl := opn_len (ft_inv (v := v) (n := n) hi d)
  induction m with
  | zero =>
    show addBit h (ft h v n zs L d) (L + d) (fbit h v n d) = _
    unfold addBit
    congr 2
    have e1 : fbit h v n d = chunk h v n d (0 + 1) := by
      unfold fbit chunk; split
      · rw [show n - 1 - d = n - d - (0 + 1) by omega, Nat.zero_add, Nat.pow_one]
      · rw [Nat.zero_add, Nat.pow_one]
    have e2 : ex h ((L + d) % 8) = cex h ((L + d) % 8) (0 + 1) := by unfold ex cex; split <;> omega
    rw [e1, e2]
  | succ m ih =>
    show addBit h (ft h v n zs L (d + (m + 1))) (L + (d + (m + 1))) (fbit h v n (d + (m + 1))) = _
    rw [ih (by omega) (by omega)]
    have e1 : (L + (d + (m + 1))) / 8 = (L + d) / 8 := by omega
    have e2 : (L + (d + (m + 1))) % 8 = (L + d) % 8 + (m + 1) := by omega
    unfold addBit
    generalize opn (ft h v n zs L d) (L + d) = Y at hl ⊢
    generalize Y.getD ((L + d) / 8) 0 = x
    have e3 : ∀ A, opn A (L + (d + (m + 1))) = A := fun A => by unfold opn; rw [if_neg (by omega)]
    rw [e3, e1, e2, getD_set_same _ _ _ (by omega), List.set_set]
    congr 1
    rw [Nat.add_assoc]
    congr 1
    unfold fbit chunk ex cex
    cases h
    · simp only [Bool.false_eq_true, if_false]
      have hp := mod_pow_step (v / 2 ^ d) (m + 1)
      rw [Nat.div_div_eq_div_mul, ← Nat.pow_add] at hp
      rw [show m + 1 + 1 = (m + 1) + 1 from rfl, hp, Nat.add_mul, Nat.pow_add 2 ((L + d) % 8) (m + 1)]
      rw [Nat.mul_assoc (v / 2 ^ (d + (m + 1)) % 2), Nat.mul_comm (2 ^ (m + 1))]
    · simp only [if_true]
      have e4 : n - 1 - (d + (m + 1)) = n - d - (m + 1 + 1) := by omega
      have e5 : n - d - (m + 1) = (n - d - (m + 1 + 1)) + 1 := by omega
      have e6 : 8 - (L + d) % 8 - (m + 1) = (8 - (L + d) % 8 - (m + 1 + 1)) + 1 := by omega
      have e7 : 7 - ((L + d) % 8 + (m + 1)) = 8 - (L + d) % 8 - (m + 1 + 1) := by omega
      rw [e4, e5, e6, e7, Nat.pow_succ 2 (n - d - (m + 1 + 1)), ← Nat.div_div_eq_div_mul]
      generalize v / 2 ^ (n - d - (m + 1 + 1)) = y
      have e8 : y % 2 ^ (m + 1 + 1) = y % 2 + 2 * (y / 2 % 2 ^ (m + 1)) := by rw [Nat.pow_succ 2 (m + 1), Nat.mul_comm, Nat.mod_mul]
      rw [e8, Nat.pow_succ 2 (8 - (L + d) % 8 - (m + 1 + 1)), Nat.add_mul]
      generalize 2 ^ (8 - (L + d) % 8 - (m + 1 + 1)) = q
      generalize y / 2 % 2 ^ (m + 1) = z
      have : z * (q * 2) = 2 * z * q := by rw [Nat.mul_comm q 2, ← Nat.mul_assoc, Nat.mul_comm z 2]
      omega
theorem or_into (h : Bool) (x r m c : Nat) (hm : r + m ≤ 8) (hf : if h then x % 2 ^ (8 - r) = 0 else x < 2 ^ r) (hc : c < 2 ^ m) : x ||| (c * 2 ^ cex h r m) = x + c * 2 ^ cex h r m := by
  unfold cex
  cases h
  · simp only [Bool.false_eq_true, if_false] at hf ⊢
    rw [Nat.or_comm, nat_join r _ _ (Nat.mul_mod_left _ _) hf, Nat.add_comm]
  · simp only [if_true] at hf ⊢
    refine nat_join (8 - r) _ _ hf ?_
    have := Nat.mul_lt_mul_of_pos_right hc (Nat.pow_pos (n := 8 - r - m) (show 0 < 2 by omega))
    rwa [← Nat.pow_add, show m + (8 - r - m) = 8 - r by omega] at this
end Go.Proofs.Ytnalmingbglgfaa

/- The walks of the sink of bits: the specification's. -/
namespace Go.Proofs.Ytnalmingbglgfaa
open Go.RowKit

def vals (zs : List Nat) : List Value := zs.map fun b : Nat => Value.int .u8 (b : Int)
theorem vals_len (zs : List Nat) : (vals zs).length = zs.length := by unfold vals; simp
theorem vals_at (zs : List Nat) (j : Nat) (h : j < zs.length) : (vals zs)[j]? = some (.int .u8 (zs.getD j 0 : Nat)) := by
  unfold vals; rw [List.getElem?_map, List.getD_eq_getElem?_getD, List.getElem?_eq_getElem h]; rfl
theorem vals_set (zs : List Nat) (j a : Nat) : (vals zs).set j (.int .u8 (a : Int)) = vals (zs.set j a) := by unfold vals; rw [List.map_set]
theorem vals_snoc (zs : List Nat) : vals zs ++ [.int .u8 0] = vals (zs ++ [0]) := by unfold vals; simp

/-- A sink or a writer of bits in the variable at block c: its first word, its bytes, its number. -/
def SinkAt (w : World) (c : Nat) (o v : Value) (q : Int) : Prop :=
  c < w.heap.size ∧ w.cell? ⟨c, 0, none⟩ = some o ∧ w.cell? ⟨c, 1, none⟩ = some v ∧ w.cell? ⟨c, 2, none⟩ = some (.int .i64 q) ∧ w.frozen? ⟨c, 1, none⟩ = false ∧ w.frozen? ⟨c, 2, none⟩ = false
def Sink (w : World) (c : Nat) (o : Value) (zs : List Nat) (q : Int) : Prop := ∃ v, SinkAt w c o v q ∧ w.ownsRow (c + 1) 5 1 v zs.length (vals zs)
theorem SinkAt.drewN {w : World} {c : Nat} {o v : Value} {q : Int} (h : SinkAt w c o v q) (n : Nat) : SinkAt (w.drewN n) c o v q := h
theorem SinkAt.drew {w : World} {c : Nat} {o v : Value} {q : Int} (h : SinkAt w c o v q) : SinkAt w.drew c o v q := h
theorem SinkAt.grown {w w' : World} {c : Nat} {o v : Value} {q : Int} {row : Option Nat} (h : SinkAt w c o v q) (hg : w.grownBy w' row) (hr : some c ≠ row) : SinkAt w' c o v q := by
  obtain ⟨h0, h1, h2, h3, f1, f2⟩ := h
  have hb := hg.block c h0 hr
  exact ⟨Nat.lt_of_lt_of_le h0 hg.size, (World.cell?_of_block (a := ⟨c, 0, none⟩) hb).trans h1, (World.cell?_of_block (a := ⟨c, 1, none⟩) hb).trans h2, (World.cell?_of_block (a := ⟨c, 2, none⟩) hb).trans h3,
    (World.frozen?_of_block (a := ⟨c, 1, none⟩) hb).trans f1, (World.frozen?_of_block (a := ⟨c, 2, none⟩) hb).trans f2⟩
theorem SinkAt.data {w : World} {c : Nat} {o v : Value} {q : Int} (h : SinkAt w c o v q) (u : Value) : SinkAt (w.setCell ⟨c, 1, none⟩ u) c o u q := by
  obtain ⟨h0, h1, h2, h3, f1, f2⟩ := h
  refine ⟨by simpa using h0, ?_, World.cell?_setCell_same _ _ _ h2, ?_, (World.frozen?_setCell _ _ _ _).trans f1, (World.frozen?_setCell _ _ _ _).trans f2⟩
  · rw [World.cell?_setCell_other _ _ _ _ (by simp)]; exact h1
  · rw [World.cell?_setCell_other _ _ _ _ (by simp)]; exact h3
theorem SinkAt.num {w : World} {c : Nat} {o v : Value} {q : Int} (h : SinkAt w c o v q) (p : Int) : SinkAt (w.setCell ⟨c, 2, none⟩ (.int .i64 p)) c o v p := by
  obtain ⟨h0, h1, h2, h3, f1, f2⟩ := h
  refine ⟨by simpa using h0, ?_, ?_, World.cell?_setCell_same _ _ _ h3, (World.frozen?_setCell _ _ _ _).trans f1, (World.frozen?_setCell _ _ _ _).trans f2⟩
  · rw [World.cell?_setCell_other _ _ _ _ (by simp)]; exact h1
  · rw [World.cell?_setCell_other _ _ _ _ (by simp)]; exact h2
theorem SinkAt.far {w : World} {c g j : Nat} {o v u : Value} {q : Int} (h : SinkAt w c o v q) (hg : g ≠ c) : SinkAt (w.setCell ⟨g, j, none⟩ u) c o v q := by
  obtain ⟨h0, h1, h2, h3, f1, f2⟩ := h
  refine ⟨by simpa using h0, ?_, ?_, ?_, (World.frozen?_setCell _ _ _ _).trans f1, (World.frozen?_setCell _ _ _ _).trans f2⟩ <;> (rw [World.cell?_setCell_far _ _ _ _ (by simpa using hg)]; assumption)
theorem one_new (w : World) (u : Value) : ∀ j v, [u][j]? = some v → (w.alloc (.cells #[u] 5)).cell? ((⟨w.heap.size, 0, none⟩ : Addr).add j) = some v := by
  intro j v hj
  match j, hj with
  | 0, hj => simp at hj; subst hj; simp [Addr.add]
theorem one_one : ∀ u ∈ [Value.int .u8 0], u.oneCell' = true := by intro u hu; simp at hu; subst hu; rfl
theorem addBit_zero (h : Bool) (zs : List Nat) (L : Nat) (hl : L / 8 < (opn zs L).length) : addBit h zs L 0 = opn zs L := by
  unfold addBit
  rw [Nat.zero_mul, Nat.add_zero, List.getD_eq_getElem?_getD, List.getElem?_eq_getElem hl]
  exact List.set_getElem_self hl
theorem or_bit8 (h : Bool) (x r k : Nat) (hx : x < 256) (hr : r < 8) (hk : k = ex h r) (hf : if h then x % 2 ^ (8 - r) = 0 else x < 2 ^ r) : bits .or .u8 (x : Int) (2 ^ k % 256) = ((x + 1 * 2 ^ ex h r : Nat) : Int) := by
  have hk7 : k ≤ 7 := by subst hk; unfold ex; split <;> omega
  have ho := or_into h x r 1 1 (by omega) hf (by omega)
  have ec : cex h r 1 = ex h r := by unfold ex cex; split <;> omega
  rw [ec, ← hk] at ho
  rw [← hk]
  have e : ((2 : Int) ^ k % 256) = ((2 ^ k : Nat) : Int) := by
    rcases pow_cases k (by omega) with h | h | h | h | h | h | h | h <;> subst h <;> decide
  have hl : 2 ^ k < 256 := by rcases pow_cases k (by omega) with h | h | h | h | h | h | h | h <;> subst h <;> decide
  rw [e, u8_or_nat _ _ hx hl]
  rw [Nat.one_mul] at ho ⊢
  rw [ho]


end Go.Proofs.Ytnalmingbglgfaa

/- The walks of the sink of bits: the specification's numbers. -/
namespace Go.Proofs.Ytnalmingbglgfaa
open Go.RowKit

theorem bit_of_u64 (v k : Nat) (hv : v < 18446744073709551616) : bits .and .u64 ((v : Int) / 2 ^ k) 1 = ((v / 2 ^ k % 2 : Nat) : Int) := by
  have h := Nat.div_le_self v (2 ^ k)
  rw [show ((v : Int) / 2 ^ k) = ((v / 2 ^ k : Nat) : Int) by simp]
  generalize v / 2 ^ k = y at h ⊢
  go_bits2

end Go.Proofs.Ytnalmingbglgfaa

/- Fields, and the walk of the specification's packing of them. -/
namespace Go.Proofs.Ytnalmingbglgfaa
open Go.RowKit

def FieldsAt (w : World) (b off : Nat) (fs : List (Int × Int)) : Prop := ∀ j, j < fs.length → w.cell? ⟨b, off + j * 2, none⟩ = some (.int .i64 (fs.getD j (0, 0)).1) ∧ w.cell? ⟨b, off + j * 2 + 1, none⟩ = some (.int .u64 (fs.getD j (0, 0)).2)
def InF (fs : List (Int × Int)) : Prop := ∀ j, (-9223372036854775808 ≤ (fs.getD j (0, 0)).1 ∧ (fs.getD j (0, 0)).1 ≤ 9223372036854775807) ∧ 0 ≤ (fs.getD j (0, 0)).2 ∧ (fs.getD j (0, 0)).2 < 18446744073709551616
def OwnF (w : World) (g : Nat) (fs : List (Int × Int)) : Prop := g < w.heap.size ∧ FieldsAt w g 0 fs
theorem OwnF.below {w w' : World} {g : Nat} {fs : List (Int × Int)} (h : OwnF w g fs) (hb : Below w.heap.size w w') : OwnF w' g fs :=
  ⟨Nat.lt_of_lt_of_le h.1 hb.size, fun j hj => ⟨(hb.cell (by simpa using h.1)).trans (h.2 j hj).1, (hb.cell (by simpa using h.1)).trans (h.2 j hj).2⟩⟩
theorem OwnF.belowAt {B : Nat} {w w' : World} {g : Nat} {fs : List (Int × Int)} (h : OwnF w g fs) (hg : g < B) (hb : Below B w w') : OwnF w' g fs :=
  ⟨Nat.lt_of_lt_of_le h.1 hb.size, fun j hj => ⟨(hb.cell (by simpa using hg)).trans (h.2 j hj).1, (hb.cell (by simpa using hg)).trans (h.2 j hj).2⟩⟩

def okF (f : Int × Int) : Prop := 0 ≤ f.1 ∧ f.1 ≤ 64
def packStep (h : Bool) (s : List Nat × Nat) (f : Int × Int) : List Nat × Nat := (ft h f.2.toNat f.1.toNat s.1 s.2 f.1.toNat, s.2 + f.1.toNat)
def packTo (h : Bool) (fs : List (Int × Int)) (k : Nat) : List Nat × Nat := (fs.take k).foldl (packStep h) ([], 0)
theorem packTo_succ (h : Bool) (fs : List (Int × Int)) (k : Nat) (hk : k < fs.length) : packTo h fs (k + 1) = packStep h (packTo h fs k) (fs.getD k (0, 0)) := by
  unfold packTo; rw [take_snoc_getD fs (0, 0) k hk, List.foldl_append]; rfl
theorem inv_nil (h : Bool) : Inv h [] 0 := ⟨rfl, fun j => by simp, fun h => absurd rfl h⟩
theorem packTo_inv (h : Bool) (fs : List (Int × Int)) (k : Nat) (hk : k ≤ fs.length) (hok : ∀ j, j < k → okF (fs.getD j (0, 0))) : Inv h (packTo h fs k).1 (packTo h fs k).2 ∧ (packTo h fs k).2 ≤ 64 * k := by
  induction k with
  | zero => exact ⟨inv_nil h, Nat.le_refl _⟩
  | succ k ih =>
    have h1 := ih (by omega) (fun j hj => hok j (by omega))
    have h2 := hok k (by omega)
    rw [packTo_succ h fs k (by omega)]
    refine ⟨ft_inv h1.1 _, ?_⟩
    show (packTo h fs k).2 + (fs.getD k (0, 0)).1.toNat ≤ _
    have := h2.2
    omega
/-- The packed bytes: none where there are too many fields or one's width is bad. -/
noncomputable def packF (h : Bool) (fs : List (Int × Int)) : List Nat := open Classical in if fs.length ≤ 20000 ∧ ∀ j, j < fs.length → okF (fs.getD j (0, 0)) then (packTo h fs fs.length).1 else []
theorem packF_good (h : Bool) (fs : List (Int × Int)) (h1 : fs.length ≤ 20000) (h2 : ∀ j, j < fs.length → okF (fs.getD j (0, 0))) : packF h fs = (packTo h fs fs.length).1 := if_pos ⟨h1, h2⟩
theorem packF_many (h : Bool) (fs : List (Int × Int)) (h1 : 20000 < fs.length) : packF h fs = [] := if_neg (fun h => by have := h.1; omega)
theorem packF_bad (h : Bool) (fs : List (Int × Int)) (j : Nat) (hj : j < fs.length) (hb : ¬ okF (fs.getD j (0, 0))) : packF h fs = [] := if_neg (fun h => hb (h.2 j hj))

theorem ownsRow_base {w : World} {base base' : Nat} {e : TypeId} {size : Nat} {v : Value} {n : Nat} {xs : List Value} (h : w.ownsRow base e size v n xs) (hb : base' ≤ base) : w.ownsRow base' e size v n xs := by
  refine ⟨h.1, ?_⟩
  rcases h.2 with h | ⟨g, cap, cur, e1, e2, e3⟩
  · exact .inl h
  · exact .inr ⟨g, cap, cur, e1, Nat.le_trans hb e2, e3⟩
theorem Sink.alloc {w : World} {c : Nat} {o : Value} {zs : List Nat} {q : Int} (h : Sink w c o zs q) (ob : Obj) : Sink (w.alloc ob) c o zs q := by
  obtain ⟨v, hS, hown⟩ := h
  exact ⟨v, hS.grown (World.grownBy_alloc w ob none) (by simp), hown.alloc ob⟩
end Go.Proofs.Ytnalmingbglgfaa

/- The walks of the laws' own helpers on byte strings: a copy, whether two are equal, marksB. -/
namespace Go.Proofs.Ytnalmingbglgfaa
open Go.RowKit

def byts (zs : List Int) : List Value := zs.map (.int .u8)
theorem byts_length (zs : List Int) : (byts zs).length = zs.length := by simp [byts]
abbrev OwnY (w : World) (a b : Nat) (v : Value) (zs : List Int) : Prop := Own 5 1 w a b v zs.length (byts zs)
abbrev ArgY (w : World) (ad : Option Addr) (zs : List Int) : Prop := ReadK .u8 w ad zs
/-- A byte string as a value that can be read. -/
def RdY (w : World) (v : Value) (zs : List Int) : Prop := ∃ ad cap, v = .slice ad zs.length cap ∧ ArgY w ad zs
theorem RdY.below {w w' : World} {v : Value} {zs : List Int} (h : RdY w v zs) (hb : Below w.heap.size w w') : RdY w' v zs := by
  obtain ⟨ad, cap, e, h⟩ := h
  exact ⟨ad, cap, e, h.below hb⟩
theorem OwnY.rd {w : World} {a b : Nat} {v : Value} {zs : List Int} (h : OwnY w a b v zs) : RdY w v zs := readK_of_own h

def partY (zs : List Int) (k : Nat) : List Value := byts (zs.take k) ++ List.replicate (zs.length - k) (.int .u8 0)
theorem partY_zero (zs : List Int) : partY zs 0 = List.replicate zs.length (.int .u8 0) := by unfold partY byts; simp
theorem partY_all (zs : List Int) : partY zs zs.length = byts zs := by unfold partY byts; simp
theorem partY_set (zs : List Int) (k : Nat) (h : k < zs.length) : (partY zs k).set k (.int .u8 (zs.getD k 0)) = partY zs (k + 1) := by
  unfold partY byts
  rw [take_snoc_getD zs 0 k h, List.map_append, List.set_append, if_neg (by simp; omega), List.append_assoc]
  congr 1
  have : zs.length - k = (zs.length - (k + 1)) + 1 := by omega
  rw [this, List.replicate_succ]
  simp [Nat.min_eq_left (Nat.le_of_lt h)]
theorem partY_length (zs : List Int) (k : Nat) (h : k ≤ zs.length) : (partY zs k).length = zs.length := by unfold partY byts; simp; omega

end Go.Proofs.Ytnalmingbglgfaa

/- Plain: depths of samples, rows of samples packed into bytes. -/
namespace Go.Proofs.Ytnalmingbglgfaa
open Go.RowKit

def depthOk (d : Int) : Bool := d == 1 || d == 2 || d == 4 || d == 8 || d == 16
theorem depthOk_cases {d : Int} (h : depthOk d = true) : d = 1 ∨ d = 2 ∨ d = 4 ∨ d = 8 ∨ d = 16 := by
  unfold depthOk at h; simp at h; omega
theorem depthOk_nat {d : Int} (h : depthOk d = true) : ∃ D : Nat, d = (D : Int) ∧ 1 ≤ D ∧ D ≤ 16 := by
  rcases depthOk_cases h with e | e | e | e | e <;> subst e
  · exact ⟨1, rfl, by omega, by omega⟩
  · exact ⟨2, rfl, by omega, by omega⟩
  · exact ⟨4, rfl, by omega, by omega⟩
  · exact ⟨8, rfl, by omega, by omega⟩
  · exact ⟨16, rfl, by omega, by omega⟩
theorem two_pow_16 {D : Nat} (h : D ≤ 16) : (0 : Int) < (2 : Int) ^ D ∧ (2 : Int) ^ D ≤ 65536 := by
  have h1 : 2 ^ D ≤ 2 ^ 16 := Nat.pow_le_pow_right (by omega) h
  have h2 : 0 < 2 ^ D := Nat.pow_pos (by omega)
  have e : (2 : Int) ^ D = ((2 ^ D : Nat) : Int) := by simp
  rw [e]; generalize 2 ^ D = y at h1 h2; omega
theorem two_pow_n {D : Nat} : (2 : Int) ^ D = ((2 ^ D : Nat) : Int) := by simp
/-- All samples are in the range of a depth. -/
def SmpOk (zs : List Int) (d : Int) : Prop := ∀ j, j < zs.length → 0 ≤ zs.getD j 0 ∧ zs.getD j 0 < 2 ^ d.toNat
def RowOk (zs : List Int) (d : Int) : Prop := depthOk d = true ∧ zs.length ≤ 4096 ∧ SmpOk zs d
def rowFs (zs : List Int) (d : Int) : List (Int × Int) := zs.map fun x => (d, x)
@[simp] theorem rowFs_length (zs : List Int) (d : Int) : (rowFs zs d).length = zs.length := by simp [rowFs]
theorem rowFs_at (zs : List Int) (d : Int) (k : Nat) (h : k < zs.length) : (rowFs zs d).getD k (0, 0) = (d, zs.getD k 0) := by
  unfold rowFs
  rw [List.getD_eq_getElem?_getD, List.getD_eq_getElem?_getD, List.getElem?_map, List.getElem?_eq_getElem h]; rfl
theorem rowFs_ok {d : Int} (h : depthOk d = true) (zs : List Int) (k : Nat) (hk : k < zs.length) : okF ((rowFs zs d).getD k (0, 0)) := by
  rw [rowFs_at zs d k hk]
  obtain ⟨D, rfl, h1, h2⟩ := depthOk_nat h
  exact ⟨by simp, by simp; omega⟩
noncomputable def rowB (zs : List Int) (d : Int) : List Nat := open Classical in if RowOk zs d then (packTo true (rowFs zs d) zs.length).1 else []
theorem rowB_yes {zs : List Int} {d : Int} (h : RowOk zs d) : rowB zs d = (packTo true (rowFs zs d) zs.length).1 := by unfold rowB; exact if_pos h
theorem rowB_no {zs : List Int} {d : Int} (h : ¬ RowOk zs d) : rowB zs d = [] := by unfold rowB; exact if_neg h
noncomputable def rowF (zs : List Int) (d : Int) : List Int := (rowB zs d).map fun b : Nat => (b : Int)
theorem rowF_no {zs : List Int} {d : Int} (h : ¬ RowOk zs d) : rowF zs d = [] := by unfold rowF; rw [rowB_no h]; rfl
theorem rowF_length (zs : List Int) (d : Int) : (rowF zs d).length = (rowB zs d).length := by simp [rowF]
theorem rowF_byts (zs : List Int) (d : Int) : byts (rowF zs d) = vals (rowB zs d) := by unfold rowF byts vals; simp
theorem row_inv {d : Int} (h : depthOk d = true) (zs : List Int) (k : Nat) (hk : k ≤ zs.length) : Inv true (packTo true (rowFs zs d) k).1 (packTo true (rowFs zs d) k).2 ∧ (packTo true (rowFs zs d) k).2 ≤ 64 * k :=
  packTo_inv true (rowFs zs d) k (by simpa using hk) (fun j hj => rowFs_ok h zs j (by omega))
theorem row_step {zs : List Int} {D : Nat} {k : Nat} (hk : k < zs.length) (u : Nat) (hu : zs.getD k 0 = (u : Int)) :
    (packTo true (rowFs zs D) (k + 1)).1 = ft true u D (packTo true (rowFs zs D) k).1 (packTo true (rowFs zs D) k).2 D ∧ (packTo true (rowFs zs D) (k + 1)).2 = (packTo true (rowFs zs D) k).2 + D := by
  rw [packTo_succ true _ k (by simpa using hk), rowFs_at zs D k hk]
  unfold packStep
  rw [hu]
  exact ⟨rfl, rfl⟩
theorem rowF_len (zs : List Int) (d : Int) : (rowF zs d).length ≤ 1048576 := by
  rw [rowF_length]
  by_cases h : RowOk zs d
  · rw [rowB_yes h]
    have h1 := row_inv h.1 zs zs.length (Nat.le_refl _)
    have h2 := h1.1.1
    have := h.2.1
    omega
  · rw [rowB_no h]; simp
end Go.Proofs.Ytnalmingbglgfaa

/- The cursor that draws: lists of samples. -/
namespace Go.Proofs.Ytnalmingbglgfaa
open Go.RowKit

theorem OnlyAt.trans2 {c : Nat} {w w' : World} (h : OnlyAt c w w') (k : Nat) (u : Value) : OnlyAt c w (w'.setCell ⟨w.heap.size, k, none⟩ u) :=
  ⟨h.os, h.tape, h.output, by simpa using h.size, fun j hj hjc => (Below.heap_setCell w' ⟨w.heap.size, k, none⟩ u j (by simp; omega)).trans (h.block j hj hjc)⟩

set_option maxHeartbeats 16000000 in
set_option maxRecDepth 1000000 in
theorem curSamples (c : Nat) (ad : Option Addr) (cap : Nat) (zs : List Int) (m a b p N D : Nat) (w : World) (h : CurIn w c ad cap zs m) (hm : m ≤ 1099511000000) (hl : zs.length ≤ 1048576)
    (ha : a ≤ 1024) (hb : b ≤ 1024) (hp : 1 ≤ p ∧ p ≤ 4) (hN : a * b * p = N) (hN2 : N ≤ 16384) (hD : 1 ≤ D ∧ D ≤ 16) :
    Calls Try.prog 100 #[.pointer (some ⟨c, 0, none⟩), .int .i64 a, .int .i64 b, .int .i64 p, .int .i64 D] w fun e w' => ∃ v xs, e = .returned v ∧ xs.length = N ∧ InT (2 ^ D) xs ∧ OwnI w' w.heap.size w'.heap.size v xs ∧ CurIn w' c ad cap zs (m + 12 + 3 * N) ∧ OnlyAt c w w' := by
  obtain ⟨i0, hi, hz0, hz1, hz2⟩ := info_parts infoI
  obtain ⟨p1, p2⟩ := hp
  obtain ⟨D1, D2⟩ := hD
  have hT := two_pow_16 D2
  have hT2 : (2 : Int) ≤ (2 : Int) ^ D := by
    have h1 : 2 ^ 1 ≤ 2 ^ D := Nat.pow_le_pow_right (by omega) D1
    rw [two_pow_n]; omega
  obtain ⟨T, hTe⟩ : ∃ T : Int, (2 : Int) ^ D = T := ⟨_, rfl⟩
  rw [hTe] at hT hT2 ⊢
  obtain ⟨T0, T1⟩ := hT
  have hab : a * b ≤ 1048576 := Nat.mul_le_mul ha hb
  have hab' : ((a : Int) * (b : Int)) = ((a * b : Nat) : Int) := by simp
  have hNI : (((a * b : Nat) : Int) * (p : Int)) = (N : Int) := by rw [← hN]; simp
  have ha1 : 0 < N → 1 ≤ a := fun hpos => by
    rcases Nat.eq_zero_or_pos a with h0 | h0
    · subst h0; simp at hN; omega
    · exact h0
  clear hN
  generalize a * b = ab at hab hab' hNI
  have hcl : c < w.heap.size := by obtain ⟨_, _, ⟨h0, _⟩, _⟩ := h; exact h0
  have hadl : ∀ b' off, ad = some ⟨b', off, none⟩ → zs ≠ [] → b' < w.heap.size := fun b' off e hne => by
    obtain ⟨_, _, ⟨_, _, _, _, _, _, _, hbs⟩, _⟩ := h
    obtain ⟨b2, off2, e2, hl2, _⟩ := hbs hne
    rw [e] at e2
    simp only [Option.some.injEq, Addr.mk.injEq, and_true] at e2
    omega
  replace hadl := hide hadl
  replace ha1 := hide ha1
  replace hTe := hide hTe
  have hpick := hide (fun (m' : Nat) (n : Int) (W : World) (hc : CurIn W c ad cap zs m') (h1 : m' ≤ 1099511627000) (h2 : n ≤ 1000000) => curPickAny c ad cap zs m' n W hc h1 hl h2)
  have hsl : IntKind.i64.wrap T = T := by simp [IntKind.wrap, IntKind.bits, IntKind.signed]; omega
  replace h := hide h
  have hTe2 := unhide hTe
  go_enter Try.func100, Try.ntmps100
  go_wp2_with (at_make; refine wpList_make_full _ rfl _ _ 23 rfl w.heap.size 3 i0 (.int .i64 0) 1 Try.underlying23 hi hz0 hz1 .i64 .i64 _ _ N rfl rfl (by omega) (by omega) (by rw [hz2]; omega) (by unfold maxLen; omega) (Nat.le_refl _) ?_; intro w1 hown hgrow)
  have hbel := (Below.refl w.heap.size w).grown hgrow (Nat.le_refl _) (by simp)
  have hc0 := hide ((unhide h).grown hbel)
  have hg0 := hide (show OnlyAt c w w1 from ⟨hbel.os, hbel.tape, hbel.output, hbel.size, fun k hk _ => hbel.block k hk⟩)
  have hos : w1.ownsRow w.heap.size 3 1 (.slice (some ⟨w.heap.size, 0, none⟩) N N) N (ints (List.replicate N 0)) := by
    rw [ints_zeros]; simpa [toList_madeCells_one, Value.cells] using hown
  have ho0 := hide hos
  clear hown hgrow hos hbel h
  go_wp2_with fail
  refine (unhide hpick (m) 30 w1 (unhide hc0) (by omega) (by omega)).mono ?_
  rintro e w2 ⟨dx, rfl, dx0, dx1, hcx, hox⟩
  have hw0 := owns_onlyI (unhide ho0) (by omega) hox
  have hc1 := hide hcx
  have hg1 := hide ((unhide hg0).trans hox)
  have ho1 := hide hw0
  clear hcx hox hw0 hc0 hg0 ho0
  go_wp2_with fail
  refine (unhide hpick (m + 3) 30 w2 (unhide hc1) (by omega) (by omega)).mono ?_
  rintro e w3 ⟨dy, rfl, dy0, dy1, hcx, hox⟩
  have hw1 := owns_onlyI (unhide ho1) (by omega) hox
  have hc2 := hide hcx
  have hg2 := hide ((unhide hg1).trans hox)
  have ho2 := hide hw1
  clear hcx hox hw1 hc1 hg1 ho1
  go_wp2_with fail
  refine (unhide hpick (m + 3 + 3) T w3 (unhide hc2) (by omega) (by omega)).mono ?_
  rintro e w4 ⟨bs, rfl, bs0, bs1, hcx, hox⟩
  have hw2 := owns_onlyI (unhide ho2) (by omega) hox
  have hc3 := hide hcx
  have hg3 := hide ((unhide hg2).trans hox)
  have ho3 := hide hw2
  clear hcx hox hw2 hc2 hg2 ho2
  go_wp2_with fail
  refine (unhide hpick (m + 3 + 3 + 3) 4 w4 (unhide hc3) (by omega) (by omega)).mono ?_
  rintro e w5 ⟨ns, rfl, ns0, ns1, hcx, hox⟩
  have hw3 := owns_onlyI (unhide ho3) (by omega) hox
  have hc4 := hide hcx
  have hg4 := hide ((unhide hg3).trans hox)
  have ho4 := hide hw3
  clear hcx hox hw3 hc3 hg3 ho3
  replace dx1 := dx1 (by omega)
  replace dy1 := dy1 (by omega)
  replace bs1 := bs1 (by omega)
  replace ns1 := ns1 (by omega)
  go_wp2_with fail
  go_loopw [45] (fun i wr => ∃ k : Nat, ∃ xs : List Int, k ≤ N ∧ i = .int .i64 k ∧ xs.length = N ∧ Hid (InT T xs) ∧ Hid (wr.ownsRow w.heap.size 3 1 (.slice (some ⟨w.heap.size, 0, none⟩) N N) N (ints xs)) ∧ Hid (CurIn wr c ad cap zs (m + 12 + 3 * k)) ∧ Hid (OnlyAt c w wr)) (fun i _ => N - (intOf i).toNat)
  case atStart => exact ⟨0, List.replicate N 0, Nat.zero_le _, rfl, by simp, inT_zeros (by omega) N, ho4, hc4, hg4⟩
  case round =>
    clear ho4 hc4 hg4
    obtain ⟨k, xs, hk, rfl, hxl, hxT, hox, hcx, hgx⟩ := hrel
    by_cases hlt : k < N
    · have ha1' := unhide ha1 (by omega)
      have ha0 : ((a : Int) == 0) = false := beq_eq_false_iff_ne.2 (by omega)
      have hp0 : ((p : Int) == 0) = false := beq_eq_false_iff_ne.2 (by omega)
      have ha2 : ¬ ((a : Int) = 0) := by omega
      have hp2 : ¬ ((p : Int) = 0) := by omega
      have ha3 : (1 : Int) ≤ (a : Int) := by omega
      have hp3 : (1 : Int) ≤ (p : Int) := by omega
      rcases (show ns = 0 ∨ ns = 1 ∨ ns = 2 ∨ ns = 3 by omega) with e | e | e | e
      · subst e
        have hox' := unhide hox
        have hcell : ∃ u, wr.cell? ⟨w.heap.size, k, none⟩ = some u := by
          rw [hox'.cellAt k (by omega)]; exact ⟨_, List.getElem?_eq_getElem (by have := hox'.1; omega)⟩
        obtain ⟨uu, hdst⟩ := hcell
        have hfz := hox'.frozenAt k
        have hst := hide (fun x : Int => by have := (hox'.stored k (.int .i64 x)).1; rw [ints_set] at this; exact this)
        have hcs := hide (fun x : Int => (unhide hcx).setFar (g := w.heap.size) (o := k) (u := .int .i64 x) (by omega) (fun b' off e hne => by have := unhide hadl b' off e hne; omega))
        have hgs := hide (fun x : Int => show OnlyAt c w (wr.setCell ⟨w.heap.size, k, none⟩ (.int .i64 x)) from (unhide hgx).trans2 k (.int .i64 x))
        clear hox' hox hcx hgx
        go_wp2
        all_goals
          go_roundw
          case rel =>
            exact ⟨k + 1, xs.set k _, by omega, by go_num, by simp [hxl], hide ((unhide hxT).set (by omega) (by omega) k), hide (unhide hst _), hide ((unhide hcs _).more (by omega)), hide (unhide hgs _)⟩
          case measure => simp [intOf]; omega
      · subst e
        go_wp2_with fail
        refine (unhide hpick (m + 12 + 3 * k) 9 wr (unhide hcx) (by omega) (by omega)).mono ?_
        rintro e wq ⟨pk, rfl, pk0, pk1, hcq, hoq⟩
        replace pk1 := pk1 (by omega)
        replace hox := hide (owns_onlyI (unhide hox) (by omega) hoq)
        replace hcx := hide hcq
        replace hgx := hide ((unhide hgx).trans hoq)
        clear hcq hoq
        have hox' := unhide hox
        have hcell : ∃ u, wq.cell? ⟨w.heap.size, k, none⟩ = some u := by
          rw [hox'.cellAt k (by omega)]; exact ⟨_, List.getElem?_eq_getElem (by have := hox'.1; omega)⟩
        obtain ⟨uu, hdst⟩ := hcell
        have hfz := hox'.frozenAt k
        have hst := hide (fun x : Int => by have := (hox'.stored k (.int .i64 x)).1; rw [ints_set] at this; exact this)
        have hcs := hide (fun x : Int => (unhide hcx).setFar (g := w.heap.size) (o := k) (u := .int .i64 x) (by omega) (fun b' off e hne => by have := unhide hadl b' off e hne; omega))
        have hgs := hide (fun x : Int => show OnlyAt c w (wq.setCell ⟨w.heap.size, k, none⟩ (.int .i64 x)) from (unhide hgx).trans2 k (.int .i64 x))
        clear hox' hox hcx hgx
        go_wp2
        all_goals
          go_roundw
          case rel =>
            exact ⟨k + 1, xs.set k _, by omega, by go_num, by simp [hxl], hide ((unhide hxT).set (by omega) (by omega) k), hide (unhide hst _), hide ((unhide hcs _).more (by omega)), hide (unhide hgs _)⟩
          case measure => simp [intOf]; omega
      · subst e
        have hxa : ∃ X : Int, (k : Int) / (p : Int) % (a : Int) = X := ⟨_, rfl⟩
        obtain ⟨X, hX⟩ := hxa
        by_cases hh : (a : Int) / 2 < X
        · have q : decide ((a : Int) / 2 < X) = true := by simpa using hh
          have hox' := unhide hox
          have hcell : ∃ u, wr.cell? ⟨w.heap.size, k, none⟩ = some u := by
            rw [hox'.cellAt k (by omega)]; exact ⟨_, List.getElem?_eq_getElem (by have := hox'.1; omega)⟩
          obtain ⟨uu, hdst⟩ := hcell
          have hfz := hox'.frozenAt k
          have hst := hide (fun x : Int => by have := (hox'.stored k (.int .i64 x)).1; rw [ints_set] at this; exact this)
          have hcs := hide (fun x : Int => (unhide hcx).setFar (g := w.heap.size) (o := k) (u := .int .i64 x) (by omega) (fun b' off e hne => by have := unhide hadl b' off e hne; omega))
          have hgs := hide (fun x : Int => show OnlyAt c w (wr.setCell ⟨w.heap.size, k, none⟩ (.int .i64 x)) from (unhide hgx).trans2 k (.int .i64 x))
          clear hox' hox hcx hgx
          go_wp2
          all_goals
            go_roundw
            case rel =>
              exact ⟨k + 1, xs.set k _, by omega, by go_num, by simp [hxl], hide ((unhide hxT).set (by omega) (by omega) k), hide (unhide hst _), hide ((unhide hcs _).more (by omega)), hide (unhide hgs _)⟩
            case measure => simp [intOf]; omega
        · have q : decide ((a : Int) / 2 < X) = false := by simpa using hh
          have hox' := unhide hox
          have hcell : ∃ u, wr.cell? ⟨w.heap.size, k, none⟩ = some u := by
            rw [hox'.cellAt k (by omega)]; exact ⟨_, List.getElem?_eq_getElem (by have := hox'.1; omega)⟩
          obtain ⟨uu, hdst⟩ := hcell
          have hfz := hox'.frozenAt k
          have hst := hide (fun x : Int => by have := (hox'.stored k (.int .i64 x)).1; rw [ints_set] at this; exact this)
          have hcs := hide (fun x : Int => (unhide hcx).setFar (g := w.heap.size) (o := k) (u := .int .i64 x) (by omega) (fun b' off e hne => by have := unhide hadl b' off e hne; omega))
          have hgs := hide (fun x : Int => show OnlyAt c w (wr.setCell ⟨w.heap.size, k, none⟩ (.int .i64 x)) from (unhide hgx).trans2 k (.int .i64 x))
          clear hox' hox hcx hgx
          go_wp2
          all_goals
            go_roundw
            case rel =>
              exact ⟨k + 1, xs.set k _, by omega, by go_num, by simp [hxl], hide ((unhide hxT).set (by omega) (by omega) k), hide (unhide hst _), hide ((unhide hcs _).more (by omega)), hide (unhide hgs _)⟩
            case measure => simp [intOf]; omega
      · subst e
        go_wp2_with fail
        refine (unhide hpick (m + 12 + 3 * k) T wr (unhide hcx) (by omega) (by omega)).mono ?_
        rintro e wq ⟨pk, rfl, pk0, pk1, hcq, hoq⟩
        replace pk1 := pk1 (by omega)
        replace hox := hide (owns_onlyI (unhide hox) (by omega) hoq)
        replace hcx := hide hcq
        replace hgx := hide ((unhide hgx).trans hoq)
        clear hcq hoq
        have hox' := unhide hox
        have hcell : ∃ u, wq.cell? ⟨w.heap.size, k, none⟩ = some u := by
          rw [hox'.cellAt k (by omega)]; exact ⟨_, List.getElem?_eq_getElem (by have := hox'.1; omega)⟩
        obtain ⟨uu, hdst⟩ := hcell
        have hfz := hox'.frozenAt k
        have hst := hide (fun x : Int => by have := (hox'.stored k (.int .i64 x)).1; rw [ints_set] at this; exact this)
        have hcs := hide (fun x : Int => (unhide hcx).setFar (g := w.heap.size) (o := k) (u := .int .i64 x) (by omega) (fun b' off e hne => by have := unhide hadl b' off e hne; omega))
        have hgs := hide (fun x : Int => show OnlyAt c w (wq.setCell ⟨w.heap.size, k, none⟩ (.int .i64 x)) from (unhide hgx).trans2 k (.int .i64 x))
        clear hox' hox hcx hgx
        go_wp2
        all_goals
          go_roundw
          case rel =>
            exact ⟨k + 1, xs.set k _, by omega, by go_num, by simp [hxl], hide ((unhide hxT).set (by omega) (by omega) k), hide (unhide hst _), hide ((unhide hcs _).more (by omega)), hide (unhide hgs _)⟩
          case measure => simp [intOf]; omega
    · have hkN : k = N := by omega
      subst hkN
      have ho : OwnI wr w.heap.size wr.heap.size (.slice (some ⟨w.heap.size, 0, none⟩) k k) xs := by
        unfold OwnI; rw [hxl]; exact Own.of (unhide hox)
      replace ho := hide ho
      clear hox
      go_wp2
      go_ret
      exact ⟨_, xs, rfl, hxl, unhide hxT, unhide ho, unhide hcx, unhide hgx⟩
end Go.Proofs.Ytnalmingbglgfaa

/- The drawing of blocks, good or not. -/
namespace Go.Proofs.Ytnalmingbglgfaa
open Go.RowKit

theorem own_atC {e : TypeId} {s : Nat} {w : World} {a b : Nat} {v : Value} {n : Nat} {xs : List Value} (h : Own e s w a b v n xs) (hn : 0 < n) : ∃ g cp, v = .slice (some ⟨g, 0, none⟩) n cp ∧ (a ≤ g ∧ g < b) ∧ n ≤ cp ∧ cp ≤ maxLen := by
  rcases h.1.2 with ⟨_, h0⟩ | ⟨g, cp, cur, e, h1, h2, h3, h4, _⟩
  · omega
  · exact ⟨g, cp, e, ⟨h1, h.2 g (by rw [e]; rfl)⟩, h3, h4⟩
theorem Own.onlyD {e : TypeId} {s : Nat} {w w' : World} {a b c : Nat} {v : Value} {n : Nat} {xs : List Value} (h : Own e s w a b v n xs) (hc : c < a) (o : OnlyAt c w w') : Own e s w' a b v n xs := by
  refine ⟨⟨h.1.1, ?_⟩, h.2⟩
  rcases h.1.2 with hn | ⟨g, cap, cur, rfl, h1, h2, h3⟩
  · exact .inl hn
  · exact .inr ⟨g, cap, cur, rfl, h1, by rw [o.block g (h.1.lt g rfl).2 (by omega)]; exact h2, h3⟩
theorem InR.wide {lo hi lo' hi' : Int} {xs : List Int} (h : InR lo hi xs) (hl : lo' ≤ lo) (hh : hi ≤ hi') : InR lo' hi' xs := fun j hj => by have := h j hj; omega
theorem InR.drop {lo hi : Int} {xs : List Int} (h : InR lo hi xs) (k : Nat) : InR lo hi (xs.drop k) := by
  intro j hj
  rw [List.length_drop] at hj
  have e : (xs.drop k).getD j 0 = xs.getD (k + j) 0 := by
    rw [List.getD_eq_getElem?_getD, List.getElem?_drop, ← List.getD_eq_getElem?_getD]
  rw [e]; exact h _ (by omega)
theorem rd_drop1 {w : World} {g cp : Nat} {xs : List Int} {a b : Nat} (h : OwnI w a b (.slice (some ⟨g, 0, none⟩) xs.length cp) xs) (hn : xs.length = 64) : RdI w (.slice (some ⟨g, 1, none⟩) 63 (cp - 1)) (xs.drop 1) := by
  have hl : (xs.drop 1).length = 63 := by rw [List.length_drop]; omega
  refine ⟨some ⟨g, 1, none⟩, cp - 1, by rw [hl], fun _ => ⟨g, 1, rfl, (h.1.lt g rfl).2, fun j hj => ?_⟩⟩
  rw [hl] at hj
  rw [h.1.cellAt (1 + j) (by omega)]
  have e : (xs.drop 1).getD j 0 = xs.getD (1 + j) 0 := by
    rw [List.getD_eq_getElem?_getD, List.getElem?_drop, ← List.getD_eq_getElem?_getD]
  rw [e]
  exact getD_map_int xs .i64 (1 + j) (by omega)
theorem rd_of_own {w : World} {a b : Nat} {v : Value} {xs : List Int} (h : OwnI w a b v xs) : RdI w v xs := by
  obtain ⟨ad, cap, e, hA⟩ := readK_of_own h
  exact ⟨ad, cap, e, hA⟩

set_option maxHeartbeats 16000000 in
set_option maxRecDepth 100000 in
theorem specL8Drawn (ad : Option Addr) (cap : Nat) (zs : List Int) (w : World) (h : ArgB w ad zs) (hl : zs.length ≤ 1048576) :
    Calls Try.prog 69 #[.slice ad zs.length cap] w fun e w' => ∃ v xs, e = .returned v ∧ (xs.length = 64 ∨ xs.length = 63) ∧ InR (-32769) 32768 xs ∧ RdI w' v xs ∧ Below w.heap.size w w' := by
  have hB0 := (Below.refl w.heap.size w).alloc (Nat.le_refl _) (.cells #[.slice ad zs.length cap, .int .i64 0, .int .u64 0] 60)
  have hc0 := hide (curIn_new _ ad cap zs h)
  have hs0 : (w.alloc (.cells #[.slice ad zs.length cap, .int .i64 0, .int .u64 0] 60)).heap.size = w.heap.size + 1 := by simp
  replace hB0 := hide hB0
  clear h
  go_enter Try.func69, Try.ntmps69
  go_wp2_with fail
  generalize w.alloc (.cells #[.slice ad zs.length cap, .int .i64 0, .int .u64 0] 60) = w0 at hc0 hB0 hs0 ⊢
  refine (curBlock w.heap.size ad cap zs 0 w0 (unhide hc0) (by omega) hl).mono ?_
  rintro e w1 ⟨v, xs, rfl, hxl, hR, hO, hc1, ho⟩
  replace hB0 := hide ((unhide hB0).trans (ho.below (Nat.le_refl _) (by omega)))
  have hs1 : w.heap.size + 1 ≤ w1.heap.size := by have := ho.size; omega
  rw [hs0] at hO
  obtain ⟨g, cp, rfl, ⟨g1, g2⟩, cp1, cp2⟩ := own_atC hO (by omega)
  unfold maxLen at cp2
  replace hO := hide hO
  replace hR := hide hR
  replace hc1 := hide hc1
  clear ho hc0 hs0
  go_wp2_with fail
  refine (curPickAny w.heap.size ad cap zs _ 14 w1 (unhide hc1) (by omega) hl (by omega)).mono ?_
  rintro e w2 ⟨pk, rfl, pk0, pk1, hc2, ho⟩
  replace hB0 := hide ((unhide hB0).trans (ho.below (Nat.le_refl _) (by omega)))
  have hs2 : w1.heap.size ≤ w2.heap.size := ho.size
  replace hO := hide ((unhide hO).onlyD (by omega) ho)
  replace hc2 := hide hc2
  clear ho hc1
  rw [hxl] at cp1
  by_cases p0 : pk = 0
  · subst p0
    have hD := hide (rd_drop1 (unhide hO) hxl)
    clear hO
    go_wp2
    go_ret
    exact ⟨_, xs.drop 1, rfl, .inr (by rw [List.length_drop]; omega), ((unhide hR).drop 1).wide (by omega) (by omega), unhide hD, unhide hB0⟩
  · have q0 : (pk == 0) = false := beq_eq_false_iff_ne.2 p0
    by_cases p1 : pk = 1
    · subst p1
      go_wp2_with fail
      refine (curPickAny w.heap.size ad cap zs _ 64 w2 (unhide hc2) (by omega) hl (by omega)).mono ?_
      rintro e w3 ⟨P, rfl, P0, P1, hc3, ho⟩
      replace P1 := P1 (by omega)
      obtain ⟨K, rfl⟩ := Int.eq_ofNat_of_zero_le P0
      replace hB0 := hide ((unhide hB0).trans (ho.below (Nat.le_refl _) (by omega)))
      have hs3 : w2.heap.size ≤ w3.heap.size := ho.size
      replace hO := hide ((unhide hO).onlyD (by omega) ho)
      replace hc3 := hide hc3
      clear ho hc2
      have hu := Upd.of_below ((Below.refl w3.heap.size w3).alloc (Nat.le_refl _) (.cells #[.int .i64 32768, .int .i64 (-32769)] 3)) 0 0
      have hcl := hide (heldF_new w3 [.int .i64 32768, .int .i64 (-32769)] 3)
      have hc4 := hide ((unhide hc3).grown ((Below.refl w3.heap.size w3).alloc (Nat.le_refl _) (.cells #[.int .i64 32768, .int .i64 (-32769)] 3)))
      replace hB0 := hide (below_upd (unhide hB0) hu (Nat.le_refl _) (.inr (Nat.le_refl _)))
      replace hO := hide ((unhide hO).keep hu)
      clear hc3 hu
      go_wp2_with fail
      refine (curPickAny w.heap.size ad cap zs _ 2 _ (unhide hc4) (by omega) hl (by omega)).mono ?_
      rintro e w4 ⟨y, rfl, y0, y1, hc5, ho⟩
      replace y1 := y1 (by omega)
      replace hB0 := hide ((unhide hB0).trans (ho.below (Nat.le_refl _) (by simp; omega)))
      replace hcl := hide ((unhide hcl).only ho (by omega))
      replace hO := hide ((unhide hO).onlyD (by omega) ho)
      have hK : K < 64 := by omega
      have hdst : ∃ u, w4.cell? ⟨g, K, none⟩ = some u := by
        rw [(unhide hO).1.cellAt K (by omega)]; exact ⟨_, List.getElem?_eq_getElem (by have := (unhide hO).1.1; omega)⟩
      obtain ⟨uu, hdst⟩ := hdst
      have hfz := (unhide hO).1.frozenAt K
      have hfin : ∀ x : Int, (-32769 ≤ x ∧ x ≤ 32768) → Hid (InR (-32769) 32768 (xs.set K x) ∧ RdI (w4.setCell ⟨g, K, none⟩ (.int .i64 x)) (.slice (some ⟨g, 0, none⟩) 64 cp) (xs.set K x) ∧ Below w.heap.size w (w4.setCell ⟨g, K, none⟩ (.int .i64 x))) := fun x hx => by
        have h1 := ((unhide hO).1.stored K (.int .i64 x)).1
        have hlen : (xs.set K x).length = xs.length := List.length_set
        have e2 : (ints xs).set K (.int .i64 x) = ints (xs.set K x) := by unfold ints; rw [List.map_set]
        rw [e2] at h1
        have h2 : OwnI (w4.setCell ⟨g, K, none⟩ (.int .i64 x)) (w.heap.size + 1) (w4.setCell ⟨g, K, none⟩ (.int .i64 x)).heap.size (.slice (some ⟨g, 0, none⟩) 64 cp) (xs.set K x) := by
          unfold OwnI
          rw [hlen]
          rw [hxl] at h1 ⊢
          exact Own.of h1
        exact hide ⟨((unhide hR).wide (by omega) (by omega)).set hx K, rd_of_own h2, (unhide hB0).setCell (p := ⟨g, K, none⟩) (show w.heap.size ≤ g by omega) _⟩
      clear hO hc4 ho hB0
      rcases (show y = 0 ∨ y = 1 by omega) with e | e
      · subst e
        have k0 := (unhide hcl).1.2 0 _ rfl
        have hf := hfin 32768 (by omega)
        clear hfin
        go_wp2
        go_ret
        exact ⟨_, xs.set K 32768, rfl, .inl (by rw [List.length_set]; exact hxl), (unhide hf).1, (unhide hf).2.1, (unhide hf).2.2⟩
      · subst e
        have k0 := (unhide hcl).1.2 1 _ rfl
        have hf := hfin (-32769) (by omega)
        clear hfin
        go_wp2
        go_ret
        exact ⟨_, xs.set K (-32769), rfl, .inl (by rw [List.length_set]; exact hxl), (unhide hf).1, (unhide hf).2.1, (unhide hf).2.2⟩
    · have q1 : (pk == 1) = false := beq_eq_false_iff_ne.2 p1
      have hD := hide (rd_of_own (unhide hO))
      rw [hxl] at hD
      clear hO
      go_wp2
      go_ret
      exact ⟨_, xs, rfl, .inl hxl, (unhide hR).wide (by omega) (by omega), unhide hD, unhide hB0⟩
end Go.Proofs.Ytnalmingbglgfaa

/- The drawing of planes. -/
namespace Go.Proofs.Ytnalmingbglgfaa
open Go.RowKit

theorem OnlyAt.alloc {c : Nat} {w w' : World} (h : OnlyAt c w w') (o : Obj) : OnlyAt c w (w'.alloc o) :=
  h.trans (OnlyAt.of_below ((Below.refl _ w').alloc (Nat.le_refl _) o))
set_option maxHeartbeats 8000000 in
set_option maxRecDepth 100000 in
theorem curPlane (c : Nat) (ad : Option Addr) (cap : Nat) (zs : List Int) (m : Nat) (n : Int) (w : World) (h : CurIn w c ad cap zs m) (hm : m ≤ 1099500000000) (hl : zs.length ≤ 1048576) (hn : 1 ≤ n) (hn2 : n ≤ 31) :
    Calls Try.prog 82 #[.pointer (some ⟨c, 0, none⟩), .int .i64 n] w fun e w' => ∃ (A B : Nat) (v : Value) (xs : List Int), e = .returned (.agg #[.int .i64 (A : Int), .int .i64 (B : Int), v]) ∧ (1 ≤ A ∧ A ≤ 31) ∧ (1 ≤ B ∧ B ≤ 31) ∧ xs.length = A * B ∧ InT 256 xs ∧ OwnI w' w.heap.size w'.heap.size v xs ∧ CurIn w' c ad cap zs (m + 3000) ∧ OnlyAt c w w' := by
  have hcw : c < w.heap.size := by obtain ⟨p, s, hc, _⟩ := h; exact hc.1
  have hc0 := hide (h.grown ((Below.refl w.heap.size w).alloc (Nat.le_refl _) (.cells #[.int .i64 0, .int .i64 0, .slice none 0 0] 25)))
  have ho0 : OnlyAt c w (w.alloc (.cells #[.int .i64 0, .int .i64 0, .slice none 0 0] 25)) := (OnlyAt.refl c w).alloc _
  have hrs := hide (heldF_new w [.int .i64 0, .int .i64 0, .slice none 0 0] 25)
  have hs0 : w.heap.size + 1 ≤ (w.alloc (.cells #[.int .i64 0, .int .i64 0, .slice none 0 0] 25)).heap.size := by simp
  have hbz : Hid (∀ b off, ad = some ⟨b, off, none⟩ → zs ≠ [] → b < w.heap.size) := hide (fun b off e hz => by
    obtain ⟨p, s, ⟨_, _, _, _, _, _, _, hbs⟩, _⟩ := h
    obtain ⟨b', off', e', hl', _⟩ := hbs hz
    rw [e] at e'; cases e'; exact hl')
  clear h
  go_enter Try.func82, Try.ntmps82
  go_wp2_with fail
  generalize w.alloc (.cells #[.int .i64 0, .int .i64 0, .slice none 0 0] 25) = w0 at hc0 hrs ho0 hs0 ⊢
  replace ho0 := hide ho0
  refine (curPickAny c ad cap zs m n _ (unhide hc0) (by omega) hl (by omega)).mono ?_
  rintro e w1 ⟨x, rfl, x0, x1, hc1, ho⟩
  replace hrs := hide ((unhide hrs).only ho (by omega))
  replace ho0 := hide ((unhide ho0).trans ho)
  have hs1 := ho.size
  replace x1 := x1 hn
  replace hc1 := hide hc1
  clear ho hc0
  go_wp2_with fail
  refine (curPickAny c ad cap zs (m + 3) n _ (unhide hc1) (by omega) hl (by omega)).mono ?_
  rintro e w2 ⟨y, rfl, y0, y1, hc2, ho⟩
  replace hrs := hide ((unhide hrs).only ho (by omega))
  replace ho0 := hide ((unhide ho0).trans ho)
  have hs2 := ho.size
  replace y1 := y1 hn
  replace hc2 := hide hc2
  clear ho hc1
  obtain ⟨A, hA⟩ : ∃ A : Nat, 1 + x = (A : Int) := ⟨(1 + x).toNat, by omega⟩
  obtain ⟨B, hB⟩ : ∃ B : Nat, 1 + y = (B : Int) := ⟨(1 + y).toNat, by omega⟩
  have hA1 : 1 ≤ A ∧ A ≤ 31 := by omega
  have hB1 : 1 ≤ B ∧ B ≤ 31 := by omega
  have hb2 := (Below.refl w2.heap.size w2).alloc (Nat.le_refl _) (.cells #[.int .i64 (A : Int), .int .i64 (B : Int), .slice none 0 0] 25)
  have hp := hide (heldF_new w2 [.int .i64 (A : Int), .int .i64 (B : Int), .slice none 0 0] 25)
  replace hrs := hide ((unhide hrs).keep (Upd.of_below hb2 0 0))
  replace hc2 := hide ((unhide hc2).grown hb2)
  replace ho0 := hide ((unhide ho0).alloc (.cells #[.int .i64 (A : Int), .int .i64 (B : Int), .slice none 0 0] 25))
  have hs3 : w2.heap.size + 1 ≤ (w2.alloc (.cells #[.int .i64 (A : Int), .int .i64 (B : Int), .slice none 0 0] 25)).heap.size := by simp
  clear hb2
  have c0 := (unhide hp).1.2 0 _ rfl
  have c1 := (unhide hp).1.2 1 _ rfl
  go_wp2_with fail
  clear c0 c1
  generalize hN2 : w2.heap.size = N2 at hp hs3 ⊢
  generalize w2.alloc (.cells #[.int .i64 (A : Int), .int .i64 (B : Int), .slice none 0 0] 25) = w3 at hp hrs hc2 ho0 hs3 ⊢
  have hNA : A * B * 1 ≤ 961 := by
    have h1 : A * B ≤ 31 * 31 := Nat.mul_le_mul hA1.2 hB1.2
    omega
  refine (curSamples c ad cap zs (m + 3 + 3) A B 1 (A * B * 1) 8 w3 (unhide hc2) (by omega) hl (by omega) (by omega) (by omega) rfl (by omega) (by omega)).mono ?_
  rintro e w4 ⟨v, xs, rfl, hxl, hxT, hO, hc4, ho⟩
  have hNle : N2 < w3.heap.size := by omega
  have hwN : w.heap.size < N2 := by omega
  replace hrs := hide ((unhide hrs).only ho (by omega))
  replace hp := hide ((unhide hp).only ho (by omega))
  replace ho0 := hide ((unhide ho0).trans ho)
  obtain ⟨a4, c4, rfl, _⟩ := readK_of_own hO
  have hcf := hide (fun (W : World) (h : CurIn W c ad cap zs (m + 3 + 3 + 12 + 3 * (A * B * 1))) => h)
  have hw3 : w.heap.size ≤ w3.heap.size := by omega
  have hO' := hide (own_mono hO hw3 (Nat.le_refl _))
  have hO3 := hide hO
  replace hc4 := hide hc4
  clear ho hc2 hO hcf
  have d0 := (unhide hp).1.2 0 _ rfl
  have d1 := (unhide hp).1.2 1 _ rfl
  have d2 := (unhide hp).1.2 2 _ rfl
  have f2 := (unhide hp).2 2
  have k0 := (unhide hrs).1.2 0 _ rfl
  have k1 := (unhide hrs).1.2 1 _ rfl
  have k2 := (unhide hrs).1.2 2 _ rfl
  have g0 := (unhide hrs).2 0
  have g1 := (unhide hrs).2 1
  have g2 := (unhide hrs).2 2
  have hNw : N2 ≠ w.heap.size := by omega
  go_wp2
  rw [Nat.mul_one] at hxl
  have hsl : (.slice a4 xs.length c4 : Value) = .slice a4 (A * B) c4 := by rw [hxl]
  refine bodyPost_ret (v := .agg #[.int .i64 (A : Int), .int .i64 (B : Int), .slice a4 (A * B) c4]) (by simp [results, Try.results82, go_sem, k0, k1, k2]) rfl ⟨A, B, _, xs, rfl, hA1, hB1, hxl, hxT, ?_, ?_, ?_⟩
  · have h4 := (((((unhide hO3).set' (c := N2) (by omega) 2 (.slice a4 (A * B) c4)).set' (c := w.heap.size) (by omega) 0 (.int .i64 (A : Int))).set' (c := w.heap.size) (by omega) 1 (.int .i64 (B : Int))).set' (c := w.heap.size) (by omega) 2 (.slice a4 (A * B) c4))
    rw [← hsl]
    exact own_mono (by rw [hsl]; rw [hsl] at h4; exact h4) hw3 (by simp)
  · have hfar : ∀ g, w.heap.size ≤ g → ∀ b' off, ad = some ⟨b', off, none⟩ → zs ≠ [] → g ≠ b' := fun g hg b' off e hz => by have := unhide hbz b' off e hz; omega
    exact ((((((unhide hc4).setFar (g := N2) (by omega) (hfar N2 (by omega))).setFar (g := w.heap.size) (by omega) (hfar _ (Nat.le_refl _))).setFar (g := w.heap.size) (by omega) (hfar _ (Nat.le_refl _))).setFar (g := w.heap.size) (by omega) (hfar _ (Nat.le_refl _)))).more (by omega)
  · exact ((((unhide ho0).past (g := N2) (by omega)).past (g := w.heap.size) (Nat.le_refl _)).past (g := w.heap.size) (Nat.le_refl _)).past (g := w.heap.size) (Nat.le_refl _)
end Go.Proofs.Ytnalmingbglgfaa

/- The drawing of planes, good or not. -/
namespace Go.Proofs.Ytnalmingbglgfaa
open Go.RowKit

theorem specL1Size30 (ad : Option Addr) (cap : Nat) (zs : List Int) (w : World) (hl : zs.length ≤ 1048576) :
    Calls Try.prog 84 #[.slice ad zs.length cap, .int .i64 10, .int .i64 30] w fun e w' => ∃ n : Int, e = .returned (.int .i64 n) ∧ (0 ≤ n ∧ n ≤ 30) ∧ w' = w := by
  have e1 : (zs.length : Int).tdiv 10 = (zs.length : Int) / 10 := Int.tdiv_eq_ediv_of_nonneg (by omega)
  by_cases h : 30 < (zs.length : Int) / 10
  · go_enter Try.func84, Try.ntmps84
    go_wp2
    go_ret
    exact ⟨30, rfl, by omega, rfl⟩
  · go_enter Try.func84, Try.ntmps84
    go_wp2
    go_ret
    exact ⟨_, rfl, by omega, rfl⟩
/-- A plane that is being drawn lies in block N. -/
structure DpSt (w wr : World) (c N : Nat) (ad : Option Addr) (cap : Nat) (zs : List Int) (m : Nat) (A B : Int) (v : Value) (xs : List Int) : Prop where
  box : HeldF wr N [.int .i64 A, .int .i64 B, v]
  res : HeldF wr w.heap.size [.int .i64 0, .int .i64 0, .slice none 0 0]
  own : ∃ lo hi, OwnI wr lo hi v xs ∧ w.heap.size < lo ∧ (hi ≤ N ∨ N < lo) ∧ hi ≤ wr.heap.size
  cur : CurIn wr c ad cap zs m
  only : OnlyAt c w wr
  cw : c < w.heap.size
  nw : w.heap.size < N
  far : ∀ b' off, ad = some ⟨b', off, none⟩ → zs ≠ [] → b' < w.heap.size
theorem DpSt.pick {w wr wx : World} {c N : Nat} {ad : Option Addr} {cap : Nat} {zs : List Int} {m m' : Nat} {A B : Int} {v : Value} {xs : List Int} (h : DpSt w wr c N ad cap zs m A B v xs) (hc : CurIn wx c ad cap zs m') (ho : OnlyAt c wr wx) : DpSt w wx c N ad cap zs m' A B v xs := by
  have h1 := h.cw
  have h2 := h.nw
  obtain ⟨lo, hi, h3, h4, h5, h6⟩ := h.own
  exact ⟨h.box.only ho (by omega), h.res.only ho (by omega), ⟨lo, hi, h3.onlyD (by omega) ho, h4, h5, by have := ho.size; omega⟩, hc, h.only.trans ho, h.cw, h.nw, h.far⟩
theorem DpSt.grown {w wr wx : World} {c N : Nat} {ad : Option Addr} {cap : Nat} {zs : List Int} {m : Nat} {A B : Int} {v : Value} {xs : List Int} (h : DpSt w wr c N ad cap zs m A B v xs) (hb : Below wr.heap.size wr wx) : DpSt w wx c N ad cap zs m A B v xs :=
  h.pick (h.cur.grown hb) (OnlyAt.of_below hb)
/-- The box is written. -/
theorem DpSt.wid {w wr : World} {c N : Nat} {ad : Option Addr} {cap : Nat} {zs : List Int} {m : Nat} {A B : Int} {v : Value} {xs : List Int} (h : DpSt w wr c N ad cap zs m A B v xs) (A' : Int) : DpSt w (wr.setCell ⟨N, 0, none⟩ (.int .i64 A')) c N ad cap zs m A' B v xs := by
  have h1 := h.cw
  have h2 := h.nw
  obtain ⟨lo, hi, h3, h4, h5, h6⟩ := h.own
  have hs := h.box.set 0 (.int .i64 A') (by simp)
  simp only [List.set_cons_zero] at hs
  refine ⟨hs, h.res.other (by omega) _ _, ⟨lo, hi, ?_, h4, h5, by simpa using h6⟩, h.cur.setFar (by omega) (fun b' off e hz => by have := h.far b' off e hz; omega), h.only.past (by omega), h.cw, h.nw, h.far⟩
  refine ⟨⟨h3.1.1, ?_⟩, h3.2⟩
  rcases h3.1.2 with hn | ⟨g, cp, cur, e, k1, k2, k3⟩
  · exact .inl hn
  · have hg : g < hi := h3.2 g (by rw [e]; rfl)
    exact .inr ⟨g, cp, cur, e, k1, by rw [Below.heap_setCell _ _ _ _ (by simp; omega)]; exact k2, k3⟩
theorem DpSt.full {w wr : World} {c N : Nat} {ad : Option Addr} {cap : Nat} {zs : List Int} {m : Nat} {A B : Int} {v : Value} {xs : List Int} (h : DpSt w wr c N ad cap zs m A B v xs) (A' B' : Int) (v' : Value) (ys : List Int) {lo hi : Nat} (ho : OwnI wr lo hi v' ys) (h4 : w.heap.size < lo) (h5 : hi ≤ N ∨ N < lo) (h6 : hi ≤ wr.heap.size) :
    DpSt w (((wr.setCell ⟨N, 0, none⟩ (.int .i64 A')).setCell ⟨N, 1, none⟩ (.int .i64 B')).setCell ⟨N, 2, none⟩ v') c N ad cap zs m A' B' v' ys := by
  have h1 := h.cw
  have h2 := h.nw
  have hs := ((h.box.set 0 (.int .i64 A') (by simp)).set 1 (.int .i64 B') (by simp)).set 2 v' (by simp)
  simp only [List.set_cons_zero, List.set_cons_succ] at hs
  have hfar : ∀ b' off, ad = some ⟨b', off, none⟩ → zs ≠ [] → N ≠ b' := fun b' off e hz => by have := h.far b' off e hz; omega
  refine ⟨hs, ((h.res.other (by omega) _ _).other (by omega) _ _).other (by omega) _ _, ⟨lo, hi, ?_, h4, h5, by simpa using h6⟩, ((h.cur.setFar (by omega) hfar).setFar (by omega) hfar).setFar (by omega) hfar, ((h.only.past (by omega)).past (by omega)).past (by omega), h.cw, h.nw, h.far⟩
  refine ⟨⟨ho.1.1, ?_⟩, ho.2⟩
  rcases ho.1.2 with hn | ⟨g, cp, cur, e, k1, k2, k3⟩
  · exact .inl hn
  · have hg : g < hi := ho.2 g (by rw [e]; rfl)
    exact .inr ⟨g, cp, cur, e, k1, by rw [Below.heap_setCell _ _ _ _ (by simp; omega), Below.heap_setCell _ _ _ _ (by simp; omega), Below.heap_setCell _ _ _ _ (by simp; omega)]; exact k2, k3⟩
theorem DpSt.more {w wr : World} {c N : Nat} {ad : Option Addr} {cap : Nat} {zs : List Int} {m m' : Nat} {A B : Int} {v : Value} {xs : List Int} (h : DpSt w wr c N ad cap zs m A B v xs) (hm : m ≤ m') : DpSt w wr c N ad cap zs m' A B v xs :=
  ⟨h.box, h.res, h.own, h.cur.more hm, h.only, h.cw, h.nw, h.far⟩
/-- A list of the call's own, in a block above n. -/
def OwnUp (w : World) (n : Nat) (v : Value) (xs : List Int) : Prop := ∃ lo hi, OwnI w lo hi v xs ∧ n < lo
theorem OwnUp.rd {w : World} {n : Nat} {v : Value} {xs : List Int} (h : OwnUp w n v xs) : RdI w v xs := by obtain ⟨lo, hi, h, _⟩ := h; exact rd_of_own h
theorem OwnUp.only {w w' : World} {n c : Nat} {v : Value} {xs : List Int} (h : OwnUp w n v xs) (ho : OnlyAt c w w') (hc : c ≤ n) : OwnUp w' n v xs := by
  obtain ⟨lo, hi, h, hn⟩ := h
  exact ⟨lo, hi, h.onlyD (by omega) ho, hn⟩
theorem OwnUp.keep {w w' : World} {n : Nat} {v : Value} {xs : List Int} (h : OwnUp w n v xs) (u : Upd 0 0 w w') : OwnUp w' n v xs := by
  obtain ⟨lo, hi, h, hn⟩ := h
  exact ⟨lo, hi, h.keep u, hn⟩
theorem OwnUp.set {w : World} {n c : Nat} {v : Value} {xs : List Int} (h : OwnUp w n v xs) (hc : c ≤ n) (o : Nat) (u : Value) : OwnUp (w.setCell ⟨c, o, none⟩ u) n v xs := by
  obtain ⟨lo, hi, h, hn⟩ := h
  exact ⟨lo, hi, h.set' (by omega) o u, hn⟩
theorem DpSt.fin {w wr : World} {c N : Nat} {ad : Option Addr} {cap : Nat} {zs : List Int} {m : Nat} {A B : Int} {v : Value} {xs : List Int} (h : DpSt w wr c N ad cap zs m A B v xs) (u0 u1 u2 : Value) :
    OwnUp (((wr.setCell ⟨w.heap.size, 0, none⟩ u0).setCell ⟨w.heap.size, 1, none⟩ u1).setCell ⟨w.heap.size, 2, none⟩ u2) w.heap.size v xs ∧ CurIn (((wr.setCell ⟨w.heap.size, 0, none⟩ u0).setCell ⟨w.heap.size, 1, none⟩ u1).setCell ⟨w.heap.size, 2, none⟩ u2) c ad cap zs m ∧ OnlyAt c w (((wr.setCell ⟨w.heap.size, 0, none⟩ u0).setCell ⟨w.heap.size, 1, none⟩ u1).setCell ⟨w.heap.size, 2, none⟩ u2) := by
  have h1 := h.cw
  obtain ⟨lo, hi, h3, h4, h5, h6⟩ := h.own
  have hfar : ∀ b' off, ad = some ⟨b', off, none⟩ → zs ≠ [] → w.heap.size ≠ b' := fun b' off e hz => by have := h.far b' off e hz; omega
  exact ⟨⟨lo, hi, (((h3.set' h4 0 u0).set' h4 1 u1).set' h4 2 u2), h4⟩, ((h.cur.setFar (by omega) hfar).setFar (by omega) hfar).setFar (by omega) hfar, ((h.only.past (Nat.le_refl _)).past (Nat.le_refl _)).past (Nat.le_refl _)⟩
theorem DpSt.smp {w wr : World} {c N : Nat} {ad : Option Addr} {cap : Nat} {zs : List Int} {m : Nat} {A B : Int} {g cv : Nat} {xs : List Int} (h : DpSt w wr c N ad cap zs m A B (.slice (some ⟨g, 0, none⟩) xs.length cv) xs) (hx : 1 ≤ xs.length) (x : Int) :
    DpSt w (wr.setCell ⟨g, 0, none⟩ (.int .i64 x)) c N ad cap zs m A B (.slice (some ⟨g, 0, none⟩) xs.length cv) (xs.set 0 x) ∧ (∃ u, wr.cell? ⟨g, 0, none⟩ = some u) ∧ wr.frozen? ⟨g, 0, none⟩ = false := by
  have h1 := h.cw
  have h2 := h.nw
  obtain ⟨lo, hi, h3, h4, h5, h6⟩ := h.own
  have hg1 := (h3.1.lt g rfl).1
  have hg2 := h3.2 g rfl
  refine ⟨⟨h.box.other (by omega) _ _, h.res.other (by omega) _ _, ⟨lo, hi, ?_, h4, h5, by simpa using h6⟩, h.cur.setFar (by omega) (fun b' off e hz => by have := h.far b' off e hz; omega), h.only.past (by omega), h.cw, h.nw, h.far⟩, ?_, h3.1.frozenAt 0⟩
  · have k1 := (h3.1.stored 0 (.int .i64 x)).1
    have e : (ints xs).set 0 (.int .i64 x) = ints (xs.set 0 x) := by unfold ints; rw [List.map_set]
    rw [e] at k1
    have hl : (xs.set 0 x).length = xs.length := List.length_set
    unfold OwnI
    rw [hl]
    exact ⟨k1, fun k hk => h3.2 k hk⟩
  · rw [h3.1.cellAt 0 (by omega)]
    exact ⟨_, List.getElem?_eq_getElem (by have := h3.1.1; omega)⟩
theorem plane_end {K : World → Prop} (D : World → Prop) {w : World} (h : D w) (hk : ∀ w, D w → K w) : K w := hk w h
set_option maxHeartbeats 16000000 in
set_option maxRecDepth 100000 in
theorem specL7Plane (c : Nat) (ad : Option Addr) (cap : Nat) (zs : List Int) (w : World) (h : CurIn w c ad cap zs 0) (hl : zs.length ≤ 1048576) :
    Calls Try.prog 46 #[.slice ad zs.length cap, .pointer (some ⟨c, 0, none⟩)] w fun e w' => ∃ (A B : Int) (v : Value) (xs : List Int), e = .returned (.agg #[.int .i64 A, .int .i64 B, v]) ∧ (0 ≤ A ∧ A ≤ 32) ∧ (1 ≤ B ∧ B ≤ 31) ∧ xs.length ≤ 961 ∧ InR (-1) 256 xs ∧ OwnUp w' w.heap.size v xs ∧ CurIn w' c ad cap zs 7000 ∧ OnlyAt c w w' := by
  have hcw : c < w.heap.size := by obtain ⟨p, s, hc, _⟩ := h; exact hc.1
  have hfar : ∀ b off, ad = some ⟨b, off, none⟩ → zs ≠ [] → b < w.heap.size := fun b off e hz => by
    obtain ⟨p, s, ⟨_, _, _, _, _, _, _, hbs⟩, _⟩ := h
    obtain ⟨b', off', e', hl', _⟩ := hbs hz
    rw [e] at e'; cases e'; exact hl'
  have hc0 := hide (h.grown ((Below.refl w.heap.size w).alloc (Nat.le_refl _) (.cells #[.int .i64 0, .int .i64 0, .slice none 0 0] 25)))
  have ho0 := hide ((OnlyAt.refl c w).alloc (.cells #[.int .i64 0, .int .i64 0, .slice none 0 0] 25))
  have hrs := hide (heldF_new w [.int .i64 0, .int .i64 0, .slice none 0 0] 25)
  have hs0 : w.heap.size + 1 ≤ (w.alloc (.cells #[.int .i64 0, .int .i64 0, .slice none 0 0] 25)).heap.size := by simp
  replace hfar := hide hfar
  clear h
  go_enter Try.func46, Try.ntmps46
  go_wp2_with fail
  generalize w.alloc (.cells #[.int .i64 0, .int .i64 0, .slice none 0 0] 25) = w0 at hc0 hrs ho0 hs0 ⊢
  refine (curPlane c ad cap zs 0 9 _ (unhide hc0) (by omega) hl (by omega) (by omega)).mono ?_
  rintro e w1 ⟨A, B, v, xs, rfl, hA, hB, hxl, hxT, hO, hc1, ho⟩
  have hs1 := ho.size
  have hb1 := (Below.refl w1.heap.size w1).alloc (Nat.le_refl _) (.cells #[.int .i64 (A : Int), .int .i64 (B : Int), v] 25)
  have hD : DpSt w (w1.alloc (.cells #[.int .i64 (A : Int), .int .i64 (B : Int), v] 25)) c w1.heap.size ad cap zs (0 + 3000) A B v xs :=
    ⟨heldF_new w1 [.int .i64 (A : Int), .int .i64 (B : Int), v] 25, ((unhide hrs).only ho (by omega)).keep (Upd.of_below hb1 0 0), ⟨w0.heap.size, w1.heap.size, hO.keep (Upd.of_below hb1 0 0), by omega, .inl (Nat.le_refl _), by simp⟩, hc1.grown hb1, ((unhide ho0).trans ho).alloc _, hcw, by omega, unhide hfar⟩
  obtain ⟨av, cv, rfl, _⟩ := readK_of_own hO
  have hxR : InR (-1) 256 xs := fun j hj => by have := hxT j hj; omega
  have hxn : 1 ≤ xs.length ∧ xs.length ≤ 961 := by
    rw [hxl]
    have h1 : A * B ≤ 31 * 31 := Nat.mul_le_mul hA.2 hB.2
    have h2 : 1 * 1 ≤ A * B := Nat.mul_le_mul hA.1 hB.1
    omega
  have hw2 : w.heap.size ≤ (w1.alloc (.cells #[.int .i64 (A : Int), .int .i64 (B : Int), .slice av xs.length cv] 25)).heap.size := by simp; omega
  replace hxl := hide hxl
  replace hD := hide hD
  replace hxR := hide hxR
  clear hO hc0 ho0 hrs hs0 hc1 ho hb1 hxT
  go_wp2_with fail
  obtain ⟨N, hN⟩ : ∃ N, w1.heap.size = N := ⟨_, rfl⟩
  rw [hN] at hD ⊢
  generalize w1.alloc (.cells #[.int .i64 (A : Int), .int .i64 (B : Int), .slice av xs.length cv] 25) = w2 at hD hw2 ⊢
  clear hN hs1
  refine (curOne c ad cap zs (0 + 3000) 3 w2 (unhide hD).cur (by omega) hl (by omega) (by omega)).mono ?_
  rintro e w3 ⟨b, rfl, hc3, ho3⟩
  replace hD := hide ((unhide hD).pick hc3 ho3)
  clear hc3 ho3 hw2
  go_upto_if 9 with fail
  go_cut [5] (fun s wx => ∃ (A B : Nat) (v : Value) (xs : List Int), s = .pointer (some ⟨N, 0, none⟩) ∧ (1 ≤ A ∧ A ≤ 31) ∧ (1 ≤ B ∧ B ≤ 31) ∧ (1 ≤ xs.length ∧ xs.length ≤ 961) ∧ Hid (InR (-1) 256 xs) ∧ Hid (DpSt w wx c N ad cap zs 6500 A B v xs))
  case first =>
    cases b
    · go_wp2
      go_meet
      exact ⟨A, B, .slice av xs.length cv, xs, rfl, hA, hB, hxn, hxR, hide ((unhide hD).more (by omega))⟩
    · go_wp2_with fail
      refine (specL1Size30 ad cap zs w3 hl).mono ?_
      rintro e wz ⟨n, rfl, ⟨n0, n1⟩, hwz⟩
      subst wz
      go_wp2_with fail
      refine (curPlane c ad cap zs (0 + 3000 + 1) (1 + n) w3 (unhide hD).cur (by omega) hl (by omega) (by omega)).mono ?_
      rintro e w4 ⟨A2, B2, v2, ys, rfl, hA2, hB2, hyl, hyT, hO2, hc4, ho4⟩
      have hN3 : N < w3.heap.size := (unhide hD).box.1.1
      have hw3 : w.heap.size < w3.heap.size := by have := (unhide hD).nw; omega
      have hD4 := hide (((unhide hD).pick hc4 ho4).full (A2 : Int) (B2 : Int) v2 ys hO2 hw3 (.inr hN3) (Nat.le_refl _))
      have b0 := ((unhide hD).pick hc4 ho4).box.1.2 0 _ rfl
      have b1 := ((unhide hD).pick hc4 ho4).box.1.2 1 _ rfl
      have b2 := ((unhide hD).pick hc4 ho4).box.1.2 2 _ rfl
      have f0 := ((unhide hD).pick hc4 ho4).box.2 0
      have f1 := ((unhide hD).pick hc4 ho4).box.2 1
      have f2 := ((unhide hD).pick hc4 ho4).box.2 2
      obtain ⟨av2, cv2, rfl, _⟩ := readK_of_own hO2
      have hyR := hide (show InR (-1) 256 ys from fun j hj => by have := hyT j hj; omega)
      have hyn : 1 ≤ ys.length ∧ ys.length ≤ 961 := by
        rw [hyl]
        have h1 : A2 * B2 ≤ 31 * 31 := Nat.mul_le_mul hA2.2 hB2.2
        have h2 : 1 * 1 ≤ A2 * B2 := Nat.mul_le_mul hA2.1 hB2.1
        omega
      replace hyl := hide hyl
      clear hD hc4 ho4 hO2 hyT
      go_wp2
      go_meet
      exact ⟨A2, B2, .slice av2 ys.length cv2, ys, rfl, hA2, hB2, hyn, hyR, hide ((unhide hD4).more (by omega))⟩
  case rest =>
    clear hD hA hB hxl hxR hxn hcw hfar
    obtain ⟨A, B, v, xs, rfl, hA, hB, hxn, hxR, hD⟩ := hcut
    have hrow := (unhide hD).own
    obtain ⟨lo, hi, hO, hlo, hNn, hhi⟩ := hrow
    obtain ⟨g, cv, rfl, ⟨g1, g2⟩, cv1, cv2⟩ := own_atC hO (by omega)
    unfold maxLen at cv2
    replace hO := hide hO
    go_wp2_with fail
    refine (curPickAny c ad cap zs 6500 16 wc (unhide hD).cur (by omega) hl (by omega)).mono ?_
    rintro e w4 ⟨pk, rfl, pk0, pk1, hc4, ho4⟩
    have hD4 := (unhide hD).pick hc4 ho4
    have hO4 := hide ((unhide hO).onlyD (by have := (unhide hD).cw; omega) ho4)
    clear hO hD hc4 ho4
    by_cases p0 : pk = 0
    · subst p0
      have hP : Hid (Calls Try.prog 47 #[.pointer (some ⟨c, 0, none⟩), .int .i64 3] w4.drew fun e w' => ∃ x, e = .returned (.int .i64 x) ∧ (0 ≤ x ∧ x < 3) ∧ DpSt w w' c N ad cap zs 6506 A B (.slice (some ⟨g, 0, none⟩) xs.length cv) xs ∧ w'.cell? ⟨N, 0, none⟩ = some (.int .i64 A) ∧ w'.frozen? ⟨N, 0, none⟩ = false ∧ OnlyAt c w4.drew w') := hide (by
        have hDd : DpSt w w4.drew c N ad cap zs 6503 A B (.slice (some ⟨g, 0, none⟩) xs.length cv) xs := hD4.grown (below_drewN (Below.refl _ w4) 1)
        refine (curPickAny c ad cap zs 6503 3 w4.drew hDd.cur (by omega) hl (by omega)).mono ?_
        rintro e w5 ⟨px, rfl, px0, px1, hc5, ho5⟩
        have h5 := hDd.pick hc5 ho5
        exact ⟨px, rfl, ⟨px0, px1 (by omega)⟩, h5, h5.box.1.2 0 _ rfl, h5.box.2 0, ho5⟩)
      have b0 := hD4.box.1.2 0 _ rfl
      clear hD4
      go_wp2_with fail
      go_region_with (go_at_call 47; refine (unhide hP).mono ?_; rintro e w5 ⟨px, rfl, ⟨px0, px1⟩, hD5, b5, f5, ho5⟩; replace hD5 := hide hD5; replace ho5 := hide ho5)
      all_goals
        have e1 : IntKind.i64.wrap (px - 1) = px - 1 := by simp [IntKind.wrap, IntKind.bits, IntKind.signed]; omega
        have e2 : IntKind.i64.wrap ((A : Int) + (px - 1)) = (A : Int) + (px - 1) := by simp [IntKind.wrap, IntKind.bits, IntKind.signed]; omega
        rw [e1, e2]
        have hD6 := hide ((unhide hD5).wid ((A : Int) + (px - 1)))
        clear e1 e2 hD5 b5 f5 b0 ho5 hP hO4
        generalize w5.setCell ⟨N, 0, none⟩ (.int .i64 ((A : Int) + (px - 1))) = w6 at hD6 ⊢
        obtain ⟨A6, hA6⟩ : ∃ A6, (A : Int) + (px - 1) = A6 := ⟨_, rfl⟩
        have hA7 : 0 ≤ A6 ∧ A6 ≤ 32 := by omega
        rw [hA6] at hD6 ⊢
        clear hA6
        have b0 := (unhide hD6).box.1.2 0 _ rfl
        have b1 := (unhide hD6).box.1.2 1 _ rfl
        have b2 := (unhide hD6).box.1.2 2 _ rfl
        have r0 := (unhide hD6).res.1.2 0 _ rfl
        have r1 := (unhide hD6).res.1.2 1 _ rfl
        have r2 := (unhide hD6).res.1.2 2 _ rfl
        have g0 := (unhide hD6).res.2 0
        have g1 := (unhide hD6).res.2 1
        have g2 := (unhide hD6).res.2 2
        have hfin := hide (fun u0 u1 u2 => (unhide hD6).fin u0 u1 u2)
        clear hD6
        go_wp2
        refine bodyPost_ret (v := .agg #[.int .i64 (A6), .int .i64 (B : Int), .slice (some ⟨g, 0, none⟩) xs.length cv]) (by simp [results, Try.results46, go_sem, r0, r1, r2]) rfl ?_
        obtain ⟨f1, f2, f3⟩ := unhide hfin (.int .i64 (A6)) (.int .i64 (B : Int)) (.slice (some ⟨g, 0, none⟩) xs.length cv)
        exact ⟨A6, B, _, xs, rfl, hA7, by omega, hxn.2, unhide hxR, f1, f2.more (by omega), f3⟩
    · have q0 : (pk == 0) = false := beq_eq_false_iff_ne.2 p0
      by_cases p1 : pk = 1
      · subst p1
        have hP : Hid (∀ X, Below w4.heap.size w4 X → Calls Try.prog 47 #[.pointer (some ⟨c, 0, none⟩), .int .i64 2] X fun e w' => ∃ (P : Nat) (y : Int) (u : Value), e = .returned (.int .i64 (P : Int)) ∧ P < 2 ∧ (y = -1 ∨ y = 256) ∧ DpSt w w' c N ad cap zs 6506 A B (.slice (some ⟨g, 0, none⟩) xs.length cv) xs ∧ (w'.cell? ⟨N, 2, none⟩ = some (.slice (some ⟨g, 0, none⟩) xs.length cv)) ∧ w'.cell? ⟨g, 0, none⟩ = some u ∧ w'.frozen? ⟨g, 0, none⟩ = false ∧ g < w'.heap.size ∧ N < w'.heap.size ∧
            ((X.cell? ⟨w4.heap.size, 0, none⟩ = some (.int .i64 (-1)) ∧ X.cell? ⟨w4.heap.size, 1, none⟩ = some (.int .i64 256)) → w'.cell? ⟨w4.heap.size, P, none⟩ = some (.int .i64 y)) ∧ (w'.alloc (.cells #[.int .i64 (-1), .int .i64 256] 3)).cell? ⟨w'.heap.size, P, none⟩ = some (.int .i64 y)) := hide (fun X hX => by
          have hDd : DpSt w X c N ad cap zs 6503 A B (.slice (some ⟨g, 0, none⟩) xs.length cv) xs := hD4.grown hX
          refine (curPickAny c ad cap zs 6503 2 X hDd.cur (by omega) hl (by omega)).mono ?_
          rintro e w5 ⟨px, rfl, px0, px1, hc5, ho5⟩
          have h5 := hDd.pick hc5 ho5
          obtain ⟨P, rfl⟩ := Int.eq_ofNat_of_zero_le px0
          have hP2 : P < 2 := by have := px1 (by omega); omega
          obtain ⟨_, ⟨u, k1⟩, k2⟩ := h5.smp hxn.1 0
          have hgl : g < w5.heap.size := by
            obtain ⟨lo, hi, h3, _⟩ := h5.own
            exact (h3.1.lt g rfl).2
          have hal := heldF_new w5 [.int .i64 (-1), .int .i64 256] 3
          have hcw4 : w4.heap.size ≠ c := by have h1 := hD4.cw; have h2 := hD4.nw; have h3 := hD4.box.1.1; omega
          rcases (show P = 0 ∨ P = 1 by omega) with e | e
          · subst e
            exact ⟨0, -1, u, rfl, by omega, .inl rfl, h5, h5.box.1.2 2 _ rfl, k1, k2, hgl, h5.box.1.1, fun hh => (ho5.cell (p := ⟨w4.heap.size, 0, none⟩) (World.block_lt_of_cell? _ _ hh.1) hcw4).trans hh.1, hal.1.2 0 _ rfl⟩
          · subst e
            exact ⟨1, 256, u, rfl, by omega, .inr rfl, h5, h5.box.1.2 2 _ rfl, k1, k2, hgl, h5.box.1.1, fun hh => (ho5.cell (p := ⟨w4.heap.size, 1, none⟩) (World.block_lt_of_cell? _ _ hh.2) hcw4).trans hh.2, hal.1.2 1 _ rfl⟩)
        have hal4 := hide (heldF_new w4 [.int .i64 (-1), .int .i64 256] 3)
        have b0 := hD4.box.1.2 2 _ rfl
        have hNw : N < w4.heap.size := hD4.box.1.1
        clear hD4
        go_wp2_with fail
        go_region_with (go_at_call 47; refine (unhide hP _ ?_).mono ?_; (first | exact below_drewN (Below.refl _ _) 1 | exact (below_drewN (Below.refl _ _) 1).alloc (by simp) _); rintro e w5 ⟨P, y, u, rfl, P2, hy, hD5, b5, k5, f5, g5, n5, hk5, ha5⟩; replace hD5 := hide hD5; (try have ea := hk5 ⟨by exact (unhide hal4).1.2 0 _ rfl, by exact (unhide hal4).1.2 1 _ rfl⟩); clear hk5)
        all_goals
          have hxs := hide ((unhide hxR).set (x := y) (by omega) 0)
          have hln : (xs.set 0 y).length ≤ 961 := by rw [List.length_set]; exact hxn.2
          have hS5 := hide ((unhide hD5).smp hxn.1 y).1
          have hS6 := hide (((unhide hD5).grown ((Below.refl w5.heap.size w5).alloc (Nat.le_refl _) (.cells #[.int .i64 (-1), .int .i64 256] 3))).smp hxn.1 y).1
          have hS7 := hide ((unhide hS5).grown ((Below.refl (w5.setCell ⟨g, 0, none⟩ (.int .i64 y)).heap.size (w5.setCell ⟨g, 0, none⟩ (.int .i64 y))).alloc (Nat.le_refl _) (.cells #[.int .i64 (-1), .int .i64 256] 3)))
          clear hP hal4 b0 b5 k5 f5 ha5 hD5 hO4
          first
            | (refine plane_end (fun W => Hid (DpSt w W c N ad cap zs 6506 A B (.slice (some ⟨g, 0, none⟩) xs.length cv) (xs.set 0 y))) hS5 ?_; intro w6 hD6)
            | (refine plane_end (fun W => Hid (DpSt w W c N ad cap zs 6506 A B (.slice (some ⟨g, 0, none⟩) xs.length cv) (xs.set 0 y))) hS6 ?_; intro w6 hD6)
            | (refine plane_end (fun W => Hid (DpSt w W c N ad cap zs 6506 A B (.slice (some ⟨g, 0, none⟩) xs.length cv) (xs.set 0 y))) hS7 ?_; intro w6 hD6)
          clear hS5 hS6 hS7
          have b0 := (unhide hD6).box.1.2 0 _ rfl
          have b1 := (unhide hD6).box.1.2 1 _ rfl
          have b2 := (unhide hD6).box.1.2 2 _ rfl
          have r0 := (unhide hD6).res.1.2 0 _ rfl
          have r1 := (unhide hD6).res.1.2 1 _ rfl
          have r2 := (unhide hD6).res.1.2 2 _ rfl
          have g0 := (unhide hD6).res.2 0
          have g1 := (unhide hD6).res.2 1
          have g2 := (unhide hD6).res.2 2
          have hfin := hide (fun u0 u1 u2 => (unhide hD6).fin u0 u1 u2)
          clear hD6
          go_wp2
          refine bodyPost_ret (v := .agg #[.int .i64 ((A : Int)), .int .i64 (B : Int), .slice (some ⟨g, 0, none⟩) xs.length cv]) (by simp [results, Try.results46, go_sem, r0, r1, r2]) rfl ?_
          obtain ⟨f1, f2, f3⟩ := unhide hfin (.int .i64 ((A : Int))) (.int .i64 (B : Int)) (.slice (some ⟨g, 0, none⟩) xs.length cv)
          exact ⟨(A : Int), B, _, (xs.set 0 y), rfl, by omega, by omega, hln, unhide hxs, f1, f2.more (by omega), f3⟩
      · have q1 : (pk == 1) = false := beq_eq_false_iff_ne.2 p1
        clear hO4
        replace hD4 := hide hD4
        have b0 := (unhide hD4).box.1.2 0 _ rfl
        have b1 := (unhide hD4).box.1.2 1 _ rfl
        have b2 := (unhide hD4).box.1.2 2 _ rfl
        have r0 := (unhide hD4).res.1.2 0 _ rfl
        have r1 := (unhide hD4).res.1.2 1 _ rfl
        have r2 := (unhide hD4).res.1.2 2 _ rfl
        have g0 := (unhide hD4).res.2 0
        have g1 := (unhide hD4).res.2 1
        have g2 := (unhide hD4).res.2 2
        have hfin := hide (fun u0 u1 u2 => (unhide hD4).fin u0 u1 u2)
        clear hD4
        go_wp2
        refine bodyPost_ret (v := .agg #[.int .i64 ((A : Int)), .int .i64 (B : Int), .slice (some ⟨g, 0, none⟩) xs.length cv]) (by simp [results, Try.results46, go_sem, r0, r1, r2]) rfl ?_
        obtain ⟨f1, f2, f3⟩ := unhide hfin (.int .i64 ((A : Int))) (.int .i64 (B : Int)) (.slice (some ⟨g, 0, none⟩) xs.length cv)
        exact ⟨(A : Int), B, _, xs, rfl, by omega, by omega, hxn.2, unhide hxR, f1, f2.more (by omega), f3⟩
end Go.Proofs.Ytnalmingbglgfaa
