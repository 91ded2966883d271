/- The texts behind FnSmall, part 0: what each of them says stands at its head. -/
import Derived.Laws.BitsAll
import Derived.WalkKit
import Derived.Test.YtpofmcepjmbmcaaDoorRows
import Derived.WalkSpells
import Derived.WalkLawsBesides
import Derived.BigQuiet
import Derived.Deep.QuietTactic
import Derived.Maps.AppendAt
import Derived.Laws.AppendOwnNone
import Derived.Deep.DeepCutAuto
import Derived.Deep.RegionHeld
import Derived.Deep.RegionHeld3
/- Plain arithmetic and lists behind chapter 1: what a check sum is after some bytes, what folding and unfolding a number gives, what the bits of words are; no program is named here. -/
namespace Go.Proofs.YtpofmcepjmbmcaaDoor
open Go.RowKit

theorem take_snoc_getD {α : Type} (zs : List α) (d : α) (k : Nat) (h : k < zs.length) : zs.take (k + 1) = zs.take k ++ [zs.getD k d] := by
  rw [List.take_succ_eq_append_getElem h, List.getD_eq_getElem?_getD, List.getElem?_eq_getElem h]; rfl

theorem hide {p : Prop} (h : p) : Hid p := h
theorem unhide {p : Prop} (h : Hid p) : p := h
theorem ret_int {k : IntKind} {a b : Int} (h : a = b) : Ending.returned (.int k a) = .returned (.int k b) := by rw [h]

/-! ### Adler -/
def adStep (p : Int × Int) (x : Int) : Int × Int := ((p.1 + x) % 65521, (p.2 + (p.1 + x) % 65521) % 65521)
def adTo (zs : List Int) (k : Nat) : Int × Int := (zs.take k).foldl adStep (1, 0)
def adlerF (zs : List Int) : Int := (65536 * (adTo zs zs.length).2 + (adTo zs zs.length).1) % 4294967296
theorem adTo_succ (zs : List Int) (k : Nat) (h : k < zs.length) : adTo zs (k + 1) = adStep (adTo zs k) (zs.getD k 0) := by
  unfold adTo; rw [take_snoc_getD zs 0 k h, List.foldl_append]; rfl
theorem adTo_succ1 (zs : List Int) (k : Nat) (h : k < zs.length) : (adTo zs (k + 1)).1 = ((adTo zs k).1 + zs.getD k 0) % 65521 := by rw [adTo_succ zs k h]; rfl
theorem adTo_succ2 (zs : List Int) (k : Nat) (h : k < zs.length) : (adTo zs (k + 1)).2 = ((adTo zs k).2 + ((adTo zs k).1 + zs.getD k 0) % 65521) % 65521 := by rw [adTo_succ zs k h]; rfl
theorem adStep_bd (p : Int × Int) (x : Int) : (0 ≤ (adStep p x).1 ∧ (adStep p x).1 < 65521) ∧ 0 ≤ (adStep p x).2 ∧ (adStep p x).2 < 65521 := by
  unfold adStep; simp only; omega
theorem adTo_bd (zs : List Int) (k : Nat) : (0 ≤ (adTo zs k).1 ∧ (adTo zs k).1 < 65521) ∧ 0 ≤ (adTo zs k).2 ∧ (adTo zs k).2 < 65521 := by
  unfold adTo
  rcases List.eq_nil_or_concat (zs.take k) with h | ⟨l, x, h⟩
  · rw [h]; simp
  · rw [h, List.concat_eq_append, List.foldl_append]; exact adStep_bd _ _

/-! ### Crc -/
def crcBit (r : Nat) : Nat := if r % 2 = 1 then (r / 2) ^^^ 3988292384 else r / 2
def crcIt : Nat → Nat → Nat
  | 0, r => r
  | m + 1, r => crcBit (crcIt m r)
def crcStep (r : Nat) (x : Int) : Nat := crcIt 8 (r ^^^ x.toNat)
def crcTo (zs : List Int) (k : Nat) : Nat := (zs.take k).foldl (fun r x => crcIt 8 (r ^^^ (x.toNat % 256))) 4294967295
def crcF (zs : List Int) : Int := 4294967295 - (crcTo zs zs.length : Nat)
theorem crcBit_lt (r : Nat) (h : r < 4294967296) : crcBit r < 4294967296 := by
  unfold crcBit; split
  · exact Nat.xor_lt_two_pow (n := 32) (by omega) (by omega)
  · omega
theorem crcIt_lt (m r : Nat) (h : r < 4294967296) : crcIt m r < 4294967296 := by
  induction m with
  | zero => exact h
  | succ m ih => exact crcBit_lt _ ih
theorem u32_and_one (y : Nat) (h : y < 4294967296) : bits .and .u32 (y : Int) 1 = ((y % 2 : Nat) : Int) := by go_bits2
theorem crcBit_odd (y : Nat) (h : y < 4294967296) (ho : y % 2 = 1) : bits .xor .u32 ((y : Int) / 2) 3988292384 = (crcBit y : Nat) := by
  have := u32_xor_nat (y / 2) 3988292384 (by omega) (by omega)
  unfold crcBit; rw [if_pos ho, ← this]; rfl
theorem crcBit_even (y : Nat) (ho : ¬ y % 2 = 1) : (y : Int) / 2 = (crcBit y : Nat) := by
  unfold crcBit; rw [if_neg ho]; omega
theorem crcTo_succ (zs : List Int) (k : Nat) (h : k < zs.length) : crcTo zs (k + 1) = crcIt 8 (crcTo zs k ^^^ ((zs.getD k 0).toNat % 256)) := by
  unfold crcTo; rw [take_snoc_getD zs 0 k h, List.foldl_append]; rfl
theorem crcTo_lt (zs : List Int) (k : Nat) : crcTo zs k < 4294967296 := by
  unfold crcTo
  generalize zs.take k = l
  suffices H : ∀ r, r < 4294967296 → l.foldl (fun r x => crcIt 8 (r ^^^ (x.toNat % 256))) r < 4294967296 from H _ (by omega)
  induction l with
  | nil => intro r h; exact h
  | cons x l ih => intro r h; exact ih _ (crcIt_lt _ _ (Nat.xor_lt_two_pow (n := 32) (by omega) (by omega)))

theorem xor_half (a b : Nat) : (a ^^^ b) / 2 = a / 2 ^^^ b / 2 := Nat.xor_div_two_pow (n := 1)
theorem xor_par (a b : Nat) : (a ^^^ b) % 2 = (a % 2 ^^^ b % 2) := Nat.xor_mod_two_pow (n := 1)
theorem crcBit_xor (a b : Nat) : crcBit (a ^^^ b) = crcBit a ^^^ crcBit b := by
  unfold crcBit
  rw [xor_par, xor_half]
  rcases Nat.mod_two_eq_zero_or_one a with ha | ha <;> rcases Nat.mod_two_eq_zero_or_one b with hb | hb
  · rw [ha, hb]; simp
  · rw [ha, hb]; simp only [show ((0 : Nat) ^^^ 1) = 1 from rfl, if_true, show ¬ ((0 : Nat) = 1) by omega, if_false]
    rw [Nat.xor_assoc]
  · rw [ha, hb]; simp only [show ((1 : Nat) ^^^ 0) = 1 from rfl, if_true, show ¬ ((0 : Nat) = 1) by omega, if_false]
    rw [Nat.xor_assoc, Nat.xor_assoc, Nat.xor_comm (b / 2)]
  · rw [ha, hb]; simp only [show ((1 : Nat) ^^^ 1) = 0 from rfl, if_true, show ¬ ((0 : Nat) = 1) by omega, if_false]
    rw [Nat.xor_assoc, ← Nat.xor_assoc 3988292384 (b / 2), Nat.xor_comm 3988292384 (b / 2), Nat.xor_assoc (b / 2), Nat.xor_self, Nat.xor_zero]
theorem crcIt_xor (m a b : Nat) : crcIt m (a ^^^ b) = crcIt m a ^^^ crcIt m b := by
  induction m with
  | zero => rfl
  | succ m ih => show crcBit _ = crcBit _ ^^^ crcBit _; rw [ih, crcBit_xor]
theorem crcIt_shift (m h : Nat) : crcIt m (2 ^ m * h) = h := by
  induction m generalizing h with
  | zero => show 2 ^ 0 * h = h; omega
  | succ m ih =>
    show crcBit (crcIt m (2 ^ (m + 1) * h)) = h
    rw [Nat.pow_succ, Nat.mul_assoc, ih]
    unfold crcBit; rw [if_neg (by omega)]; omega
theorem split_xor (r : Nat) : r = (256 * (r / 256)) ^^^ (r % 256) := by
  have h1 : ((256 * (r / 256)) ^^^ (r % 256)) / 256 = (256 * (r / 256)) / 256 ^^^ (r % 256) / 256 := Nat.xor_div_two_pow (n := 8)
  have h2 : ((256 * (r / 256)) ^^^ (r % 256)) % 256 = (256 * (r / 256)) % 256 ^^^ (r % 256) % 256 := Nat.xor_mod_two_pow (n := 8)
  rw [show 256 * (r / 256) / 256 = r / 256 by omega, show r % 256 / 256 = 0 by omega, Nat.xor_zero] at h1
  rw [show 256 * (r / 256) % 256 = 0 by omega, show r % 256 % 256 = r % 256 by omega, Nat.zero_xor] at h2
  omega
theorem crc_table (r x : Nat) : crcIt 8 (r ^^^ x) = r / 256 ^^^ crcIt 8 ((r % 256) ^^^ x) := by
  have h := crcIt_shift 8 (r / 256)
  rw [show (2 : Nat) ^ 8 = 256 from rfl] at h
  have e : r ^^^ x = (256 * (r / 256)) ^^^ ((r % 256) ^^^ x) := by
    rw [← Nat.xor_assoc, ← split_xor r]
  rw [e, crcIt_xor, h]
theorem nat_xor_ones32 (x : Nat) (h : x < 4294967296) : 4294967295 ^^^ x = 4294967295 - x := by
  have e : (BitVec.allOnes 32 ^^^ BitVec.ofNat 32 x).toNat = 4294967295 - x := by
    rw [BitVec.allOnes_xor, BitVec.toNat_not, BitVec.toNat_ofNat, Nat.mod_eq_of_lt (by omega)]
  rw [← e, BitVec.toNat_xor, BitVec.toNat_ofNat, Nat.mod_eq_of_lt (by omega), BitVec.toNat_allOnes]
theorem crcF_bits (zs : List Int) : bits .xor .u32 4294967295 (crcTo zs zs.length : Nat) = crcF zs := by
  have hb := crcTo_lt zs zs.length
  have := u32_xor_nat 4294967295 (crcTo zs zs.length) (by omega) hb
  rw [nat_xor_ones32 _ hb] at this
  unfold crcF
  rw [show (4294967295 : Int) - (crcTo zs zs.length : Nat) = ((4294967295 - crcTo zs zs.length : Nat) : Int) by omega, ← this]; rfl

/-! ### Fold, Unfold -/
def foldF (n : Int) : Int := if n < 0 then -2 * n - 1 else 2 * n
def unfoldF (n : Int) : Int := if n % 2 = 1 then -(n / 2) - 1 else n / 2
theorem nat_xor_ones (x : Nat) (h : x < 18446744073709551616) : x ^^^ 18446744073709551615 = 18446744073709551615 - x := by
  have e : (BitVec.ofNat 64 x ^^^ BitVec.allOnes 64).toNat = 18446744073709551615 - x := by
    rw [BitVec.xor_allOnes, BitVec.toNat_not, BitVec.toNat_ofNat, Nat.mod_eq_of_lt (by omega)]
  rw [← e, BitVec.toNat_xor, BitVec.toNat_ofNat, Nat.mod_eq_of_lt (by omega), BitVec.toNat_allOnes]
theorem fold_bits (n : Int) (h0 : -9223372036854775808 ≤ n) (h1 : n ≤ 9223372036854775807) :
    bits .xor .u64 (IntKind.u64.wrap (wrap64 (n * 2))) (IntKind.u64.wrap (n / 9223372036854775808)) = foldF n := by
  rw [IntKind.wrap_u64, IntKind.wrap_u64]
  unfold foldF
  rw [u64_xor _ _ (by omega) (by omega) (by omega) (by omega)]
  split
  · have e1 : (wrap64 (n * 2) % 18446744073709551616).toNat = (2 * n + 18446744073709551616).toNat := by unfold wrap64; omega
    have e2 : (n / 9223372036854775808 % 18446744073709551616).toNat = 18446744073709551615 := by omega
    rw [e1, e2, nat_xor_ones _ (by omega)]; omega
  · have e1 : (wrap64 (n * 2) % 18446744073709551616).toNat = (2 * n).toNat := by unfold wrap64; omega
    have e2 : (n / 9223372036854775808 % 18446744073709551616).toNat = 0 := by omega
    rw [e1, e2, Nat.xor_zero]; omega
theorem unfold_bits (n : Int) (h0 : 0 ≤ n) (h1 : n ≤ 18446744073709551615) :
    bits .xor .i64 (n / 2) (wrap64 (-wrap64 (bits .and .u64 n 1))) = unfoldF n := by
  have e : bits .and .u64 n 1 = n % 2 := by go_bits2
  rw [e]
  unfold unfoldF
  obtain ⟨m, hm⟩ := Int.eq_ofNat_of_zero_le (show 0 ≤ n / 2 by omega)
  split
  · have e1 : wrap64 (-wrap64 (n % 2)) = -1 := by unfold wrap64; omega
    rw [e1, hm]
    show IntKind.i64.wrap ((BitVec.ofInt 64 (m : Int) ^^^ BitVec.ofInt 64 (-1)).toNat : Int) = _
    have e3 : BitVec.ofInt 64 (-1) = BitVec.allOnes 64 := by decide
    rw [e3, BitVec.xor_allOnes, BitVec.toNat_not, ofInt_u64 m (by omega)]
    simp [IntKind.wrap, IntKind.bits, IntKind.signed]
    omega
  · have e1 : wrap64 (-wrap64 (n % 2)) = 0 := by unfold wrap64; omega
    rw [e1, hm]
    show IntKind.i64.wrap ((BitVec.ofInt 64 (m : Int) ^^^ BitVec.ofInt 64 0).toNat : Int) = _
    have e3 : BitVec.ofInt 64 0 = 0#64 := by decide
    rw [e3, BitVec.xor_zero, ofInt_u64 m (by omega)]
    simp [IntKind.wrap, IntKind.bits, IntKind.signed]
    omega
end Go.Proofs.YtpofmcepjmbmcaaDoor

/- Plain: blocks of eight by eight: what is one, scales, coarse and fine numbers, waves. -/
namespace Go.Proofs.YtpofmcepjmbmcaaDoor
open Go.RowKit

/-- All numbers lie within two ends. -/
def InR (lo hi : Int) (zs : List Int) : Prop := ∀ j, j < zs.length → lo ≤ zs.getD j 0 ∧ zs.getD j 0 ≤ hi
def inRB (lo hi : Int) (zs : List Int) : Bool := (List.range zs.length).all fun j => decide (lo ≤ zs.getD j 0 ∧ zs.getD j 0 ≤ hi)
theorem inRB_iff0 {lo hi : Int} {zs : List Int} : inRB lo hi zs = true ↔ InR lo hi zs := by
  unfold inRB InR
  rw [List.all_eq_true]
  exact ⟨fun h j hj => of_decide_eq_true (h j (List.mem_range.2 hj)), fun h j hj => decide_eq_true (h j (List.mem_range.1 hj))⟩
theorem inRB_yes {lo hi : Int} {zs : List Int} (h : InR lo hi zs) : inRB lo hi zs = true := inRB_iff0.2 h
theorem inRB_no {lo hi : Int} {zs : List Int} (h : ¬ InR lo hi zs) : inRB lo hi zs = false := Bool.eq_false_iff.2 (fun h' => h (inRB_iff0.1 h'))
def BlOk (zs : List Int) : Prop := zs.length = 64 ∧ InR (-32768) 32767 zs
noncomputable def blB (zs : List Int) : Bool := open Classical in decide (BlOk zs)
theorem blB_yes {zs : List Int} (h : BlOk zs) : blB zs = true := by unfold blB; simpa using h
theorem blB_no {zs : List Int} (h : ¬ BlOk zs) : blB zs = false := by unfold blB; simpa using h
def ScOk (zs : List Int) : Prop := zs.length = 64 ∧ InR 1 255 zs
noncomputable def scB (zs : List Int) : Bool := open Classical in decide (ScOk zs)
theorem scB_yes {zs : List Int} (h : ScOk zs) : scB zs = true := by unfold scB; simpa using h
theorem scB_no {zs : List Int} (h : ¬ ScOk zs) : scB zs = false := by unfold scB; simpa using h

/-- 64 numbers told by their places. -/
def tab (f : Nat → Int) : List Int := (List.range 64).map f
@[simp] theorem tab_length (f : Nat → Int) : (tab f).length = 64 := by simp [tab]
theorem tab_getD (f : Nat → Int) (k : Nat) (h : k < 64) : (tab f).getD k 0 = f k := by
  unfold tab
  rw [List.getD_eq_getElem?_getD, List.getElem?_map, List.getElem?_range h]; rfl
theorem tab_inR (f : Nat → Int) (lo hi : Int) (h : ∀ k, k < 64 → lo ≤ f k ∧ f k ≤ hi) : InR lo hi (tab f) := by
  intro j hj
  rw [tab_length] at hj
  rw [tab_getD f j hj]; exact h j hj

/-! ### Scales -/
def baseZ (v u : Nat) (c : Bool) : Int := if c then 10 + 6 * ((u : Int) + v) else 8 + 3 * ((u : Int) + v) + ((u * v / 2 : Nat) : Int)
def percZ (q : Int) : Int := if q < 50 then 5000 / q else 200 - 2 * q
def cutZ (a b n : Int) : Int := if n < a then a else if b < n then b else n
def scaleZ (q : Int) (c : Bool) (i : Nat) : Int := cutZ 1 255 ((baseZ (i / 8) (i % 8) c * percZ q + 50) / 100)
def scalesF (q : Int) (c : Bool) : List Int := if 1 ≤ q ∧ q ≤ 100 then tab (scaleZ q c) else []
theorem scalesF_len (q : Int) (c : Bool) : (scalesF q c).length ≤ 1048576 := by unfold scalesF; split <;> simp
theorem baseZ_bd (v u : Nat) (c : Bool) (hv : v < 8) (hu : u < 8) : 8 ≤ baseZ v u c ∧ baseZ v u c ≤ 94 := by
  unfold baseZ
  have h : u * v ≤ 7 * 7 := Nat.mul_le_mul (by omega) (by omega)
  split <;> omega
theorem percZ_bd (q : Int) (h1 : 1 ≤ q) (h2 : q ≤ 100) : 0 ≤ percZ q ∧ percZ q ≤ 5000 := by
  unfold percZ
  split
  · have h0 : 5000 / q ≤ 5000 := Int.ediv_le_self _ (by omega)
    have h3 : 0 ≤ 5000 / q := Int.ediv_nonneg (by omega) (by omega)
    omega
  · omega
theorem cutZ_bd (a b n : Int) (h : a ≤ b) : a ≤ cutZ a b n ∧ cutZ a b n ≤ b := by unfold cutZ; split <;> (try split) <;> omega
theorem cutZ_max (a b n : Int) (h : a ≤ b) : max a (min b n) = cutZ a b n := by unfold cutZ; split <;> (try split) <;> omega
theorem scalesF_ok (q : Int) (c : Bool) (h : 1 ≤ q ∧ q ≤ 100) : ScOk (scalesF q c) := by
  unfold scalesF
  rw [if_pos h]
  exact ⟨by simp, tab_inR _ _ _ (fun k _ => cutZ_bd _ _ _ (by omega))⟩

/-! ### Coarse and fine numbers -/
def coarseZ (n t : Int) : Int := if n < 0 then -((-n + t / 2) / t) else (n + t / 2) / t
def fineZ (n t : Int) : Int := cutZ (-32768) 32767 (n * t)
noncomputable def twoF (g : Int → Int → Int) (zs ts : List Int) : List Int := if blB zs && scB ts then tab (fun i => g (zs.getD i 0) (ts.getD i 0)) else []
theorem twoF_len (g : Int → Int → Int) (zs ts : List Int) : (twoF g zs ts).length ≤ 1048576 := by unfold twoF; split <;> simp
theorem twoF_no {g : Int → Int → Int} {zs ts : List Int} (h : ¬ (BlOk zs ∧ ScOk ts)) : twoF g zs ts = [] := by
  unfold twoF
  by_cases h1 : BlOk zs
  · rw [blB_yes h1, scB_no (fun h2 => h ⟨h1, h2⟩)]; rfl
  · rw [blB_no h1]; rfl
theorem twoF_yes {g : Int → Int → Int} {zs ts : List Int} (h1 : BlOk zs) (h2 : ScOk ts) : twoF g zs ts = tab (fun i => g (zs.getD i 0) (ts.getD i 0)) := by
  unfold twoF; rw [blB_yes h1, scB_yes h2]; rfl
theorem quot_bd (n t : Int) (hn : 0 ≤ n) (ht : 1 ≤ t) : 0 ≤ (n + t / 2) / t ∧ (n + t / 2) / t ≤ n := by
  have h1 : 0 ≤ (n + t / 2) / t := Int.ediv_nonneg (by omega) (by omega)
  refine ⟨h1, ?_⟩
  rcases Int.lt_or_le n ((n + t / 2) / t) with h | h
  · exfalso
    have h2 : (n + t / 2) / t * t ≤ n + t / 2 := Int.ediv_mul_le _ (by omega)
    have h3 : (n + 1) * t ≤ (n + t / 2) / t * t := Int.mul_le_mul_of_nonneg_right (by omega) (by omega)
    have h4 : n * t ≥ n := by
      have : n * 1 ≤ n * t := Int.mul_le_mul_of_nonneg_left ht hn
      omega
    rw [Int.add_mul] at h3
    omega
  · exact h
theorem coarseZ_bd (n t : Int) (hn : -32768 ≤ n ∧ n ≤ 32767) (ht : 1 ≤ t) : -32768 ≤ coarseZ n t ∧ coarseZ n t ≤ 32767 := by
  unfold coarseZ
  split
  · have := quot_bd (-n) t (by omega) ht; omega
  · have := quot_bd n t (by omega) ht; omega
theorem twoF_ok {g : Int → Int → Int} {zs ts : List Int} (h1 : BlOk zs) (h2 : ScOk ts) (hg : ∀ n t, (-32768 ≤ n ∧ n ≤ 32767) → (1 ≤ t ∧ t ≤ 255) → -32768 ≤ g n t ∧ g n t ≤ 32767) : BlOk (twoF g zs ts) := by
  rw [twoF_yes h1 h2]
  exact ⟨by simp, tab_inR _ _ _ (fun k hk => hg _ _ (h1.2 k (by rw [h1.1]; exact hk)) (h2.2 k (by rw [h2.1]; exact hk)))⟩
/-- Half a scale away at most. -/
theorem near_mul (n t : Int) (ht : 1 ≤ t) : -t ≤ 2 * ((n + t / 2) / t * t - n) ∧ 2 * ((n + t / 2) / t * t - n) ≤ t := by
  have h1 : (n + t / 2) / t * t ≤ n + t / 2 := Int.ediv_mul_le _ (by omega)
  have h2 : n + t / 2 < ((n + t / 2) / t + 1) * t := Int.lt_ediv_add_one_mul_self _ (by omega)
  rw [Int.add_mul] at h2
  generalize (n + t / 2) / t * t = q at h1 h2 ⊢
  omega
theorem coarse_near (n t : Int) (ht : 1 ≤ t) : -t ≤ 2 * (coarseZ n t * t - n) ∧ 2 * (coarseZ n t * t - n) ≤ t := by
  unfold coarseZ
  split
  · have h := near_mul (-n) t ht
    rw [Int.neg_mul]
    generalize (-n + t / 2) / t * t = q at h ⊢
    omega
  · exact near_mul n t ht
theorem quot_mul (m t : Int) (ht : 1 ≤ t) : (m * t + t / 2) / t = m := by
  rw [Int.add_comm, Int.add_mul_ediv_right _ _ (by omega), Int.ediv_eq_zero_of_lt (by omega) (by omega), Int.zero_add]
theorem coarse_fine (m t : Int) (ht : 1 ≤ t) : coarseZ (m * t) t = m := by
  unfold coarseZ
  by_cases h : m < 0
  · have h1 : m * t < 0 := Int.mul_neg_of_neg_of_pos h (by omega)
    rw [if_pos h1, ← Int.neg_mul, quot_mul _ _ ht]; omega
  · have h1 : ¬ m * t < 0 := by have := Int.mul_nonneg (show 0 ≤ m by omega) (show 0 ≤ t by omega); omega
    rw [if_neg h1, quot_mul _ _ ht]
end Go.Proofs.YtpofmcepjmbmcaaDoor

/- Plain: the places of a block in slanting lines. -/
namespace Go.Proofs.YtpofmcepjmbmcaaDoor
open Go.RowKit

def rowS (k i : Nat) : Nat := if k % 2 = 0 then k - i else i
def scanIn (k : Nat) : Nat → List Int
  | 0 => []
  | i + 1 => scanIn k i ++ (if rowS k i < 8 ∧ k - rowS k i < 8 then [((8 * rowS k i + k - rowS k i : Nat) : Int)] else [])
def scanTo : Nat → List Int
  | 0 => []
  | k + 1 => scanTo k ++ scanIn k (k + 1)
def scanL : List Int := scanTo 15
theorem scan_len : ∀ k, k < 16 → ∀ i, i < 17 → (scanTo k ++ scanIn k i).length ≤ 1000 := by decide
theorem scanTo_len (k : Nat) (h : k < 16) : (scanTo k).length ≤ 1000 := by
  have := scan_len k h 0 (by omega)
  rw [List.length_append] at this
  omega
theorem scanL_length : scanL.length = 64 := by decide
theorem scanL_bd : ∀ j, j < 64 → 0 ≤ scanL.getD j 0 ∧ scanL.getD j 0 < 64 := by decide
theorem scanL_inR : InR 0 63 scanL := by
  intro j hj
  rw [scanL_length] at hj
  have := scanL_bd j hj
  omega
theorem scanL_zero : scanL.getD 0 0 = 0 := by decide
theorem rowS_le (k i : Nat) (h : i ≤ k) : rowS k i ≤ k := by unfold rowS; split <;> omega
end Go.Proofs.YtpofmcepjmbmcaaDoor

/- The walks of the laws' own helpers on byte strings: a copy, and whether two are equal. -/
namespace Go.Proofs.YtpofmcepjmbmcaaDoor
open Go.RowKit

theorem below_drewN {B : Nat} {a w : World} (h : Below B a w) (n : Nat) : Below B a (w.drewN n) := h.trans ⟨rfl, rfl, rfl, Nat.le_refl _, fun _ _ => rfl⟩
theorem infoB : (Tryd.prog.info? 5).map (fun i => (i.zero, i.size, i.bytes)) = some (some (.int .u8 0), 1, 1) := by kernel_rfl

/-- What a byte string is, as the walks hand it on: its bytes, all in range, in the cells of a block. -/
def BytesAt (w : World) (b off : Nat) (zs : List Int) : Prop := ∀ j, j < zs.length → w.cell? ⟨b, off + j, none⟩ = some (.int .u8 (zs.getD j 0))
def InB (zs : List Int) : Prop := ∀ j, 0 ≤ zs.getD j 0 ∧ zs.getD j 0 < 256

theorem getD_map_int (zs : List Int) (k : IntKind) (j : Nat) (h : j < zs.length) : (zs.map (Value.int k))[j]? = some (.int k (zs.getD j 0)) := by
  rw [List.getElem?_map, List.getD_eq_getElem?_getD, List.getElem?_eq_getElem h]; rfl

def partCopy (zs : List Int) (k : Nat) : List Value := (zs.take k).map (Value.int .u8) ++ List.replicate (zs.length - k) (.int .u8 0)
theorem partCopy_zero (zs : List Int) : partCopy zs 0 = List.replicate zs.length (.int .u8 0) := by unfold partCopy; simp
theorem partCopy_all (zs : List Int) : partCopy zs zs.length = zs.map (.int .u8) := by unfold partCopy; simp
theorem partCopy_set (zs : List Int) (k : Nat) (h : k < zs.length) : (partCopy zs k).set k (.int .u8 (zs.getD k 0)) = partCopy zs (k + 1) := by
  unfold partCopy
  rw [take_snoc_getD zs 0 k h, List.map_append, List.set_append, if_neg (by simp; omega), List.append_assoc]
  congr 1
  have : zs.length - k = (zs.length - (k + 1)) + 1 := by omega
  rw [this, List.replicate_succ]
  simp [Nat.min_eq_left (Nat.le_of_lt h)]

end Go.Proofs.YtpofmcepjmbmcaaDoor

/- Memory of the call's own, by the blocks in which it lies: what a step keeps, and what a value in such blocks reads as. -/
namespace Go.Proofs.YtpofmcepjmbmcaaDoor
open Go.RowKit

/-- The world is as it was but for the blocks from a on, below b, and for what is new. -/
structure Upd (a b : Nat) (w w' : World) : Prop where
  os : w'.os = w.os
  tape : w'.tape = w.tape
  output : w'.output = w.output
  size : w.heap.size ≤ w'.heap.size
  block : ∀ k, k < w.heap.size → (k < a ∨ b ≤ k) → w'.heap[k]? = w.heap[k]?
theorem Upd.refl (a b : Nat) (w : World) : Upd a b w w := ⟨rfl, rfl, rfl, Nat.le_refl _, fun _ _ _ => rfl⟩
theorem Upd.trans {a b : Nat} {x w w' : World} (h : Upd a b x w) (k : Upd a b w w') : Upd a b x w' :=
  ⟨k.os.trans h.os, k.tape.trans h.tape, k.output.trans h.output, Nat.le_trans h.size k.size, fun i hi hn => (k.block i (Nat.lt_of_lt_of_le hi h.size) hn).trans (h.block i hi hn)⟩
theorem Upd.drewN {a b : Nat} {x w : World} (h : Upd a b x w) (n : Nat) : Upd a b x (w.drewN n) := h.trans ⟨rfl, rfl, rfl, Nat.le_refl _, fun _ _ _ => rfl⟩
theorem Upd.setCell {a b : Nat} {x w : World} (h : Upd a b x w) {r : Nat} (hr : a ≤ r ∧ r < b) (o : Nat) (u : Value) : Upd a b x (w.setCell ⟨r, o, none⟩ u) :=
  h.trans ⟨rfl, rfl, rfl, by simp, fun k _ hk => Below.heap_setCell w ⟨r, o, none⟩ u k (by simp; omega)⟩
theorem Upd.of_below {w w' : World} (h : Below w.heap.size w w') (a b : Nat) : Upd a b w w' := ⟨h.os, h.tape, h.output, h.size, fun k hk _ => h.block k hk⟩
theorem Upd.below {B a b : Nat} {w w' : World} (h : Upd a b w w') (hB : B ≤ w.heap.size) (ha : B ≤ a ∨ b ≤ a) : Below B w w' :=
  ⟨h.os, h.tape, h.output, h.size, fun k hk => h.block k (by omega) (by omega)⟩
theorem Upd.none {w w' : World} (h : Upd 0 0 w w') : Below w.heap.size w w' := h.below (Nat.le_refl _) (.inr (Nat.le_refl _))
theorem below_upd {B a b : Nat} {x w w' : World} (h : Below B x w) (k : Upd a b w w') (hx : B ≤ x.heap.size) (ha : B ≤ a ∨ b ≤ a) : Below B x w' :=
  h.trans (k.below (Nat.le_trans hx h.size) ha)

/-- A value of the call's own: its elements lie in a block from a on, below b. -/
def Own (e : TypeId) (s : Nat) (w : World) (a b : Nat) (v : Value) (n : Nat) (xs : List Value) : Prop := w.ownsRow a e s v n xs ∧ ∀ k, v.ownBlock = some k → k < b
theorem Own.of {e : TypeId} {s : Nat} {w : World} {a : Nat} {v : Value} {n : Nat} {xs : List Value} (h : w.ownsRow a e s v n xs) : Own e s w a w.heap.size v n xs := ⟨h, fun k hk => (h.lt k hk).2⟩
theorem Own.upd {e : TypeId} {s : Nat} {w w' : World} {a b c d : Nat} {v : Value} {n : Nat} {xs : List Value} (h : Own e s w a b v n xs) (u : Upd c d w w') (hd : b ≤ c ∨ d ≤ a) : Own e s w' a b v n xs := by
  refine ⟨⟨h.1.1, ?_⟩, h.2⟩
  rcases h.1.2 with hn | ⟨g, cap, cur, rfl, h1, h2, h3⟩
  · exact .inl hn
  · have hl := h.1.lt g rfl
    have hb := h.2 g rfl
    exact .inr ⟨g, cap, cur, rfl, h1, by rw [u.block g hl.2 (by omega)]; exact h2, h3⟩
theorem Own.keep {e : TypeId} {s : Nat} {w w' : World} {a b : Nat} {v : Value} {n : Nat} {xs : List Value} (h : Own e s w a b v n xs) (u : Upd 0 0 w w') : Own e s w' a b v n xs := h.upd u (.inr (Nat.zero_le _))

theorem own_mono {e : TypeId} {s : Nat} {w : World} {a b a' b' : Nat} {v : Value} {n : Nat} {xs : List Value} (h : Own e s w a b v n xs) (ha : a' ≤ a) (hb : b ≤ b') : Own e s w a' b' v n xs := by
  refine ⟨⟨h.1.1, ?_⟩, fun k hk => Nat.lt_of_lt_of_le (h.2 k hk) hb⟩
  rcases h.1.2 with hn | ⟨g, cap, cur, rfl, h1, h2, h3⟩
  · exact .inl hn
  · exact .inr ⟨g, cap, cur, rfl, Nat.le_trans ha h1, h2, h3⟩

/-- Cells of numbers of a kind. -/
def KindAt (k : IntKind) (w : World) (b off : Nat) (zs : List Int) : Prop := ∀ j, j < zs.length → w.cell? ⟨b, off + j, none⟩ = some (.int k (zs.getD j 0))
/-- Numbers that can be read: where there are any, in the cells of a block. -/
def ReadK (k : IntKind) (w : World) (ad : Option Addr) (zs : List Int) : Prop := zs ≠ [] → ∃ b off, ad = some ⟨b, off, none⟩ ∧ b < w.heap.size ∧ KindAt k w b off zs
theorem ReadK.below {k : IntKind} {w w' : World} {ad : Option Addr} {zs : List Int} (h : ReadK k w ad zs) (hb : Below w.heap.size w w') : ReadK k w' ad zs := by
  intro hne
  obtain ⟨b, off, e, hl, hc⟩ := h hne
  exact ⟨b, off, e, Nat.lt_of_lt_of_le hl hb.size, fun j hj => (hb.cell (by simpa using hl)).trans (hc j hj)⟩
theorem ne_of_lt_length {α : Type} {k : Nat} {zs : List α} (h : k < zs.length) : zs ≠ [] := by rintro rfl; simp at h
theorem readK_of_own {k : IntKind} {e : TypeId} {w : World} {a b : Nat} {v : Value} {zs : List Int} (h : Own e 1 w a b v zs.length (zs.map (.int k))) :
    ∃ ad cap, v = .slice ad zs.length cap ∧ ReadK k w ad zs := by
  rcases h.1.2 with ⟨rfl, hn⟩ | ⟨g, cap, cur, rfl, h1, h2, h3⟩
  · refine ⟨none, 0, by rw [hn], fun hne => absurd (List.length_eq_zero_iff.1 hn) hne⟩
  · refine ⟨some ⟨g, 0, none⟩, cap, rfl, fun _ => ⟨g, 0, rfl, (h.1.lt g rfl).2, fun j hj => ?_⟩⟩
    rw [Nat.zero_add, h.1.cellAt j (by omega)]
    exact getD_map_int zs k j hj
/-- The numbers that a marking leaves. -/
def marks (k n : Nat) : List Int := (List.range n).map fun j => ((k + j : Nat) : Int)
def marksB (k n : Nat) : List Int := (List.range n).map fun j => (((k + j) % 256 : Nat) : Int)
@[simp] theorem marks_length (k n : Nat) : (marks k n).length = n := by simp [marks]
@[simp] theorem marksB_length (k n : Nat) : (marksB k n).length = n := by simp [marksB]
theorem marks_getD (k n j : Nat) (h : j < n) : (marks k n).getD j 0 = ((k + j : Nat) : Int) := by simp [marks, h]
theorem marksB_getD (k n j : Nat) (h : j < n) : (marksB k n).getD j 0 = (((k + j) % 256 : Nat) : Int) := by simp [marksB, h]
/-- A row of which the first t elements are new. -/
def partSet (k : IntKind) (xs : List Value) (zs : List Int) (t : Nat) : List Value := (zs.take t).map (.int k) ++ xs.drop t
theorem partSet_zero (k : IntKind) (xs : List Value) (zs : List Int) : partSet k xs zs 0 = xs := by simp [partSet]
theorem partSet_all (k : IntKind) (xs : List Value) (zs : List Int) (h : xs.length = zs.length) : partSet k xs zs zs.length = zs.map (.int k) := by
  unfold partSet; rw [List.take_length, ← h, List.drop_length, List.append_nil]
theorem partSet_set (k : IntKind) (xs : List Value) (zs : List Int) (t : Nat) (h : t < zs.length) (hl : xs.length = zs.length) : (partSet k xs zs t).set t (.int k (zs.getD t 0)) = partSet k xs zs (t + 1) := by
  unfold partSet
  rw [take_snoc_getD zs 0 t h, List.map_append, List.set_append, if_neg (by simp; omega), List.append_assoc]
  congr 1
  have e : (xs.drop t) = xs[t] :: xs.drop (t + 1) := by rw [List.drop_eq_getElem_cons]
  simp [Nat.min_eq_left (Nat.le_of_lt h)]
  rw [e]; rfl
theorem partSet_length (k : IntKind) (xs : List Value) (zs : List Int) (t : Nat) (h : t ≤ zs.length) (hl : xs.length = zs.length) : (partSet k xs zs t).length = zs.length := by
  unfold partSet; simp; omega
theorem upd_of_same {P : Program} {f : FuncId} {args : Array Value} {w : World} {r : Ending} (h : Calls P f args w fun e w' => e = r ∧ w' = w) : Calls P f args w fun e w' => e = r ∧ Upd 0 0 w w' := by
  refine h.mono ?_
  rintro e w' ⟨rfl, rfl⟩
  exact ⟨rfl, Upd.refl _ _ _⟩
theorem upd_of_belowC {P : Program} {f : FuncId} {args : Array Value} {w : World} {r : Ending} (h : Calls P f args w fun e w' => e = r ∧ Below w.heap.size w w') : Calls P f args w fun e w' => e = r ∧ Upd 0 0 w w' := by
  refine h.mono ?_
  rintro e w' ⟨he, hb⟩
  exact ⟨he, Upd.of_below hb _ _⟩
/-- The first cells of a block. -/
def Held (w : World) (g : Nat) (cs : List Value) : Prop := g < w.heap.size ∧ ∀ j v, cs[j]? = some v → w.cell? ⟨g, j, none⟩ = some v
theorem held_new (w : World) (cs : List Value) (t : TypeId) : Held (w.alloc (.cells cs.toArray t)) w.heap.size cs := by
  refine ⟨by simp, fun j v h => ?_⟩
  rw [World.cell?_alloc_at _ _ _ _ rfl]; simpa using h
theorem Held.upd {w w' : World} {g c e : Nat} {cs : List Value} (h : Held w g cs) (u : Upd c e w w') (hd : g + 1 ≤ c ∨ e ≤ g) : Held w' g cs := by
  refine ⟨Nat.lt_of_lt_of_le h.1 u.size, fun j v hj => ?_⟩
  rw [World.cell?_of_block (w := w) (a := ⟨g, j, none⟩) (u.block g h.1 (by omega))]
  exact h.2 j v hj
theorem Held.keep {w w' : World} {g : Nat} {cs : List Value} (h : Held w g cs) (u : Upd 0 0 w w') : Held w' g cs := h.upd u (.inr (Nat.zero_le _))
def InI (zs : List Int) : Prop := ∀ j, -9223372036854775808 ≤ zs.getD j 0 ∧ zs.getD j 0 ≤ 9223372036854775807
end Go.Proofs.YtpofmcepjmbmcaaDoor

/- Lists of ints, as values of the call's own and as values that can be read. -/
namespace Go.Proofs.YtpofmcepjmbmcaaDoor
open Go.RowKit

theorem infoI : (Tryd.prog.info? 3).map (fun i => (i.zero, i.size, i.bytes)) = some (some (.int .i64 0), 1, 8) := by kernel_rfl
def ints (zs : List Int) : List Value := zs.map (.int .i64)
theorem ints_length (zs : List Int) : (ints zs).length = zs.length := by simp [ints]
abbrev OwnI (w : World) (a b : Nat) (v : Value) (zs : List Int) : Prop := Own 3 1 w a b v zs.length (ints zs)
abbrev ArgI (w : World) (ad : Option Addr) (zs : List Int) : Prop := ReadK .i64 w ad zs
/-- A list of ints as a value that can be read. -/
def RdI (w : World) (v : Value) (zs : List Int) : Prop := ∃ ad cap, v = .slice ad zs.length cap ∧ ArgI w ad zs
theorem RdI.below {w w' : World} {v : Value} {zs : List Int} (h : RdI w v zs) (hb : Below w.heap.size w w') : RdI w' v zs := by
  obtain ⟨ad, cap, e, h⟩ := h
  exact ⟨ad, cap, e, h.below hb⟩
theorem OwnI.rd {w : World} {a b : Nat} {v : Value} {zs : List Int} (h : OwnI w a b v zs) : RdI w v zs := readK_of_own h

end Go.Proofs.YtpofmcepjmbmcaaDoor

/- The walks of the laws' own helpers on lists of ints: a copy, whether two are equal, marks. -/
namespace Go.Proofs.YtpofmcepjmbmcaaDoor
open Go.RowKit

def partI (zs : List Int) (k : Nat) : List Value := ints (zs.take k) ++ List.replicate (zs.length - k) (.int .i64 0)
theorem partI_zero (zs : List Int) : partI zs 0 = List.replicate zs.length (.int .i64 0) := by unfold partI ints; simp
theorem partI_all (zs : List Int) : partI zs zs.length = ints zs := by unfold partI ints; simp
theorem partI_set (zs : List Int) (k : Nat) (h : k < zs.length) : (partI zs k).set k (.int .i64 (zs.getD k 0)) = partI zs (k + 1) := by
  unfold partI ints
  rw [take_snoc_getD zs 0 k h, List.map_append, List.set_append, if_neg (by simp; omega), List.append_assoc]
  congr 1
  have : zs.length - k = (zs.length - (k + 1)) + 1 := by omega
  rw [this, List.replicate_succ]
  simp [Nat.min_eq_left (Nat.le_of_lt h)]
theorem partI_length (zs : List Int) (k : Nat) (h : k ≤ zs.length) : (partI zs k).length = zs.length := by unfold partI ints; simp; omega

set_option maxHeartbeats 1000000 in
theorem toIntS_own (ad : Option Addr) (cap : Nat) (zs : List Int) (w : World) (hn : zs.length ≤ 1048576) (hA : ArgI w ad zs) :
    Calls Tryd.prog 40 #[.slice ad zs.length cap] w fun e w' =>
      ∃ v, e = .returned v ∧ OwnI w' w.heap.size w'.heap.size v zs ∧ Upd 0 0 w w' := by
  obtain ⟨i0, hi, hz0, hz1, hz2⟩ := info_parts infoI
  replace hA := hide hA
  go_enter Tryd.func40, Tryd.ntmps40
  go_wp2_with (at_make; refine wpList_make_full _ rfl _ _ 23 rfl w.heap.size 3 i0 (.int .i64 0) 1 Tryd.underlying23 hi hz0 hz1 .i64 .i64 _ _ zs.length rfl rfl (by omega) (by omega) (by rw [hz2]; omega) (by unfold maxLen; omega) (Nat.le_refl _) ?_; intro w1 hown hgrow)
  have hbel := (Below.refl w.heap.size w).grown hgrow (Nat.le_refl _) (by simp)
  have hown0 : w1.ownsRow w.heap.size 3 1 (.slice (some ⟨w.heap.size, 0, none⟩) zs.length zs.length) zs.length (partI zs 0) := by
    rw [partI_zero]; simpa [toList_madeCells_one, Value.cells] using hown
  clear hown hgrow
  go_loopw [4] (fun i wr => ∃ k : Nat, k ≤ zs.length ∧ i = .int .i64 k ∧ wr.ownsRow w.heap.size 3 1 (.slice (some ⟨w.heap.size, 0, none⟩) zs.length zs.length) zs.length (partI zs k) ∧ Below w.heap.size w wr) (fun i _ => zs.length - (intOf i).toNat)
  case atStart => exact ⟨0, Nat.zero_le _, rfl, hown0, hbel⟩
  case round =>
    clear hown0 hbel
    obtain ⟨k, hk, rfl, hown, hbel⟩ := hrel
    by_cases hlt : k < zs.length
    · obtain ⟨b, off, rfl, hbl, hc⟩ := (unhide hA) (ne_of_lt_length hlt)
      have hck : wr.cell? ⟨b, off + k, none⟩ = some (.int .i64 (zs.getD k 0)) := (hbel.cell (by simpa using hbl)).trans (hc k hlt)
      have hps := partI_set zs k hlt
      generalize zs.getD k 0 = x at hck hps
      have hdst : ∃ u, wr.cell? ⟨w.heap.size, k, none⟩ = some u := by
        rw [hown.cellAt k (by omega)]; exact ⟨_, List.getElem?_eq_getElem (by have := hown.1; omega)⟩
      obtain ⟨u, hdst⟩ := hdst
      have hfz := hown.frozenAt k
      have hst := (hown.stored k (.int .i64 x)).1
      rw [hps] at hst
      have hb2 := hbel.setCell (p := ⟨w.heap.size, k, none⟩) (Nat.le_refl _) (.int .i64 x)
      replace hst := hide hst
      clear hown hps hc
      go_wp2
      go_roundw
      case rel => exact ⟨k + 1, by omega, by go_num, unhide hst, hb2⟩
      case measure => simp [intOf]; omega
    · have hkl : k = zs.length := by omega
      subst hkl
      rw [partI_all] at hown
      replace hown := hide (Own.of hown)
      go_wp2
      go_ret
      exact ⟨_, rfl, unhide hown, Upd.of_below hbel 0 0⟩

set_option maxHeartbeats 1000000 in
theorem eqIntS_rd (u v : Value) (zs : List Int) (w : World) (hn : zs.length ≤ 1048576) (hu : RdI w u zs) (hv : RdI w v zs) :
    Calls Tryd.prog 34 #[u, v] w fun e w' => e = .returned (.bool true) ∧ Upd 0 0 w w' := by
  obtain ⟨ad, cap, rfl, hA⟩ := hu
  obtain ⟨ad', cap', rfl, hA'⟩ := hv
  replace hA := hide hA
  replace hA' := hide hA'
  go_enter Tryd.func34, Tryd.ntmps34
  go_wp2
  go_loopw [5] (fun i wr => ∃ k : Nat, k ≤ zs.length ∧ i = .int .i64 k ∧ ∃ nq, wr = w.drewN nq) (fun i _ => zs.length - (intOf i).toNat)
  case atStart => exact ⟨0, Nat.zero_le _, rfl, 0, rfl⟩
  case round =>
    obtain ⟨k, hk, rfl, nq, rfl⟩ := hrel
    by_cases hlt : k < zs.length
    · obtain ⟨b, off, rfl, hbl, hc⟩ := (unhide hA) (ne_of_lt_length hlt)
      obtain ⟨b', off', rfl, hbl', hc'⟩ := (unhide hA') (ne_of_lt_length hlt)
      have hck := hc k hlt
      have hck' := hc' k hlt
      clear hc hc' hA hA'
      generalize zs.getD k 0 = x at hck hck'
      go_wp2
      go_quiet (fail)
      go_wp2
      go_roundw
      case rel => exact ⟨k + 1, by omega, by go_num, _, rfl⟩
      case measure => simp [intOf]; omega
    · have hkl : k = zs.length := by omega
      subst hkl
      go_wp2
      go_ret
      exact ⟨rfl, (Upd.refl 0 0 _).drewN _⟩

set_option maxHeartbeats 1000000 in
theorem markIntS_none (k : Nat) (w : World) : Calls Tryd.prog 37 #[.slice none 0 0, .int .i64 k] w fun e w' => e = .returned (.int .i64 (k : Int)) ∧ w' = w := by
  go_enter Tryd.func37, Tryd.ntmps37
  go_wp2
  go_loop [1, 5] (fun a i => a = .int .i64 k ∧ i = .int .i64 0) (fun _ _ => 0)
  case atStart => exact ⟨rfl, rfl⟩
  case round =>
    obtain ⟨rfl, rfl⟩ := hrel
    go_wp2
    go_ret
    exact ⟨rfl, rfl⟩

set_option maxHeartbeats 1000000 in
theorem markIntS_some (a g cap n k : Nat) (xs : List Value) (w : World) (hn : n ≤ 1048576) (hk : k ≤ 1099511627776) (h : w.ownsRow a 3 1 (.slice (some ⟨g, 0, none⟩) n cap) n xs) :
    Calls Tryd.prog 37 #[.slice (some ⟨g, 0, none⟩) n cap, .int .i64 k] w fun e w' => e = .returned (.int .i64 ((k + n : Nat) : Int)) ∧ w'.ownsRow a 3 1 (.slice (some ⟨g, 0, none⟩) n cap) n (ints (marks k n)) ∧ Upd g (g + 1) w w' := by
  have hxl : xs.length = n := by have := h.1; omega
  go_enter Tryd.func37, Tryd.ntmps37
  go_wp2
  go_loopw [1, 5] (fun c i wr => ∃ t : Nat, t ≤ n ∧ c = .int .i64 ((k + t : Nat) : Int) ∧ i = .int .i64 t ∧ wr.ownsRow a 3 1 (.slice (some ⟨g, 0, none⟩) n cap) n (partSet .i64 xs (marks k n) t) ∧ Upd g (g + 1) w wr) (fun _ i _ => n - (intOf i).toNat)
  case atStart => exact ⟨0, Nat.zero_le _, rfl, rfl, by rw [partSet_zero]; exact h, Upd.refl _ _ _⟩
  case round =>
    clear h
    obtain ⟨t, ht, rfl, rfl, hown, hupd⟩ := hrel
    have hlen : (partSet .i64 xs (marks k n) t).length = n := by rw [partSet_length _ _ _ _ (by simpa using ht) (by simpa using hxl)]; simp
    by_cases hlt : t < n
    · have hdst : wr.cell? ⟨g, t, none⟩ = some ((partSet .i64 xs (marks k n) t).getD t undef) := by
        rw [hown.cellAt t (by omega), List.getElem?_eq_getElem (by omega), List.getD_eq_getElem?_getD, List.getElem?_eq_getElem (by omega)]; rfl
      have hfz := hown.frozenAt t
      have hst := (hown.stored t (.int .i64 ((k + t : Nat) : Int))).1
      have hps := partSet_set .i64 xs (marks k n) t (by simpa using hlt) (by simpa using hxl)
      rw [marks_getD k n t hlt] at hps
      rw [hps] at hst
      generalize (partSet .i64 xs (marks k n) t).getD t undef = u at hdst
      have ho2 := hupd.setCell (r := g) ⟨Nat.le_refl _, by omega⟩ t (.int .i64 ((k + t : Nat) : Int))
      rw [show (((k + t : Nat) : Int)) = (k : Int) + (t : Int) by omega] at hst ho2
      replace hst := hide hst
      replace ho2 := hide ho2
      clear hown hupd hps hlen
      go_wp2
      go_roundw
      case rel => exact ⟨t + 1, by omega, by go_num, by go_num, unhide hst, unhide ho2⟩
      case measure => simp [intOf]; omega
    · have htn : t = n := by omega
      subst htn
      have hM : wr.ownsRow a 3 1 (.slice (some ⟨g, 0, none⟩) t cap) t (ints (marks k t)) := by
        have := partSet_all .i64 xs (marks k t) (by simpa using hxl)
        rw [marks_length] at this
        rw [this] at hown; exact hown
      replace hM := hide hM
      clear hown
      go_wp2
      go_ret
      exact ⟨rfl, unhide hM, hupd⟩
theorem markIntS_own (a b : Nat) (v : Value) (k : Nat) (zs : List Int) (w : World) (hn : zs.length ≤ 1048576) (hk : k ≤ 1099511627776) (h : OwnI w a b v zs) :
    Calls Tryd.prog 37 #[v, .int .i64 k] w fun e w' => e = .returned (.int .i64 ((k + zs.length : Nat) : Int)) ∧ OwnI w' a b v (marks k zs.length) ∧ Upd a b w w' := by
  rcases h.1.2 with ⟨rfl, h0⟩ | ⟨g, cap, cur, rfl, h1, h2, h3⟩
  · refine (markIntS_none k w).mono ?_
    rintro e w' ⟨rfl, rfl⟩
    rw [h0]
    exact ⟨rfl, ⟨World.ownsRow_nil _ _ _ _, fun k hk => by simp [Value.ownBlock] at hk⟩, Upd.refl _ _ _⟩
  · have hb := h.2 g rfl
    refine (markIntS_some a g cap zs.length k _ w hn hk h.1).mono ?_
    rintro e w' ⟨rfl, ho, hu⟩
    refine ⟨rfl, ⟨?_, h.2⟩, ⟨hu.os, hu.tape, hu.output, hu.size, fun i hi hn => hu.block i hi (by omega)⟩⟩
    rw [marks_length]; exact ho

set_option maxHeartbeats 1000000 in
theorem heldIntS_own (a b : Nat) (v : Value) (k n : Nat) (w : World) (hn : n ≤ 1048576) (hk : k ≤ 1099511627776) (h : OwnI w a b v (marks k n)) :
    Calls Tryd.prog 38 #[v, .int .i64 k] w fun e w' => e = .returned (.int .i64 ((k + n : Nat) : Int)) ∧ w' = w := by
  obtain ⟨ad, cap, rfl, hA⟩ := h.rd
  rw [marks_length]
  replace hA := hide hA
  clear h
  go_enter Tryd.func38, Tryd.ntmps38
  go_wp2
  go_loop [1, 5] (fun a i => ∃ t : Nat, t ≤ n ∧ a = .int .i64 ((k + t : Nat) : Int) ∧ i = .int .i64 t) (fun _ i => n - (intOf i).toNat)
  case atStart => exact ⟨0, Nat.zero_le _, rfl, rfl⟩
  case round =>
    obtain ⟨t, ht, rfl, rfl⟩ := hrel
    by_cases hlt : t < n
    · obtain ⟨b', off, rfl, hbl, hc⟩ := (unhide hA) (ne_of_lt_length (k := t) (by simpa using hlt))
      have hck := hc t (by simpa using hlt)
      rw [marks_getD k n t hlt, show (((k + t : Nat) : Int)) = (k : Int) + (t : Int) by omega] at hck
      clear hc hA
      go_wp2
      go_round
      case rel => exact ⟨t + 1, by omega, by go_num, by go_num⟩
      case measure => simp [intOf]; omega
    · have htn : t = n := by omega
      subst htn
      go_wp2
      go_ret
      exact ⟨rfl, rfl⟩
end Go.Proofs.YtpofmcepjmbmcaaDoor

/- Appending ints to a row of the call's own, whatever slice they come in. -/
namespace Go.Proofs.YtpofmcepjmbmcaaDoor
open Go.RowKit

theorem ints_lengthA (zs : List Int) : (ints zs).length = zs.length := by simp [ints]
theorem ints_append (a b : List Int) : ints (a ++ b) = ints a ++ ints b := by simp [ints]
theorem ints_one (zs : List Int) : ∀ u ∈ ints zs, u.oneCell' = true := by
  intro u hu
  simp only [ints, List.mem_map] at hu
  obtain ⟨b, _, rfl⟩ := hu
  rfl
theorem ints_cells {w : World} {b off : Nat} {ys : List Int} (h : KindAt .i64 w b off ys) : ∀ j u, (ints ys)[j]? = some u → w.cell? ((⟨b, off, none⟩ : Addr).add j) = some u := by
  intro j u hu
  rw [add_cellAI]
  have hj : j < ys.length := by
    rcases Nat.lt_or_ge j ys.length with h' | h'
    · exact h'
    · rw [List.getElem?_eq_none (by rw [ints_lengthA]; exact h')] at hu; cases hu
  have := getD_map_int ys .i64 j hj
  unfold ints at hu
  rw [this] at hu
  cases hu
  exact h j hj
where
  add_cellAI {g o j : Nat} : (⟨g, o, none⟩ : Addr).add j = ⟨g, o + j, none⟩ := by unfold Addr.add; split <;> simp_all

/-- Ints that can be read: nil, or in the cells of a block. -/
def RdJ (w : World) (u : Value) (ys : List Int) : Prop := (u = .slice none 0 0 ∧ ys = []) ∨ ∃ b off cap, u = .slice (some ⟨b, off, none⟩) ys.length cap ∧ b < w.heap.size ∧ KindAt .i64 w b off ys
theorem RdJ.below {w w' : World} {u : Value} {ys : List Int} (h : RdJ w u ys) (hb : Below w.heap.size w w') : RdJ w' u ys := by
  rcases h with h | ⟨b, off, cap, e, hl, hc⟩
  · exact .inl h
  · exact .inr ⟨b, off, cap, e, Nat.lt_of_lt_of_le hl hb.size, fun j hj => (hb.cell (by simpa using hl)).trans (hc j hj)⟩
theorem RdJ.form {w : World} {u : Value} {ys : List Int} (h : RdJ w u ys) : ∃ ad cap, u = .slice ad ys.length cap := by
  rcases h with ⟨rfl, rfl⟩ | ⟨b, off, cap, rfl, _⟩
  · exact ⟨_, _, rfl⟩
  · exact ⟨_, _, rfl⟩
theorem rdJ_of_owns {w : World} {base : Nat} {v : Value} {zs : List Int} (h : w.ownsRow base 3 1 v zs.length (ints zs)) : RdJ w v zs := by
  rcases h.2 with ⟨rfl, hn⟩ | ⟨g, cap, cur, rfl, h1, h2, h3⟩
  · exact .inl ⟨rfl, List.length_eq_zero_iff.1 hn⟩
  · refine .inr ⟨g, 0, cap, rfl, (h.lt g rfl).2, fun j hj => ?_⟩
    rw [Nat.zero_add, h.cellAt j (by omega)]
    exact getD_map_int zs .i64 j hj
theorem rdJ_of_own {w : World} {a b : Nat} {v : Value} {zs : List Int} (h : OwnI w a b v zs) : RdJ w v zs := rdJ_of_owns h.1

theorem wpList_appI {ops : Array Oper} {rest : List Oper} {o : Oper} {a : Act} {Q : Exit → Act → World → Prop} {w : World} (hgd : o.guard = none) (s x : Operand)
    (ho : o.op = .call { callee := .builtin .append, args := #[s, x], argTypes := #[23, 23] }) (base : Nat) (v : Value) (zs : List Int) (hs : a.eval s = v)
    (hown : w.ownsRow base 3 1 v zs.length (ints zs)) (u : Value) (ys : List Int) (hx : a.eval x = u) (hr : RdJ w u ys) (h63 : zs.length + ys.length ≤ 1099511627776) (hbase : base ≤ w.heap.size)
    (h : ∀ v' w', w'.ownsRow base 3 1 v' (zs ++ ys).length (ints (zs ++ ys)) → w.grownBy w' v.ownBlock → (v'.ownBlock = v.ownBlock ∨ v'.ownBlock = some w.heap.size) → wpList Tryd.prog ops Q rest (a.put o.dst v') w') :
    wpList Tryd.prog ops Q (o :: rest) a w := by
  obtain ⟨i0, hi0, hz0, hz1, hz2⟩ := info_parts infoI
  rcases hr with ⟨rfl, rfl⟩ | ⟨b, off, cap, rfl, hl, hc⟩
  · refine wpList_append_own_none hgd s x 23 ho base 3 i0 1 Tryd.underlying23 hi0 v _ _ hs hown hx ?_
    refine h v w ?_ ⟨rfl, rfl, rfl, Nat.le_refl _, fun _ _ _ => rfl⟩ (.inl rfl)
    rw [List.append_nil]; exact hown
  · refine wpList_append_own_at _ hgd s x 23 ho base 3 i0 (.int .i64 0) 1 8 Tryd.underlying23 hi0 hz0 hz1 hz2 rfl (by decide) v zs.length (ints zs) hs hown ⟨b, off, none⟩ ys.length cap (ints ys) hx (by rw [ints_lengthA]; omega) (ints_cells hc) (ints_one ys) (by unfold maxLen; omega) (by omega) hbase ?_
    intro v' w' h1 h2 _ h4
    refine h v' w' ?_ h2 h4
    rw [List.length_append, ints_append]; exact h1

theorem own_nilI (w : World) (a b : Nat) : OwnI w a b (.slice none 0 0) [] := ⟨World.ownsRow_nil _ _ _ _, fun k hk => by simp [Value.ownBlock] at hk⟩
theorem upd_of_grownI {w w' : World} {a : Nat} {e : TypeId} {s : Nat} {v : Value} {n : Nat} {xs : List Value} (hg : w.grownBy w' v.ownBlock) (ho : w.ownsRow a e s v n xs) : Upd a w.heap.size w w' :=
  ⟨hg.os, hg.tape, hg.output, hg.size, fun k hk hn => hg.block k hk (fun e => by have := ho.lt k e.symm; omega)⟩
end Go.Proofs.YtpofmcepjmbmcaaDoor

/- Cells of a block that may be written, known one by one. -/
namespace Go.Proofs.YtpofmcepjmbmcaaDoor
open Go.RowKit

def HeldF (w : World) (g : Nat) (cs : List Value) : Prop := Held w g cs ∧ ∀ j, w.frozen? ⟨g, j, none⟩ = false
theorem heldF_new (w : World) (cs : List Value) (t : TypeId) : HeldF (w.alloc (.cells cs.toArray t)) w.heap.size cs :=
  ⟨held_new w cs t, fun _ => World.frozen?_alloc_at _ _ _ _ rfl⟩
theorem HeldF.upd {w w' : World} {g c e : Nat} {cs : List Value} (h : HeldF w g cs) (u : Upd c e w w') (hd : g + 1 ≤ c ∨ e ≤ g) : HeldF w' g cs :=
  ⟨h.1.upd u hd, fun j => (World.frozen?_of_block (a := ⟨g, j, none⟩) (u.block g h.1.1 (by omega))).trans (h.2 j)⟩
theorem HeldF.keep {w w' : World} {g : Nat} {cs : List Value} (h : HeldF w g cs) (u : Upd 0 0 w w') : HeldF w' g cs := h.upd u (.inr (Nat.zero_le _))
theorem HeldF.other {w : World} {g : Nat} {cs : List Value} (h : HeldF w g cs) {g' : Nat} (hne : g' ≠ g) (o : Nat) (u : Value) : HeldF (w.setCell ⟨g', o, none⟩ u) g cs := by
  refine ⟨⟨by simpa using h.1.1, fun j v hj => ?_⟩, fun j => ?_⟩
  · rw [World.cell?_setCell_other _ _ _ _ (by simp_all; try omega)]; exact h.1.2 j v hj
  · rw [World.frozen?_setCell]; exact h.2 j
theorem HeldF.set {w : World} {g : Nat} {cs : List Value} (h : HeldF w g cs) (o : Nat) (u : Value) (ho : o < cs.length) : HeldF (w.setCell ⟨g, o, none⟩ u) g (cs.set o u) := by
  refine ⟨⟨by simpa using h.1.1, fun j v hj => ?_⟩, fun j => ?_⟩
  · by_cases e : o = j
    · subst e
      rw [List.getElem?_set_self ho] at hj
      cases hj
      exact World.cell?_setCell_same _ _ _ (h.1.2 o _ (List.getElem?_eq_getElem ho))
    · rw [List.getElem?_set_ne e] at hj
      rw [World.cell?_setCell_other _ _ _ _ (by simp_all; try omega)]; exact h.1.2 j v hj
  · rw [World.frozen?_setCell]; exact h.2 j
theorem Own.set' {e : TypeId} {s : Nat} {w : World} {a b : Nat} {v : Value} {n : Nat} {xs : List Value} (h : Own e s w a b v n xs) {c : Nat} (hc : c < a) (o : Nat) (u : Value) : Own e s (w.setCell ⟨c, o, none⟩ u) a b v n xs :=
  ⟨ownsRow_setCell_below h.1 hc u, h.2⟩
end Go.Proofs.YtpofmcepjmbmcaaDoor

/- The specification's ScanOrder. -/
namespace Go.Proofs.YtpofmcepjmbmcaaDoor
open Go.RowKit

end Go.Proofs.YtpofmcepjmbmcaaDoor

/- Plain: a number of some bits taken out of bytes, bit by bit and part by part, in either order. -/
namespace Go.Proofs.YtpofmcepjmbmcaaDoor
open Go.RowKit

def byteAt (zs : List Int) (i : Nat) : Nat := (zs.getD i 0).toNat
def bitLow (zs : List Int) (i : Nat) : Nat := byteAt zs (i / 8) / 2 ^ (i % 8) % 2
def bitHigh (zs : List Int) (i : Nat) : Nat := byteAt zs (i / 8) / 2 ^ (7 - i % 8) % 2
def lowTo (zs : List Int) (p : Nat) : Nat → Nat
  | 0 => 0
  | k + 1 => lowTo zs p k + bitLow zs (p + k) * 2 ^ k
def highTo (zs : List Int) (p : Nat) : Nat → Nat
  | 0 => 0
  | k + 1 => 2 * highTo zs p k + bitHigh zs (p + k)
theorem lowTo_lt (zs : List Int) (p k : Nat) : lowTo zs p k < 2 ^ k := by
  induction k with
  | zero => show 0 < 1; omega
  | succ k ih =>
    have hb : bitLow zs (p + k) ≤ 1 := by unfold bitLow; omega
    have := Nat.mul_le_mul_right (2 ^ k) hb
    show lowTo zs p k + bitLow zs (p + k) * 2 ^ k < 2 ^ (k + 1)
    rw [Nat.pow_succ]; omega
theorem highTo_lt (zs : List Int) (p k : Nat) : highTo zs p k < 2 ^ k := by
  induction k with
  | zero => show 0 < 1; omega
  | succ k ih =>
    have hb : bitHigh zs (p + k) ≤ 1 := by unfold bitHigh; omega
    show 2 * highTo zs p k + bitHigh zs (p + k) < 2 ^ (k + 1)
    rw [Nat.pow_succ]; omega
theorem mod_pow_step (x n : Nat) : x % 2 ^ (n + 1) = x % 2 ^ n + x / 2 ^ n % 2 * 2 ^ n := by
  rw [Nat.pow_succ, Nat.mod_mul, Nat.mul_comm (2 ^ n)]
theorem low_part (zs : List Int) (p d n : Nat) (h : (p + d) % 8 + n ≤ 8) :
    lowTo zs p (d + n) = lowTo zs p d + byteAt zs ((p + d) / 8) / 2 ^ ((p + d) % 8) % 2 ^ n * 2 ^ d := by
  induction n with
  | zero => simp [Nat.mod_one]
  | succ n ih =>
    show lowTo zs p (d + n) + bitLow zs (p + (d + n)) * 2 ^ (d + n) = _
    rw [ih (by omega), mod_pow_step, Nat.add_mul, Nat.add_assoc]
    congr 1
    unfold bitLow
    have e1 : (p + (d + n)) / 8 = (p + d) / 8 := by omega
    have e2 : (p + (d + n)) % 8 = (p + d) % 8 + n := by omega
    rw [e1, e2, Nat.pow_add, ← Nat.div_div_eq_div_mul]
    congr 1
    rw [Nat.mul_assoc, ← Nat.pow_add, Nat.add_comm n d]
theorem high_part (zs : List Int) (p d n : Nat) (h : (p + d) % 8 + n ≤ 8) :
    highTo zs p (d + n) = highTo zs p d * 2 ^ n + byteAt zs ((p + d) / 8) / 2 ^ (8 - (p + d) % 8 - n) % 2 ^ n := by
  induction n with
  | zero => simp [Nat.mod_one]
  | succ n ih =>
    show 2 * highTo zs p (d + n) + bitHigh zs (p + (d + n)) = _
    rw [ih (by omega)]
    unfold bitHigh
    have e1 : (p + (d + n)) / 8 = (p + d) / 8 := by omega
    have e2 : 7 - (p + (d + n)) % 8 = 8 - (p + d) % 8 - (n + 1) := by omega
    have e3 : 8 - (p + d) % 8 - n = (8 - (p + d) % 8 - (n + 1)) + 1 := by omega
    rw [e1, e2, e3, Nat.pow_succ 2 (8 - (p + d) % 8 - (n + 1)), ← Nat.div_div_eq_div_mul]
    generalize byteAt zs ((p + d) / 8) / 2 ^ (8 - (p + d) % 8 - (n + 1)) = y
    have e4 : y % 2 ^ (n + 1) = y % 2 + 2 * (y / 2 % 2 ^ n) := by
      rw [Nat.pow_succ, Nat.mul_comm, Nat.mod_mul]
    rw [e4, Nat.pow_succ]
    generalize highTo zs p d = a
    have : a * (2 ^ n * 2) = 2 * (a * 2 ^ n) := by rw [← Nat.mul_assoc, Nat.mul_comm]
    omega

theorem bit_of_u8 (x s : Nat) (hx : x < 256) : bits .and .u64 (IntKind.u64.wrap ((x : Int) / 2 ^ s)) 1 = ((x / 2 ^ s % 2 : Nat) : Int) := by
  have h := Nat.div_le_self x (2 ^ s)
  rw [show ((x : Int) / 2 ^ s) = ((x / 2 ^ s : Nat) : Int) by simp, IntKind.wrap_u64]
  generalize x / 2 ^ s = y at h ⊢
  rw [show ((y : Int) % 18446744073709551616) = (y : Int) by omega]
  go_bits2
theorem or_bit (v b k : Nat) (hv : v < 2 ^ k) (hb : b ≤ 1) (hk : k < 64) : bits .or .u64 (v : Int) (IntKind.u64.wrap ((b : Int) * 2 ^ k)) = ((v + b * 2 ^ k : Nat) : Int) := by
  have h1 : 2 ^ k ≤ 2 ^ 63 := Nat.pow_le_pow_right (by omega) (by omega)
  have h2 := Nat.mul_le_mul_right (2 ^ k) hb
  have e : IntKind.u64.wrap ((b : Int) * 2 ^ k) = ((b * 2 ^ k : Nat) : Int) := by
    rw [IntKind.wrap_u64, show ((b : Int) * 2 ^ k) = ((b * 2 ^ k : Nat) : Int) by simp]
    omega
  rw [e, u64_or_nat _ _ (by omega) (by omega), Nat.or_comm, nat_join k _ _ (Nat.mul_mod_left _ _) hv, Nat.add_comm]
theorem twice_bit (v b k : Nat) (hv : v < 2 ^ k) (hb : b ≤ 1) (hk : k < 64) : IntKind.u64.wrap (IntKind.u64.wrap ((v : Int) * 2) + (b : Int)) = ((2 * v + b : Nat) : Int) := by
  have h1 : 2 ^ k ≤ 2 ^ 63 := Nat.pow_le_pow_right (by omega) (by omega)
  rw [IntKind.wrap_u64, IntKind.wrap_u64]; omega
theorem mask_bits (v n : Nat) (hv : v < 18446744073709551616) (hn : n ≤ 63) : bits .and .u64 (v : Int) (IntKind.u64.wrap (IntKind.u64.wrap (2 ^ n) - 1)) = ((v % 2 ^ n : Nat) : Int) := by
  have h1 : 2 ^ n ≤ 2 ^ 63 := Nat.pow_le_pow_right (by omega) hn
  have h2 : 0 < 2 ^ n := Nat.pow_pos (by omega)
  have e : IntKind.u64.wrap (IntKind.u64.wrap (2 ^ n) - 1) = ((2 ^ n - 1 : Nat) : Int) := by
    rw [IntKind.wrap_u64, IntKind.wrap_u64, show ((2 : Int) ^ n) = ((2 ^ n : Nat) : Int) by simp]; omega
  rw [e, u64_and_nat _ _ hv (by omega), Nat.and_two_pow_sub_one_eq_mod]
theorem or_part (v c d m : Nat) (hv : v < 2 ^ d) (hc : c < 2 ^ m) (h : d + m ≤ 64) : bits .or .u64 (v : Int) (IntKind.u64.wrap ((c : Int) * 2 ^ d)) = ((v + c * 2 ^ d : Nat) : Int) := by
  have h1 : 2 ^ (d + m) ≤ 2 ^ 64 := Nat.pow_le_pow_right (by omega) h
  have h2 : (c + 1) * 2 ^ d ≤ 2 ^ m * 2 ^ d := Nat.mul_le_mul_right _ (by omega)
  rw [Nat.add_mul, Nat.one_mul, ← Nat.pow_add, Nat.add_comm m d] at h2
  have e : IntKind.u64.wrap ((c : Int) * 2 ^ d) = ((c * 2 ^ d : Nat) : Int) := by
    rw [IntKind.wrap_u64, show ((c : Int) * 2 ^ d) = ((c * 2 ^ d : Nat) : Int) by simp]
    omega
  rw [e, u64_or_nat _ _ (by omega) (by omega), Nat.or_comm, nat_join d _ _ (Nat.mul_mod_left _ _) hv, Nat.add_comm]
theorem part_or (v c d m : Nat) (hv : v < 2 ^ d) (hc : c < 2 ^ m) (h : d + m ≤ 64) : bits .or .u64 (IntKind.u64.wrap ((v : Int) * 2 ^ m)) (c : Int) = ((v * 2 ^ m + c : Nat) : Int) := by
  have h1 : 2 ^ (d + m) ≤ 2 ^ 64 := Nat.pow_le_pow_right (by omega) h
  have h2 : (v + 1) * 2 ^ m ≤ 2 ^ d * 2 ^ m := Nat.mul_le_mul_right _ (by omega)
  rw [Nat.add_mul, Nat.one_mul, ← Nat.pow_add] at h2
  have e : IntKind.u64.wrap ((v : Int) * 2 ^ m) = ((v * 2 ^ m : Nat) : Int) := by
    rw [IntKind.wrap_u64, show ((v : Int) * 2 ^ m) = ((v * 2 ^ m : Nat) : Int) by simp]
    omega
  rw [e, u64_or_nat _ _ (by omega) (by omega), nat_join m _ _ (Nat.mul_mod_left _ _) hc]
def goodAt (len : Nat) (p bits : Int) : Bool := decide (0 ≤ bits) && decide (bits ≤ 64) && decide (0 ≤ p) && decide (p ≤ 8 * len - bits)
end Go.Proofs.YtpofmcepjmbmcaaDoor

/- A byte string that came in, or that the call itself has copied: what the walks know of it. -/
namespace Go.Proofs.YtpofmcepjmbmcaaDoor
open Go.RowKit

/-- A byte string handed in: its bytes in range, and, where there are any, in the cells of an old block. -/
def ArgB (w : World) (ad : Option Addr) (zs : List Int) : Prop := InB zs ∧ (zs ≠ [] → ∃ b off, ad = some ⟨b, off, none⟩ ∧ b < w.heap.size ∧ BytesAt w b off zs)
/-- A byte string of the call's own: at the head of a block. -/
def OwnB (w : World) (g : Nat) (zs : List Int) : Prop := g < w.heap.size ∧ BytesAt w g 0 zs

theorem ArgB.below {w w' : World} {ad : Option Addr} {zs : List Int} (h : ArgB w ad zs) (hb : Below w.heap.size w w') : ArgB w' ad zs := by
  refine ⟨h.1, fun hne => ?_⟩
  obtain ⟨b, off, e, hl, hc⟩ := h.2 hne
  exact ⟨b, off, e, Nat.lt_of_lt_of_le hl hb.size, fun j hj => (hb.cell (by simpa using hl)).trans (hc j hj)⟩
theorem OwnB.below {w w' : World} {g : Nat} {zs : List Int} (h : OwnB w g zs) (hb : Below w.heap.size w w') : OwnB w' g zs :=
  ⟨Nat.lt_of_lt_of_le h.1 hb.size, fun j hj => (hb.cell (by simpa using h.1)).trans (h.2 j hj)⟩
theorem ownB_of_owns {w : World} {base g n cap : Nat} {zs : List Int} (hn : zs.length = n) (h : w.ownsRow base 5 1 (.slice (some ⟨g, 0, none⟩) n cap) n (zs.map (.int .u8))) : OwnB w g zs := by
  subst hn
  refine ⟨(h.lt g rfl).2, fun j hj => ?_⟩
  rw [Nat.zero_add, h.cellAt j (by omega)]
  exact getD_map_int zs .u8 j hj

end Go.Proofs.YtpofmcepjmbmcaaDoor

/- The walks of TakeLow and TakeHigh: the program's small parts. -/
namespace Go.Proofs.YtpofmcepjmbmcaaDoor
open Go.RowKit

/-- The reader in the variable at block r. -/
def ReaderAt (w : World) (r : Nat) (o : Int) (s : Value) (p : Int) : Prop := r < w.heap.size ∧ w.cell? ⟨r, 0, none⟩ = some (.int .i64 o) ∧ w.cell? ⟨r, 1, none⟩ = some s ∧ w.cell? ⟨r, 2, none⟩ = some (.int .i64 p)

/-- The world is as it was but for block r, and for what is new. -/
structure OnlyAt (r : Nat) (w w' : World) : Prop where
  os : w'.os = w.os
  tape : w'.tape = w.tape
  output : w'.output = w.output
  size : w.heap.size ≤ w'.heap.size
  block : ∀ k, k < w.heap.size → k ≠ r → w'.heap[k]? = w.heap[k]?
theorem OnlyAt.refl (r : Nat) (w : World) : OnlyAt r w w := ⟨rfl, rfl, rfl, Nat.le_refl _, fun _ _ _ => rfl⟩
theorem OnlyAt.trans {r : Nat} {a w w' : World} (h : OnlyAt r a w) (k : OnlyAt r w w') : OnlyAt r a w' :=
  ⟨k.os.trans h.os, k.tape.trans h.tape, k.output.trans h.output, Nat.le_trans h.size k.size, fun i hi hn => (k.block i (Nat.lt_of_lt_of_le hi h.size) hn).trans (h.block i hi hn)⟩
theorem OnlyAt.drewN {r : Nat} {a w : World} (h : OnlyAt r a w) (n : Nat) : OnlyAt r a (w.drewN n) := h.trans ⟨rfl, rfl, rfl, Nat.le_refl _, fun _ _ _ => rfl⟩
theorem OnlyAt.setCell {r : Nat} {a w : World} (h : OnlyAt r a w) (o : Nat) (u : Value) : OnlyAt r a (w.setCell ⟨r, o, none⟩ u) :=
  h.trans ⟨rfl, rfl, rfl, by simp, fun k _ hk => Below.heap_setCell w ⟨r, o, none⟩ u k hk⟩
theorem OnlyAt.cell {r : Nat} {w w' : World} (h : OnlyAt r w w') {p : Addr} (hp : p.block < w.heap.size) (hr : p.block ≠ r) : w'.cell? p = w.cell? p := World.cell?_of_block (h.block p.block hp hr)
theorem OnlyAt.frozen {r : Nat} {w w' : World} (h : OnlyAt r w w') {p : Addr} (hp : p.block < w.heap.size) (hr : p.block ≠ r) : w'.frozen? p = w.frozen? p := World.frozen?_of_block (h.block p.block hp hr)
theorem OnlyAt.below {r B : Nat} {w w' : World} (h : OnlyAt r w w') (hB : B ≤ r) (hs : B ≤ w.heap.size) : Below B w w' :=
  ⟨h.os, h.tape, h.output, h.size, fun k hk => h.block k (by omega) (by omega)⟩
theorem ReaderAt.drewN {w : World} {r : Nat} {o : Int} {s : Value} {p : Int} (h : ReaderAt w r o s p) (nq : Nat) : ReaderAt (w.drewN nq) r o s p := h
theorem ReaderAt.moved {w : World} {r : Nat} {o : Int} {s : Value} {p : Int} (h : ReaderAt w r o s p) (q : Int) : ReaderAt (w.setCell ⟨r, 2, none⟩ (.int .i64 q)) r o s q := by
  obtain ⟨h0, h1, h2, h3⟩ := h
  refine ⟨by simpa using h0, ?_, ?_, ?_⟩
  · rw [World.cell?_setCell_other _ _ _ _ (by simp)]; exact h1
  · rw [World.cell?_setCell_other _ _ _ _ (by simp)]; exact h2
  · exact World.cell?_setCell_same _ _ _ h3

end Go.Proofs.YtpofmcepjmbmcaaDoor

/- The walks of the cursor that draws numbers out of a byte string: each returns, in its range, and writes into its own variable alone. -/
namespace Go.Proofs.YtpofmcepjmbmcaaDoor
open Go.RowKit

def CurAt (w : World) (c : Nat) (ad : Option Addr) (cap : Nat) (zs : List Int) (p s : Int) : Prop :=
  c < w.heap.size ∧ w.cell? ⟨c, 0, none⟩ = some (.slice ad zs.length cap) ∧ w.cell? ⟨c, 1, none⟩ = some (.int .i64 p) ∧ w.cell? ⟨c, 2, none⟩ = some (.int .u64 s) ∧
  w.frozen? ⟨c, 1, none⟩ = false ∧ w.frozen? ⟨c, 2, none⟩ = false ∧ InB zs ∧ (zs ≠ [] → ∃ b off, ad = some ⟨b, off, none⟩ ∧ b < w.heap.size ∧ b ≠ c ∧ BytesAt w b off zs)

theorem CurAt.drewN {w : World} {c : Nat} {ad : Option Addr} {cap : Nat} {zs : List Int} {p s : Int} (h : CurAt w c ad cap zs p s) (n : Nat) : CurAt (w.drewN n) c ad cap zs p s := h
theorem CurAt.moved {w : World} {c : Nat} {ad : Option Addr} {cap : Nat} {zs : List Int} {p s : Int} (h : CurAt w c ad cap zs p s) (q : Int) : CurAt (w.setCell ⟨c, 1, none⟩ (.int .i64 q)) c ad cap zs q s := by
  obtain ⟨h0, h1, h2, h3, f1, f2, hz, hb⟩ := h
  refine ⟨by simpa using h0, ?_, World.cell?_setCell_same _ _ _ h2, ?_, (World.frozen?_setCell _ _ _ _).trans f1, (World.frozen?_setCell _ _ _ _).trans f2, hz, fun hne => ?_⟩
  · rw [World.cell?_setCell_other _ _ _ _ (by simp)]; exact h1
  · rw [World.cell?_setCell_other _ _ _ _ (by simp)]; exact h3
  · obtain ⟨b, off, e, hl, hbc, hB⟩ := hb hne
    refine ⟨b, off, e, by simpa using hl, hbc, fun j hj => ?_⟩
    rw [World.cell?_setCell_far _ _ _ _ (by simpa using fun h => hbc h.symm)]; exact hB j hj
theorem CurAt.seeded {w : World} {c : Nat} {ad : Option Addr} {cap : Nat} {zs : List Int} {p s : Int} (h : CurAt w c ad cap zs p s) (q : Int) : CurAt (w.setCell ⟨c, 2, none⟩ (.int .u64 q)) c ad cap zs p q := by
  obtain ⟨h0, h1, h2, h3, f1, f2, hz, hb⟩ := h
  refine ⟨by simpa using h0, ?_, ?_, World.cell?_setCell_same _ _ _ h3, (World.frozen?_setCell _ _ _ _).trans f1, (World.frozen?_setCell _ _ _ _).trans f2, hz, fun hne => ?_⟩
  · rw [World.cell?_setCell_other _ _ _ _ (by simp)]; exact h1
  · rw [World.cell?_setCell_other _ _ _ _ (by simp)]; exact h2
  · obtain ⟨b, off, e, hl, hbc, hB⟩ := hb hne
    refine ⟨b, off, e, by simpa using hl, hbc, fun j hj => ?_⟩
    rw [World.cell?_setCell_far _ _ _ _ (by simpa using fun h => hbc h.symm)]; exact hB j hj
theorem u64_wrap_bd (n : Int) : 0 ≤ IntKind.u64.wrap n ∧ IntKind.u64.wrap n < 18446744073709551616 := by rw [IntKind.wrap_u64]; omega
theorem and_255 (n : Int) (h0 : 0 ≤ n) (h1 : n < 18446744073709551616) : bits .and .u64 n 255 = n % 256 := by go_bits2

theorem seed_bd (n : Int) : 0 ≤ wrap64 (bits .and .u64 (IntKind.u64.wrap n / 1099511627776) 255) ∧ wrap64 (bits .and .u64 (IntKind.u64.wrap n / 1099511627776) 255) < 256 := by
  have h := u64_wrap_bd n
  rw [and_255 _ (by omega) (by omega)]
  unfold wrap64; omega
set_option maxHeartbeats 2000000 in
set_option maxRecDepth 100000 in
theorem curNext (c : Nat) (ad : Option Addr) (cap : Nat) (zs : List Int) (p s : Int) (w : World) (h : CurAt w c ad cap zs p s) (hp0 : 0 ≤ p) (hp1 : p ≤ 1099511627776) (hl : zs.length ≤ 1048576) :
    Calls Tryd.prog 84 #[.pointer (some ⟨c, 0, none⟩)] w fun e w' => ∃ x s', e = .returned (.int .i64 x) ∧ 0 ≤ x ∧ x < 256 ∧ 0 ≤ s' ∧ s' < 18446744073709551616 ∧ CurAt w' c ad cap zs (p + 1) s' ∧ OnlyAt c w w' := by
  have hh := hide h
  obtain ⟨_, c0, c1, c2, f1, f2, hz, hb⟩ := h
  by_cases hlt : p < zs.length
  · obtain ⟨q, rfl⟩ := Int.eq_ofNat_of_zero_le hp0
    obtain ⟨b, off, rfl, hbl, hbc, hB⟩ := hb (by rintro rfl; simp at hlt; omega)
    have hck := hB q (by omega)
    have hzq := hz q
    clear hz hb hB
    generalize zs.getD q 0 = x at hck hzq
    have hdl : decide ((q : Int) < (zs.length : Int)) = true := by simp; omega
    go_enter Tryd.func84, Tryd.ntmps84
    go_wp2_with fail
    go_quiet (fail)
    go_wp2_with fail
    go_quiet (fail)
    go_wp2_with fail
    go_quiet (fail)
    go_wp2
    go_ret
    refine ⟨x, _, rfl, hzq.1, hzq.2, ?_, ?_, ((((unhide hh).drewN _).moved _).seeded _).drewN _, ((((OnlyAt.refl _ _).drewN _).setCell _ _).setCell _ _).drewN _⟩
    · exact (u64_wrap_bd _).1
    · exact (u64_wrap_bd _).2
  · clear hb
    have hdl : decide ((p : Int) < (zs.length : Int)) = false := by simp; omega
    have hdl2 : decide ((p : Int) + 1 ≤ (zs.length : Int)) = false := by simp; omega
    go_enter Tryd.func84, Tryd.ntmps84
    go_wp2_with fail
    go_quiet (fail)
    go_wp2_with fail
    go_quiet (fail)
    go_wp2
    go_ret
    refine ⟨_, _, rfl, (seed_bd _).1, (seed_bd _).2, (u64_wrap_bd _).1, (u64_wrap_bd _).2, ((((unhide hh).drewN _).moved _).seeded _).drewN _, ((((OnlyAt.refl _ _).drewN _).setCell _ _).setCell _ _).drewN _⟩

/-- The cursor as the laws use it: somewhere in its bytes, at most so far. -/
def CurIn (w : World) (c : Nat) (ad : Option Addr) (cap : Nat) (zs : List Int) (m : Nat) : Prop :=
  ∃ p s : Int, CurAt w c ad cap zs p s ∧ 0 ≤ p ∧ p ≤ m ∧ 0 ≤ s ∧ s < 18446744073709551616
theorem curNextIn (c : Nat) (ad : Option Addr) (cap : Nat) (zs : List Int) (m : Nat) (w : World) (h : CurIn w c ad cap zs m) (hm : m ≤ 1099511627776) (hl : zs.length ≤ 1048576) :
    Calls Tryd.prog 84 #[.pointer (some ⟨c, 0, none⟩)] w fun e w' => ∃ x, e = .returned (.int .i64 x) ∧ 0 ≤ x ∧ x < 256 ∧ CurIn w' c ad cap zs (m + 1) ∧ OnlyAt c w w' := by
  obtain ⟨p, s, hc, h0, h1, _, _⟩ := h
  refine (curNext c ad cap zs p s w hc h0 (by omega) hl).mono ?_
  rintro e w' ⟨x, s', rfl, x0, x1, s0, s1, hc', ho⟩
  exact ⟨x, rfl, x0, x1, ⟨p + 1, s', hc', by omega, by omega, s0, s1⟩, ho⟩

set_option maxHeartbeats 1000000 in
theorem curPick (c : Nat) (ad : Option Addr) (cap : Nat) (zs : List Int) (m : Nat) (n : Int) (w : World) (h : CurIn w c ad cap zs m) (hm : m ≤ 1099511627776) (hl : zs.length ≤ 1048576) (hn : 1 < n) (hn2 : n ≤ 200) :
    Calls Tryd.prog 43 #[.pointer (some ⟨c, 0, none⟩), .int .i64 n] w fun e w' => ∃ x, e = .returned (.int .i64 x) ∧ 0 ≤ x ∧ x < n ∧ CurIn w' c ad cap zs (m + 1) ∧ OnlyAt c w w' := by
  have hN := hide (curNextIn c ad cap zs m w h hm hl)
  clear h
  go_enter Tryd.func43, Tryd.ntmps43
  go_wp2_with fail
  refine (unhide hN).mono ?_
  rintro e w1 ⟨x, rfl, x0, x1, hc, ho⟩
  clear hN
  go_wp2
  go_ret
  exact ⟨x % n, rfl, Int.emod_nonneg _ (by omega), Int.emod_lt_of_pos _ (by omega), hc, ho⟩

set_option maxHeartbeats 1000000 in
theorem curOne (c : Nat) (ad : Option Addr) (cap : Nat) (zs : List Int) (m : Nat) (n : Int) (w : World) (h : CurIn w c ad cap zs m) (hm : m ≤ 1099511627776) (hl : zs.length ≤ 1048576) (hn : 1 < n) (hn2 : n ≤ 200) :
    Calls Tryd.prog 82 #[.pointer (some ⟨c, 0, none⟩), .int .i64 n] w fun e w' => ∃ b, e = .returned (.bool b) ∧ CurIn w' c ad cap zs (m + 1) ∧ OnlyAt c w w' := by
  have hN := hide (curPick c ad cap zs m n w h hm hl hn hn2)
  clear h
  go_enter Tryd.func82, Tryd.ntmps82
  go_wp2_with fail
  refine (unhide hN).mono ?_
  rintro e w1 ⟨x, rfl, x0, x1, hc, ho⟩
  clear hN
  go_wp2
  all_goals go_ret
  all_goals exact ⟨_, rfl, hc, ho⟩

theorem curIn_new (w : World) (ad : Option Addr) (cap : Nat) (zs : List Int) (h : ArgB w ad zs) :
    CurIn (w.alloc (.cells #[.slice ad zs.length cap, .int .i64 0, .int .u64 0] 60)) w.heap.size ad cap zs 0 := by
  refine ⟨0, 0, ⟨by simp, ?_, ?_, ?_, World.frozen?_alloc_at _ _ _ _ rfl, World.frozen?_alloc_at _ _ _ _ rfl, h.1, fun hne => ?_⟩, by omega, by omega, by omega, by omega⟩
  · rw [World.cell?_alloc_at _ _ _ _ rfl]; rfl
  · rw [World.cell?_alloc_at _ _ _ _ rfl]; rfl
  · rw [World.cell?_alloc_at _ _ _ _ rfl]; rfl
  · obtain ⟨b, off, e, hl, hB⟩ := h.2 hne
    exact ⟨b, off, e, by simp; omega, by omega, fun j hj => by rw [World.cell?_alloc_past _ _ _ hl]; exact hB j hj⟩

end Go.Proofs.YtpofmcepjmbmcaaDoor

/- What a step that only lays new blocks keeps of a row of the call's own. -/
namespace Go.Proofs.YtpofmcepjmbmcaaDoor
open Go.RowKit

theorem ownsP_below {w w' : World} {base : Nat} {e : TypeId} {size n : Nat} {v : Value} {xs : List Value} (h : w.ownsRow base e size v n xs) (hb : Below w.heap.size w w') : w'.ownsRow base e size v n xs :=
  ((Own.of h).keep (Upd.of_below hb 0 0)).1
end Go.Proofs.YtpofmcepjmbmcaaDoor

/- The cursor that draws: a number below any bound, and lists of samples. -/
namespace Go.Proofs.YtpofmcepjmbmcaaDoor
open Go.RowKit

theorem CurIn.more {w : World} {c : Nat} {ad : Option Addr} {cap : Nat} {zs : List Int} {m m' : Nat} (h : CurIn w c ad cap zs m) (hm : m ≤ m') : CurIn w c ad cap zs m' := by
  obtain ⟨p, s, hc, h0, h1, h2, h3⟩ := h
  exact ⟨p, s, hc, h0, by omega, h2, h3⟩

set_option maxHeartbeats 2000000 in
/-- A number below n, whatever n is. -/
theorem curPickAny (c : Nat) (ad : Option Addr) (cap : Nat) (zs : List Int) (m : Nat) (n : Int) (w : World) (h : CurIn w c ad cap zs m) (hm : m ≤ 1099511627000) (hl : zs.length ≤ 1048576) (hn2 : n ≤ 1000000) :
    Calls Tryd.prog 43 #[.pointer (some ⟨c, 0, none⟩), .int .i64 n] w fun e w' => ∃ x, e = .returned (.int .i64 x) ∧ 0 ≤ x ∧ (1 ≤ n → x < n) ∧ CurIn w' c ad cap zs (m + 3) ∧ OnlyAt c w w' := by
  by_cases h1 : n ≤ 1
  · have hc := hide (h.more (show m ≤ m + 3 by omega))
    clear h
    go_enter Tryd.func43, Tryd.ntmps43
    go_wp2
    go_ret
    exact ⟨0, rfl, by omega, fun h => by omega, unhide hc, OnlyAt.refl _ _⟩
  · by_cases h2 : n ≤ 200
    · refine (curPick c ad cap zs m n w h (by omega) hl (by omega) h2).mono ?_
      rintro e w' ⟨x, rfl, x0, x1, hc, ho⟩
      exact ⟨x, rfl, x0, fun _ => x1, hc.more (by omega), ho⟩
    · have hN := hide (curNextIn c ad cap zs m w h (by omega) hl)
      clear h
      by_cases h3 : n ≤ 50000
      · go_enter Tryd.func43, Tryd.ntmps43
        go_wp2_with fail
        refine (unhide hN).mono ?_
        rintro e w1 ⟨x, rfl, x0, x1, hc, ho⟩
        clear hN
        have hN2 := hide (curNextIn c ad cap zs (m + 1) w1 hc (by omega) hl)
        clear hc
        go_wp2_with fail
        refine (unhide hN2).mono ?_
        rintro e w2 ⟨y, rfl, y0, y1, hc2, ho2⟩
        have hc3 := hide (hc2.more (show m + 1 + 1 ≤ m + 3 by omega))
        have ho3 := hide (ho.trans ho2)
        clear hN2 hc2 ho ho2
        go_wp2
        go_ret
        exact ⟨_, rfl, Int.emod_nonneg _ (by omega), fun _ => Int.emod_lt_of_pos _ (by omega), unhide hc3, unhide ho3⟩
      · go_enter Tryd.func43, Tryd.ntmps43
        go_wp2_with fail
        refine (unhide hN).mono ?_
        rintro e w1 ⟨x, rfl, x0, x1, hc, ho⟩
        clear hN
        have hN2 := hide (curNextIn c ad cap zs (m + 1) w1 hc (by omega) hl)
        clear hc
        go_wp2_with fail
        refine (unhide hN2).mono ?_
        rintro e w2 ⟨y, rfl, y0, y1, hc2, ho2⟩
        have hN3 := hide (curNextIn c ad cap zs (m + 1 + 1) w2 hc2 (by omega) hl)
        clear hN2 hc2
        go_wp2_with fail
        refine (unhide hN3).mono ?_
        rintro e w3 ⟨z, rfl, z0, z1, hc3, ho3⟩
        have hc4 := hide (hc3.more (show m + 1 + 1 + 1 ≤ m + 3 by omega))
        have ho4 := hide ((ho.trans ho2).trans ho3)
        clear hN3 hc3 ho ho2 ho3
        go_wp2
        go_ret
        exact ⟨_, rfl, Int.emod_nonneg _ (by omega), fun _ => Int.emod_lt_of_pos _ (by omega), unhide hc4, unhide ho4⟩

/-- All in 0 .. T - 1. -/
def InT (T : Int) (xs : List Int) : Prop := ∀ j, j < xs.length → 0 ≤ xs.getD j 0 ∧ xs.getD j 0 < T
theorem InT.set {T : Int} {xs : List Int} (h : InT T xs) {x : Int} (h0 : 0 ≤ x) (h1 : x < T) (k : Nat) : InT T (xs.set k x) := by
  intro j hj
  rw [List.length_set] at hj
  rw [List.getD_eq_getElem?_getD]
  by_cases e : k = j
  · subst e; rw [List.getElem?_set_self hj]; exact ⟨h0, h1⟩
  · rw [List.getElem?_set_ne e, ← List.getD_eq_getElem?_getD]; exact h j hj
theorem inT_zeros {T : Int} (hT : 0 < T) (n : Nat) : InT T (List.replicate n 0) := by
  intro j hj
  rw [List.getD_eq_getElem?_getD, List.getElem?_replicate]
  split <;> simp <;> omega
theorem ints_zeros (n : Nat) : ints (List.replicate n 0) = List.replicate n (.int .i64 0) := by unfold ints; simp
theorem ints_set (xs : List Int) (k : Nat) (x : Int) : (ints xs).set k (.int .i64 x) = ints (xs.set k x) := by unfold ints; rw [List.map_set]
theorem owns_onlyI {w w' : World} {base r g : Nat} {e : TypeId} {size n c : Nat} {xs : List Value} (h : w.ownsRow base e size (.slice (some ⟨g, 0, none⟩) n c) n xs) (hne : g ≠ r) (ho : OnlyAt r w w') : w'.ownsRow base e size (.slice (some ⟨g, 0, none⟩) n c) n xs := by
  refine ⟨h.1, ?_⟩
  rcases h.2 with hn | ⟨g', cap, cur, e', h1, h2, h3⟩
  · exact .inl hn
  · simp only [Value.slice.injEq, Option.some.injEq, Addr.mk.injEq, and_true, true_and] at e'
    obtain ⟨rfl, rfl⟩ := e'
    exact .inr ⟨g, c, cur, rfl, h1, by rw [ho.block g (h.lt g rfl).2 hne]; exact h2, h3⟩
/-- The cursor stays where new blocks come. -/
theorem CurIn.grown {w w' : World} {c : Nat} {ad : Option Addr} {cap : Nat} {zs : List Int} {m : Nat} (h : CurIn w c ad cap zs m) (hb : Below w.heap.size w w') : CurIn w' c ad cap zs m := by
  obtain ⟨p, s, ⟨h0, h1, h2, h3, f1, f2, hz, hbs⟩, r⟩ := h
  refine ⟨p, s, ⟨Nat.lt_of_lt_of_le h0 hb.size, (hb.cell (by simpa using h0)).trans h1, (hb.cell (by simpa using h0)).trans h2, (hb.cell (by simpa using h0)).trans h3, (hb.frozen (by simpa using h0)).trans f1, (hb.frozen (by simpa using h0)).trans f2, hz, fun hne => ?_⟩, r⟩
  obtain ⟨b, off, e, hl, hbc, hB⟩ := hbs hne
  exact ⟨b, off, e, Nat.lt_of_lt_of_le hl hb.size, hbc, fun j hj => (hb.cell (by simpa using hl)).trans (hB j hj)⟩
theorem CurIn.setFar {w : World} {c g o : Nat} {u : Value} {ad : Option Addr} {cap : Nat} {zs : List Int} {m : Nat} (h : CurIn w c ad cap zs m) (hg : g ≠ c) (hga : ∀ b off, ad = some ⟨b, off, none⟩ → zs ≠ [] → g ≠ b) : CurIn (w.setCell ⟨g, o, none⟩ u) c ad cap zs m := by
  obtain ⟨p, s, ⟨h0, h1, h2, h3, f1, f2, hz, hbs⟩, r⟩ := h
  refine ⟨p, s, ⟨by simpa using h0, ?_, ?_, ?_, (World.frozen?_setCell _ _ _ _).trans f1, (World.frozen?_setCell _ _ _ _).trans f2, hz, fun hne => ?_⟩, r⟩
  · rw [World.cell?_setCell_far _ _ _ _ (by simpa using hg)]; exact h1
  · rw [World.cell?_setCell_far _ _ _ _ (by simpa using hg)]; exact h2
  · rw [World.cell?_setCell_far _ _ _ _ (by simpa using hg)]; exact h3
  · obtain ⟨b, off, e, hl, hbc, hB⟩ := hbs hne
    exact ⟨b, off, e, by simpa using hl, hbc, fun j hj => by rw [World.cell?_setCell_far _ _ _ _ (by simpa using hga b off e hne)]; exact hB j hj⟩
end Go.Proofs.YtpofmcepjmbmcaaDoor

/- Triples as arguments and answers; the walks of the laws' own helpers on them. -/
namespace Go.Proofs.YtpofmcepjmbmcaaDoor
open Go.RowKit

abbrev Tr := Int × Int × Int
abbrev Trv (d : Tr) : Value := .agg #[.int .i64 d.1, .int .i64 d.2.1, .int .i64 d.2.2]
def RdTr (_w : World) (v : Value) (d : Tr) : Prop := v = Trv d 
def OwnTr (_w : World) (_a _b : Nat) (v : Value) (d : Tr) : Prop := v = Trv d
theorem OwnTr.rd {w : World} {a b : Nat} {v : Value} {d : Tr} (h : OwnTr w a b v d) : RdTr w v d := by
  exact h
theorem RdTr.below {w w' : World} {v : Value} {d : Tr} (h : RdTr w v d) (_hb : Below w.heap.size w w') : RdTr w' v d := by
  exact h
theorem OwnTr.upd {w w' : World} {a b c e : Nat} {v : Value} {d : Tr} (h : OwnTr w a b v d) (_u : Upd c e w w') (_hd : b ≤ c ∨ e ≤ a) : OwnTr w' a b v d := by
  exact h
theorem OwnTr.keep {w w' : World} {a b : Nat} {v : Value} {d : Tr} (h : OwnTr w a b v d) (u : Upd 0 0 w w') : OwnTr w' a b v d := h.upd u (.inr (Nat.zero_le _))
theorem OwnTr.form {w : World} {a b : Nat} {v : Value} {d : Tr} (h : OwnTr w a b v d) : v = Trv d := h
/-- All numbers fit. -/
def InTr (d : Tr) : Prop := (-9223372036854775808 ≤ d.1 ∧ d.1 ≤ 9223372036854775807) ∧ (-9223372036854775808 ≤ d.2.1 ∧ d.2.1 ≤ 9223372036854775807) ∧ (-9223372036854775808 ≤ d.2.2 ∧ d.2.2 ≤ 9223372036854775807)
def TrSize (_d : Tr) : Nat := 0
def TrCount (_d : Tr) : Nat := 0
def TrMarked (_k : Nat) (d : Tr) : Tr := d

end Go.Proofs.YtpofmcepjmbmcaaDoor

/- The drawing of colours. -/
namespace Go.Proofs.YtpofmcepjmbmcaaDoor
open Go.RowKit

theorem HeldF.only {w w' : World} {g r : Nat} {cs : List Value} (h : HeldF w g cs) (o : OnlyAt r w w') (hne : g ≠ r) : HeldF w' g cs :=
  ⟨⟨Nat.lt_of_lt_of_le h.1.1 o.size, fun j v hj => (o.cell (p := ⟨g, j, none⟩) h.1.1 hne).trans (h.1.2 j v hj)⟩, fun j => (o.frozen (p := ⟨g, j, none⟩) h.1.1 hne).trans (h.2 j)⟩
theorem OnlyAt.past {c g : Nat} {w w' : World} (h : OnlyAt c w w') (hg : w.heap.size ≤ g) {k : Nat} {u : Value} : OnlyAt c w (w'.setCell ⟨g, k, none⟩ u) :=
  ⟨h.os, h.tape, h.output, by simpa using h.size, fun j hj hjc => (Below.heap_setCell w' ⟨g, k, none⟩ u j (by simp; omega)).trans (h.block j hj hjc)⟩
end Go.Proofs.YtpofmcepjmbmcaaDoor

/- The drawing of a block. -/
namespace Go.Proofs.YtpofmcepjmbmcaaDoor
open Go.RowKit

theorem InR.set {lo hi : Int} {xs : List Int} (h : InR lo hi xs) {x : Int} (h0 : lo ≤ x ∧ x ≤ hi) (k : Nat) : InR lo hi (xs.set k x) := by
  intro j hj
  rw [List.length_set] at hj
  rw [List.getD_eq_getElem?_getD]
  by_cases e : k = j
  · subst e; rw [List.getElem?_set_self hj]; exact h0
  · rw [List.getElem?_set_ne e, ← List.getD_eq_getElem?_getD]; exact h j hj
theorem inR_zeros (lo hi : Int) (h : lo ≤ 0 ∧ 0 ≤ hi) (n : Nat) : InR lo hi (List.replicate n 0) := by
  intro j hj
  rw [List.getD_eq_getElem?_getD, List.getElem?_replicate]
  split <;> simp <;> omega
theorem OnlyAt.of_below {c : Nat} {w w' : World} (h : Below w.heap.size w w') : OnlyAt c w w' := ⟨h.os, h.tape, h.output, h.size, fun k hk _ => h.block k hk⟩
/-- What stands while 64 numbers are drawn into a row of the call's own. -/
structure DrSt (w wr : World) (c : Nat) (ad : Option Addr) (cap : Nat) (zs : List Int) (m : Nat) (xs : List Int) : Prop where
  len : xs.length = 64
  own : wr.ownsRow w.heap.size 3 1 (.slice (some ⟨w.heap.size, 0, none⟩) 64 64) 64 (ints xs)
  cur : CurIn wr c ad cap zs m
  only : OnlyAt c w wr
  cw : c < w.heap.size
  far : ∀ b' off, ad = some ⟨b', off, none⟩ → zs ≠ [] → b' < w.heap.size
theorem DrSt.pick {w wr wx : World} {c : Nat} {ad : Option Addr} {cap : Nat} {zs : List Int} {m m' : Nat} {xs : List Int} (h : DrSt w wr c ad cap zs m xs) (hc : CurIn wx c ad cap zs m') (ho : OnlyAt c wr wx) : DrSt w wx c ad cap zs m' xs :=
  ⟨h.len, owns_onlyI h.own (by have := h.cw; omega) ho, hc, h.only.trans ho, h.cw, h.far⟩
theorem DrSt.grown {w wr wx : World} {c : Nat} {ad : Option Addr} {cap : Nat} {zs : List Int} {m : Nat} {xs : List Int} (h : DrSt w wr c ad cap zs m xs) (hb : Below wr.heap.size wr wx) : DrSt w wx c ad cap zs m xs :=
  ⟨h.len, owns_onlyI h.own (show w.heap.size ≠ c by have := h.cw; omega) (OnlyAt.of_below hb), h.cur.grown hb, h.only.trans (OnlyAt.of_below hb), h.cw, h.far⟩
theorem DrSt.put {w wr : World} {c : Nat} {ad : Option Addr} {cap : Nat} {zs : List Int} {m : Nat} {xs : List Int} (h : DrSt w wr c ad cap zs m xs) (k : Nat) (x : Int) : DrSt w (wr.setCell ⟨w.heap.size, k, none⟩ (.int .i64 x)) c ad cap zs m (xs.set k x) :=
  ⟨by rw [List.length_set]; exact h.len, by have := (h.own.stored k (.int .i64 x)).1; rw [ints_set] at this; exact this,
    h.cur.setFar (by have := h.cw; omega) (fun b' off e hne => by have := h.far b' off e hne; omega), h.only.past (Nat.le_refl _), h.cw, h.far⟩
theorem DrSt.more {w wr : World} {c : Nat} {ad : Option Addr} {cap : Nat} {zs : List Int} {m m' : Nat} {xs : List Int} (h : DrSt w wr c ad cap zs m xs) (hm : m ≤ m') : DrSt w wr c ad cap zs m' xs :=
  ⟨h.len, h.own, h.cur.more hm, h.only, h.cw, h.far⟩
theorem DrSt.at {w wr : World} {c : Nat} {ad : Option Addr} {cap : Nat} {zs : List Int} {m : Nat} {xs : List Int} (h : DrSt w wr c ad cap zs m xs) {k : Nat} (hk : k < 64) : (∃ u, wr.cell? ⟨w.heap.size, k, none⟩ = some u) ∧ wr.frozen? ⟨w.heap.size, k, none⟩ = false :=
  ⟨by rw [h.own.cellAt k (by omega)]; exact ⟨_, List.getElem?_eq_getElem (by have := h.own.1; omega)⟩, h.own.frozenAt k⟩

end Go.Proofs.YtpofmcepjmbmcaaDoor

/- The drawing of blocks, good or not. -/
namespace Go.Proofs.YtpofmcepjmbmcaaDoor
open Go.RowKit

theorem own_atC {e : TypeId} {s : Nat} {w : World} {a b : Nat} {v : Value} {n : Nat} {xs : List Value} (h : Own e s w a b v n xs) (hn : 0 < n) : ∃ g cp, v = .slice (some ⟨g, 0, none⟩) n cp ∧ (a ≤ g ∧ g < b) ∧ n ≤ cp ∧ cp ≤ maxLen := by
  rcases h.1.2 with ⟨_, h0⟩ | ⟨g, cp, cur, e, h1, h2, h3, h4, _⟩
  · omega
  · exact ⟨g, cp, e, ⟨h1, h.2 g (by rw [e]; rfl)⟩, h3, h4⟩
theorem Own.onlyD {e : TypeId} {s : Nat} {w w' : World} {a b c : Nat} {v : Value} {n : Nat} {xs : List Value} (h : Own e s w a b v n xs) (hc : c < a) (o : OnlyAt c w w') : Own e s w' a b v n xs := by
  refine ⟨⟨h.1.1, ?_⟩, h.2⟩
  rcases h.1.2 with hn | ⟨g, cap, cur, rfl, h1, h2, h3⟩
  · exact .inl hn
  · exact .inr ⟨g, cap, cur, rfl, h1, by rw [o.block g (h.1.lt g rfl).2 (by omega)]; exact h2, h3⟩
theorem InR.wide {lo hi lo' hi' : Int} {xs : List Int} (h : InR lo hi xs) (hl : lo' ≤ lo) (hh : hi ≤ hi') : InR lo' hi' xs := fun j hj => by have := h j hj; omega
theorem InR.drop {lo hi : Int} {xs : List Int} (h : InR lo hi xs) (k : Nat) : InR lo hi (xs.drop k) := by
  intro j hj
  rw [List.length_drop] at hj
  have e : (xs.drop k).getD j 0 = xs.getD (k + j) 0 := by
    rw [List.getD_eq_getElem?_getD, List.getElem?_drop, ← List.getD_eq_getElem?_getD]
  rw [e]; exact h _ (by omega)
theorem rd_drop1 {w : World} {g cp : Nat} {xs : List Int} {a b : Nat} (h : OwnI w a b (.slice (some ⟨g, 0, none⟩) xs.length cp) xs) (hn : xs.length = 64) : RdI w (.slice (some ⟨g, 1, none⟩) 63 (cp - 1)) (xs.drop 1) := by
  have hl : (xs.drop 1).length = 63 := by rw [List.length_drop]; omega
  refine ⟨some ⟨g, 1, none⟩, cp - 1, by rw [hl], fun _ => ⟨g, 1, rfl, (h.1.lt g rfl).2, fun j hj => ?_⟩⟩
  rw [hl] at hj
  rw [h.1.cellAt (1 + j) (by omega)]
  have e : (xs.drop 1).getD j 0 = xs.getD (1 + j) 0 := by
    rw [List.getD_eq_getElem?_getD, List.getElem?_drop, ← List.getD_eq_getElem?_getD]
  rw [e]
  exact getD_map_int xs .i64 (1 + j) (by omega)
theorem rd_of_own {w : World} {a b : Nat} {v : Value} {xs : List Int} (h : OwnI w a b v xs) : RdI w v xs := by
  obtain ⟨ad, cap, e, hA⟩ := readK_of_own h
  exact ⟨ad, cap, e, hA⟩

end Go.Proofs.YtpofmcepjmbmcaaDoor

/- The drawing of small blocks, good or not. -/
namespace Go.Proofs.YtpofmcepjmbmcaaDoor
open Go.RowKit

theorem rd_drop16 {w : World} {g cp : Nat} {xs : List Int} {a b : Nat} (h : OwnI w a b (.slice (some ⟨g, 0, none⟩) xs.length cp) xs) (hn : xs.length = 16) : RdI w (.slice (some ⟨g, 1, none⟩) 15 (cp - 1)) (xs.drop 1) := by
  have hl : (xs.drop 1).length = 15 := by rw [List.length_drop]; omega
  refine ⟨some ⟨g, 1, none⟩, cp - 1, by rw [hl], fun _ => ⟨g, 1, rfl, (h.1.lt g rfl).2, fun j hj => ?_⟩⟩
  rw [hl] at hj
  rw [h.1.cellAt (1 + j) (by omega)]
  have e : (xs.drop 1).getD j 0 = xs.getD (1 + j) 0 := by
    rw [List.getD_eq_getElem?_getD, List.getElem?_drop, ← List.getD_eq_getElem?_getD]
  rw [e]
  exact getD_map_int xs .i64 (1 + j) (by omega)
/-- What stands while 16 numbers are drawn into a row of the call's own. -/
structure DrS (w wr : World) (c : Nat) (ad : Option Addr) (cap : Nat) (zs : List Int) (m : Nat) (xs : List Int) : Prop where
  len : xs.length = 16
  own : wr.ownsRow w.heap.size 3 1 (.slice (some ⟨w.heap.size, 0, none⟩) 16 16) 16 (ints xs)
  cur : CurIn wr c ad cap zs m
  only : OnlyAt c w wr
  cw : c < w.heap.size
  far : ∀ b' off, ad = some ⟨b', off, none⟩ → zs ≠ [] → b' < w.heap.size
theorem DrS.pick {w wr wx : World} {c : Nat} {ad : Option Addr} {cap : Nat} {zs : List Int} {m m' : Nat} {xs : List Int} (h : DrS w wr c ad cap zs m xs) (hc : CurIn wx c ad cap zs m') (ho : OnlyAt c wr wx) : DrS w wx c ad cap zs m' xs :=
  ⟨h.len, owns_onlyI h.own (by have := h.cw; omega) ho, hc, h.only.trans ho, h.cw, h.far⟩
theorem DrS.grown {w wr wx : World} {c : Nat} {ad : Option Addr} {cap : Nat} {zs : List Int} {m : Nat} {xs : List Int} (h : DrS w wr c ad cap zs m xs) (hb : Below wr.heap.size wr wx) : DrS w wx c ad cap zs m xs :=
  ⟨h.len, owns_onlyI h.own (show w.heap.size ≠ c by have := h.cw; omega) (OnlyAt.of_below hb), h.cur.grown hb, h.only.trans (OnlyAt.of_below hb), h.cw, h.far⟩
theorem DrS.put {w wr : World} {c : Nat} {ad : Option Addr} {cap : Nat} {zs : List Int} {m : Nat} {xs : List Int} (h : DrS w wr c ad cap zs m xs) (k : Nat) (x : Int) : DrS w (wr.setCell ⟨w.heap.size, k, none⟩ (.int .i64 x)) c ad cap zs m (xs.set k x) :=
  ⟨by rw [List.length_set]; exact h.len, by have := (h.own.stored k (.int .i64 x)).1; rw [ints_set] at this; exact this,
    h.cur.setFar (by have := h.cw; omega) (fun b' off e hne => by have := h.far b' off e hne; omega), h.only.past (Nat.le_refl _), h.cw, h.far⟩
theorem DrS.more {w wr : World} {c : Nat} {ad : Option Addr} {cap : Nat} {zs : List Int} {m m' : Nat} {xs : List Int} (h : DrS w wr c ad cap zs m xs) (hm : m ≤ m') : DrS w wr c ad cap zs m' xs :=
  ⟨h.len, h.own, h.cur.more hm, h.only, h.cw, h.far⟩
theorem DrS.at {w wr : World} {c : Nat} {ad : Option Addr} {cap : Nat} {zs : List Int} {m : Nat} {xs : List Int} (h : DrS w wr c ad cap zs m xs) {k : Nat} (hk : k < 16) : (∃ u, wr.cell? ⟨w.heap.size, k, none⟩ = some u) ∧ wr.frozen? ⟨w.heap.size, k, none⟩ = false :=
  ⟨by rw [h.own.cellAt k (by omega)]; exact ⟨_, List.getElem?_eq_getElem (by have := h.own.1; omega)⟩, h.own.frozenAt k⟩

set_option maxHeartbeats 16000000 in
set_option maxRecDepth 100000 in
theorem specL13Drawn (ad : Option Addr) (cap : Nat) (zs : List Int) (w : World) (h : ArgB w ad zs) (hl : zs.length ≤ 1048576) :
    Calls Tryd.prog 99 #[.slice ad zs.length cap] w fun e w' => ∃ v xs, e = .returned v ∧ (xs.length = 16 ∨ xs.length = 15) ∧ InR (-65537) 65536 xs ∧ RdI w' v xs ∧ Below w.heap.size w w' := by
  obtain ⟨i0, hi, hz0, hz1, hz2⟩ := info_parts infoI
  have hadl : ∀ b' off, ad = some ⟨b', off, none⟩ → zs ≠ [] → b' < w.heap.size := fun b' off e hne => by
    obtain ⟨b2, off2, e2, hl2, _⟩ := h.2 hne
    rw [e] at e2
    simp only [Option.some.injEq, Addr.mk.injEq, and_true] at e2
    omega
  replace hadl := hide hadl
  have hB0 := (Below.refl w.heap.size w).alloc (Nat.le_refl _) (.cells #[.slice ad zs.length cap, .int .i64 0, .int .u64 0] 60)
  have hc0 := hide (curIn_new _ ad cap zs h)
  have hs0 : (w.alloc (.cells #[.slice ad zs.length cap, .int .i64 0, .int .u64 0] 60)).heap.size = w.heap.size + 1 := by simp
  have hpick := hide (fun (m' : Nat) (n : Int) (W : World) (hc : CurIn W w.heap.size ad cap zs m') (h1 : m' ≤ 1099511627000) (h2 : n ≤ 1000000) => curPickAny w.heap.size ad cap zs m' n W hc h1 hl h2)
  replace hB0 := hide hB0
  replace hs0 := hide hs0
  clear h
  go_enter Tryd.func99, Tryd.ntmps99
  go_upto_region 2 with fail
  generalize w.alloc (.cells #[.slice ad zs.length cap, .int .i64 0, .int .u64 0] 60) = w0 at hc0 hB0 hs0 ⊢
  go_wp2_with (at_make; refine wpList_make_full _ rfl _ _ 23 rfl w0.heap.size 3 i0 (.int .i64 0) 1 Tryd.underlying23 hi hz0 hz1 .i64 .i64 _ _ 16 rfl rfl (by omega) (by omega) (by rw [hz2]; omega) (by unfold maxLen; omega) (Nat.le_refl _) ?_; intro w1 hown hgrow)
  have hbel := (Below.refl w0.heap.size w0).grown hgrow (Nat.le_refl _) (by simp)
  have hD : DrS w0 w1 w.heap.size ad cap zs 0 (List.replicate 16 0) := ⟨by simp, by rw [ints_zeros]; simpa [toList_madeCells_one, Value.cells] using hown, (unhide hc0).grown hbel, OnlyAt.of_below hbel, by have := unhide hs0; omega, fun b' off e hne => by have := unhide hadl b' off e hne; have := unhide hs0; omega⟩
  replace hD := hide hD
  clear hown hgrow hbel hc0 hadl
  go_wp2_with fail
  refine (unhide hpick 0 4 w1 (unhide hD).cur (by omega) (by omega)).mono ?_
  rintro e wq ⟨kd, rfl, kd0, kd1, hcq, hoq⟩
  replace kd1 := kd1 (by omega)
  replace hD := hide ((unhide hD).pick hcq hoq)
  clear hcq hoq
  go_wp2_with fail
  go_loopw [15] (fun i wr => ∃ k : Nat, ∃ xs : List Int, k ≤ 16 ∧ i = .int .i64 k ∧ Hid (InR (-65536) 65535 xs) ∧ Hid (DrS w0 wr w.heap.size ad cap zs (3 + 4 * k) xs)) (fun i _ => 16 - (intOf i).toNat)
  case atStart => exact ⟨0, List.replicate 16 0, Nat.zero_le _, rfl, inR_zeros _ _ (by omega) 16, hide ((unhide hD).more (by omega))⟩
  case round =>
    clear hD
    obtain ⟨k, xs, hk, rfl, hR, hD⟩ := hrel
    by_cases hlt : k < 16
    · have hlt2 : (k : Int) < 16 := by omega
      rcases (show kd = 0 ∨ kd = 1 ∨ kd = 2 ∨ kd = 3 by omega) with e | e | e | e
      · subst e
        go_wp2_with fail
        refine (unhide hpick (3 + 4 * k) 511 wr (unhide hD).cur (by omega) (by omega)).mono ?_
        rintro e wq ⟨pk, rfl, pk0, pk1, hcq, hoq⟩
        replace pk1 := pk1 (by omega)
        replace hD := hide ((unhide hD).pick hcq hoq)
        clear hcq hoq
        obtain ⟨⟨uu, hdst⟩, hfz⟩ := (unhide hD).at hlt
        have hst := hide ((unhide hD).put k (pk - 255))
        have hir := hide ((unhide hR).set (x := pk - 255) (by omega) k)
        clear hD
        go_wp2
        go_roundw
        case rel => exact ⟨k + 1, _, by omega, by go_num, hir, hide ((unhide hst).more (by omega))⟩
        case measure => simp [intOf]; omega
      · subst e
        go_wp2_with fail
        refine (unhide hpick (3 + 4 * k) 7 wr (unhide hD).cur (by omega) (by omega)).mono ?_
        rintro e wq ⟨pk, rfl, pk0, pk1, hcq, hoq⟩
        replace pk1 := pk1 (by omega)
        replace hD := hide ((unhide hD).pick hcq hoq)
        clear hcq hoq
        obtain ⟨⟨uu, hdst⟩, hfz⟩ := (unhide hD).at hlt
        have hst := hide ((unhide hD).put k (pk - 3))
        have hir := hide ((unhide hR).set (x := pk - 3) (by omega) k)
        clear hD
        go_wp2
        go_roundw
        case rel => exact ⟨k + 1, _, by omega, by go_num, hir, hide ((unhide hst).more (by omega))⟩
        case measure => simp [intOf]; omega
      · subst e
        have hB := (Below.refl wr.heap.size wr).alloc (Nat.le_refl _) (.cells #[.int .i64 (-65536), .int .i64 65535] 3)
        have hc := hide (heldF_new wr [.int .i64 (-65536), .int .i64 65535] 3)
        have hne : wr.heap.size ≠ w.heap.size := by have := (unhide hD).cur; obtain ⟨_, _, ⟨h0, _⟩, _⟩ := this; omega
        replace hD := hide ((unhide hD).grown hB)
        clear hB
        go_wp2_with fail
        refine (unhide hpick (3 + 4 * k) 2 _ (unhide hD).cur (by omega) (by omega)).mono ?_
        rintro e wq ⟨pk, rfl, pk0, pk1, hcq, hoq⟩
        replace pk1 := pk1 (by omega)
        replace hD := hide ((unhide hD).pick hcq hoq)
        replace hc := hide ((unhide hc).only hoq hne)
        clear hcq hoq
        rcases (show pk = 0 ∨ pk = 1 by omega) with e | e
        · subst e
          have k0 := (unhide hc).1.2 0 _ rfl
          obtain ⟨⟨uu, hdst⟩, hfz⟩ := (unhide hD).at hlt
          have hst := hide ((unhide hD).put k (-65536))
          have hir := hide ((unhide hR).set (x := -65536) (by omega) k)
          clear hD
          go_wp2
          go_roundw
          case rel => exact ⟨k + 1, _, by omega, by go_num, hir, hide ((unhide hst).more (by omega))⟩
          case measure => simp [intOf]; omega
        · subst e
          have k0 := (unhide hc).1.2 1 _ rfl
          obtain ⟨⟨uu, hdst⟩, hfz⟩ := (unhide hD).at hlt
          have hst := hide ((unhide hD).put k (65535))
          have hir := hide ((unhide hR).set (x := 65535) (by omega) k)
          clear hD
          go_wp2
          go_roundw
          case rel => exact ⟨k + 1, _, by omega, by go_num, hir, hide ((unhide hst).more (by omega))⟩
          case measure => simp [intOf]; omega
      · subst e
        go_wp2_with fail
        refine (unhide hpick (3 + 4 * k) 9000 wr (unhide hD).cur (by omega) (by omega)).mono ?_
        rintro e wq ⟨pk, rfl, pk0, pk1, hcq, hoq⟩
        replace pk1 := pk1 (by omega)
        replace hD := hide ((unhide hD).pick hcq hoq)
        clear hcq hoq
        obtain ⟨⟨uu, hdst⟩, hfz⟩ := (unhide hD).at hlt
        have hst := hide ((unhide hD).put k (pk - 4500))
        have hir := hide ((unhide hR).set (x := pk - 4500) (by omega) k)
        clear hD
        go_wp2
        go_roundw
        case rel => exact ⟨k + 1, _, by omega, by go_num, hir, hide ((unhide hst).more (by omega))⟩
        case measure => simp [intOf]; omega
    · have hkl : k = 16 := by omega
      subst hkl
      have hxl := (unhide hD).len
      have hO : Hid (OwnI wr (w.heap.size + 1) wr.heap.size (.slice (some ⟨w0.heap.size, 0, none⟩) xs.length 16) xs) := hide (by
        have h := Own.of (unhide hD).own
        rw [unhide hs0] at h ⊢
        unfold OwnI
        rw [hxl]
        exact h)
      replace hs0 := unhide hs0
      have hc1 := hide (unhide hD).cur
      replace hB0 := hide ((unhide hB0).trans ((unhide hD).only.below (Nat.le_refl _) (by omega)))
      have hs1 : w.heap.size + 1 ≤ wr.heap.size := by have := (unhide hD).only.size; omega
      obtain ⟨w1, hw1⟩ : ∃ w1, wr = w1 := ⟨_, rfl⟩
      rw [hw1] at hO hc1 hB0 hs1 ⊢
      obtain ⟨g, hg⟩ : ∃ g, w0.heap.size = g := ⟨_, rfl⟩
      rw [hg] at hO hs0 ⊢
      clear hD hw1 hg
      have g1 : w.heap.size + 1 ≤ g := by omega
      clear hs0
      go_wp2_with fail
      refine (curPickAny w.heap.size ad cap zs _ 14 w1 (unhide hc1) (by omega) hl (by omega)).mono ?_
      rintro e w2 ⟨pk, rfl, pk0, pk1, hc2, ho⟩
      replace hB0 := hide ((unhide hB0).trans (ho.below (Nat.le_refl _) (by omega)))
      have hs2 : w1.heap.size ≤ w2.heap.size := ho.size
      replace hO := hide ((unhide hO).onlyD (by omega) ho)
      replace hc2 := hide hc2
      clear ho hc1
      skip
      by_cases p0 : pk = 0
      · subst p0
        have hD := hide (rd_drop16 (unhide hO) hxl)
        clear hO
        go_wp2
        go_ret
        exact ⟨_, xs.drop 1, rfl, .inr (by rw [List.length_drop]; omega), ((unhide hR).drop 1).wide (by omega) (by omega), unhide hD, unhide hB0⟩
      · have q0 : (pk == 0) = false := beq_eq_false_iff_ne.2 p0
        by_cases p1 : pk = 1
        · subst p1
          go_wp2_with fail
          refine (curPickAny w.heap.size ad cap zs _ 16 w2 (unhide hc2) (by omega) hl (by omega)).mono ?_
          rintro e w3 ⟨P, rfl, P0, P1, hc3, ho⟩
          replace P1 := P1 (by omega)
          obtain ⟨K, rfl⟩ := Int.eq_ofNat_of_zero_le P0
          replace hB0 := hide ((unhide hB0).trans (ho.below (Nat.le_refl _) (by omega)))
          have hs3 : w2.heap.size ≤ w3.heap.size := ho.size
          replace hO := hide ((unhide hO).onlyD (by omega) ho)
          replace hc3 := hide hc3
          clear ho hc2
          have hu := Upd.of_below ((Below.refl w3.heap.size w3).alloc (Nat.le_refl _) (.cells #[.int .i64 65536, .int .i64 (-65537)] 3)) 0 0
          have hcl := hide (heldF_new w3 [.int .i64 65536, .int .i64 (-65537)] 3)
          have hc4 := hide ((unhide hc3).grown ((Below.refl w3.heap.size w3).alloc (Nat.le_refl _) (.cells #[.int .i64 65536, .int .i64 (-65537)] 3)))
          replace hB0 := hide (below_upd (unhide hB0) hu (Nat.le_refl _) (.inr (Nat.le_refl _)))
          replace hO := hide ((unhide hO).keep hu)
          clear hc3 hu
          go_wp2_with fail
          refine (curPickAny w.heap.size ad cap zs _ 2 _ (unhide hc4) (by omega) hl (by omega)).mono ?_
          rintro e w4 ⟨y, rfl, y0, y1, hc5, ho⟩
          replace y1 := y1 (by omega)
          replace hB0 := hide ((unhide hB0).trans (ho.below (Nat.le_refl _) (by simp; omega)))
          replace hcl := hide ((unhide hcl).only ho (by omega))
          replace hO := hide ((unhide hO).onlyD (by omega) ho)
          have hK : K < 16 := by omega
          have hdst : ∃ u, w4.cell? ⟨g, K, none⟩ = some u := by
            rw [(unhide hO).1.cellAt K (by omega)]; exact ⟨_, List.getElem?_eq_getElem (by have := (unhide hO).1.1; omega)⟩
          obtain ⟨uu, hdst⟩ := hdst
          have hfz := (unhide hO).1.frozenAt K
          have hfin : ∀ x : Int, (-65537 ≤ x ∧ x ≤ 65536) → Hid (InR (-65537) 65536 (xs.set K x) ∧ RdI (w4.setCell ⟨g, K, none⟩ (.int .i64 x)) (.slice (some ⟨g, 0, none⟩) 16 16) (xs.set K x) ∧ Below w.heap.size w (w4.setCell ⟨g, K, none⟩ (.int .i64 x))) := fun x hx => by
            have h1 := ((unhide hO).1.stored K (.int .i64 x)).1
            have hlen : (xs.set K x).length = xs.length := List.length_set
            have e2 : (ints xs).set K (.int .i64 x) = ints (xs.set K x) := by unfold ints; rw [List.map_set]
            rw [e2] at h1
            have h2 : OwnI (w4.setCell ⟨g, K, none⟩ (.int .i64 x)) (w.heap.size + 1) (w4.setCell ⟨g, K, none⟩ (.int .i64 x)).heap.size (.slice (some ⟨g, 0, none⟩) 16 16) (xs.set K x) := by
              unfold OwnI
              rw [hlen]
              rw [hxl] at h1 ⊢
              exact Own.of h1
            exact hide ⟨((unhide hR).wide (by omega) (by omega)).set hx K, rd_of_own h2, (unhide hB0).setCell (p := ⟨g, K, none⟩) (show w.heap.size ≤ g by omega) _⟩
          clear hO hc4 ho hB0
          rcases (show y = 0 ∨ y = 1 by omega) with e | e
          · subst e
            have k0 := (unhide hcl).1.2 0 _ rfl
            have hf := hfin 65536 (by omega)
            clear hfin
            go_wp2
            go_ret
            exact ⟨_, xs.set K 65536, rfl, .inl (by rw [List.length_set]; exact hxl), (unhide hf).1, (unhide hf).2.1, (unhide hf).2.2⟩
          · subst e
            have k0 := (unhide hcl).1.2 1 _ rfl
            have hf := hfin (-65537) (by omega)
            clear hfin
            go_wp2
            go_ret
            exact ⟨_, xs.set K (-65537), rfl, .inl (by rw [List.length_set]; exact hxl), (unhide hf).1, (unhide hf).2.1, (unhide hf).2.2⟩
        · have q1 : (pk == 1) = false := beq_eq_false_iff_ne.2 p1
          have hD := hide (rd_of_own (unhide hO))
          rw [hxl] at hD
          clear hO
          go_wp2
          go_ret
          exact ⟨_, xs, rfl, .inl hxl, (unhide hR).wide (by omega) (by omega), unhide hD, unhide hB0⟩
end Go.Proofs.YtpofmcepjmbmcaaDoor

/- Plain: waves of a block, forward and back, and how far a block is from what it was. -/
namespace Go.Proofs.YtpofmcepjmbmcaaDoor
open Go.RowKit

def sumN (f : Nat → Int) : Nat → Int
  | 0 => 0
  | n + 1 => sumN f n + f n
theorem sumN_congr {f g : Nat → Int} {n : Nat} (h : ∀ i, i < n → f i = g i) : sumN f n = sumN g n := by
  induction n with
  | zero => rfl
  | succ n ih => unfold sumN; rw [ih (fun i hi => h i (by omega)), h n (by omega)]
theorem sumN_add (f g : Nat → Int) (n : Nat) : sumN (fun i => f i + g i) n = sumN f n + sumN g n := by
  induction n with
  | zero => rfl
  | succ n ih => unfold sumN; rw [ih]; omega
theorem sumN_mul (c : Int) (f : Nat → Int) (n : Nat) : c * sumN f n = sumN (fun i => c * f i) n := by
  induction n with
  | zero => simp [sumN]
  | succ n ih => unfold sumN; rw [Int.mul_add, ih]
theorem sumN_zero (n : Nat) : sumN (fun _ => 0) n = 0 := by
  induction n with
  | zero => rfl
  | succ n ih => unfold sumN; rw [ih]; rfl
theorem sumN_comm (f : Nat → Nat → Int) (n m : Nat) : sumN (fun i => sumN (fun j => f i j) m) n = sumN (fun j => sumN (fun i => f i j) n) m := by
  induction n with
  | zero => exact (sumN_zero m).symm
  | succ n ih =>
    show sumN (fun i => sumN (fun j => f i j) m) n + sumN (fun j => f n j) m = _
    rw [ih, ← sumN_add]; rfl
theorem sumN_bd {f g : Nat → Int} {n : Nat} (h : ∀ i, i < n → -(g i) ≤ f i ∧ f i ≤ g i) : -(sumN g n) ≤ sumN f n ∧ sumN f n ≤ sumN g n := by
  induction n with
  | zero => exact ⟨by show -(0 : Int) ≤ 0; omega, Int.le_refl _⟩
  | succ n ih =>
    have h1 := ih (fun i hi => h i (by omega))
    have h2 := h n (by omega)
    unfold sumN
    omega
theorem mul_bdW (m r C : Int) (h : -C ≤ r ∧ r ≤ C) : -(C * (m.natAbs : Int)) ≤ m * r ∧ m * r ≤ C * (m.natAbs : Int) := by
  rcases Int.le_total 0 m with hm | hm
  · rw [show ((m.natAbs : Nat) : Int) = m by omega]
    have h1 := Int.mul_le_mul_of_nonneg_left h.1 hm
    have h2 := Int.mul_le_mul_of_nonneg_left h.2 hm
    rw [Int.mul_comm C m, ← Int.mul_neg]; exact ⟨h1, h2⟩
  · rw [show ((m.natAbs : Nat) : Int) = -m by omega]
    have h1 := Int.mul_le_mul_of_nonneg_left h.1 (show 0 ≤ -m by omega)
    have h2 := Int.mul_le_mul_of_nonneg_left h.2 (show 0 ≤ -m by omega)
    rw [Int.neg_mul, Int.neg_mul] at h1 h2
    rw [Int.mul_neg] at h1
    rw [Int.mul_neg, Int.mul_comm C m]
    omega
theorem sum_mul_bd (m r : Nat → Int) (C S : Int) (n : Nat) (h : ∀ i, i < n → -C ≤ r i ∧ r i ≤ C) (hC : 0 ≤ C) (hS : sumN (fun i => ((m i).natAbs : Int)) n ≤ S) :
    -(C * S) ≤ sumN (fun i => m i * r i) n ∧ sumN (fun i => m i * r i) n ≤ C * S := by
  have h1 := sumN_bd (f := fun i => m i * r i) (g := fun i => C * ((m i).natAbs : Int)) (n := n) (fun i hi => mul_bdW _ _ _ (h i hi))
  rw [← sumN_mul] at h1
  have h2 := Int.mul_le_mul_of_nonneg_left hS hC
  omega

/-- The matrix of waves. -/
def mT : List Int := [2896, 2896, 2896, 2896, 2896, 2896, 2896, 2896, 4017, 3406, 2276, 799, -799, -2276, -3406, -4017, 3784, 1567, -1567, -3784, -3784, -1567, 1567, 3784, 3406, -799, -4017, -2276, 2276, 4017, 799, -3406, 2896, -2896, -2896, 2896, 2896, -2896, -2896, 2896, 2276, -4017, 799, 3406, -3406, -799, 4017, -2276, 1567, -3784, 3784, -1567, -1567, 3784, -3784, 1567, 799, -2276, 3406, -4017, 4017, -3406, 2276, -799]
def mZ (u x : Nat) : Int := mT.getD (8 * u + x) 0
def pZ (y z : Nat) : Int := sumN (fun v => mZ v y * mZ v z) 8
def eZ (y z : Nat) : Int := pZ y z - (if y = z then 67108864 else 0)
theorem m_col : ∀ y, y < 8 → sumN (fun v => ((mZ v y).natAbs : Int)) 8 ≤ 21641 := by decide
theorem m_row : ∀ u, u < 8 → sumN (fun x => ((mZ u x).natAbs : Int)) 8 ≤ 23168 := by decide
theorem e_row : ∀ y, y < 8 → sumN (fun z => ((eZ y z).natAbs : Int)) 8 ≤ 17168 := by decide
theorem mZ_bd (u x : Nat) (hu : u < 8) (hx : x < 8) : -4017 ≤ mZ u x ∧ mZ u x ≤ 4017 := by
  have h : ∀ u, u < 8 → ∀ x, x < 8 → -4017 ≤ mZ u x ∧ mZ u x ≤ 4017 := by decide
  exact h u hu x hx
theorem sum_delta (y : Nat) (a : Nat → Int) : ∀ n, sumN (fun z => (if y = z then 67108864 else 0) * a z) n = if y < n then 67108864 * a y else 0
  | 0 => by simp [sumN]
  | n + 1 => by
    unfold sumN
    rw [sum_delta y a n]
    by_cases h : y = n
    · subst h; simp
    · by_cases h2 : y < n
      · rw [if_pos h2, if_neg h, if_pos (by omega)]; simp
      · rw [if_neg h2, if_neg h, if_neg (by omega)]; simp
theorem sum_p (y : Nat) (hy : y < 8) (a : Nat → Int) : sumN (fun z => pZ y z * a z) 8 = 67108864 * a y + sumN (fun z => eZ y z * a z) 8 := by
  have h := sum_delta y a 8
  rw [if_pos hy] at h
  rw [← h, ← sumN_add]
  refine sumN_congr (fun z _ => ?_)
  unfold eZ
  rw [← Int.add_mul]
  congr 1
  omega
/-- Once by the matrix and back: nearly 2 ^ 26 times what it was. -/
theorem sum_mm (y : Nat) (hy : y < 8) (a : Nat → Int) : sumN (fun v => mZ v y * sumN (fun z => mZ v z * a z) 8) 8 = 67108864 * a y + sumN (fun z => eZ y z * a z) 8 := by
  rw [← sum_p y hy a]
  have h1 : sumN (fun v => mZ v y * sumN (fun z => mZ v z * a z) 8) 8 = sumN (fun v => sumN (fun z => mZ v y * mZ v z * a z) 8) 8 :=
    sumN_congr (fun v _ => by rw [sumN_mul]; exact sumN_congr (fun z _ => by rw [Int.mul_assoc]))
  rw [h1, sumN_comm]
  refine sumN_congr (fun z _ => ?_)
  unfold pZ
  rw [Int.mul_comm, sumN_mul]
  exact sumN_congr (fun v _ => by rw [Int.mul_comm])
theorem round_bd (s h d : Int) (hd : d = 2 * h) (h0 : 0 < h) : ∃ r, d * ((s + h) / d) = s + r ∧ -h ≤ r ∧ r ≤ h := by
  refine ⟨d * ((s + h) / d) - s, by omega, ?_⟩
  have h1 : (s + h) / d * d ≤ s + h := Int.ediv_mul_le _ (by omega)
  have h2 : s + h < ((s + h) / d + 1) * d := Int.lt_ediv_add_one_mul_self _ (by omega)
  rw [Int.add_mul] at h2
  rw [Int.mul_comm d]
  generalize (s + h) / d * d = q at h1 h2 ⊢
  omega

/-- One number of a product of two matrices, the sum shifted. -/
def rnd10 (s : Int) : Int := (s + 512) / 1024
def rnd16 (s : Int) : Int := (s + 32768) / 65536
theorem sumN_mono {m r : Nat → Int} (n : Nat) (h : ∀ i, i < n → m i = r i) : sumN m n = sumN r n := sumN_congr h

/-- The distance of a block that goes forward and back. -/
theorem turned_near (b : Nat → Nat → Int) (hb : ∀ y x, y < 8 → x < 8 → -255 ≤ b y x ∧ b y x ≤ 255) (y x : Nat) (hy : y < 8) (hx : x < 8) :
    let mid := fun y u => rnd10 (sumN (fun x => mZ u x * b y x) 8);
    let f := fun v u => rnd16 (sumN (fun y => mZ v y * mid y u) 8);
    let im := fun y u => rnd10 (sumN (fun v => mZ v y * f v u) 8);
    ((-5 : Int) ≤ rnd16 (sumN (fun u => mZ u x * im y u) 8) - b y x) ∧ (rnd16 (sumN (fun u => mZ u x * im y u) 8) - b y x ≤ 5) := by
  intro mid f im
  -- what the first step leaves
  have hmid : ∀ y' u, ∃ r, 1024 * mid y' u = sumN (fun x => mZ u x * b y' x) 8 + r ∧ -512 ≤ r ∧ r ≤ 512 := fun y' u => round_bd _ 512 1024 (by omega) (by omega)
  have hf : ∀ v u, ∃ r, 65536 * f v u = sumN (fun y => mZ v y * mid y u) 8 + r ∧ -32768 ≤ r ∧ r ≤ 32768 := fun v u => round_bd _ 32768 65536 (by omega) (by omega)
  have him : ∀ u, ∃ r, 1024 * im y u = sumN (fun v => mZ v y * f v u) 8 + r ∧ -512 ≤ r ∧ r ≤ 512 := fun u => round_bd _ 512 1024 (by omega) (by omega)
  obtain ⟨r4, h4, h4a, h4b⟩ := round_bd (sumN (fun u => mZ u x * im y u) 8) 32768 65536 (by omega) (by omega)
  -- the columns
  have hcol : ∀ u, u < 8 → ∃ R, 68719476736 * im y u = 67108864 * sumN (fun x => mZ u x * b y x) 8 + R ∧ -900000000000 ≤ R ∧ R ≤ 900000000000 := by
    intro u hu
    obtain ⟨r3, e3, e3a, e3b⟩ := him u
    -- 65536 of the sum
    have s1 : 65536 * sumN (fun v => mZ v y * f v u) 8 = sumN (fun v => mZ v y * sumN (fun y => mZ v y * mid y u) 8) 8 + sumN (fun v => mZ v y * (65536 * f v u - sumN (fun y => mZ v y * mid y u) 8)) 8 := by
      rw [← sumN_add, sumN_mul]
      exact sumN_congr (fun v _ => by rw [← Int.mul_add, Int.mul_left_comm]; exact congrArg _ (by omega))
    have b1 := sum_mul_bd (fun v => mZ v y) (fun v => 65536 * f v u - sumN (fun y => mZ v y * mid y u) 8) 32768 21641 8 (fun v _ => by
      obtain ⟨r, e, ha, hb⟩ := hf v u
      try simp only
      omega) (by omega) (m_col y hy)
    rw [sum_mm y hy] at s1
    -- 1024 of that
    have s2 : 1024 * mid y u = sumN (fun x => mZ u x * b y x) 8 + (1024 * mid y u - sumN (fun x => mZ u x * b y x) 8) := by omega
    have s3 : 1024 * sumN (fun z => eZ y z * mid z u) 8 = sumN (fun z => eZ y z * (1024 * mid z u)) 8 := by
      rw [sumN_mul]; exact sumN_congr (fun z _ => by rw [Int.mul_left_comm])
    have b2 := sum_mul_bd (fun z => eZ y z) (fun z => 1024 * mid z u) 5908352 17168 8 (fun z hz => by
      obtain ⟨r, e, ha, hb'⟩ := hmid z u
      have hs := sum_mul_bd (fun x => mZ u x) (fun x => b z x) 255 23168 8 (fun x hx => hb z x hz hx) (by omega) (m_row u hu)
      try simp only at hs ⊢
      omega) (by omega) (e_row y hy)
    rw [← s3] at b2
    obtain ⟨r, e, ha, hb'⟩ := hmid y u
    refine ⟨68719476736 * im y u - 67108864 * sumN (fun x => mZ u x * b y x) 8, by omega, ?_⟩
    try simp only at b1 b2 s1
    generalize sumN (fun x => mZ u x * b y x) 8 = A at *
    generalize sumN (fun z => eZ y z * mid z u) 8 = E at *
    generalize sumN (fun v => mZ v y * (65536 * f v u - sumN (fun y => mZ v y * mid y u) 8)) 8 = F at *
    generalize sumN (fun v => mZ v y * f v u) 8 = G at *
    generalize mid y u = m0 at *
    generalize im y u = i0 at *
    omega
  -- the rows
  have s5 : 68719476736 * sumN (fun u => mZ u x * im y u) 8 = 67108864 * sumN (fun u => mZ u x * sumN (fun z => mZ u z * b y z) 8) 8 + sumN (fun u => mZ u x * (68719476736 * im y u - 67108864 * sumN (fun z => mZ u z * b y z) 8)) 8 := by
    rw [sumN_mul, sumN_mul, ← sumN_add]
    exact sumN_congr (fun u _ => by rw [Int.mul_left_comm, Int.mul_left_comm 67108864, ← Int.mul_add]; exact congrArg _ (by omega))
  have b5 := sum_mul_bd (fun u => mZ u x) (fun u => 68719476736 * im y u - 67108864 * sumN (fun z => mZ u z * b y z) 8) 900000000000 21641 8 (fun u hu => by
    obtain ⟨R, e, ha, hb'⟩ := hcol u hu
    try simp only
    omega) (by omega) (m_col x hx)
  rw [sum_mm x hx] at s5
  have b6 := sum_mul_bd (fun z => eZ x z) (fun z => b y z) 255 17168 8 (fun z hz => hb y z hy hz) (by omega) (e_row x hx)
  unfold rnd16
  try simp only at b5 b6 s5
  generalize sumN (fun u => mZ u x * im y u) 8 = S at *
  generalize sumN (fun u => mZ u x * (68719476736 * im y u - 67108864 * sumN (fun z => mZ u z * b y z) 8)) 8 = T at *
  generalize sumN (fun z => eZ x z * b y z) 8 = E at *
  generalize b y x = b0 at *
  omega
end Go.Proofs.YtpofmcepjmbmcaaDoor

/- Plain: products of two blocks, waves by their table, tables that are filled place by place. -/
namespace Go.Proofs.YtpofmcepjmbmcaaDoor
open Go.RowKit

theorem sumN_within {f : Nat → Int} {K : Int} {n : Nat} (h : ∀ i, i < n → -K ≤ f i ∧ f i ≤ K) : -((n : Int) * K) ≤ sumN f n ∧ sumN f n ≤ (n : Int) * K := by
  induction n with
  | zero => simp [sumN]
  | succ n ih =>
    have h1 := ih (fun i hi => h i (by omega))
    have h2 := h n (by omega)
    have e : ((n + 1 : Nat) : Int) * K = (n : Int) * K + K := by push_cast; rw [Int.add_mul]; omega
    rw [e]
    unfold sumN
    omega
def tmulT (A B : List Int) (p i : Nat) : Int := A.getD (8 * (p / 8) + i) 0 * B.getD (8 * i + p % 8) 0
def tmulZ (A B : List Int) (h d : Int) (p : Nat) : Int := (sumN (tmulT A B p) 8 + h) / d
def tmul (A B : List Int) (h d : Int) : List Int := tab (tmulZ A B h d)
def flipZ (A : List Int) (p : Nat) : Int := A.getD (8 * (p % 8) + p / 8) 0
def flipL (A : List Int) : List Int := tab (flipZ A)
def fwdL (zs : List Int) : List Int := tmul mT (tmul zs (flipL mT) 512 1024) 32768 65536
def invL (zs : List Int) : List Int := tmul (tmul (flipL mT) zs 512 1024) mT 32768 65536
noncomputable def forwardF (zs : List Int) : List Int := if blB zs then fwdL zs else []
noncomputable def inverseF (zs : List Int) : List Int := if blB zs then invL zs else []
theorem forwardF_len (zs : List Int) : (forwardF zs).length ≤ 1048576 := by unfold forwardF; split <;> simp [fwdL, tmul]
theorem inverseF_len (zs : List Int) : (inverseF zs).length ≤ 1048576 := by unfold inverseF; split <;> simp [invL, tmul]
theorem flip_m (u x : Nat) (hu : u < 8) (hx : x < 8) : (flipL mT).getD (8 * x + u) 0 = mZ u x := by
  unfold flipL
  rw [tab_getD _ _ (by omega)]
  unfold flipZ mZ
  rw [show (8 * x + u) % 8 = u by omega, show (8 * x + u) / 8 = x by omega]
theorem m_getD (u x : Nat) : mT.getD (8 * u + x) 0 = mZ u x := rfl
theorem mT_length : mT.length = 64 := rfl
theorem mT_inR : InR (-4017) 4017 mT := by
  intro j hj
  have h : ∀ j, j < 64 → -4017 ≤ mT.getD j 0 ∧ mT.getD j 0 ≤ 4017 := by decide
  exact h j hj
theorem flipL_inR {lo hi : Int} {A : List Int} (hl : A.length = 64) (h : InR lo hi A) : InR lo hi (flipL A) :=
  tab_inR _ _ _ (fun k hk => h _ (by omega))

/-! ### A wave by its number -/
def mN (u x : Nat) : Nat := if (2 * x + 1) * u % 32 > 16 then 32 - (2 * x + 1) * u % 32 else (2 * x + 1) * u % 32
def cT : List Int := [0, 4017, 3784, 3406, 2896, 2276, 1567, 799]
def hT : List Int := [2896, 4017, 3784, 3406, 2896, 2276, 1567, 799]
theorem m_spec : ∀ u, u < 8 → ∀ x, x < 8 → u ≠ 0 → (mN u x < 8 ∧ mZ u x = cT.getD (mN u x) 0) ∨ (¬ mN u x < 8 ∧ 16 - mN u x < 8 ∧ mN u x ≤ 16 ∧ mZ u x = -(cT.getD (16 - mN u x) 0)) := by decide
theorem m_zero : ∀ x, x < 8 → mZ 0 x = 2896 := by decide
theorem m_impl : ∀ u, u < 8 → ∀ x, x < 8 → (mN u x < 8 ∧ mZ u x = hT.getD (mN u x) 0) ∨ (8 < mN u x ∧ 16 - mN u x < 8 ∧ mN u x ≤ 16 ∧ mZ u x = -(hT.getD (16 - mN u x) 0)) := by decide
theorem mN_lt (u x : Nat) : mN u x ≤ 16 := by unfold mN; split <;> omega

/-! ### Filling -/
structure Fil (f : Nat → Int) (P : Nat → Prop) (xs : List Int) : Prop where
  len : xs.length = 64
  val : ∀ p, p < 64 → P p → xs.getD p 0 = f p
theorem Fil.zero (f : Nat → Int) : Fil f (fun _ => False) (List.replicate 64 0) := ⟨by simp, fun _ _ h => h.elim⟩
theorem Fil.set {f : Nat → Int} {P Q : Nat → Prop} {xs : List Int} (h : Fil f P xs) {q : Nat} (hq : q < 64) {x : Int} (hx : x = f q) (hP : ∀ p, p < 64 → Q p → p = q ∨ P p) : Fil f Q (xs.set q x) := by
  refine ⟨by rw [List.length_set]; exact h.len, fun p hp hQ => ?_⟩
  rw [List.getD_eq_getElem?_getD]
  by_cases e : q = p
  · subst e; rw [List.getElem?_set_self (by rw [h.len]; exact hq)]; exact hx
  · rw [List.getElem?_set_ne e, ← List.getD_eq_getElem?_getD]
    rcases hP p hp hQ with h' | h'
    · exact absurd h'.symm e
    · exact h.val p hp h'
theorem Fil.weak {f : Nat → Int} {P Q : Nat → Prop} {xs : List Int} (h : Fil f P xs) (hP : ∀ p, p < 64 → Q p → P p) : Fil f Q xs := ⟨h.len, fun p hp hQ => h.val p hp (hP p hp hQ)⟩
theorem Fil.all {f : Nat → Int} {P : Nat → Prop} {xs : List Int} (h : Fil f P xs) (hP : ∀ p, p < 64 → P p) : xs = tab f := by
  refine List.ext_getElem (by rw [h.len]; simp) (fun k h1 h2 => ?_)
  have hk : k < 64 := by rw [h.len] at h1; exact h1
  have e := h.val k hk (hP k hk)
  rw [← tab_getD f k hk, List.getD_eq_getElem?_getD, List.getElem?_eq_getElem h1, List.getD_eq_getElem?_getD, List.getElem?_eq_getElem h2] at e
  exact e
theorem prod_within {m x K B : Int} (hm : -K ≤ m ∧ m ≤ K) (hx : -B ≤ x ∧ x ≤ B) (hB : 0 ≤ B) : -(K * B) ≤ m * x ∧ m * x ≤ K * B := by
  have h := mul_bdW m x B hx
  have h2 : B * (m.natAbs : Int) ≤ B * K := Int.mul_le_mul_of_nonneg_left (by omega) hB
  rw [Int.mul_comm K B]
  omega
/-- The product's bound. -/
theorem tmul_inR {A B : List Int} {K L : Int} {h d R : Int} (hA : A.length = 64) (hB : B.length = 64) (kA : InR (-K) K A) (kB : InR (-L) L B) (hL : 0 ≤ L) (hd : 0 < d) (hR1 : d * (-R) ≤ -(8 * (K * L)) + h) (hR2 : 8 * (K * L) + h ≤ d * R) : InR (-R) R (tmul A B h d) := by
  refine tab_inR _ _ _ (fun p hp => ?_)
  have hs := sumN_within (f := tmulT A B p) (K := K * L) (n := 8) (fun i hi => prod_within (kA _ (by omega)) (kB _ (by omega)) hL)
  unfold tmulZ
  generalize sumN (tmulT A B p) 8 = S at hs ⊢
  have e8 : ((8 : Nat) : Int) * (K * L) = 8 * (K * L) := rfl
  rw [e8] at hs
  constructor
  · exact (Int.le_ediv_iff_mul_le hd).2 (by rw [Int.mul_comm]; omega)
  · have h1 : (S + h) / d * d ≤ S + h := Int.ediv_mul_le _ (by omega)
    rcases Int.lt_or_le R ((S + h) / d) with h2 | h2
    · exfalso
      have h3 : d * (R + 1) ≤ d * ((S + h) / d) := Int.mul_le_mul_of_nonneg_left (by omega) (by omega)
      rw [Int.mul_comm] at h1
      rw [Int.mul_add] at h3
      omega
    · exact h2
end Go.Proofs.YtpofmcepjmbmcaaDoor

/- Plain: a block forward and back, as lists. -/
namespace Go.Proofs.YtpofmcepjmbmcaaDoor
open Go.RowKit

theorem tmulZ_at (A B : List Int) (h d : Int) (r c : Nat) (hc : c < 8) : tmulZ A B h d (8 * r + c) = (sumN (fun i => A.getD (8 * r + i) 0 * B.getD (8 * i + c) 0) 8 + h) / d := by
  unfold tmulZ
  have e : sumN (tmulT A B (8 * r + c)) 8 = sumN (fun i => A.getD (8 * r + i) 0 * B.getD (8 * i + c) 0) 8 := sumN_congr (fun i _ => by unfold tmulT; rw [show (8 * r + c) / 8 = r by omega, show (8 * r + c) % 8 = c by omega])
  rw [e]
theorem tmul_at (A B : List Int) (h d : Int) (r c : Nat) (hr : r < 8) (hc : c < 8) : (tmul A B h d).getD (8 * r + c) 0 = (sumN (fun i => A.getD (8 * r + i) 0 * B.getD (8 * i + c) 0) 8 + h) / d := by
  unfold tmul
  rw [tab_getD _ _ (by omega), tmulZ_at _ _ _ _ _ _ hc]
theorem fwd_at (bs : List Int) (v u : Nat) (hv : v < 8) (hu : u < 8) : (fwdL bs).getD (8 * v + u) 0 = rnd16 (sumN (fun y => mZ v y * rnd10 (sumN (fun x => mZ u x * bs.getD (8 * y + x) 0) 8)) 8) := by
  unfold fwdL rnd16
  rw [tmul_at _ _ _ _ _ _ hv hu]
  congr 2
  refine sumN_congr (fun y hy => ?_)
  rw [tmul_at _ _ _ _ _ _ hy hu, m_getD]
  unfold rnd10
  congr 3
  refine sumN_congr (fun x hx => ?_)
  rw [flip_m u x hu hx, Int.mul_comm]
theorem inv_at (fs : List Int) (y x : Nat) (hy : y < 8) (hx : x < 8) : (invL fs).getD (8 * y + x) 0 = rnd16 (sumN (fun u => mZ u x * rnd10 (sumN (fun v => mZ v y * fs.getD (8 * v + u) 0) 8)) 8) := by
  unfold invL rnd16
  rw [tmul_at _ _ _ _ _ _ hy hx]
  congr 2
  refine sumN_congr (fun u hu => ?_)
  rw [tmul_at _ _ _ _ _ _ hy hu, m_getD, Int.mul_comm]
  unfold rnd10
  congr 3
  refine sumN_congr (fun v hv => ?_)
  rw [flip_m v y hv hy]
theorem turned_list (bs : List Int) (hl : bs.length = 64) (hb : InR (-255) 255 bs) (i : Nat) (hi : i < 64) : (-5 : Int) ≤ (invL (fwdL bs)).getD i 0 - bs.getD i 0 ∧ (invL (fwdL bs)).getD i 0 - bs.getD i 0 ≤ 5 := by
  obtain ⟨y, hy⟩ : ∃ y, i / 8 = y := ⟨_, rfl⟩
  obtain ⟨x, hx⟩ : ∃ x, i % 8 = x := ⟨_, rfl⟩
  have e : i = 8 * y + x := by omega
  have hy8 : y < 8 := by omega
  have hx8 : x < 8 := by omega
  have h := turned_near (fun y x => bs.getD (8 * y + x) 0) (fun y x hy hx => hb (8 * y + x) (by omega)) y x hy8 hx8
  rw [e, inv_at _ _ _ hy8 hx8]
  have e2 : sumN (fun u => mZ u x * rnd10 (sumN (fun v => mZ v y * (fwdL bs).getD (8 * v + u) 0) 8)) 8 = sumN (fun u => mZ u x * rnd10 (sumN (fun v => mZ v y * rnd16 (sumN (fun y => mZ v y * rnd10 (sumN (fun x => mZ u x * bs.getD (8 * y + x) 0) 8)) 8)) 8)) 8 := by
    refine sumN_congr (fun u hu => ?_)
    congr 2
    refine sumN_congr (fun v hv => ?_)
    rw [fwd_at bs v u hv hu]
  rw [e2]
  exact h
theorem fwd_ok (bs : List Int) (hl : bs.length = 64) (hb : InR (-255) 255 bs) : BlOk (fwdL bs) := by
  have hf : (flipL mT).length = 64 := by simp [flipL]
  have h1 : InR (-8100) 8100 (tmul bs (flipL mT) 512 1024) := tmul_inR (K := 255) (L := 4017) hl hf hb (flipL_inR mT_length mT_inR) (by omega) (by omega) (by omega) (by omega)
  have h2 : InR (-8000) 8000 (fwdL bs) := tmul_inR (K := 4017) (L := 8100) mT_length (by simp [tmul]) mT_inR h1 (by omega) (by omega) (by omega) (by omega)
  exact ⟨by simp [fwdL, tmul], fun j hj => by have := h2 j hj; omega⟩
def smallL (xs : List Int) : List Int := xs.map (fun n => n.tmod 256)
theorem smallL_inR (xs : List Int) : InR (-255) 255 (smallL xs) := by
  intro j hj
  unfold smallL at *
  rw [List.length_map] at hj
  rw [List.getD_eq_getElem?_getD, List.getElem?_map, List.getElem?_eq_getElem hj]
  simp only [Option.map_some, Option.getD_some]
  generalize xs[j] = n
  rcases Int.le_total 0 n with h | h
  · rw [Int.tmod_eq_emod_of_nonneg h]; omega
  · have : n = -(-n) := by omega
    rw [this, Int.neg_tmod, Int.tmod_eq_emod_of_nonneg (by omega)]; omega
end Go.Proofs.YtpofmcepjmbmcaaDoor

/- The specification's Small, and the drawing of a block. -/
namespace Go.Proofs.YtpofmcepjmbmcaaDoor
open Go.RowKit

theorem smallL_snoc (xs : List Int) (k : Nat) (h : k < xs.length) : smallL (xs.take (k + 1)) = smallL (xs.take k) ++ [(xs.getD k 0).tmod 256] := by
  unfold smallL
  rw [take_snoc_getD xs 0 k h, List.map_append]; rfl
set_option maxHeartbeats 8000000 in
set_option maxRecDepth 100000 in
theorem specSmall (v : Value) (xs : List Int) (w : World) (hn : xs.length ≤ 64) (hR : InR (-32769) 32768 xs) (hv : RdI w v xs) :
    Calls Tryd.prog 24 #[v, .int .i64 255] w fun e w' => ∃ u, e = .returned u ∧ OwnI w' w.heap.size w'.heap.size u (smallL xs) ∧ Upd 0 0 w w' := by
  obtain ⟨ad, cap, rfl, hA⟩ := hv
  replace hA := hide hA
  replace hR := hide hR
  go_enter Tryd.func24, Tryd.ntmps24
  go_wp2
  have hrow0 : Hid (w.ownsRow w.heap.size 3 1 (.slice none 0 0) 0 (ints [])) := hide (World.ownsRow_nil _ _ _ _)
  go_loopw [5, 10] (fun s i wr => ∃ (k : Nat) (ad2 : Option Addr) (cp : Nat) (L : List Int), s = .slice ad2 L.length cp ∧ i = .int .i64 (k : Int) ∧ k ≤ xs.length ∧ Hid (L = smallL (xs.take k)) ∧ Hid (wr.ownsRow w.heap.size 3 1 (.slice ad2 L.length cp) L.length (ints L)) ∧ Hid (Below w.heap.size w wr)) (fun _ i _ => xs.length - (intOf i).toNat)
  case atStart => exact ⟨0, none, 0, [], rfl, rfl, by omega, hide rfl, hrow0, hide (Below.refl _ _)⟩
  case round =>
    clear hrow0
    obtain ⟨k, ad2, cp, L, rfl, rfl, hk, hL, hrow, hbel⟩ := hrel
    by_cases hlt : k < xs.length
    · obtain ⟨bb, off, rfl, hbl, hcl⟩ := (unhide hA) (ne_of_lt_length hlt)
      have hck : wr.cell? ⟨bb, off + k, none⟩ = some (.int .i64 (xs.getD k 0)) := ((unhide hbel).cell (by simpa using hbl)).trans (hcl k hlt)
      have hxb := (unhide hR) k hlt
      have hs : Hid (smallL (xs.take (k + 1)) = L ++ [(xs.getD k 0).tmod 256]) := hide (by rw [unhide hL]; exact smallL_snoc xs k hlt)
      have hln : L.length ≤ 64 := by rw [unhide hL]; unfold smallL; rw [List.length_map, List.length_take]; omega
      clear hcl hbl hL
      generalize xs.getD k 0 = x at hck hxb hs
      obtain ⟨x0, x1⟩ := hxb
      have hxt : -32769 ≤ x.tmod 256 ∧ x.tmod 256 ≤ 32768 := by
        rcases Int.le_total 0 x with h | h
        · rw [Int.tmod_eq_emod_of_nonneg h]; omega
        · have e : x = -(-x) := by omega
          rw [e, Int.neg_tmod, Int.tmod_eq_emod_of_nonneg (by omega)]; omega
      obtain ⟨X, hX⟩ : ∃ X, x.tmod 256 = X := ⟨_, rfl⟩
      rw [hX] at hs hxt
      obtain ⟨y0, y1⟩ := hxt
      have hs2 := hide (unhide hs).symm
      have hu5 := Upd.of_below ((Below.refl wr.heap.size wr).alloc (Nat.le_refl _) (.cells #[.int .i64 X] 3)) 0 0
      have kB5 := hide (below_upd (unhide hbel) hu5 (Nat.le_refl _) (.inr (Nat.le_refl _)))
      have hO5 := hide ((Own.of (unhide hrow)).keep hu5).1
      have hnk := heldF_new wr [.int .i64 X] 3
      have hrn : Hid (RdJ (wr.alloc (.cells #[.int .i64 X] 3)) (.slice (some ⟨wr.heap.size, 0, none⟩) 1 1) [X]) := hide (.inr ⟨wr.heap.size, 0, 1, rfl, by simp, fun j hj => by
        have hj0 : j = 0 := by simp at hj; omega
        subst hj0
        exact hnk.1.2 0 _ rfl⟩)
      have hsz : w.heap.size ≤ wr.heap.size := (unhide hbel).size
      clear hu5 hnk hrow hs
      go_upto_region 5 with fail
      go_wp2_with (at_builtin; go_loud (refine wpList_appI rfl (.tmp 14) (.tmp 19) rfl w.heap.size (.slice ad2 L.length cp) L rfl (unhide hO5) _ [X] rfl (unhide hrn) (by simp; omega) (by simp; omega) ?_; intro v6 w6 ho6 hg6 _; have hu6 := upd_of_grownI hg6 (unhide hO5); have kB6 := hide (below_upd (unhide kB5) hu6 (Nat.le_refl _) (.inl (Nat.le_refl _))); obtain ⟨ad6, cp6, rfl, _⟩ := readK_of_own (Own.of ho6); replace ho6 := hide ho6; clear hu6 hg6))
      go_roundw
      case rel => exact ⟨k + 1, ad6, cp6, L ++ [X], by simp, by go_num, by omega, hs2, ho6, kB6⟩
      case measure => simp [intOf]; omega
    · have hkl : k = xs.length := by omega
      subst hkl
      have ho := hide (Own.of (unhide hrow))
      have hL2 : Hid (L = smallL xs) := hide (by rw [unhide hL, List.take_length])
      go_wp2
      go_ret
      exact ⟨_, rfl, by rw [← unhide hL2]; exact unhide ho, Upd.of_below (unhide hbel) 0 0⟩
end Go.Proofs.YtpofmcepjmbmcaaDoor

/- Plain: small blocks: sixteen numbers, their sums forward and back, coarse and fine. -/
namespace Go.Proofs.YtpofmcepjmbmcaaDoor
open Go.RowKit

/-- Sixteen numbers told by their places. -/
def tab16 (f : Nat → Int) : List Int := (List.range 16).map f
@[simp] theorem tab16_length (f : Nat → Int) : (tab16 f).length = 16 := by simp [tab16]
theorem tab16_getD (f : Nat → Int) (k : Nat) (h : k < 16) : (tab16 f).getD k 0 = f k := by
  unfold tab16
  rw [List.getD_eq_getElem?_getD, List.getElem?_map, List.getElem?_range h]; rfl
theorem tab16_inR (f : Nat → Int) (lo hi : Int) (h : ∀ k, k < 16 → lo ≤ f k ∧ f k ≤ hi) : InR lo hi (tab16 f) := by
  intro j hj
  rw [tab16_length] at hj
  rw [tab16_getD f j hj]; exact h j hj
theorem tab16_congr {f g : Nat → Int} (h : ∀ k, k < 16 → f k = g k) : tab16 f = tab16 g := by
  unfold tab16
  exact List.map_congr_left (fun k hk => h k (List.mem_range.1 hk))
theorem tab16_of {zs : List Int} (h : zs.length = 16) : tab16 (fun p => zs.getD p 0) = zs := by
  refine List.ext_getElem (by simp [h]) (fun i h1 h2 => ?_)
  simp only [tab16_length] at h1
  have := tab16_getD (fun p => zs.getD p 0) i h1
  rw [List.getD_eq_getElem?_getD, List.getElem?_eq_getElem (by simpa using h1), Option.getD_some] at this
  rw [this, List.getD_eq_getElem?_getD, List.getElem?_eq_getElem h2, Option.getD_some]
def smB (zs : List Int) : Bool := decide (zs.length = 16) && inRB (-65536) 65535 zs
def SmOk (zs : List Int) : Prop := zs.length = 16 ∧ InR (-65536) 65535 zs
theorem smB_iff {zs : List Int} : smB zs = true ↔ SmOk zs := by
  unfold smB SmOk
  simp only [Bool.and_eq_true, decide_eq_true_eq, inRB_iff0]
theorem smB_yes {zs : List Int} (h : SmOk zs) : smB zs = true := smB_iff.2 h
theorem smB_no {zs : List Int} (h : ¬ SmOk zs) : smB zs = false := Bool.eq_false_iff.2 (fun h' => h (smB_iff.1 h'))

/-! ### The waves -/
/-- The weight of number x of a row in its sum number u. -/
def smT (u x : Nat) : Int := [1, 1, 1, 1, 2, 1, -1, -2, 1, -1, -1, 1, 1, -2, 2, -1].getD (4 * u + x) 0
def rowZ (zs : List Int) (k : Nat) : List Int := [zs.getD (4 * k) 0, zs.getD (4 * k + 1) 0, zs.getD (4 * k + 2) 0, zs.getD (4 * k + 3) 0]
@[simp] theorem rowZ_length (zs : List Int) (k : Nat) : (rowZ zs k).length = 4 := rfl
theorem rowZ_getD (zs : List Int) (k j : Nat) (h : j < 4) : (rowZ zs k).getD j 0 = zs.getD (4 * k + j) 0 := by
  rcases (show j = 0 ∨ j = 1 ∨ j = 2 ∨ j = 3 by omega) with rfl | rfl | rfl | rfl <;> rfl
def sumT (r : List Int) (u : Nat) : Nat → Int
  | 0 => 0
  | j + 1 => sumT r u j + smT u j * r.getD j 0
def sumS (r : List Int) (u : Nat) : Int := sumT r u 4
def backS (r : List Int) (u : Nat) : Int :=
  if u = 0 then (r.getD 0 0 + r.getD 2 0) + (r.getD 1 0 + r.getD 3 0 / 2) else if u = 1 then (r.getD 0 0 - r.getD 2 0) + (r.getD 1 0 / 2 - r.getD 3 0)
  else if u = 2 then (r.getD 0 0 - r.getD 2 0) - (r.getD 1 0 / 2 - r.getD 3 0) else (r.getD 0 0 + r.getD 2 0) - (r.getD 1 0 + r.getD 3 0 / 2)
/-- The columns as rows, each changed when it was a row. -/
def turnZ (g : List Int → Nat → Int) (zs : List Int) (p : Nat) : Int := g (rowZ zs (p % 4)) (p / 4)
def turn4 (g : List Int → Nat → Int) (zs : List Int) : List Int := tab16 (turnZ g zs)
@[simp] theorem turn4_length (g : List Int → Nat → Int) (zs : List Int) : (turn4 g zs).length = 16 := tab16_length _
theorem turn4_at (g : List Int → Nat → Int) (zs : List Int) (p : Nat) (h : p < 16) : (turn4 g zs).getD p 0 = g (rowZ zs (p % 4)) (p / 4) := tab16_getD _ _ h
def smFwd (zs : List Int) : List Int := if smB zs = true then turn4 sumS (turn4 sumS zs) else []
def smInvZ (zs : List Int) (p : Nat) : Int := ((turn4 backS (turn4 backS zs)).getD p 0 + 32) / 64
def smInv (zs : List Int) : List Int := if smB zs = true then tab16 (smInvZ zs) else []
theorem smT_bd (u x : Nat) : -2 ≤ smT u x ∧ smT u x ≤ 2 := by
  by_cases h : 4 * u + x < 16
  · have : ∀ k, k < 16 → -2 ≤ ([1, 1, 1, 1, 2, 1, -1, -2, 1, -1, -1, 1, 1, -2, 2, -1] : List Int).getD k 0 ∧ ([1, 1, 1, 1, 2, 1, -1, -2, 1, -1, -1, 1, 1, -2, 2, -1] : List Int).getD k 0 ≤ 2 := by decide
    exact this _ h
  · unfold smT
    rw [List.getD_eq_getElem?_getD, List.getElem?_eq_none (by simp; omega)]
    decide
theorem smT_mul (u x : Nat) (y K : Int) (h : -K ≤ y ∧ y ≤ K) : -(2 * K) ≤ smT u x * y ∧ smT u x * y ≤ 2 * K := by
  have := smT_bd u x
  rcases (show smT u x = -2 ∨ smT u x = -1 ∨ smT u x = 0 ∨ smT u x = 1 ∨ smT u x = 2 by omega) with e | e | e | e | e <;> rw [e] <;> omega
theorem sumS_eq (r : List Int) (u : Nat) (hu : u < 4) : sumS r u = if u = 0 then r.getD 0 0 + r.getD 1 0 + r.getD 2 0 + r.getD 3 0 else if u = 1 then 2 * r.getD 0 0 + r.getD 1 0 - r.getD 2 0 - 2 * r.getD 3 0 else if u = 2 then r.getD 0 0 - r.getD 1 0 - r.getD 2 0 + r.getD 3 0 else r.getD 0 0 - 2 * r.getD 1 0 + 2 * r.getD 2 0 - r.getD 3 0 := by
  rcases (show u = 0 ∨ u = 1 ∨ u = 2 ∨ u = 3 by omega) with rfl | rfl | rfl | rfl
  · show 0 + 1 * _ + 1 * _ + 1 * _ + 1 * _ = _; simp
  · show 0 + 2 * _ + 1 * _ + -1 * _ + -2 * _ = _; simp; omega
  · show 0 + 1 * _ + -1 * _ + -1 * _ + 1 * _ = _; simp; omega
  · show 0 + 1 * _ + -2 * _ + 2 * _ + -1 * _ = _; simp; omega
theorem sumT_bd {K : Int} {r : List Int} (u : Nat) (hr : ∀ j, j < 4 → -K ≤ r.getD j 0 ∧ r.getD j 0 ≤ K) (n : Nat) (hn : n ≤ 4) : -(2 * K * n) ≤ sumT r u n ∧ sumT r u n ≤ 2 * K * n := by
  induction n with
  | zero => simp [sumT]
  | succ n ih =>
    have h := ih (by omega)
    have h2 := smT_mul u n (r.getD n 0) K (hr n (by omega))
    have e : 2 * K * ((n + 1 : Nat) : Int) = 2 * K * n + 2 * K := by
      rw [show ((n + 1 : Nat) : Int) = (n : Int) + 1 by simp, Int.mul_add]; omega
    rw [e]
    unfold sumT
    generalize 2 * K * (n : Int) = M at *
    omega
theorem sumS_bd {K : Int} {r : List Int} (u : Nat) (hu : u < 4) (hr : ∀ j, j < 4 → -K ≤ r.getD j 0 ∧ r.getD j 0 ≤ K) : -(6 * K) ≤ sumS r u ∧ sumS r u ≤ 6 * K := by
  rw [sumS_eq r u hu]
  have h0 := hr 0 (by omega); have h1 := hr 1 (by omega); have h2 := hr 2 (by omega); have h3 := hr 3 (by omega)
  split
  · omega
  · split
    · omega
    · split <;> omega
theorem backS_bd {K : Int} {r : List Int} (u : Nat) (hr : ∀ j, j < 4 → -K ≤ r.getD j 0 ∧ r.getD j 0 ≤ K) : -(4 * K + 1) ≤ backS r u ∧ backS r u ≤ 4 * K + 1 := by
  unfold backS
  have h0 := hr 0 (by omega); have h1 := hr 1 (by omega); have h2 := hr 2 (by omega); have h3 := hr 3 (by omega)
  split
  · omega
  · split
    · omega
    · split <;> omega
theorem rowZ_bd {K : Int} {zs : List Int} (hl : zs.length = 16) (hz : InR (-K) K zs) (k : Nat) (hk : k < 4) : ∀ j, j < 4 → -K ≤ (rowZ zs k).getD j 0 ∧ (rowZ zs k).getD j 0 ≤ K := by
  intro j hj
  rw [rowZ_getD zs k j hj]
  exact hz _ (by omega)
theorem turn4_inR {g : List Int → Nat → Int} {K L : Int} {zs : List Int} (hl : zs.length = 16) (hz : InR (-K) K zs)
    (hg : ∀ r u, u < 4 → (∀ j, j < 4 → -K ≤ r.getD j 0 ∧ r.getD j 0 ≤ K) → -L ≤ g r u ∧ g r u ≤ L) : InR (-L) L (turn4 g zs) :=
  tab16_inR _ _ _ (fun k hk => hg _ _ (by omega) (rowZ_bd hl hz _ (by omega)))
theorem smOk_inR {zs : List Int} (h : SmOk zs) : InR (-65536) 65536 zs := fun j hj => by have := h.2 j hj; omega
theorem sum_inR {K : Int} {zs : List Int} (hl : zs.length = 16) (hz : InR (-K) K zs) : InR (-(6 * K)) (6 * K) (turn4 sumS zs) := turn4_inR hl hz (fun _ u hu hr => sumS_bd u hu hr)
theorem back_inR {K : Int} {zs : List Int} (hl : zs.length = 16) (hz : InR (-K) K zs) : InR (-(4 * K + 1)) (4 * K + 1) (turn4 backS zs) := turn4_inR hl hz (fun _ u _ hr => backS_bd u hr)
/-- Sums of rows that stay rows, and of columns: the specification's way. -/
def midZ (zs : List Int) (p : Nat) : Int := sumS (rowZ zs (p / 4)) (p % 4)
/-- Column x of a square, as a row. -/
def colZ (zs : List Int) (x : Nat) : List Int := [zs.getD x 0, zs.getD (4 + x) 0, zs.getD (8 + x) 0, zs.getD (12 + x) 0]
theorem colZ_getD (zs : List Int) (x j : Nat) (h : j < 4) : (colZ zs x).getD j 0 = zs.getD (4 * j + x) 0 := by
  rcases (show j = 0 ∨ j = 1 ∨ j = 2 ∨ j = 3 by omega) with rfl | rfl | rfl | rfl
  · show zs.getD x 0 = zs.getD (4 * 0 + x) 0; congr 1; omega
  · rfl
  · rfl
  · rfl
theorem sum_cols (g : List Int → Nat → Int) (zs : List Int) (x : Nat) (hx : x < 4) : rowZ (turn4 g zs) x = colZ (tab16 (fun p => g (rowZ zs (p / 4)) (p % 4))) x := by
  unfold rowZ colZ
  rw [turn4_at g zs _ (by omega), turn4_at g zs _ (by omega), turn4_at g zs _ (by omega), turn4_at g zs _ (by omega), tab16_getD _ _ (by omega), tab16_getD _ _ (by omega), tab16_getD _ _ (by omega), tab16_getD _ _ (by omega)]
  simp only [show 4 * x % 4 = 0 by omega, show 4 * x / 4 = x by omega, show (4 * x + 1) % 4 = 1 by omega, show (4 * x + 1) / 4 = x by omega, show (4 * x + 2) % 4 = 2 by omega, show (4 * x + 2) / 4 = x by omega, show (4 * x + 3) % 4 = 3 by omega, show (4 * x + 3) / 4 = x by omega,
    show x / 4 = 0 by omega, show x % 4 = x by omega, show (4 + x) / 4 = 1 by omega, show (4 + x) % 4 = x by omega, show (8 + x) / 4 = 2 by omega, show (8 + x) % 4 = x by omega, show (12 + x) / 4 = 3 by omega, show (12 + x) % 4 = x by omega]
  rfl
/-- Both ways meet. -/
theorem turn_twice (g : List Int → Nat → Int) (zs : List Int) : turn4 g (turn4 g zs) = tab16 (fun p => g (colZ (tab16 (fun p => g (rowZ zs (p / 4)) (p % 4))) (p % 4)) (p / 4)) :=
  tab16_congr (fun k hk => by unfold turnZ; rw [sum_cols g zs _ (by omega)])
theorem smFwd_len (zs : List Int) : (smFwd zs).length ≤ 1048576 := by unfold smFwd; split <;> simp
theorem smInv_len (zs : List Int) : (smInv zs).length ≤ 1048576 := by unfold smInv; split <;> simp

/-! ### Rows that are filled -/
def tabN (n : Nat) (f : Nat → Int) : List Int := (List.range n).map f
@[simp] theorem tabN_length (n : Nat) (f : Nat → Int) : (tabN n f).length = n := by simp [tabN]
theorem tabN_getD (n : Nat) (f : Nat → Int) (k : Nat) (h : k < n) : (tabN n f).getD k 0 = f k := by
  unfold tabN
  rw [List.getD_eq_getElem?_getD, List.getElem?_map, List.getElem?_range h]; rfl
theorem tab16_N (f : Nat → Int) : tab16 f = tabN 16 f := rfl
structure FilN (n : Nat) (f : Nat → Int) (P : Nat → Prop) (xs : List Int) : Prop where
  len : xs.length = n
  val : ∀ p, p < n → P p → xs.getD p 0 = f p
theorem FilN.set {n : Nat} {f : Nat → Int} {P Q : Nat → Prop} {xs : List Int} (h : FilN n f P xs) {q : Nat} (hq : q < n) {x : Int} (hx : x = f q) (hP : ∀ p, p < n → Q p → p = q ∨ P p) : FilN n f Q (xs.set q x) := by
  refine ⟨by rw [List.length_set]; exact h.len, fun p hp hQ => ?_⟩
  rw [List.getD_eq_getElem?_getD]
  by_cases e : q = p
  · subst e; rw [List.getElem?_set_self (by rw [h.len]; exact hq)]; exact hx
  · rw [List.getElem?_set_ne e, ← List.getD_eq_getElem?_getD]
    rcases hP p hp hQ with h' | h'
    · exact absurd h'.symm e
    · exact h.val p hp h'
theorem FilN.weak {n : Nat} {f : Nat → Int} {P Q : Nat → Prop} {xs : List Int} (h : FilN n f P xs) (hP : ∀ p, p < n → Q p → P p) : FilN n f Q xs := ⟨h.len, fun p hp hQ => h.val p hp (hP p hp hQ)⟩
theorem FilN.all {n : Nat} {f : Nat → Int} {P : Nat → Prop} {xs : List Int} (h : FilN n f P xs) (hP : ∀ p, p < n → P p) : xs = tabN n f := by
  refine List.ext_getElem (by rw [h.len]; simp) (fun k h1 h2 => ?_)
  have hk : k < n := by rw [h.len] at h1; exact h1
  have e := h.val k hk (hP k hk)
  rw [← tabN_getD n f k hk, List.getD_eq_getElem?_getD, List.getElem?_eq_getElem h1, List.getD_eq_getElem?_getD, List.getElem?_eq_getElem h2] at e
  exact e

/-! ### Coarse and fine -/
def smClass (p : Nat) : Nat := if p / 4 % 2 = 0 ∧ p % 2 = 0 then 0 else if p / 4 % 2 = 1 ∧ p % 2 = 1 then 1 else 2
def smM (r c : Nat) : Int := [13107, 5243, 8066, 11916, 4660, 7490, 10082, 4194, 6554, 9362, 3647, 5825, 8192, 3355, 5243, 7282, 2893, 4559].getD (3 * r + c) 0
def smV (r c : Nat) : Int := [10, 16, 13, 11, 18, 14, 13, 20, 16, 14, 23, 18, 16, 25, 20, 18, 29, 23].getD (3 * r + c) 0
def smCo (n : Int) (p s : Nat) : Int :=
  let q := ((if n < 0 then -n else n) * smM (s % 6) (smClass p) + 2 ^ (14 + s / 6)) / 2 ^ (15 + s / 6)
  if n < 0 then -q else q
def smFi (n : Int) (p s : Nat) : Int := cutZ (-65536) 65535 (n * (smV (s % 6) (smClass p) * 2 ^ (s / 6)))
def stB (s : Int) : Bool := decide (0 ≤ s) && decide (s ≤ 40)
def smScaled (g : Int → Nat → Nat → Int) (zs : List Int) (s : Int) : List Int := if smB zs = true ∧ stB s = true then tab16 (fun p => g (zs.getD p 0) p s.toNat) else []
theorem smScaled_len (g : Int → Nat → Nat → Int) (zs : List Int) (s : Int) : (smScaled g zs s).length ≤ 1048576 := by unfold smScaled; split <;> simp
theorem stB_iff {s : Int} : stB s = true ↔ 0 ≤ s ∧ s ≤ 40 := by unfold stB; simp
end Go.Proofs.YtpofmcepjmbmcaaDoor

/- Plain: coarse and fine numbers of small blocks, by their factors. -/
namespace Go.Proofs.YtpofmcepjmbmcaaDoor
open Go.RowKit

def coZ (n m : Int) (q : Nat) : Int := if n < 0 then -((-n * m + 2 ^ (14 + q)) / 2 ^ (15 + q)) else (n * m + 2 ^ (14 + q)) / 2 ^ (15 + q)
theorem smCo_eq (n : Int) (p s : Nat) : smCo n p s = coZ n (smM (s % 6) (smClass p)) (s / 6) := by
  unfold smCo coZ
  by_cases h : n < 0
  · simp [h]
  · simp [h]
theorem smClass_lt (p : Nat) : smClass p < 3 := by unfold smClass; split; · omega
                                                   · split <;> omega
theorem smM_bd (r c : Nat) (hr : r < 6) (hc : c < 3) : 2893 ≤ smM r c ∧ smM r c ≤ 13107 := by
  have : ∀ k, k < 18 → 2893 ≤ ([13107, 5243, 8066, 11916, 4660, 7490, 10082, 4194, 6554, 9362, 3647, 5825, 8192, 3355, 5243, 7282, 2893, 4559] : List Int).getD k 0 ∧ ([13107, 5243, 8066, 11916, 4660, 7490, 10082, 4194, 6554, 9362, 3647, 5825, 8192, 3355, 5243, 7282, 2893, 4559] : List Int).getD k 0 ≤ 13107 := by decide
  exact this _ (by omega)
theorem smV_bd (r c : Nat) (hr : r < 6) (hc : c < 3) : 10 ≤ smV r c ∧ smV r c ≤ 29 := by
  have : ∀ k, k < 18 → 10 ≤ ([10, 16, 13, 11, 18, 14, 13, 20, 16, 14, 23, 18, 16, 25, 20, 18, 29, 23] : List Int).getD k 0 ∧ ([10, 16, 13, 11, 18, 14, 13, 20, 16, 14, 23, 18, 16, 25, 20, 18, 29, 23] : List Int).getD k 0 ≤ 29 := by decide
  exact this _ (by omega)
theorem mul_in (a m A M : Int) (ha : 0 ≤ a ∧ a ≤ A) (hm : 0 ≤ m ∧ m ≤ M) : 0 ≤ a * m ∧ a * m ≤ A * M := by
  refine ⟨Int.mul_nonneg ha.1 hm.1, ?_⟩
  have h1 : a * m ≤ A * m := Int.mul_le_mul_of_nonneg_right ha.2 hm.1
  have h2 : A * m ≤ A * M := Int.mul_le_mul_of_nonneg_left hm.2 (by omega)
  omega
theorem mul_both (a m A M : Int) (ha : -A ≤ a ∧ a ≤ A) (hm : 0 ≤ m ∧ m ≤ M) : -(A * M) ≤ a * m ∧ a * m ≤ A * M := by
  by_cases h : 0 ≤ a
  · have := mul_in a m A M ⟨h, ha.2⟩ hm
    have h3 : 0 ≤ A * M := Int.mul_nonneg (by omega) (by omega)
    omega
  · have h1 := mul_in (-a) m A M ⟨by omega, by omega⟩ hm
    have e : -a * m = -(a * m) := Int.neg_mul _ _
    rw [e] at h1
    have h3 : 0 ≤ A * M := Int.mul_nonneg (by omega) (by omega)
    omega
/-- Steps by their two parts. -/
theorem step_parts (s : Int) (h0 : 0 ≤ s) (h1 : s ≤ 40) : ∃ q r : Nat, s.toNat / 6 = q ∧ s.toNat % 6 = r ∧ q ≤ 6 ∧ r < 6 ∧ s.tdiv 6 = (q : Int) ∧ s.tmod 6 = (r : Int) := by
  refine ⟨s.toNat / 6, s.toNat % 6, rfl, rfl, by omega, by omega, ?_, ?_⟩
  · rw [Int.tdiv_eq_ediv_of_nonneg h0]; omega
  · rw [Int.tmod_eq_emod_of_nonneg h0]; omega
theorem smScaled_yes {g : Int → Nat → Nat → Int} {zs : List Int} {s : Int} (h : SmOk zs) (hs : 0 ≤ s ∧ s ≤ 40) : smScaled g zs s = tab16 (fun p => g (zs.getD p 0) p s.toNat) := by
  unfold smScaled; rw [if_pos ⟨smB_yes h, stB_iff.2 hs⟩]
theorem smScaled_no {g : Int → Nat → Nat → Int} {zs : List Int} {s : Int} (h : ¬ (SmOk zs ∧ 0 ≤ s ∧ s ≤ 40)) : smScaled g zs s = [] := by
  unfold smScaled; rw [if_neg (fun h' => h ⟨smB_iff.1 h'.1, stB_iff.1 h'.2⟩)]
end Go.Proofs.YtpofmcepjmbmcaaDoor

/- Plain: how far a small block is away behind coarse and fine. -/
namespace Go.Proofs.YtpofmcepjmbmcaaDoor
open Go.RowKit

/-- What a class's numbers are multiplied by in the end. -/
def kapZ (c : Nat) : Int := if c = 0 then 100 else if c = 1 then 64 else 80
theorem coarse_core (a m X N B Q : Int) (hN : N = a * m + 16384 * X) (hB : B = 32768 * X) (hX : 1 ≤ X) (hQ : N / B = Q) : 32768 * (Q * X) ≤ a * m + 16384 * X ∧ a * m < 32768 * (Q * X) + 16384 * X := by
  subst hQ
  have hb : 0 < B := by omega
  have h1 := Int.ediv_mul_le N (show B ≠ 0 by omega)
  have h2 := Int.lt_ediv_add_one_mul_self N hb
  have e : N / B * B = 32768 * (N / B * X) := by rw [hB]; rw [Int.mul_left_comm]
  have e2 : (N / B + 1) * B = 32768 * (N / B * X) + 32768 * X := by rw [Int.add_mul, e, hB]; omega
  rw [e] at h1
  rw [e2] at h2
  omega
theorem pow_14 (q : Nat) : (2 : Int) ^ (14 + q) = 16384 * 2 ^ q := by rw [Int.pow_add]; rfl
theorem pow_15 (q : Nat) : (2 : Int) ^ (15 + q) = 32768 * 2 ^ q := by rw [Int.pow_add]; rfl
theorem pow_q1 (q : Nat) : (1 : Int) ≤ 2 ^ q := by
  have : (0 : Int) < 2 ^ q := Int.pow_pos (by omega)
  omega
theorem near_core (r c : Nat) (hr : r < 6) (hc : c < 3) (a X G : Int) (ha : 0 ≤ a ∧ a ≤ 9180)
    (h1 : 32768 * G ≤ a * smM r c + 16384 * X) (h2 : a * smM r c < 32768 * G + 16384 * X) : -(25 * (smV r c * X) + 156) ≤ 2 * (25 * (G * smV r c) - kapZ c * a) ∧ 2 * (25 * (G * smV r c) - kapZ c * a) ≤ 25 * (smV r c * X) + 156 := by
  rcases (show r = 0 ∨ r = 1 ∨ r = 2 ∨ r = 3 ∨ r = 4 ∨ r = 5 by omega) with e | e | e | e | e | e <;> subst e <;>
  rcases (show c = 0 ∨ c = 1 ∨ c = 2 by omega) with e | e | e <;> subst e <;>
  · simp only [smM, smV, kapZ] at *
    simp at *
    omega
/-- A number of sums that went through coarse and fine is near its share. -/
theorem near_one (r c q : Nat) (hr : r < 6) (hc : c < 3) (w : Int) (hw : -9180 ≤ w ∧ w ≤ 9180) :
    -(25 * (smV r c * 2 ^ q) + 156) ≤ 2 * (25 * (coZ w (smM r c) q * (smV r c * 2 ^ q)) - kapZ c * w) ∧ 2 * (25 * (coZ w (smM r c) q * (smV r c * 2 ^ q)) - kapZ c * w) ≤ 25 * (smV r c * 2 ^ q) + 156 := by
  have hX := pow_q1 q
  unfold coZ
  rw [pow_14, pow_15]
  generalize (2 : Int) ^ q = X at *
  by_cases h : w < 0
  · rw [if_pos h]
    obtain ⟨h1, h2⟩ := coarse_core (-w) (smM r c) X _ _ _ rfl rfl hX rfl
    have h3 := near_core r c hr hc (-w) X _ (by omega) h1 h2
    generalize (-w * smM r c + 16384 * X) / (32768 * X) = Q at *
    have e : -Q * (smV r c * X) = -(Q * X * smV r c) := by rw [Int.neg_mul, Int.mul_comm (smV r c) X, Int.mul_assoc]
    have e2 : kapZ c * -w = -(kapZ c * w) := Int.mul_neg _ _
    rw [e]
    rw [e2] at h3
    generalize Q * X * smV r c = F at *
    generalize kapZ c * w = Kw at *
    omega
  · rw [if_neg h]
    obtain ⟨h1, h2⟩ := coarse_core w (smM r c) X _ _ _ rfl rfl hX rfl
    have h3 := near_core r c hr hc w X _ (by omega) h1 h2
    generalize (w * smM r c + 16384 * X) / (32768 * X) = Q at *
    have e : Q * (smV r c * X) = Q * X * smV r c := by rw [Int.mul_comm (smV r c) X, Int.mul_assoc]
    rw [e]
    exact h3
end Go.Proofs.YtpofmcepjmbmcaaDoor

/- Plain: how far a small block is away behind coarse, fine and back. -/
namespace Go.Proofs.YtpofmcepjmbmcaaDoor
open Go.RowKit

/-- Twice the weights of the way back. -/
def linZ (r : List Int) (u : Nat) : Int :=
  if u = 0 then 2 * r.getD 0 0 + 2 * r.getD 1 0 + 2 * r.getD 2 0 + r.getD 3 0 else if u = 1 then 2 * r.getD 0 0 + r.getD 1 0 - 2 * r.getD 2 0 - 2 * r.getD 3 0
  else if u = 2 then 2 * r.getD 0 0 - r.getD 1 0 - 2 * r.getD 2 0 + 2 * r.getD 3 0 else 2 * r.getD 0 0 - 2 * r.getD 1 0 + 2 * r.getD 2 0 - r.getD 3 0
theorem back_lin (r : List Int) (u : Nat) : linZ r u - 2 ≤ 2 * backS r u ∧ 2 * backS r u ≤ linZ r u + 2 := by
  unfold backS linZ
  by_cases h0 : u = 0
  · simp only [if_pos h0]; omega
  · by_cases h1 : u = 1
    · simp only [if_neg h0, if_pos h1]; omega
    · by_cases h2 : u = 2
      · simp only [if_neg h0, if_neg h1, if_pos h2]; omega
      · simp only [if_neg h0, if_neg h1, if_neg h2]; omega
/-- The sums of a row, weighed, are the row again. -/
theorem lin_sum (r : List Int) (y : Nat) (hy : y < 4) : linZ [5 * sumS r 0, 4 * sumS r 1, 5 * sumS r 2, 4 * sumS r 3] y = 40 * r.getD y 0 := by
  rw [sumS_eq r 0 (by omega), sumS_eq r 1 (by omega), sumS_eq r 2 (by omega), sumS_eq r 3 (by omega)]
  rcases (show y = 0 ∨ y = 1 ∨ y = 2 ∨ y = 3 by omega) with e | e | e | e <;> subst e <;>
  · simp [linZ]
    omega
/-- A square's share of one place: of each row, then of the rows. -/
def lin2 (F : Nat → Int) (x y : Nat) : Int := linZ [linZ [F 0, F 1, F 2, F 3] x, linZ [F 4, F 5, F 6, F 7] x, linZ [F 8, F 9, F 10, F 11] x, linZ [F 12, F 13, F 14, F 15] x] y
theorem lin_near (u : Nat) (a b c d a' b' c' d' A B : Int) (ha : -A ≤ a - a' ∧ a - a' ≤ A) (hb : -B ≤ b - b' ∧ b - b' ≤ B) (hc : -A ≤ c - c' ∧ c - c' ≤ A) (hd : -B ≤ d - d' ∧ d - d' ≤ B) :
    -(4 * A + 3 * B) ≤ linZ [a, b, c, d] u - linZ [a', b', c', d'] u ∧ linZ [a, b, c, d] u - linZ [a', b', c', d'] u ≤ 4 * A + 3 * B := by
  unfold linZ
  by_cases h0 : u = 0
  · simp [if_pos h0]; omega
  · by_cases h1 : u = 1
    · simp [if_pos h1]; omega
    · by_cases h2 : u = 2
      · simp [if_pos h2]; omega
      · simp [if_neg h0, if_neg h1, if_neg h2]; omega
theorem lin_mul2 (u : Nat) (a b c d : Int) : linZ [2 * a, 2 * b, 2 * c, 2 * d] u = 2 * linZ [a, b, c, d] u := by
  unfold linZ
  by_cases h0 : u = 0
  · simp [if_pos h0]; omega
  · by_cases h1 : u = 1
    · simp [if_pos h1]; omega
    · by_cases h2 : u = 2
      · simp [if_pos h2]; omega
      · simp [if_neg h0, if_neg h1, if_neg h2]; omega
theorem lin_row (r : List Int) (u : Nat) : linZ [r.getD 0 0, r.getD 1 0, r.getD 2 0, r.getD 3 0] u = linZ r u := rfl
/-- What comes back is near its linear part. -/
theorem inv_near (fs : List Int) (p : Nat) (hp : p < 16) : lin2 (fun k => fs.getD k 0) (p % 4) (p / 4) - 150 ≤ 256 * smInvZ fs p ∧ 256 * smInvZ fs p ≤ lin2 (fun k => fs.getD k 0) (p % 4) (p / 4) + 150 := by
  unfold smInvZ
  rw [turn4_at backS _ p hp]
  rw [show rowZ (turn4 backS fs) (p % 4) = [backS (rowZ fs 0) (p % 4), backS (rowZ fs 1) (p % 4), backS (rowZ fs 2) (p % 4), backS (rowZ fs 3) (p % 4)] by
    unfold rowZ
    rw [turn4_at backS _ _ (by omega), turn4_at backS _ _ (by omega), turn4_at backS _ _ (by omega), turn4_at backS _ _ (by omega)]
    rw [show 4 * (p % 4) % 4 = 0 by omega, show 4 * (p % 4) / 4 = p % 4 by omega, show (4 * (p % 4) + 1) % 4 = 1 by omega, show (4 * (p % 4) + 1) / 4 = p % 4 by omega, show (4 * (p % 4) + 2) % 4 = 2 by omega, show (4 * (p % 4) + 2) / 4 = p % 4 by omega, show (4 * (p % 4) + 3) % 4 = 3 by omega, show (4 * (p % 4) + 3) / 4 = p % 4 by omega]
    rfl]
  generalize p % 4 = x
  generalize p / 4 = y
  have b0 := back_lin (rowZ fs 0) x
  have b1 := back_lin (rowZ fs 1) x
  have b2 := back_lin (rowZ fs 2) x
  have b3 := back_lin (rowZ fs 3) x
  generalize backS (rowZ fs 0) x = m0 at *
  generalize backS (rowZ fs 1) x = m1 at *
  generalize backS (rowZ fs 2) x = m2 at *
  generalize backS (rowZ fs 3) x = m3 at *
  have h := back_lin [m0, m1, m2, m3] y
  generalize backS [m0, m1, m2, m3] y = R at *
  have e := lin_mul2 y m0 m1 m2 m3
  have n := lin_near y (2 * m0) (2 * m1) (2 * m2) (2 * m3) (linZ (rowZ fs 0) x) (linZ (rowZ fs 1) x) (linZ (rowZ fs 2) x) (linZ (rowZ fs 3) x) 2 2 (by omega) (by omega) (by omega) (by omega)
  rw [e] at n
  have e2 : lin2 (fun k => fs.getD k 0) x y = linZ [linZ (rowZ fs 0) x, linZ (rowZ fs 1) x, linZ (rowZ fs 2) x, linZ (rowZ fs 3) x] y := rfl
  rw [e2]
  generalize linZ [linZ (rowZ fs 0) x, linZ (rowZ fs 1) x, linZ (rowZ fs 2) x, linZ (rowZ fs 3) x] y = E at *
  generalize linZ [m0, m1, m2, m3] y = D at *
  omega
theorem lin_swap (a0 a1 a2 a3 b0 b1 b2 b3 c0 c1 c2 c3 d0 d1 d2 d3 : Int) (x y : Nat) (hx : x < 4) (hy : y < 4) :
    linZ [linZ [a0, a1, a2, a3] x, linZ [b0, b1, b2, b3] x, linZ [c0, c1, c2, c3] x, linZ [d0, d1, d2, d3] x] y = linZ [linZ [a0, b0, c0, d0] y, linZ [a1, b1, c1, d1] y, linZ [a2, b2, c2, d2] y, linZ [a3, b3, c3, d3] y] x := by
  rcases (show x = 0 ∨ x = 1 ∨ x = 2 ∨ x = 3 by omega) with e | e | e | e <;> subst e <;>
  rcases (show y = 0 ∨ y = 1 ∨ y = 2 ∨ y = 3 by omega) with e | e | e | e <;> subst e <;>
  · simp [linZ]
    try omega
theorem lin_20 (a b c d : Int) (u : Nat) : linZ [100 * a, 80 * b, 100 * c, 80 * d] u = 20 * linZ [5 * a, 4 * b, 5 * c, 4 * d] u := by
  unfold linZ
  by_cases h0 : u = 0
  · simp [if_pos h0]; omega
  · by_cases h1 : u = 1
    · simp [if_pos h1]; omega
    · by_cases h2 : u = 2
      · simp [if_pos h2]; omega
      · simp [if_neg h0, if_neg h1, if_neg h2]; omega
theorem lin_16 (a b c d : Int) (u : Nat) : linZ [80 * a, 64 * b, 80 * c, 64 * d] u = 16 * linZ [5 * a, 4 * b, 5 * c, 4 * d] u := by
  unfold linZ
  by_cases h0 : u = 0
  · simp [if_pos h0]; omega
  · by_cases h1 : u = 1
    · simp [if_pos h1]; omega
    · by_cases h2 : u = 2
      · simp [if_pos h2]; omega
      · simp [if_neg h0, if_neg h1, if_neg h2]; omega
theorem lin_160 (a b c d : Int) (u : Nat) : linZ [800 * a, 640 * b, 800 * c, 640 * d] u = 160 * linZ [5 * a, 4 * b, 5 * c, 4 * d] u := by
  unfold linZ
  by_cases h0 : u = 0
  · simp [if_pos h0]; omega
  · by_cases h1 : u = 1
    · simp [if_pos h1]; omega
    · by_cases h2 : u = 2
      · simp [if_pos h2]; omega
      · simp [if_neg h0, if_neg h1, if_neg h2]; omega
/-- The sums' share. -/
theorem fwd_share (zs : List Int) (x y : Nat) (hx : x < 4) (hy : y < 4) : lin2 (fun k => kapZ (smClass k) * (turn4 sumS (turn4 sumS zs)).getD k 0) x y = 6400 * zs.getD (4 * y + x) 0 := by
  have hw : ∀ j k, j < 4 → k < 4 → (turn4 sumS (turn4 sumS zs)).getD (4 * j + k) 0 = sumS [sumS (rowZ zs 0) k, sumS (rowZ zs 1) k, sumS (rowZ zs 2) k, sumS (rowZ zs 3) k] j := by
    intro j k hj hk
    rw [turn4_at sumS _ _ (by omega), show (4 * j + k) % 4 = k by omega, show (4 * j + k) / 4 = j by omega]
    congr 1
    unfold rowZ
    rw [turn4_at sumS _ _ (by omega), turn4_at sumS _ _ (by omega), turn4_at sumS _ _ (by omega), turn4_at sumS _ _ (by omega)]
    rw [show 4 * k % 4 = 0 by omega, show 4 * k / 4 = k by omega, show (4 * k + 1) % 4 = 1 by omega, show (4 * k + 1) / 4 = k by omega, show (4 * k + 2) % 4 = 2 by omega, show (4 * k + 2) / 4 = k by omega, show (4 * k + 3) % 4 = 3 by omega, show (4 * k + 3) / 4 = k by omega]
    rfl
  have c0 := lin_sum [sumS (rowZ zs 0) 0, sumS (rowZ zs 1) 0, sumS (rowZ zs 2) 0, sumS (rowZ zs 3) 0] y hy
  have c1 := lin_sum [sumS (rowZ zs 0) 1, sumS (rowZ zs 1) 1, sumS (rowZ zs 2) 1, sumS (rowZ zs 3) 1] y hy
  have c2 := lin_sum [sumS (rowZ zs 0) 2, sumS (rowZ zs 1) 2, sumS (rowZ zs 2) 2, sumS (rowZ zs 3) 2] y hy
  have c3 := lin_sum [sumS (rowZ zs 0) 3, sumS (rowZ zs 1) 3, sumS (rowZ zs 2) 3, sumS (rowZ zs 3) 3] y hy
  have d := lin_sum (rowZ zs y) x hx
  rw [rowZ_getD zs y x hx] at d
  have pick : ∀ k, [sumS (rowZ zs 0) k, sumS (rowZ zs 1) k, sumS (rowZ zs 2) k, sumS (rowZ zs 3) k].getD y 0 = sumS (rowZ zs y) k := by
    intro k
    rcases (show y = 0 ∨ y = 1 ∨ y = 2 ∨ y = 3 by omega) with e | e | e | e <;> subst e <;> rfl
  rw [pick] at c0 c1 c2 c3
  have W := fun j k hj hk => hw j k hj hk
  unfold lin2
  simp only
  rw [W 0 0 (by omega) (by omega), W 0 1 (by omega) (by omega), W 0 2 (by omega) (by omega), W 0 3 (by omega) (by omega), W 1 0 (by omega) (by omega), W 1 1 (by omega) (by omega), W 1 2 (by omega) (by omega), W 1 3 (by omega) (by omega),
    W 2 0 (by omega) (by omega), W 2 1 (by omega) (by omega), W 2 2 (by omega) (by omega), W 2 3 (by omega) (by omega), W 3 0 (by omega) (by omega), W 3 1 (by omega) (by omega), W 3 2 (by omega) (by omega), W 3 3 (by omega) (by omega)]
  clear hw W pick
  generalize sumS [sumS (rowZ zs 0) 0, sumS (rowZ zs 1) 0, sumS (rowZ zs 2) 0, sumS (rowZ zs 3) 0] 0 = w00 at *
  generalize sumS [sumS (rowZ zs 0) 1, sumS (rowZ zs 1) 1, sumS (rowZ zs 2) 1, sumS (rowZ zs 3) 1] 0 = w01 at *
  generalize sumS [sumS (rowZ zs 0) 2, sumS (rowZ zs 1) 2, sumS (rowZ zs 2) 2, sumS (rowZ zs 3) 2] 0 = w02 at *
  generalize sumS [sumS (rowZ zs 0) 3, sumS (rowZ zs 1) 3, sumS (rowZ zs 2) 3, sumS (rowZ zs 3) 3] 0 = w03 at *
  generalize sumS [sumS (rowZ zs 0) 0, sumS (rowZ zs 1) 0, sumS (rowZ zs 2) 0, sumS (rowZ zs 3) 0] 1 = w10 at *
  generalize sumS [sumS (rowZ zs 0) 1, sumS (rowZ zs 1) 1, sumS (rowZ zs 2) 1, sumS (rowZ zs 3) 1] 1 = w11 at *
  generalize sumS [sumS (rowZ zs 0) 2, sumS (rowZ zs 1) 2, sumS (rowZ zs 2) 2, sumS (rowZ zs 3) 2] 1 = w12 at *
  generalize sumS [sumS (rowZ zs 0) 3, sumS (rowZ zs 1) 3, sumS (rowZ zs 2) 3, sumS (rowZ zs 3) 3] 1 = w13 at *
  generalize sumS [sumS (rowZ zs 0) 0, sumS (rowZ zs 1) 0, sumS (rowZ zs 2) 0, sumS (rowZ zs 3) 0] 2 = w20 at *
  generalize sumS [sumS (rowZ zs 0) 1, sumS (rowZ zs 1) 1, sumS (rowZ zs 2) 1, sumS (rowZ zs 3) 1] 2 = w21 at *
  generalize sumS [sumS (rowZ zs 0) 2, sumS (rowZ zs 1) 2, sumS (rowZ zs 2) 2, sumS (rowZ zs 3) 2] 2 = w22 at *
  generalize sumS [sumS (rowZ zs 0) 3, sumS (rowZ zs 1) 3, sumS (rowZ zs 2) 3, sumS (rowZ zs 3) 3] 2 = w23 at *
  generalize sumS [sumS (rowZ zs 0) 0, sumS (rowZ zs 1) 0, sumS (rowZ zs 2) 0, sumS (rowZ zs 3) 0] 3 = w30 at *
  generalize sumS [sumS (rowZ zs 0) 1, sumS (rowZ zs 1) 1, sumS (rowZ zs 2) 1, sumS (rowZ zs 3) 1] 3 = w31 at *
  generalize sumS [sumS (rowZ zs 0) 2, sumS (rowZ zs 1) 2, sumS (rowZ zs 2) 2, sumS (rowZ zs 3) 2] 3 = w32 at *
  generalize sumS [sumS (rowZ zs 0) 3, sumS (rowZ zs 1) 3, sumS (rowZ zs 2) 3, sumS (rowZ zs 3) 3] 3 = w33 at *
  generalize sumS (rowZ zs y) 0 = m0 at *
  generalize sumS (rowZ zs y) 1 = m1 at *
  generalize sumS (rowZ zs y) 2 = m2 at *
  generalize sumS (rowZ zs y) 3 = m3 at *
  generalize zs.getD (4 * y + x) 0 = z at *
  rw [show kapZ (smClass 0) = 100 from rfl, show kapZ (smClass 1) = 80 from rfl, show kapZ (smClass 2) = 100 from rfl, show kapZ (smClass 3) = 80 from rfl, show kapZ (smClass 4) = 80 from rfl, show kapZ (smClass 5) = 64 from rfl, show kapZ (smClass 6) = 80 from rfl, show kapZ (smClass 7) = 64 from rfl,
    show kapZ (smClass 8) = 100 from rfl, show kapZ (smClass 9) = 80 from rfl, show kapZ (smClass 10) = 100 from rfl, show kapZ (smClass 11) = 80 from rfl, show kapZ (smClass 12) = 80 from rfl, show kapZ (smClass 13) = 64 from rfl, show kapZ (smClass 14) = 80 from rfl, show kapZ (smClass 15) = 64 from rfl]
  rw [lin_swap _ _ _ _ _ _ _ _ _ _ _ _ _ _ _ _ x y hx hy, lin_20, lin_16, lin_20, lin_16, c0, c1, c2, c3]
  have e := lin_160 m0 m1 m2 m3 x
  rw [d] at e
  rw [show 20 * (40 * m0) = 800 * m0 by omega, show 16 * (40 * m1) = 640 * m1 by omega, show 20 * (40 * m2) = 800 * m2 by omega, show 16 * (40 * m3) = 640 * m3 by omega, e]
  omega
/-- The bound of a class's numbers, twice. -/
def smB2 (r q c : Nat) : Int := 25 * (smV r c * 2 ^ q) + 156
theorem lin2_near (F K : Nat → Int) (B0 B1 B2 : Int) (x y : Nat) (h : ∀ k, k < 16 → -(if smClass k = 0 then B0 else if smClass k = 1 then B1 else B2) ≤ F k - K k ∧ F k - K k ≤ (if smClass k = 0 then B0 else if smClass k = 1 then B1 else B2)) :
    -(16 * B0 + 9 * B1 + 24 * B2) ≤ lin2 F x y - lin2 K x y ∧ lin2 F x y - lin2 K x y ≤ 16 * B0 + 9 * B1 + 24 * B2 := by
  have r0 := lin_near x (F 0) (F 1) (F 2) (F 3) (K 0) (K 1) (K 2) (K 3) B0 B2 (h 0 (by omega)) (h 1 (by omega)) (h 2 (by omega)) (h 3 (by omega))
  have r1 := lin_near x (F 4) (F 5) (F 6) (F 7) (K 4) (K 5) (K 6) (K 7) B2 B1 (h 4 (by omega)) (h 5 (by omega)) (h 6 (by omega)) (h 7 (by omega))
  have r2 := lin_near x (F 8) (F 9) (F 10) (F 11) (K 8) (K 9) (K 10) (K 11) B0 B2 (h 8 (by omega)) (h 9 (by omega)) (h 10 (by omega)) (h 11 (by omega))
  have r3 := lin_near x (F 12) (F 13) (F 14) (F 15) (K 12) (K 13) (K 14) (K 15) B2 B1 (h 12 (by omega)) (h 13 (by omega)) (h 14 (by omega)) (h 15 (by omega))
  have e := lin_near y _ _ _ _ _ _ _ _ _ _ r0 r1 r2 r3
  unfold lin2
  omega
/-- The law's bound. -/
def smBound (s : Nat) : Int := (20 + 4 * ((s % 6 : Nat) : Int)) * 2 ^ (s / 6) / 16 + 2
theorem bound_end (r : Nat) (hr : r < 6) (X d : Int) (h : 12800 * d ≤ 16 * (25 * (smV r 0 * X) + 156) + 9 * (25 * (smV r 1 * X) + 156) + 24 * (25 * (smV r 2 * X) + 156) + 7500) (hX : 1 ≤ X) : d ≤ (20 + 4 * (r : Int)) * X / 16 + 2 := by
  rcases (show r = 0 ∨ r = 1 ∨ r = 2 ∨ r = 3 ∨ r = 4 ∨ r = 5 by omega) with e | e | e | e | e | e <;> subst e <;>
  · simp only [smV] at h
    simp at h ⊢
    omega
end Go.Proofs.YtpofmcepjmbmcaaDoor

/- Plain: small blocks forward, coarse, fine and back are near what they were. -/
namespace Go.Proofs.YtpofmcepjmbmcaaDoor
open Go.RowKit

theorem lin_50 (a b c d : Int) (u : Nat) : linZ [50 * a, 50 * b, 50 * c, 50 * d] u = 50 * linZ [a, b, c, d] u := by
  unfold linZ
  by_cases h0 : u = 0
  · simp [if_pos h0]; omega
  · by_cases h1 : u = 1
    · simp [if_pos h1]; omega
    · by_cases h2 : u = 2
      · simp [if_pos h2]; omega
      · simp [if_neg h0, if_neg h1, if_neg h2]; omega
theorem lin2_50 (F : Nat → Int) (x y : Nat) : lin2 (fun k => 50 * F k) x y = 50 * lin2 F x y := by
  unfold lin2
  simp only [lin_50]
theorem lin2_2 (F : Nat → Int) (x y : Nat) : lin2 (fun k => 2 * F k) x y = 2 * lin2 F x y := by
  unfold lin2
  simp only [lin_mul2]
def fwdW (zs : List Int) (k : Nat) : Int := (turn4 sumS (turn4 sumS zs)).getD k 0
theorem fwdW_bd {zs : List Int} (hl : zs.length = 16) (hz : InR (-255) 255 zs) (k : Nat) (hk : k < 16) : -9180 ≤ fwdW zs k ∧ fwdW zs k ≤ 9180 := by
  have h := sum_inR (turn4_length sumS zs) (sum_inR hl hz)
  have := h k (by simpa using hk)
  unfold fwdW
  omega
theorem pow_fP (q : Nat) (h : q ≤ 6) : (1 : Int) ≤ 2 ^ q ∧ (2 : Int) ^ q ≤ 64 := by
  rcases (show q = 0 ∨ q = 1 ∨ q = 2 ∨ q = 3 ∨ q = 4 ∨ q = 5 ∨ q = 6 by omega) with e | e | e | e | e | e | e <;> subst e <;> decide
/-- A number behind coarse and fine. -/
def thruZ (zs : List Int) (s k : Nat) : Int := smFi (smCo (fwdW zs k) k s) k s
theorem thru_near {zs : List Int} (hl : zs.length = 16) (hz : InR (-255) 255 zs) (s : Nat) (hs : s ≤ 40) (k : Nat) (hk : k < 16) :
    (-(25 * (smV (s % 6) (smClass k) * 2 ^ (s / 6)) + 156) ≤ 2 * (25 * thruZ zs s k - kapZ (smClass k) * fwdW zs k) ∧ 2 * (25 * thruZ zs s k - kapZ (smClass k) * fwdW zs k) ≤ 25 * (smV (s % 6) (smClass k) * 2 ^ (s / 6)) + 156) := by
  have hw := fwdW_bd hl hz k hk
  have hn := near_one (s % 6) (smClass k) (s / 6) (by omega) (smClass_lt k) (fwdW zs k) hw
  have hv := smV_bd (s % 6) (smClass k) (by omega) (smClass_lt k)
  have hX := pow_fP (s / 6) (by omega)
  have hb := mul_in (smV (s % 6) (smClass k)) (2 ^ (s / 6)) 29 64 ⟨by omega, hv.2⟩ ⟨by omega, hX.2⟩
  have hkap : -918000 ≤ kapZ (smClass k) * fwdW zs k ∧ kapZ (smClass k) * fwdW zs k ≤ 918000 := by
    unfold kapZ
    split
    · omega
    · split <;> omega
  unfold thruZ smFi
  rw [smCo_eq]
  generalize coZ (fwdW zs k) (smM (s % 6) (smClass k)) (s / 6) * (smV (s % 6) (smClass k) * 2 ^ (s / 6)) = F at *
  generalize smV (s % 6) (smClass k) * 2 ^ (s / 6) = V at *
  generalize kapZ (smClass k) * fwdW zs k = Kw at *
  rw [show cutZ (-65536) 65535 F = F by unfold cutZ; rw [if_neg (by omega), if_neg (by omega)]]
  exact hn
/-- The law's last test. -/
theorem small_back {zs : List Int} (hl : zs.length = 16) (hz : InR (-255) 255 zs) (s : Nat) (hs : s ≤ 40) (p : Nat) (hp : p < 16) :
    -(smBound s) ≤ smInvZ (tab16 (thruZ zs s)) p - zs.getD p 0 ∧ smInvZ (tab16 (thruZ zs s)) p - zs.getD p 0 ≤ smBound s := by
  have hT : ∀ k, k < 16 → (tab16 (thruZ zs s)).getD k 0 = thruZ zs s k := fun k hk => tab16_getD _ k hk
  have hi := inv_near (tab16 (thruZ zs s)) p hp
  rw [show lin2 (fun k => (tab16 (thruZ zs s)).getD k 0) (p % 4) (p / 4) = lin2 (thruZ zs s) (p % 4) (p / 4) by
    unfold lin2
    simp only
    rw [hT 0 (by omega), hT 1 (by omega), hT 2 (by omega), hT 3 (by omega), hT 4 (by omega), hT 5 (by omega), hT 6 (by omega), hT 7 (by omega), hT 8 (by omega), hT 9 (by omega), hT 10 (by omega), hT 11 (by omega), hT 12 (by omega), hT 13 (by omega), hT 14 (by omega), hT 15 (by omega)]] at hi
  have hf := fwd_share zs (p % 4) (p / 4) (by omega) (by omega)
  rw [show 4 * (p / 4) + p % 4 = p by omega] at hf
  have hn := lin2_near (fun k => 50 * thruZ zs s k) (fun k => 2 * (kapZ (smClass k) * fwdW zs k)) (25 * (smV (s % 6) 0 * 2 ^ (s / 6)) + 156) (25 * (smV (s % 6) 1 * 2 ^ (s / 6)) + 156) (25 * (smV (s % 6) 2 * 2 ^ (s / 6)) + 156) (p % 4) (p / 4) (fun k hk => by
    have h := thru_near hl hz s hs k hk
    have hc := smClass_lt k
    rcases (show smClass k = 0 ∨ smClass k = 1 ∨ smClass k = 2 by omega) with e | e | e <;> rw [e] at h ⊢ <;>
    · simp only [if_true, Nat.one_ne_zero, if_false, Nat.reduceEqDiff]
      generalize thruZ zs s k = F at *
      omega)
  rw [lin2_50, lin2_2] at hn
  have hf2 : lin2 (fun k => kapZ (smClass k) * fwdW zs k) (p % 4) (p / 4) = 6400 * zs.getD p 0 := hf
  rw [hf2] at hn
  have hX := pow_q1 (s / 6)
  unfold smBound
  generalize lin2 (thruZ zs s) (p % 4) (p / 4) = E at *
  generalize zs.getD p 0 = z at *
  generalize smInvZ (tab16 (thruZ zs s)) p = R at *
  have b1 := bound_end (s % 6) (by omega) (2 ^ (s / 6)) (R - z)
  have b2 := bound_end (s % 6) (by omega) (2 ^ (s / 6)) (z - R)
  generalize (2 : Int) ^ (s / 6) = X at *
  generalize smV (s % 6) 0 * X = V0 at *
  generalize smV (s % 6) 1 * X = V1 at *
  generalize smV (s % 6) 2 * X = V2 at *
  have c1 := b1 (by omega) hX
  have c2 := b2 (by omega) hX
  generalize (20 + 4 * ((s % 6 : Nat) : Int)) * X / 16 = T at *
  omega
end Go.Proofs.YtpofmcepjmbmcaaDoor

/- The drawing of small blocks with a step; the bound; what is made small. -/
namespace Go.Proofs.YtpofmcepjmbmcaaDoor
open Go.RowKit

theorem argB_below {w w' : World} {ad : Option Addr} {zs : List Int} (h : ArgB w ad zs) (hb : Below w.heap.size w w') : ArgB w' ad zs := ⟨h.1, fun hne => by
  obtain ⟨b, off, e, hl, hc⟩ := h.2 hne
  exact ⟨b, off, e, Nat.lt_of_lt_of_le hl hb.size, fun j hj => (hb.cell (p := ⟨b, off + j, none⟩) (by simpa using hl)).trans (hc j hj)⟩⟩
set_option maxHeartbeats 8000000 in
set_option maxRecDepth 100000 in
theorem specL13Stepped (ad : Option Addr) (cap : Nat) (zs : List Int) (w : World) (h : ArgB w ad zs) (hl : zs.length ≤ 1048576) :
    Calls Tryd.prog 65 #[.slice ad zs.length cap] w fun e w' => ∃ v xs s, e = .returned (.tuple #[v, .int .i64 s]) ∧ (xs.length = 16 ∨ xs.length = 15) ∧ InR (-65537) 65536 xs ∧ RdI w' v xs ∧ (-1 ≤ s ∧ s ≤ 41) ∧ Below w.heap.size w w' := by
  have hB0 := (Below.refl w.heap.size w).alloc (Nat.le_refl _) (.cells #[.slice ad zs.length cap, .int .i64 0, .int .u64 0] 60)
  have hc0 := hide (curIn_new _ ad cap zs h)
  have hs0 : Hid ((w.alloc (.cells #[.slice ad zs.length cap, .int .i64 0, .int .u64 0] 60)).heap.size = w.heap.size + 1) := hide (by simp)
  replace hB0 := hide hB0
  replace h := hide h
  go_enter Tryd.func65, Tryd.ntmps65
  go_wp2_with fail
  generalize w.alloc (.cells #[.slice ad zs.length cap, .int .i64 0, .int .u64 0] 60) = w0 at hc0 hB0 hs0 ⊢
  refine (curPickAny w.heap.size ad cap zs 0 41 w0 (unhide hc0) (by omega) hl (by omega)).mono ?_
  rintro e w1 ⟨s, rfl, s0, s1, hc1, ho⟩
  replace s1 := s1 (by omega)
  replace hB0 := hide ((unhide hB0).trans (ho.below (Nat.le_refl _) (by have := unhide hs0; omega)))
  have hz1 : w.heap.size + 1 ≤ w1.heap.size := by have := ho.size; have := unhide hs0; omega
  replace hc1 := hide hc1
  clear hc0 ho
  go_wp2_with fail
  refine (curOne w.heap.size ad cap zs _ 12 w1 (unhide hc1) (by omega) hl (by omega) (by omega)).mono ?_
  rintro e w2 ⟨b, rfl, hc2, ho⟩
  replace hB0 := hide ((unhide hB0).trans (ho.below (Nat.le_refl _) (by omega)))
  have hz2 : w.heap.size + 1 ≤ w2.heap.size := by have := ho.size; omega
  replace hc2 := hide hc2
  clear hc1 ho hz1
  cases b
  · have hD := hide (specL13Drawn ad cap zs w2 (argB_below (unhide h) (unhide hB0)) hl)
    go_wp2_with fail
    refine (unhide hD).mono ?_
    rintro e w3 ⟨v, xs, rfl, h1, h2, h3, h4⟩
    have hB := hide ((unhide hB0).trans (h4.mono (by omega)))
    obtain ⟨ad3, cap3, rfl, hA3⟩ := h3
    have hr := hide (show RdI w3 (.slice ad3 xs.length cap3) xs from ⟨ad3, cap3, rfl, hA3⟩)
    replace h1 := hide h1
    replace h2 := hide h2
    clear hD hA3 h4 hB0
    go_wp2
    go_ret2
    exact ⟨_, xs, _, rfl, unhide h1, unhide h2, unhide hr, by omega, unhide hB⟩
  · have hu := Upd.of_below ((Below.refl w2.heap.size w2).alloc (Nat.le_refl _) (.cells #[.int .i64 (-1), .int .i64 41] 3)) 0 0
    have hcl := hide (heldF_new w2 [.int .i64 (-1), .int .i64 41] 3)
    have hc4 := hide ((unhide hc2).grown ((Below.refl w2.heap.size w2).alloc (Nat.le_refl _) (.cells #[.int .i64 (-1), .int .i64 41] 3)))
    replace hB0 := hide (below_upd (unhide hB0) hu (Nat.le_refl _) (.inr (Nat.le_refl _)))
    clear hc2 hu
    go_wp2_with fail
    refine (curPickAny w.heap.size ad cap zs _ 2 _ (unhide hc4) (by omega) hl (by omega)).mono ?_
    rintro e w4 ⟨y, rfl, y0, y1, hc5, ho⟩
    replace y1 := y1 (by omega)
    replace hB0 := hide ((unhide hB0).trans (ho.below (Nat.le_refl _) (by simp; omega)))
    replace hcl := hide ((unhide hcl).only ho (by omega))
    have hz4 : w.heap.size ≤ w4.heap.size := (unhide hB0).size
    clear hc4 ho hc5
    have k0 := (unhide hcl).1.2 0 _ rfl
    have k1 := (unhide hcl).1.2 1 _ rfl
    have hD := hide (fun W (hb : Below w.heap.size w W) => specL13Drawn ad cap zs W (argB_below (unhide h) hb) hl)
    rcases (show y = 0 ∨ y = 1 by omega) with e | e
    · subst e
      go_wp2_with fail
      refine (unhide hD _ (unhide hB0)).mono ?_
      rintro e w3 ⟨v, xs, rfl, h1, h2, h3, h4⟩
      have hB := hide ((unhide hB0).trans (h4.mono (by omega)))
      obtain ⟨ad3, cap3, rfl, hA3⟩ := h3
      have hr := hide (show RdI w3 (.slice ad3 xs.length cap3) xs from ⟨ad3, cap3, rfl, hA3⟩)
      replace h1 := hide h1
      replace h2 := hide h2
      clear hD hA3 h4 hB0 k0 k1 hcl
      go_wp2
      go_ret2
      exact ⟨_, xs, _, rfl, unhide h1, unhide h2, unhide hr, by omega, unhide hB⟩
    · subst e
      go_wp2_with fail
      refine (unhide hD _ (unhide hB0)).mono ?_
      rintro e w3 ⟨v, xs, rfl, h1, h2, h3, h4⟩
      have hB := hide ((unhide hB0).trans (h4.mono (by omega)))
      obtain ⟨ad3, cap3, rfl, hA3⟩ := h3
      have hr := hide (show RdI w3 (.slice ad3 xs.length cap3) xs from ⟨ad3, cap3, rfl, hA3⟩)
      replace h1 := hide h1
      replace h2 := hide h2
      clear hD hA3 h4 hB0 k0 k1 hcl
      go_wp2
      go_ret2
      exact ⟨_, xs, _, rfl, unhide h1, unhide h2, unhide hr, by omega, unhide hB⟩
set_option maxHeartbeats 4000000 in
theorem specDrawSmallCoarse (ad : Option Addr) (cap : Nat) (zs : List Int) (w : World) (h : ArgB w ad zs) (hl : zs.length ≤ 1048576) :
    Calls Tryd.prog 23 #[.slice ad zs.length cap] w fun e w' => ∃ v xs s, e = .returned (.tuple #[v, .int .i64 s]) ∧ (xs.length = 16 ∨ xs.length = 15) ∧ InR (-65537) 65536 xs ∧ RdI w' v xs ∧ (-1 ≤ s ∧ s ≤ 41) ∧ Below w.heap.size w w' := by
  have hS := hide (specL13Stepped ad cap zs w h hl)
  clear h
  go_enter Tryd.func23, Tryd.ntmps23
  go_wp2_with fail
  refine (unhide hS).mono ?_
  rintro e w1 ⟨v, xs, s, rfl, h1, h2, h3, h4, h7⟩
  obtain ⟨ad3, cap3, rfl, hA3⟩ := h3
  have hr3 := hide (show RdI w1 (.slice ad3 xs.length cap3) xs from ⟨ad3, cap3, rfl, hA3⟩)
  replace h1 := hide h1
  replace h2 := hide h2
  replace h4 := hide h4
  replace h7 := hide h7
  clear hS hA3
  go_wp2
  go_ret2
  exact ⟨_, xs, _, rfl, unhide h1, unhide h2, unhide hr3, unhide h4, unhide h7⟩
theorem specSmallBound (s : Int) (w : World) (hs : 0 ≤ s ∧ s ≤ 40) : Calls Tryd.prog 31 #[.int .i64 s] w fun e w' => e = .returned (.int .i64 (smBound s.toNat)) ∧ w' = w := by
  obtain ⟨q, r, hq, hr, q6, r6, e1, e2⟩ := step_parts s hs.1 hs.2
  have hE : Hid (smBound s.toNat = (20 + 4 * (r : Int)) * 2 ^ q / 16 + 2) := hide (by unfold smBound; rw [hq, hr])
  rw [unhide hE]
  clear hE hq hr
  obtain ⟨s0, s1⟩ := hs
  have hX := pow_fP q q6
  have hm := mul_in (20 + 4 * (r : Int)) (2 ^ q) 40 64 ⟨by omega, by omega⟩ ⟨by omega, hX.2⟩
  obtain ⟨P, hP⟩ : ∃ P, (20 + 4 * (r : Int)) * 2 ^ q = P := ⟨_, rfl⟩
  rw [hP] at hm ⊢
  obtain ⟨P0, P1⟩ := hm
  have wP : wrap64 P = P := by unfold wrap64; omega
  have hd : P.tdiv 16 = P / 16 := Int.tdiv_eq_ediv_of_nonneg P0
  clear hX
  go_enter Tryd.func31, Tryd.ntmps31
  go_wp2
  go_ret
  exact ⟨rfl, rfl⟩
end Go.Proofs.YtpofmcepjmbmcaaDoor

/- What is made small, of a drawn small block. -/
namespace Go.Proofs.YtpofmcepjmbmcaaDoor
open Go.RowKit

set_option maxHeartbeats 8000000 in
set_option maxRecDepth 100000 in
theorem specSmall16 (v : Value) (xs : List Int) (w : World) (hn : xs.length ≤ 64) (hR : InR (-65537) 65536 xs) (hv : RdI w v xs) :
    Calls Tryd.prog 24 #[v, .int .i64 255] w fun e w' => ∃ u, e = .returned u ∧ OwnI w' w.heap.size w'.heap.size u (smallL xs) ∧ Upd 0 0 w w' := by
  obtain ⟨ad, cap, rfl, hA⟩ := hv
  replace hA := hide hA
  replace hR := hide hR
  go_enter Tryd.func24, Tryd.ntmps24
  go_wp2
  have hrow0 : Hid (w.ownsRow w.heap.size 3 1 (.slice none 0 0) 0 (ints [])) := hide (World.ownsRow_nil _ _ _ _)
  go_loopw [5, 10] (fun s i wr => ∃ (k : Nat) (ad2 : Option Addr) (cp : Nat) (L : List Int), s = .slice ad2 L.length cp ∧ i = .int .i64 (k : Int) ∧ k ≤ xs.length ∧ Hid (L = smallL (xs.take k)) ∧ Hid (wr.ownsRow w.heap.size 3 1 (.slice ad2 L.length cp) L.length (ints L)) ∧ Hid (Below w.heap.size w wr)) (fun _ i _ => xs.length - (intOf i).toNat)
  case atStart => exact ⟨0, none, 0, [], rfl, rfl, by omega, hide rfl, hrow0, hide (Below.refl _ _)⟩
  case round =>
    clear hrow0
    obtain ⟨k, ad2, cp, L, rfl, rfl, hk, hL, hrow, hbel⟩ := hrel
    by_cases hlt : k < xs.length
    · obtain ⟨bb, off, rfl, hbl, hcl⟩ := (unhide hA) (ne_of_lt_length hlt)
      have hck : wr.cell? ⟨bb, off + k, none⟩ = some (.int .i64 (xs.getD k 0)) := ((unhide hbel).cell (by simpa using hbl)).trans (hcl k hlt)
      have hxb := (unhide hR) k hlt
      have hs : Hid (smallL (xs.take (k + 1)) = L ++ [(xs.getD k 0).tmod 256]) := hide (by rw [unhide hL]; exact smallL_snoc xs k hlt)
      have hln : L.length ≤ 64 := by rw [unhide hL]; unfold smallL; rw [List.length_map, List.length_take]; omega
      clear hcl hbl hL
      generalize xs.getD k 0 = x at hck hxb hs
      obtain ⟨x0, x1⟩ := hxb
      have hxt : -65537 ≤ x.tmod 256 ∧ x.tmod 256 ≤ 65536 := by
        rcases Int.le_total 0 x with h | h
        · rw [Int.tmod_eq_emod_of_nonneg h]; omega
        · have e : x = -(-x) := by omega
          rw [e, Int.neg_tmod, Int.tmod_eq_emod_of_nonneg (by omega)]; omega
      obtain ⟨X, hX⟩ : ∃ X, x.tmod 256 = X := ⟨_, rfl⟩
      rw [hX] at hs hxt
      obtain ⟨y0, y1⟩ := hxt
      have hs2 := hide (unhide hs).symm
      have hu5 := Upd.of_below ((Below.refl wr.heap.size wr).alloc (Nat.le_refl _) (.cells #[.int .i64 X] 3)) 0 0
      have kB5 := hide (below_upd (unhide hbel) hu5 (Nat.le_refl _) (.inr (Nat.le_refl _)))
      have hO5 := hide ((Own.of (unhide hrow)).keep hu5).1
      have hnk := heldF_new wr [.int .i64 X] 3
      have hrn : Hid (RdJ (wr.alloc (.cells #[.int .i64 X] 3)) (.slice (some ⟨wr.heap.size, 0, none⟩) 1 1) [X]) := hide (.inr ⟨wr.heap.size, 0, 1, rfl, by simp, fun j hj => by
        have hj0 : j = 0 := by simp at hj; omega
        subst hj0
        exact hnk.1.2 0 _ rfl⟩)
      have hsz : w.heap.size ≤ wr.heap.size := (unhide hbel).size
      clear hu5 hnk hrow hs
      go_upto_region 5 with fail
      go_wp2_with (at_builtin; go_loud (refine wpList_appI rfl (.tmp 14) (.tmp 19) rfl w.heap.size (.slice ad2 L.length cp) L rfl (unhide hO5) _ [X] rfl (unhide hrn) (by simp; omega) (by simp; omega) ?_; intro v6 w6 ho6 hg6 _; have hu6 := upd_of_grownI hg6 (unhide hO5); have kB6 := hide (below_upd (unhide kB5) hu6 (Nat.le_refl _) (.inl (Nat.le_refl _))); obtain ⟨ad6, cp6, rfl, _⟩ := readK_of_own (Own.of ho6); replace ho6 := hide ho6; clear hu6 hg6))
      go_roundw
      case rel => exact ⟨k + 1, ad6, cp6, L ++ [X], by simp, by go_num, by omega, hs2, ho6, kB6⟩
      case measure => simp [intOf]; omega
    · have hkl : k = xs.length := by omega
      subst hkl
      have ho := hide (Own.of (unhide hrow))
      have hL2 : Hid (L = smallL xs) := hide (by rw [unhide hL, List.take_length])
      go_wp2
      go_ret
      exact ⟨_, rfl, by rw [← unhide hL2]; exact unhide ho, Upd.of_below (unhide hbel) 0 0⟩
end Go.Proofs.YtpofmcepjmbmcaaDoor

/- Plain: what a small block comes to behind sums, coarse and fine. -/
namespace Go.Proofs.YtpofmcepjmbmcaaDoor
open Go.RowKit

theorem co_bd (w : Int) (p s : Nat) (hs : s ≤ 40) (hw : -9180 ≤ w ∧ w ≤ 9180) : -3800 ≤ smCo w p s ∧ smCo w p s ≤ 3800 := by
  have hX := pow_fP (s / 6) (by omega)
  have hm := smM_bd (s % 6) (smClass p) (by omega) (smClass_lt p)
  rw [smCo_eq]
  unfold coZ
  rw [pow_14, pow_15]
  generalize smM (s % 6) (smClass p) = m at *
  generalize (2 : Int) ^ (s / 6) = X at *
  have core : ∀ a : Int, 0 ≤ a → a ≤ 9180 → 0 ≤ (a * m + 16384 * X) / (32768 * X) ∧ (a * m + 16384 * X) / (32768 * X) ≤ 3800 := by
    intro a a0 a1
    have hp := mul_in a m 9180 13107 ⟨a0, a1⟩ ⟨by omega, hm.2⟩
    generalize a * m = P at *
    refine ⟨Int.ediv_nonneg (by omega) (by omega), ?_⟩
    have h1 : P + 16384 * X ≤ 3800 * (32768 * X) := by omega
    have h2 := Int.ediv_le_ediv (show 0 < 32768 * X by omega) h1
    rw [Int.mul_ediv_cancel _ (show 32768 * X ≠ 0 by omega)] at h2
    exact h2
  by_cases h : w < 0
  · rw [if_pos h]
    have := core (-w) (by omega) (by omega)
    omega
  · rw [if_neg h]
    have := core w (by omega) (by omega)
    omega
def coW (zs : List Int) (s : Int) : List Int := tab16 (fun p => smCo ((turn4 sumS (turn4 sumS zs)).getD p 0) p s.toNat)
theorem small_all {bs : List Int} (hl : bs.length = 16) (hz : InR (-255) 255 bs) (s : Int) (hs : 0 ≤ s ∧ s ≤ 40) :
    smFwd bs = turn4 sumS (turn4 sumS bs) ∧ SmOk (turn4 sumS (turn4 sumS bs)) ∧ smScaled smCo (turn4 sumS (turn4 sumS bs)) s = coW bs s ∧ SmOk (coW bs s) ∧ smScaled smFi (coW bs s) s = tab16 (thruZ bs s.toNat) ∧ SmOk (tab16 (thruZ bs s.toNat)) := by
  have hb : SmOk bs := ⟨hl, fun j hj => by have := hz j hj; omega⟩
  have hF : SmOk (turn4 sumS (turn4 sumS bs)) := ⟨turn4_length _ _, fun j hj => by
    have := fwdW_bd hl hz j (by simpa using hj)
    unfold fwdW at this
    omega⟩
  have hC : SmOk (coW bs s) := ⟨tab16_length _, tab16_inR _ _ _ (fun k hk => by
    have := co_bd (fwdW bs k) k s.toNat (by omega) (fwdW_bd hl hz k hk)
    unfold fwdW at this
    omega)⟩
  refine ⟨by unfold smFwd; rw [if_pos (smB_yes hb)], hF, smScaled_yes hF hs, hC, ?_, tab16_length _, tab16_inR _ _ _ (fun k _ => ?_)⟩
  · rw [smScaled_yes hC hs]
    refine tab16_congr (fun k hk => ?_)
    show smFi ((coW bs s).getD k 0) k s.toNat = _
    unfold coW
    rw [tab16_getD _ k hk]
    rfl
  · have h := cutZ_bd (-65536) 65535 (smCo (fwdW bs k) k s.toNat * (smV (s.toNat % 6) (smClass k) * 2 ^ (s.toNat / 6))) (by omega)
    exact h
theorem small_none {bs : List Int} {s : Int} (h : ¬ (bs.length = 16 ∧ 0 ≤ s ∧ s ≤ 40)) (g : Int → Nat → Nat → Int) : smScaled g (smFwd bs) s = [] := by
  refine smScaled_no (fun h' => h ?_)
  refine ⟨?_, h'.2⟩
  by_cases hb : SmOk bs
  · exact hb.1
  · have e : smFwd bs = [] := by unfold smFwd; rw [if_neg (by rw [smB_no hb]; decide)]
    rw [e] at h'
    exact absurd h'.1.1 (by simp)
theorem smFwd_inR {bs : List Int} (hz : InR (-255) 255 bs) : InR (-65536) 65536 (smFwd bs) := by
  unfold smFwd
  split
  · intro j hj
    have hb := smB_iff.1 ‹smB bs = true›
    have := fwdW_bd hb.1 hz j (by simpa using hj)
    unfold fwdW at this
    omega
  · intro j hj; simp at hj
end Go.Proofs.YtpofmcepjmbmcaaDoor

/- Plain: rows of sixteen sums that are filled one behind the other. -/
namespace Go.Proofs.YtpofmcepjmbmcaaDoor
open Go.RowKit

/-- Places of rank below q have their numbers, the one of rank q what is summed so far. -/
def prt (f : Nat → Int) (rk : Nat → Nat) (q : Nat) (S : Int) (p : Nat) : Int := if rk p < q then f p else if rk p = q then S else 0
theorem prt_at (f : Nat → Int) (rk : Nat → Nat) (q : Nat) (S : Int) (p : Nat) (h : rk p = q) : prt f rk q S p = S := by
  unfold prt; rw [if_neg (by omega), if_pos h]
theorem prt_set (f : Nat → Int) (rk : Nat → Nat) (q : Nat) (S v : Int) (p : Nat) (hp : p < 16) (hq : rk p = q) (hinj : ∀ k, k < 16 → rk k = q → k = p) : (tab16 (prt f rk q S)).set p v = tab16 (prt f rk q v) := by
  refine List.ext_getElem? (fun i => ?_)
  by_cases hi : i < 16
  · by_cases e : p = i
    · subst e
      rw [List.getElem?_set_self (by simpa using hp)]
      unfold tab16
      rw [List.getElem?_map, List.getElem?_range hp]
      simp [prt_at f rk q v p hq]
    · rw [List.getElem?_set_ne e]
      unfold tab16
      rw [List.getElem?_map, List.getElem?_map, List.getElem?_range hi]
      have hne : rk i ≠ q := fun h => e (hinj i hi h).symm
      simp [prt, hne]
  · rw [List.getElem?_eq_none (by simp; omega), List.getElem?_eq_none (by simp; omega)]
theorem prt_next (f : Nat → Int) (rk : Nat → Nat) (q : Nat) (S : Int) (h : ∀ k, k < 16 → rk k = q → f k = S) : tab16 (prt f rk q S) = tab16 (prt f rk (q + 1) 0) :=
  tab16_congr (fun k hk => by
    unfold prt
    by_cases h1 : rk k < q
    · rw [if_pos h1, if_pos (by omega)]
    · by_cases h2 : rk k = q
      · rw [if_neg h1, if_pos h2, if_pos (by omega), h k hk h2]
      · rw [if_neg h1, if_neg h2, if_neg (by omega), ite_self])
theorem prt_zero (f : Nat → Int) (rk : Nat → Nat) : tab16 (prt f rk 0 0) = List.replicate 16 0 := by
  have e : tab16 (prt f rk 0 0) = tab16 (fun _ => 0) := tab16_congr (fun k hk => by unfold prt; split <;> simp_all)
  rw [e]
  rfl
theorem prt_done (f : Nat → Int) (rk : Nat → Nat) (h : ∀ k, k < 16 → rk k < 16) : tab16 (prt f rk 16 0) = tab16 f :=
  tab16_congr (fun k hk => by unfold prt; rw [if_pos (h k hk)])
theorem prtN_set (n : Nat) (f : Nat → Int) (rk : Nat → Nat) (q : Nat) (S v : Int) (p : Nat) (hp : p < n) (hq : rk p = q) (hinj : ∀ k, k < n → rk k = q → k = p) : (tabN n (prt f rk q S)).set p v = tabN n (prt f rk q v) := by
  refine List.ext_getElem? (fun i => ?_)
  by_cases hi : i < n
  · by_cases e : p = i
    · subst e
      rw [List.getElem?_set_self (by simpa using hp)]
      unfold tabN
      rw [List.getElem?_map, List.getElem?_range hp]
      simp [prt_at f rk q v p hq]
    · rw [List.getElem?_set_ne e]
      unfold tabN
      rw [List.getElem?_map, List.getElem?_map, List.getElem?_range hi]
      have hne : rk i ≠ q := fun h => e (hinj i hi h).symm
      simp [prt, hne]
  · rw [List.getElem?_eq_none (by simp; omega), List.getElem?_eq_none (by simp; omega)]
theorem tabN_congr {n : Nat} {f g : Nat → Int} (h : ∀ k, k < n → f k = g k) : tabN n f = tabN n g := by
  unfold tabN
  exact List.map_congr_left (fun k hk => h k (List.mem_range.1 hk))
theorem prtN_next (n : Nat) (f : Nat → Int) (rk : Nat → Nat) (q : Nat) (S : Int) (h : ∀ k, k < n → rk k = q → f k = S) : tabN n (prt f rk q S) = tabN n (prt f rk (q + 1) 0) :=
  tabN_congr (fun k hk => by
    unfold prt
    by_cases h1 : rk k < q
    · rw [if_pos h1, if_pos (by omega)]
    · by_cases h2 : rk k = q
      · rw [if_neg h1, if_pos h2, if_pos (by omega), h k hk h2]
      · rw [if_neg h1, if_neg h2, if_neg (by omega), ite_self])
theorem prtN_zero (n : Nat) (f : Nat → Int) (rk : Nat → Nat) : tabN n (prt f rk 0 0) = List.replicate n 0 := by
  have e : tabN n (prt f rk 0 0) = tabN n (fun _ => 0) := tabN_congr (fun k hk => by unfold prt; split <;> simp_all)
  rw [e]
  exact List.ext_getElem (by simp [tabN]) (fun i _ _ => by simp [tabN])
theorem prtN_done (n : Nat) (f : Nat → Int) (rk : Nat → Nat) (N : Nat) (h : ∀ k, k < n → rk k < N) : tabN n (prt f rk N 0) = tabN n f :=
  tabN_congr (fun k hk => by unfold prt; rw [if_pos (h k hk)])
theorem tabN_of {n : Nat} {zs : List Int} (h : zs.length = n) : tabN n (fun p => zs.getD p 0) = zs := by
  refine List.ext_getElem (by simp [h]) (fun i h1 h2 => ?_)
  simp only [tabN_length] at h1
  have := tabN_getD n (fun p => zs.getD p 0) i h1
  rw [List.getD_eq_getElem?_getD, List.getElem?_eq_getElem (by simpa using h1), Option.getD_some] at this
  rw [this, List.getD_eq_getElem?_getD, List.getElem?_eq_getElem h2, Option.getD_some]
theorem four_of {r : List Int} (h : r.length = 4) : r = [r.getD 0 0, r.getD 1 0, r.getD 2 0, r.getD 3 0] := by
  match r, h with
  | [a, b, c, d], _ => rfl
def rkS (p : Nat) : Nat := 4 * (p % 4) + p / 4
theorem rkS_lt (k : Nat) (h : k < 16) : rkS k < 16 := by unfold rkS; omega
end Go.Proofs.YtpofmcepjmbmcaaDoor
