/- The texts behind FnOdds, part 1: what each of them says stands at its head. -/
import Derived.Test.YtpofmcepjmbmcaaGOdds0
import Derived.Deep.RegionHeld3
import Derived.Deep.QuietTactic
import Derived.BigQuiet
import Derived.StillTailTactics
import Derived.StillTail
import Derived.Deep.Cut
import Derived.Deep.RegionWith
import Derived.Lib.Strings
import Derived.Lib.Slices
import Derived.Lib.Small
import Derived.Lib.Walk
import Derived.Lib.BitFns
import Derived.Deep.WholeRow
import Derived.Laws.ResultCell
import Derived.Laws.CopyOwn
import Derived.Maps.AppendAt
import Derived.Laws.AppendOwnNone
import Derived.Lib.AppendStr
import Derived.Laws.IdiomStrings
import Derived.RangeFuncBox
import Derived.Deep.RegionLaw
/- Plain: what is packed by odds is unpacked: bytes as numbers; no program is named here. -/
namespace Go.Proofs.Ytpofmcepjmbmcaa
open Go.RowKit

/-- Bytes as a number, the highest first. -/
def numB (xs : List Int) : Int := xs.foldl (fun a x => a * 256 + x) 0
theorem numB_snoc (xs : List Int) (x : Int) : numB (xs ++ [x]) = numB xs * 256 + x := by simp [numB]
theorem numB_nil : numB [] = 0 := rfl
theorem fold_num (xs : List Int) : ∀ a : Int, xs.foldl (fun a x => a * 256 + x) a = a * 256 ^ xs.length + numB xs := by
  induction xs with
  | nil => intro a; simp [numB]
  | cons x xs ih =>
    intro a
    unfold numB
    rw [List.foldl_cons, List.foldl_cons, ih, ih (0 * 256 + x), List.length_cons, Int.pow_succ]
    rw [Int.zero_mul, Int.zero_add, Int.add_mul, Int.mul_assoc, Int.mul_comm (256 : Int) (256 ^ xs.length)]
    omega
theorem numB_append (xs ys : List Int) : numB (xs ++ ys) = numB xs * 256 ^ ys.length + numB ys := by
  show (xs ++ ys).foldl (fun a x => a * 256 + x) 0 = _
  rw [List.foldl_append, fold_num]; rfl
def BytesIn (xs : List Int) : Prop := ∀ x ∈ xs, 0 ≤ x ∧ x ≤ 255
theorem numB_bd (xs : List Int) : BytesIn xs → 0 ≤ numB xs ∧ numB xs < 256 ^ xs.length := by
  intro h
  induction xs with
  | nil => simp [numB]
  | cons x xs ih =>
    have hx := h x (by simp)
    have hi := ih (fun y hy => h y (by simp [hy]))
    have e : numB (x :: xs) = x * 256 ^ xs.length + numB xs := by
      show (x :: xs).foldl (fun a x => a * 256 + x) 0 = _
      rw [List.foldl_cons, fold_num, Int.zero_mul, Int.zero_add]
    have hp : (0 : Int) < 256 ^ xs.length := Int.pow_pos (by omega)
    have h1 : 0 ≤ x * 256 ^ xs.length := Int.mul_nonneg hx.1 (by omega)
    have h2 : x * 256 ^ xs.length ≤ 255 * 256 ^ xs.length := Int.mul_le_mul_of_nonneg_right hx.2 (by omega)
    rw [e, List.length_cons, Int.pow_succ]
    omega
/-- The first bytes of a number of bytes. -/
theorem numB_take (xs : List Int) (a : Nat) (h : BytesIn xs) : numB (xs.take a) = numB xs / 256 ^ (xs.length - a) := by
  have e : numB xs = numB (xs.take a) * 256 ^ (xs.length - a) + numB (xs.drop a) := by
    have h1 := numB_append (xs.take a) (xs.drop a)
    rw [List.take_append_drop, List.length_drop] at h1
    exact h1
  have hb := numB_bd (xs.drop a) (fun x hx => h x (List.mem_of_mem_drop hx))
  rw [List.length_drop] at hb
  have hp : (0 : Int) < 256 ^ (xs.length - a) := Int.pow_pos (by omega)
  rw [e, Int.add_comm, Int.add_mul_ediv_right _ _ (by omega), Int.ediv_eq_zero_of_lt hb.1 hb.2, Int.zero_add]
/-- A carry adds 1. -/
theorem numB_set (xs : List Int) (k : Nat) (y : Int) (h : k < xs.length) : numB (xs.set k y) = numB xs + (y - xs.getD k 0) * 256 ^ (xs.length - 1 - k) := by
  have e1 : xs = xs.take k ++ xs.getD k 0 :: xs.drop (k + 1) := by
    rw [List.getD_eq_getElem?_getD, List.getElem?_eq_getElem h]
    simp
  have e2 : xs.set k y = xs.take k ++ y :: xs.drop (k + 1) := List.set_eq_take_append_cons_drop .. |>.trans (by rw [if_pos h])
  have hl : (xs.drop (k + 1)).length = xs.length - 1 - k := by rw [List.length_drop]; omega
  have n1 : numB xs = numB (xs.take k) * 256 ^ (xs.length - 1 - k + 1) + (xs.getD k 0 * 256 ^ (xs.length - 1 - k) + numB (xs.drop (k + 1))) := by
    have h1 := numB_append (xs.take k) (xs.getD k 0 :: xs.drop (k + 1))
    rw [← e1, List.length_cons, hl, show xs.getD k 0 :: xs.drop (k + 1) = [xs.getD k 0] ++ xs.drop (k + 1) from rfl, numB_append, hl] at h1
    simpa [numB] using h1
  have n2 : numB (xs.set k y) = numB (xs.take k) * 256 ^ (xs.length - 1 - k + 1) + (y * 256 ^ (xs.length - 1 - k) + numB (xs.drop (k + 1))) := by
    have h1 := numB_append (xs.take k) (y :: xs.drop (k + 1))
    rw [← e2, List.length_cons, hl, show y :: xs.drop (k + 1) = [y] ++ xs.drop (k + 1) from rfl, numB_append, hl] at h1
    simpa [numB] using h1
  rw [n1, n2, Int.sub_mul]
  omega
theorem BytesIn.at {xs : List Int} (h : BytesIn xs) (k : Nat) (hk : k < xs.length) : 0 ≤ xs.getD k 0 ∧ xs.getD k 0 ≤ 255 := by
  rw [List.getD_eq_getElem?_getD, List.getElem?_eq_getElem hk]
  exact h _ (List.getElem_mem hk)
theorem BytesIn.set {xs : List Int} (h : BytesIn xs) (k : Nat) {y : Int} (hy : 0 ≤ y ∧ y ≤ 255) : BytesIn (xs.set k y) := fun x hx => by
  rcases List.mem_or_eq_of_mem_set hx with hx | rfl
  · exact h x hx
  · exact hy
theorem numB_take_succ (xs : List Int) (k : Nat) (hk : k < xs.length) : numB (xs.take (k + 1)) = numB (xs.take k) * 256 + xs.getD k 0 := by
  rw [take_snoc_getD xs 0 k hk, numB_snoc]
theorem carry_val : ∀ (k : Nat) (xs : List Int), k ≤ xs.length → BytesIn xs → numB (xs.take k) + 1 < 256 ^ k → numB (carryTo xs k) = numB xs + 256 ^ (xs.length - k) ∧ BytesIn (carryTo xs k)
  | 0, xs, _, _, h => by simp [numB] at h
  | k + 1, xs, hk, hb, h => by
    have hx := hb.at k (by omega)
    have ht := numB_take_succ xs k (by omega)
    rw [ht, Int.pow_succ] at h
    have hs := fun y => numB_set xs k y (by omega)
    have hp : (256 : Int) ^ (xs.length - k) = 256 ^ (xs.length - 1 - k) * 256 := by rw [← Int.pow_succ]; congr 1; omega
    have he : xs.length - (k + 1) = xs.length - 1 - k := by omega
    rw [he]
    unfold carryTo
    split
    · rename_i hy
      have hlt : xs.getD k 0 ≠ 255 := fun e => by rw [e] at hy; exact hy (by decide)
      have hy2 : (xs.getD k 0 + 1) % 256 = xs.getD k 0 + 1 := by omega
      rw [hy2]
      refine ⟨?_, hb.set k (by omega)⟩
      rw [hs, show xs.getD k 0 + 1 - xs.getD k 0 = 1 by omega, Int.one_mul]
    · rename_i hy
      have h255 : xs.getD k 0 = 255 := by
        have : (xs.getD k 0 + 1) % 256 = 0 := by simpa using hy
        omega
      have hy0 : (xs.getD k 0 + 1) % 256 = 0 := by rw [h255]; decide
      rw [hy0]
      have hb' : BytesIn (xs.set k 0) := hb.set k (by omega)
      have htk : (xs.set k 0).take k = xs.take k := List.take_set_of_le (Nat.le_refl _)
      have ih := carry_val k (xs.set k 0) (by rw [List.length_set]; omega) hb' (by rw [htk]; omega)
      rw [List.length_set] at ih
      refine ⟨?_, ih.2⟩
      rw [ih.1, hs, h255, hp]
      generalize (256 : Int) ^ (xs.length - 1 - k) = q
      omega
theorem carryF_val (xs : List Int) (hb : BytesIn xs) (h : numB xs + 1 < 256 ^ xs.length) : numB (carryF xs) = numB xs + 1 ∧ BytesIn (carryF xs) := by
  have h1 := carry_val xs.length xs (Nat.le_refl _) hb (by rw [List.take_length]; exact h)
  rw [Nat.sub_self, Int.pow_zero] at h1
  exact h1
/-- All that was told and low, as one number. -/
def valR (r : Rg) : Int := numB r.out * 4294967296 + r.low
structure PkOk (r : Rg) : Prop where
  by_ : BytesIn r.out
  low0 : 0 ≤ r.low
  low1 : r.low < 8589934592
  top : valR r < 256 ^ r.out.length * 4294967296
theorem shift_val (r : Rg) (h : PkOk r) : valR (shiftF r) = 256 * valR r ∧ BytesIn (shiftF r).out ∧ (shiftF r).out.length = r.out.length + 1 := by
  obtain ⟨hb, l0, l1, ht⟩ := h
  unfold valR at ht ⊢
  have hc : numB (carryIf r.low r.out) = numB r.out + r.low / 4294967296 ∧ BytesIn (carryIf r.low r.out) := by
    unfold carryIf
    split
    · rename_i hl
      have h1 := carryF_val r.out hb (by generalize (256 : Int) ^ r.out.length = q at ht ⊢; omega)
      exact ⟨by rw [h1.1]; omega, h1.2⟩
    · exact ⟨by omega, hb⟩
  unfold shiftF
  refine ⟨?_, ?_, by simp [carryIf_len]⟩
  · simp only
    rw [numB_snoc, hc.1]
    generalize numB r.out = n
    omega
  · intro x hx
    rcases List.mem_append.1 hx with hx | hx
    · exact hc.2 x hx
    · simp at hx; omega
end Go.Proofs.Ytpofmcepjmbmcaa

/- Plain: what is packed by odds is unpacked: ranges lie in one another; no program is named here. -/
namespace Go.Proofs.Ytpofmcepjmbmcaa
open Go.RowKit

def offF (r : Rg) (o b : Int) : Int := if b = 0 then 0 else splitF r.rng o
def widF (r : Rg) (o b : Int) : Int := if b = 0 then splitF r.rng o else r.rng - splitF r.rng o
theorem bit_val (r : Rg) (o b : Int) : valR (bitF r o b) = valR r + offF r o b ∧ (bitF r o b).rng = widF r o b := by
  unfold valR bitF offF widF
  split
  · exact ⟨by simp, rfl⟩
  · exact ⟨by simp only; omega, rfl⟩
structure PkR (r : Rg) : Prop where
  rg : RgOk r
  by_ : BytesIn r.out
  top : valR r + r.rng ≤ 256 ^ r.out.length * 4294967296
theorem put_val (r : Rg) (o b : Int) (h : PkR r) (ho : 31 ≤ o ∧ o ≤ 4065) :
    ∃ d : Nat, d = (if widF r o b < 16777216 then 1 else 0) ∧ (putF r o b).out.length = r.out.length + d ∧ valR (putF r o b) = (valR r + offF r o b) * 256 ^ d ∧ (putF r o b).rng = widF r o b * 256 ^ d ∧ PkR (putF r o b) := by
  have hbd := bitF_bd r o b h.rg ho
  have hv := bit_val r o b
  have hout := bitF_out r o b
  have hok := putF_ok r o b h.rg ho
  have hsp := split_bd r.rng o ho h.rg.rng0
  have hle : offF r o b + widF r o b ≤ r.rng ∧ 0 ≤ offF r o b ∧ 0 < widF r o b := by unfold offF widF; split <;> omega
  have hp : (0 : Int) < 256 ^ r.out.length := Int.pow_pos (by omega)
  have htop := h.top
  rw [hv.2] at hbd
  by_cases hw : widF r o b < 16777216
  · refine ⟨1, by rw [if_pos hw], ?_⟩
    have he : putF r o b = shiftF ⟨(bitF r o b).low, (bitF r o b).rng * 256, (bitF r o b).out⟩ := by unfold putF widenF; rw [hv.2, if_pos hw]
    have hs := shift_val ⟨(bitF r o b).low, (bitF r o b).rng * 256, (bitF r o b).out⟩ ⟨by rw [hout]; exact h.by_, hbd.1, by simp only; omega, by
      show valR (bitF r o b) < _
      rw [hv.1]; simp only [hout]; omega⟩
    rw [← he] at hs
    have hvv : valR ⟨(bitF r o b).low, (bitF r o b).rng * 256, (bitF r o b).out⟩ = valR r + offF r o b := hv.1
    have hrn : (putF r o b).rng = widF r o b * 256 := by rw [he]; show (bitF r o b).rng * 256 = _; rw [hv.2]
    rw [hvv] at hs
    simp only [hout] at hs
    have h1 : valR (putF r o b) = (valR r + offF r o b) * 256 ^ 1 := by rw [hs.1, Int.pow_one, Int.mul_comm]
    refine ⟨hs.2.2, h1, by rw [hrn, Int.pow_one], hok, hs.2.1, ?_⟩
    rw [h1, hrn, hs.2.2, Int.pow_one, Int.pow_succ]
    generalize (256 : Int) ^ r.out.length = q at htop hp ⊢
    omega
  · refine ⟨0, by rw [if_neg hw], ?_⟩
    have he : putF r o b = bitF r o b := by unfold putF widenF; rw [hv.2, if_neg hw]
    rw [he] at hok ⊢
    refine ⟨by rw [hout]; rfl, by rw [hv.1, Int.pow_zero, Int.mul_one], by rw [hv.2, Int.pow_zero, Int.mul_one], hok, by rw [hout]; exact h.by_, ?_⟩
    rw [hv.1, hv.2, hout]
    omega
theorem rgK_pk (cs : List (Int × Int)) : ∀ k, PkR (rgK cs k)
  | 0 => ⟨rgK_ok cs 0, fun x hx => by simp [rgK, rg0] at hx, by simp [rgK, rg0, valR, numB]⟩
  | k + 1 => by
    obtain ⟨d, _, _, _, _, h⟩ := put_val (rgK cs k) (oddsK cs k (cs.getD k (0, 0)).1) (cs.getD k (0, 0)).2 (rgK_pk cs k) (oddsK_bd cs k _)
    exact h
/-- Later ranges lie in earlier ones. -/
theorem nest (cs : List (Int × Int)) (k : Nat) : ∀ j, ∃ d : Nat, (rgK cs (k + j)).out.length = (rgK cs k).out.length + d ∧ valR (rgK cs k) * 256 ^ d ≤ valR (rgK cs (k + j)) ∧ valR (rgK cs (k + j)) + (rgK cs (k + j)).rng ≤ (valR (rgK cs k) + (rgK cs k).rng) * 256 ^ d
  | 0 => ⟨0, rfl, by simp, by simp⟩
  | j + 1 => by
    obtain ⟨d, h1, h2, h3⟩ := nest cs k j
    obtain ⟨e, _, g1, g2, g3, _⟩ := put_val (rgK cs (k + j)) (oddsK cs (k + j) (cs.getD (k + j) (0, 0)).1) (cs.getD (k + j) (0, 0)).2 (rgK_pk cs _) (oddsK_bd cs _ _)
    rw [← rgK_succ] at g1 g2 g3
    have hsp := split_bd (rgK cs (k + j)).rng (oddsK cs (k + j) (cs.getD (k + j) (0, 0)).1) (oddsK_bd cs _ _) (rgK_pk cs (k + j)).rg.rng0
    have hle : offF (rgK cs (k + j)) (oddsK cs (k + j) (cs.getD (k + j) (0, 0)).1) (cs.getD (k + j) (0, 0)).2 + widF (rgK cs (k + j)) (oddsK cs (k + j) (cs.getD (k + j) (0, 0)).1) (cs.getD (k + j) (0, 0)).2 ≤ (rgK cs (k + j)).rng ∧ 0 ≤ offF (rgK cs (k + j)) (oddsK cs (k + j) (cs.getD (k + j) (0, 0)).1) (cs.getD (k + j) (0, 0)).2 := by unfold offF widF; split <;> omega
    have hp : (0 : Int) ≤ 256 ^ e := Int.pow_nonneg (by omega)
    refine ⟨d + e, by rw [← Nat.add_assoc, g1, h1]; omega, ?_, ?_⟩
    · rw [← Nat.add_assoc, g2, Int.pow_add, ← Int.mul_assoc]
      exact Int.mul_le_mul_of_nonneg_right (by omega) hp
    · rw [← Nat.add_assoc, g2, g3, ← Int.add_mul, Int.pow_add, ← Int.mul_assoc]
      exact Int.mul_le_mul_of_nonneg_right (by omega) hp
end Go.Proofs.Ytpofmcepjmbmcaa

/- Plain: what is packed by odds is unpacked, to the last byte; no program is named here. -/
namespace Go.Proofs.Ytpofmcepjmbmcaa
open Go.RowKit

theorem PkR.pk {r : Rg} (h : PkR r) : PkOk r := ⟨h.by_, h.rg.low0, by have := h.rg.sum; have := h.rg.rng0; omega, by have := h.top; have := h.rg.rng0; omega⟩
theorem shifts_val (r : Rg) (h : PkOk r) : ∀ k, PkOk (shiftsF r k) ∧ valR (shiftsF r k) = 256 ^ k * valR r
  | 0 => ⟨h, by simp [shiftsF]⟩
  | k + 1 => by
    obtain ⟨h1, h2⟩ := shifts_val r h k
    have hs := shift_val _ h1
    rw [shiftsF_succ]
    have hl : 0 ≤ (shiftF (shiftsF r k)).low ∧ (shiftF (shiftsF r k)).low < 8589934592 := by unfold shiftF; simp only; omega
    have ht := h1.top
    refine ⟨⟨hs.2.1, hl.1, hl.2, ?_⟩, ?_⟩
    · rw [hs.1, hs.2.2, Int.pow_succ]
      generalize (256 : Int) ^ (shiftsF r k).out.length = q at ht ⊢
      omega
    · rw [hs.1, h2, Int.pow_succ, Int.mul_comm (256 ^ k) 256, Int.mul_assoc]
theorem pack_num (cs : List (Int × Int)) : numB (packL cs) = valR (rgK cs cs.length) ∧ BytesIn (packL cs) ∧ (packL cs).length = (rgK cs cs.length).out.length + 4 := by
  have h := (rgK_pk cs cs.length).pk
  obtain ⟨h1, h2⟩ := shifts_val _ h 4
  have hl : 0 ≤ (shiftsF (rgK cs cs.length) 4).low ∧ (shiftsF (rgK cs cs.length) 4).low < 4294967296 := by
    rw [shiftsF_succ]; unfold shiftF; simp only; omega
  refine ⟨?_, h1.by_, shiftsF_len _ 4⟩
  have e : numB (packL cs) * 4294967296 + (shiftsF (rgK cs cs.length) 4).low = 256 ^ 4 * valR (rgK cs cs.length) := h2
  rw [show (256 : Int) ^ 4 = 4294967296 by decide] at e
  omega
/-- How many bytes are told behind k choices. -/
def toldN (cs : List (Int × Int)) (k : Nat) : Nat := (rgK cs k).out.length
/-- The code behind k choices lies in the range, on the side of its bit. -/
theorem code_in (cs : List (Int × Int)) (k : Nat) (hk : k ≤ cs.length) : ∃ d, toldN cs cs.length = toldN cs k + d ∧ numB ((packL cs).take (4 + toldN cs k)) = numB (packL cs) / 256 ^ d ∧
    valR (rgK cs k) ≤ numB ((packL cs).take (4 + toldN cs k)) ∧ numB ((packL cs).take (4 + toldN cs k)) < valR (rgK cs k) + (rgK cs k).rng := by
  obtain ⟨hn, hb, hl⟩ := pack_num cs
  obtain ⟨d, h1, h2, h3⟩ := nest cs k (cs.length - k)
  rw [show k + (cs.length - k) = cs.length by omega] at h1 h2 h3
  have hr0 := (rgK_pk cs cs.length).rg.rng0
  have hp : (0 : Int) < 256 ^ d := Int.pow_pos (by omega)
  have ht : numB ((packL cs).take (4 + toldN cs k)) = numB (packL cs) / 256 ^ d := by
    rw [numB_take _ _ hb]
    congr 2
    unfold toldN
    omega
  refine ⟨d, h1, ht, ?_, ?_⟩
  · rw [ht, hn]
    exact Int.le_ediv_of_mul_le hp h2
  · rw [ht, hn]
    exact Int.ediv_lt_of_lt_mul hp (by omega)
theorem code_bit (cs : List (Int × Int)) (k : Nat) (hk : k < cs.length) :
    valR (rgK cs k) + offF (rgK cs k) (oddsK cs k (cs.getD k (0, 0)).1) (cs.getD k (0, 0)).2 ≤ numB ((packL cs).take (4 + toldN cs k)) ∧
    numB ((packL cs).take (4 + toldN cs k)) < valR (rgK cs k) + offF (rgK cs k) (oddsK cs k (cs.getD k (0, 0)).1) (cs.getD k (0, 0)).2 + widF (rgK cs k) (oddsK cs k (cs.getD k (0, 0)).1) (cs.getD k (0, 0)).2 := by
  obtain ⟨d, e1, e2, _, _⟩ := code_in cs k (by omega)
  obtain ⟨d', _, e3, e4, e5⟩ := code_in cs (k + 1) (by omega)
  obtain ⟨f, hf, g1, g2, g3, _⟩ := put_val (rgK cs k) (oddsK cs k (cs.getD k (0, 0)).1) (cs.getD k (0, 0)).2 (rgK_pk cs k) (oddsK_bd cs k _)
  rw [← rgK_succ] at g1 g2 g3
  have hd : d = f + d' := by unfold toldN at *; omega
  have hp : (0 : Int) < 256 ^ f := Int.pow_pos (by omega)
  have hq : numB ((packL cs).take (4 + toldN cs k)) = numB ((packL cs).take (4 + toldN cs (k + 1))) / 256 ^ f := by
    rw [e2, e3, hd, Nat.add_comm f d', Int.pow_add, Int.ediv_ediv_of_nonneg (Int.pow_nonneg (by omega))]
  rw [hq]
  rw [g2] at e4
  rw [g2, g3, ← Int.add_mul] at e5
  exact ⟨Int.le_ediv_of_mul_le hp e4, Int.ediv_lt_of_lt_mul hp e5⟩
end Go.Proofs.Ytpofmcepjmbmcaa

/- Plain: unpacking is packing's inverse; no program is named here. -/
namespace Go.Proofs.Ytpofmcepjmbmcaa
open Go.RowKit

def psOf (cs : List (Int × Int)) : List Int := cs.map (·.1)
theorem psOf_at (cs : List (Int × Int)) (k : Nat) (hk : k < cs.length) : (psOf cs).getD k 0 = (cs.getD k (0, 0)).1 := by
  unfold psOf
  rw [List.getD_eq_getElem?_getD, List.getElem?_map, List.getD_eq_getElem?_getD, List.getElem?_eq_getElem hk]; rfl
theorem openK_pack (ds : List Int) (hl : 4 ≤ ds.length) : ∀ j, j ≤ 4 → openK ds j = ⟨4294967295, numB (ds.take j), j, 0⟩
  | 0, _ => by simp [openK, rd0, numB]
  | j + 1, hj => by
    rw [openK_succ, openK_pack ds hl j (by omega)]
    unfold byteF
    rw [if_neg (by simp only; omega)]
    simp only
    rw [numB_take_succ ds j (by omega)]
theorem unpack_pack (cs : List (Int × Int)) (hb : ∀ k, k < cs.length → (cs.getD k (0, 0)).2 = 0 ∨ (cs.getD k (0, 0)).2 = 1) : ∀ k, k ≤ cs.length →
    stR (packL cs) (psOf cs) k = (oddsK cs k, ⟨(rgK cs k).rng, numB ((packL cs).take (4 + toldN cs k)) - valR (rgK cs k), 4 + toldN cs k, 0⟩)
  | 0, _ => by
    obtain ⟨_, _, hl⟩ := pack_num cs
    obtain ⟨_, _, _, h1, h2⟩ := code_in cs 0 (by omega)
    have hv : valR (rgK cs 0) = 0 := by simp [rgK, rg0, valR, numB]
    have hr : (rgK cs 0).rng = 4294967295 := rfl
    have ht : toldN cs 0 = 0 := rfl
    rw [hv, hr, ht, Nat.add_zero] at h2
    show ((fun _ => 2048 : Int → Int), openR (packL cs)) = _
    unfold openR
    rw [openK_pack _ (by omega) 4 (Nat.le_refl _)]
    unfold codeF
    rw [if_neg (fun h => by have := h.2; simp only at this; omega), hv, hr, ht]
    simp only [Int.sub_zero]
    rfl
  | k + 1, hk => by
    have ih := unpack_pack cs hb k (by omega)
    obtain ⟨_, _, hl⟩ := pack_num cs
    obtain ⟨c1, c2⟩ := code_bit cs k (by omega)
    obtain ⟨d, hd, g1, g2, g3, _⟩ := put_val (rgK cs k) (oddsK cs k (cs.getD k (0, 0)).1) (cs.getD k (0, 0)).2 (rgK_pk cs k) (oddsK_bd cs k _)
    obtain ⟨dn, hn, _, _, _⟩ := code_in cs (k + 1) hk
    rw [← rgK_succ] at g1 g2 g3
    have hso := oddsK_succ cs k
    rw [stR_good _ _ k (by rw [ih]), ih]
    simp only
    rw [psOf_at cs k (by omega), hso]
    have hbk := hb k (by omega)
    have ht1 : toldN cs (k + 1) = toldN cs k + d := g1
    generalize hN : numB ((packL cs).take (4 + toldN cs k)) = N at c1 c2 ⊢
    generalize hc : cs.getD k (0, 0) = c at *
    obtain ⟨x, b⟩ := c
    simp only at hbk c1 c2 hd g2 g3 ⊢
    generalize oddsK cs k x = o at *
    -- the bit that is read
    have hbit : bitOf ⟨(rgK cs k).rng, N - valR (rgK cs k), 4 + toldN cs k, 0⟩ o = b := by
      unfold bitOf
      unfold offF at c1
      unfold offF widF at c2
      rcases hbk with rfl | rfl
      · simp only [if_true] at c1 c2
        rw [if_pos (by simp only; omega)]
      · rw [if_neg (by decide)] at c1
        rw [if_neg (by simp only; omega)]
    have hhalf : halfR ⟨(rgK cs k).rng, N - valR (rgK cs k), 4 + toldN cs k, 0⟩ o = ⟨widF (rgK cs k) o b, N - valR (rgK cs k) - offF (rgK cs k) o b, 4 + toldN cs k, 0⟩ := by
      unfold halfR
      unfold offF at c1
      unfold offF widF at c2 ⊢
      rcases hbk with rfl | rfl
      · simp only [if_true] at c1 c2 ⊢
        rw [if_pos (by omega), Int.sub_zero]
      · rw [if_neg (by decide)] at c1
        simp only
        rw [if_neg (by omega), if_neg (by decide), if_neg (by decide)]
    rw [hbit]
    unfold takeR
    rw [hhalf]
    refine Prod.ext rfl ?_
    simp only
    unfold wideR
    simp only
    by_cases hw : widF (rgK cs k) o b < 16777216
    · rw [if_pos hw] at hd
      subst hd
      have hlt : 4 + toldN cs k < (packL cs).length := by unfold toldN at *; omega
      rw [if_pos hw]
      unfold byteF
      rw [if_neg (by simp only; omega)]
      have hts := numB_take_succ (packL cs) (4 + toldN cs k) hlt
      rw [hN] at hts
      simp only
      rw [ht1, g2, g3, show 4 + (toldN cs k + 1) = 4 + toldN cs k + 1 by omega, hts, Int.pow_one]
      congr 1
      omega
    · rw [if_neg hw] at hd
      subst hd
      rw [if_neg hw, ht1, g2, g3, Nat.add_zero, hN, Int.pow_zero, Int.mul_one, Int.mul_one]
      congr 1
      omega
/-- The bits that are read are those that were packed, to the last byte. -/
theorem unpack_all (cs : List (Int × Int)) (hb : ∀ k, k < cs.length → (cs.getD k (0, 0)).2 = 0 ∨ (cs.getD k (0, 0)).2 = 1) :
    (stR (packL cs) (psOf cs) cs.length).2.err = 0 ∧ (stR (packL cs) (psOf cs) cs.length).2.at_ = (packL cs).length := by
  rw [unpack_pack cs hb cs.length (Nat.le_refl _)]
  obtain ⟨_, _, hl⟩ := pack_num cs
  refine ⟨rfl, ?_⟩
  show 4 + toldN cs cs.length = _
  unfold toldN
  omega
end Go.Proofs.Ytpofmcepjmbmcaa

/- Plain: how many bytes choices take against what they cost; no program is named here. -/
namespace Go.Proofs.Ytpofmcepjmbmcaa
open Go.RowKit

theorem step_pow (n K W R p c : Nat) (h1 : p * R ≤ W * K) (h2 : K ^ n ≤ p ^ n * c) (hK : 0 < K) : R ^ n ≤ W ^ n * c := by
  have e1 : p ^ n * R ^ n ≤ W ^ n * K ^ n := by
    rw [← Nat.mul_pow, ← Nat.mul_pow]; exact Nat.pow_le_pow_left h1 n
  have e2 : K ^ n * R ^ n ≤ p ^ n * c * R ^ n := Nat.mul_le_mul_right _ h2
  have e3 : p ^ n * c * R ^ n ≤ W ^ n * K ^ n * c := by
    rw [Nat.mul_right_comm]
    exact Nat.mul_le_mul_right c e1
  have e4 : K ^ n * R ^ n ≤ K ^ n * (W ^ n * c) := by
    refine Nat.le_trans (Nat.le_trans e2 e3) (Nat.le_of_eq ?_)
    rw [Nat.mul_right_comm, Nat.mul_comm]
  exact Nat.le_of_mul_le_mul_left e4 (Nat.pow_pos hK)
def lawE : Nat := 2048
def costN (p : Nat) : Nat := (logF (((p : Int) + 8) / 16)).toNat
def costOk (p : Nat) : Bool := Nat.ble (16777216 ^ lawE) ((p * 4095) ^ lawE * 2 ^ (9 * costN p))
theorem tab_64 : ∀ i : Fin 64, ∀ j : Fin 64, 31 ≤ 64 * i.val + j.val → 64 * i.val + j.val ≤ 4065 → costOk (64 * i.val + j.val) = true := by decide +kernel
theorem tab_ok (p : Nat) (h0 : 31 ≤ p) (h1 : p ≤ 4065) : 16777216 ^ lawE ≤ (p * 4095) ^ lawE * 2 ^ (9 * costN p) := by
  have h : 31 ≤ 64 * (p / 64) + p % 64 → 64 * (p / 64) + p % 64 ≤ 4065 → costOk (64 * (p / 64) + p % 64) = true := tab_64 ⟨p / 64, by omega⟩ ⟨p % 64, by omega⟩
  have e : 64 * (p / 64) + p % 64 = p := by omega
  rw [e] at h
  exact Nat.le_of_ble_eq_true (h h0 h1)
/-- What a choice leaves of the range is at least what it costs, and an eighth more. -/
theorem step_cost (rng o b : Int) (h0 : 16777216 ≤ rng) (ho : 31 ≤ o ∧ o ≤ 4065) (hb : b = 0 ∨ b = 1) :
    rng.toNat ^ lawE ≤ (if b = 0 then splitF rng o else rng - splitF rng o).toNat ^ lawE * 2 ^ (9 * (costF o b).toNat) := by
  obtain ⟨R, rfl⟩ := Int.eq_ofNat_of_zero_le (show 0 ≤ rng by omega)
  obtain ⟨p, hp⟩ : ∃ p : Nat, (if b = 1 then 4096 - o else o) = (p : Int) := ⟨(if b = 1 then 4096 - o else o).toNat, by split <;> omega⟩
  have hpb : 31 ≤ p ∧ p ≤ 4065 := by split at hp <;> omega
  have hc : (costF o b).toNat = costN p := by
    unfold costF partsF costN
    rw [hp]
  rw [hc]
  obtain ⟨W, hW⟩ : ∃ W : Nat, (if b = 0 then splitF (R : Int) o else (R : Int) - splitF (R : Int) o) = (W : Int) := ⟨(if b = 0 then splitF (R : Int) o else (R : Int) - splitF (R : Int) o).toNat, by
    have := split_bd (R : Int) o ho h0
    split <;> omega⟩
  rw [hW]
  simp only [Int.toNat_natCast]
  refine step_pow lawE 16777216 W R (p * 4095) _ ?_ (tab_ok p hpb.1 hpb.2) (by decide)
  have hq : ((R : Int) / 4096) * o = splitF (R : Int) o := rfl
  have hq0 : 4096 * ((R : Int) / 4096) + 4095 ≥ (R : Int) := by omega
  have hq1 : 4096 * ((R : Int) / 4096) ≤ (R : Int) := by omega
  have goal : ((p : Int) * 4095) * (R : Int) ≤ (W : Int) * 16777216 := by
    rcases hb with rfl | rfl
    · rw [if_neg (by decide)] at hp
      rw [if_pos rfl, ← hq] at hW
      rw [← hW, ← hp]
      have h2 : (4095 : Int) * (R : Int) ≤ ((R : Int) / 4096) * 16777216 := by omega
      have h3 : o * ((4095 : Int) * (R : Int)) ≤ o * (((R : Int) / 4096) * 16777216) := Int.mul_le_mul_of_nonneg_left h2 (by omega)
      calc o * 4095 * (R : Int) = o * (4095 * (R : Int)) := by rw [Int.mul_assoc]
        _ ≤ o * (((R : Int) / 4096) * 16777216) := h3
        _ = (R : Int) / 4096 * o * 16777216 := by rw [← Int.mul_assoc, Int.mul_comm o]
    · rw [if_pos rfl] at hp
      rw [if_neg (by decide), ← hq] at hW
      rw [← hW, ← hp]
      have h2 : 4096 * ((R : Int) / 4096) * o ≤ (R : Int) * o := Int.mul_le_mul_of_nonneg_right hq1 (by omega)
      have h4 : (4096 - o) * 4095 * (R : Int) ≤ (4096 - o) * 4096 * (R : Int) := Int.mul_le_mul_of_nonneg_right (by omega) (by omega)
      have e1 : 4096 * ((R : Int) / 4096) * o = 4096 * ((R : Int) / 4096 * o) := Int.mul_assoc _ _ _
      have e2 : (4096 - o) * 4096 * (R : Int) = 16777216 * (R : Int) - 4096 * ((R : Int) * o) := by
        rw [Int.mul_comm ((4096 - o) * 4096) (R : Int), Int.sub_mul, Int.mul_sub, Int.mul_comm o 4096, ← Int.mul_assoc, ← Int.mul_assoc, Int.mul_comm (R : Int) 4096, Int.mul_assoc 4096 (R : Int) o]
        omega
      rw [e1] at h2
      rw [e2] at h4
      generalize (R : Int) / 4096 * o = s at h2 ⊢
      generalize (R : Int) * o = t at h2 h4
      omega
  have g2 : ((p * 4095 * R : Nat) : Int) ≤ ((W * 16777216 : Nat) : Int) := by
    rw [Int.natCast_mul, Int.natCast_mul, Int.natCast_mul]
    exact goal
  exact Int.ofNat_le.1 g2
end Go.Proofs.Ytpofmcepjmbmcaa

/- Plain: all choices' bytes against their cost; no program is named here. -/
namespace Go.Proofs.Ytpofmcepjmbmcaa
open Go.RowKit

def BitsIn (cs : List (Int × Int)) : Prop := ∀ k, k < cs.length → (cs.getD k (0, 0)).2 = 0 ∨ (cs.getD k (0, 0)).2 = 1
theorem told_cost (cs : List (Int × Int)) (hb : BitsIn cs) : ∀ k, k ≤ cs.length → 4294967295 ^ lawE * 256 ^ (lawE * toldN cs k) ≤ (rgK cs k).rng.toNat ^ lawE * 2 ^ (9 * (costK cs k).toNat)
  | 0, _ => by
    show 4294967295 ^ lawE * 256 ^ (lawE * 0) ≤ 4294967295 ^ lawE * 2 ^ (9 * 0)
    rw [Nat.mul_zero, Nat.mul_zero, Nat.pow_zero]
    exact Nat.le_refl _
  | k + 1, hk => by
    have ih := told_cost cs hb k (by omega)
    obtain ⟨d, _, g1, _, g3, _⟩ := put_val (rgK cs k) (oddsK cs k (cs.getD k (0, 0)).1) (cs.getD k (0, 0)).2 (rgK_pk cs k) (oddsK_bd cs k _)
    rw [← rgK_succ] at g1 g3
    have hs := step_cost (rgK cs k).rng (oddsK cs k (cs.getD k (0, 0)).1) (cs.getD k (0, 0)).2 (rgK_pk cs k).rg.rng0 (oddsK_bd cs k _) (hb k (by omega))
    have hc0 := costK_bd cs k
    have hc1 := costF_bd (oddsK cs k (cs.getD k (0, 0)).1) (cs.getD k (0, 0)).2 (oddsK_bd cs k _)
    have hsp := split_bd (rgK cs k).rng (oddsK cs k (cs.getD k (0, 0)).1) (oddsK_bd cs k _) (rgK_pk cs k).rg.rng0
    have hct : (costK cs (k + 1)).toNat = (costK cs k).toNat + (costF (oddsK cs k (cs.getD k (0, 0)).1) (cs.getD k (0, 0)).2).toNat := by
      rw [costK_succ]; omega
    have ht : toldN cs (k + 1) = toldN cs k + d := g1
    have hw0 : 0 ≤ widF (rgK cs k) (oddsK cs k (cs.getD k (0, 0)).1) (cs.getD k (0, 0)).2 := by unfold widF; split <;> omega
    have hwr : (rgK cs (k + 1)).rng.toNat = (widF (rgK cs k) (oddsK cs k (cs.getD k (0, 0)).1) (cs.getD k (0, 0)).2).toNat * 256 ^ d := by
      rw [g3, Int.toNat_mul hw0 (Int.pow_nonneg (by omega))]
      congr 1
    have hs' : (rgK cs k).rng.toNat ^ lawE ≤ (widF (rgK cs k) (oddsK cs k (cs.getD k (0, 0)).1) (cs.getD k (0, 0)).2).toNat ^ lawE * 2 ^ (9 * (costF (oddsK cs k (cs.getD k (0, 0)).1) (cs.getD k (0, 0)).2).toNat) := hs
    rw [hwr, hct, ht]
    generalize (widF (rgK cs k) (oddsK cs k (cs.getD k (0, 0)).1) (cs.getD k (0, 0)).2).toNat = W at hs' ⊢
    generalize (rgK cs k).rng.toNat = R at ih hs'
    generalize (costK cs k).toNat = C at ih ⊢
    generalize (costF (oddsK cs k (cs.getD k (0, 0)).1) (cs.getD k (0, 0)).2).toNat = c at hs' ⊢
    generalize toldN cs k = m at ih ⊢
    generalize lawE = e at ih hs' ⊢
    generalize 4294967295 ^ e = Z at ih ⊢
    have a1 : Z * 256 ^ (e * (m + d)) = Z * 256 ^ (e * m) * 256 ^ (e * d) := by rw [Nat.mul_add, Nat.pow_add, Nat.mul_assoc]
    have a2 : (W * 256 ^ d) ^ e * 2 ^ (9 * (C + c)) = W ^ e * 2 ^ (9 * c) * 2 ^ (9 * C) * 256 ^ (e * d) := by
      rw [Nat.mul_pow, ← Nat.pow_mul, Nat.mul_comm d e, Nat.mul_add, Nat.pow_add]
      generalize 256 ^ (e * d) = x
      generalize 2 ^ (9 * C) = y
      generalize 2 ^ (9 * c) = u
      generalize W ^ e = v
      rw [Nat.mul_assoc v x, Nat.mul_comm x, Nat.mul_comm y u, ← Nat.mul_assoc, ← Nat.mul_assoc]
    rw [a1, a2]
    refine Nat.mul_le_mul_right _ (Nat.le_trans ih ?_)
    exact Nat.mul_le_mul_right _ hs'
/-- At most an eighth more bytes than the cost tells. -/
theorem bytes_cost (cs : List (Int × Int)) (hb : BitsIn cs) : 16384 * toldN cs cs.length ≤ 9 * (costK cs cs.length).toNat := by
  have h := told_cost cs hb cs.length (Nat.le_refl _)
  have hr : (rgK cs cs.length).rng.toNat ≤ 4294967295 := by have := (rgK_pk cs cs.length).rg.rng1; omega
  have h2 : 4294967295 ^ lawE * 256 ^ (lawE * toldN cs cs.length) ≤ 4294967295 ^ lawE * 2 ^ (9 * (costK cs cs.length).toNat) := Nat.le_trans h (Nat.mul_le_mul_right _ (Nat.pow_le_pow_left hr _))
  have h3 : 256 ^ (lawE * toldN cs cs.length) ≤ 2 ^ (9 * (costK cs cs.length).toNat) := by
    refine Nat.le_of_mul_le_mul_left h2 (Nat.pow_pos (by decide))
  rw [show (256 : Nat) = 2 ^ 8 from rfl, ← Nat.pow_mul] at h3
  have h4 := (Nat.pow_le_pow_iff_right (by decide : 1 < 2)).1 h3
  have e : lawE = 2048 := rfl
  rw [e] at h4
  omega
end Go.Proofs.Ytpofmcepjmbmcaa

/- Plain: the bits that are read back; no program is named here. -/
namespace Go.Proofs.Ytpofmcepjmbmcaa
open Go.RowKit

theorem bit_back (cs : List (Int × Int)) (hb : BitsIn cs) (k : Nat) (hk : k < cs.length) : bitK (packL cs) (psOf cs) k = (cs.getD k (0, 0)).2 := by
  have ih := unpack_pack cs hb k (by omega)
  obtain ⟨c1, c2⟩ := code_bit cs k hk
  unfold bitK
  rw [ih]
  simp only
  rw [if_neg (by simp), psOf_at cs k hk]
  have hbk := hb k hk
  generalize numB ((packL cs).take (4 + toldN cs k)) = N at c1 c2 ⊢
  generalize cs.getD k (0, 0) = c at *
  obtain ⟨x, b⟩ := c
  simp only at hbk c1 c2 ⊢
  generalize oddsK cs k x = o at *
  unfold bitOf
  unfold offF at c1
  unfold offF widF at c2
  rcases hbk with rfl | rfl
  · simp only [if_true] at c1 c2
    rw [if_pos (by simp only; omega)]
  · rw [if_neg (by decide)] at c1
    rw [if_neg (by simp only; omega)]
/-- What the law asks of a pack and of its unpacking. -/
theorem odds_back_all (places : Int) (cs : List (Int × Int)) (h : oddsB places cs = true) :
    (oddsUnpack places (oddsPack places cs) (psOf cs)).1 = 0 ∧ (oddsUnpack places (oddsPack places cs) (psOf cs)).2.2 = ((oddsPack places cs).length : Int) ∧ (oddsUnpack places (oddsPack places cs) (psOf cs)).2.1.length = cs.length ∧
      ∀ k, k < cs.length → (oddsUnpack places (oddsPack places cs) (psOf cs)).2.1.getD k 0 = (cs.getD k (0, 0)).2 := by
  obtain ⟨hp, hl, hc⟩ := (oddsB_iff _ _).1 h
  have hb : BitsIn cs := fun k hk => by have := (hc k hk).2; omega
  have hlen : (psOf cs).length = cs.length := by simp [psOf]
  have hP : oddsPack places cs = packL cs := by unfold oddsPack; rw [if_pos h]
  have hall := unpack_all cs hb
  have hU : oddsUnpack places (packL cs) (psOf cs) = (0, bitsR (packL cs) (psOf cs) cs.length, ((packL cs).length : Int)) := by
    unfold oddsUnpack
    rw [if_pos (by
      unfold unpB
      simp only [Bool.and_eq_true, decide_eq_true_eq, psB_iff]
      refine ⟨⟨⟨hp.1, hp.2⟩, by omega⟩, fun j hj => ?_⟩
      rw [psOf_at cs j (by omega)]
      exact (hc j (by omega)).1), hlen, if_neg (by rw [hall.1]; simp), hall.2]
  rw [hP, hU]
  refine ⟨rfl, rfl, bitsR_len _ _ _, fun k hk => ?_⟩
  show (bitsR (packL cs) (psOf cs) cs.length).getD k 0 = _
  unfold bitsR
  rw [List.getD_eq_getElem?_getD, List.getElem?_map, List.getElem?_range hk]
  exact bit_back cs hb k hk
/-- The law's last test. -/
theorem odds_cost_all (places : Int) (cs : List (Int × Int)) (h : oddsB places cs = true) : 2048 * ((oddsPack places cs).length : Int) ≤ oddsCost places cs + oddsCost places cs / 8 + 16384 := by
  obtain ⟨hp, hl, hc⟩ := (oddsB_iff _ _).1 h
  have hb : BitsIn cs := fun k hk => by have := (hc k hk).2; omega
  have hP : oddsPack places cs = packL cs := by unfold oddsPack; rw [if_pos h]
  have hC : oddsCost places cs = costK cs cs.length := by unfold oddsCost; rw [if_pos h]
  have h1 := bytes_cost cs hb
  have h2 := (pack_num cs).2.2
  have h3 := costK_bd cs cs.length
  rw [hP, hC, h2]
  unfold toldN at h1
  omega
end Go.Proofs.Ytpofmcepjmbmcaa

/- Odds: what places and choices may be: both sides. -/
namespace Go.Proofs.Ytpofmcepjmbmcaa
open Go.RowKit

theorem chsOk_take {places : Int} {cs : List (Int × Int)} (h : ∀ j, j < cs.length → chB places (cs.getD j (0, 0)) = true) : chsB places cs = true :=
  (chsB_iff _ _).2 fun j hj => (chB_iff _ _).1 (h j hj)
theorem chsB_no {places : Int} {cs : List (Int × Int)} (j : Nat) (hj : j < cs.length) (h : chB places (cs.getD j (0, 0)) = false) : chsB places cs = false := by
  cases he : chsB places cs with
  | false => rfl
  | true =>
    have := (chB_iff _ _).2 ((chsB_iff _ _).1 he j hj)
    rw [h] at this; exact this.symm
theorem oddsB_no {places : Int} {cs : List (Int × Int)} (h : chsB places cs = false) : oddsB places cs = false := by
  unfold oddsB; rw [h, Bool.and_false]
theorem chB_cases (places x y : Int) : (chB places (x, y) = true ∧ 0 ≤ x ∧ x < places ∧ 0 ≤ y ∧ y ≤ 1) ∨ (chB places (x, y) = false ∧ (x < 0 ∨ (0 ≤ x ∧ places ≤ x) ∨ (0 ≤ x ∧ x < places ∧ y < 0) ∨ (0 ≤ x ∧ x < places ∧ 0 ≤ y ∧ 1 < y))) := by
  by_cases h : (0 ≤ x ∧ x < places) ∧ 0 ≤ y ∧ y ≤ 1
  · exact .inl ⟨(chB_iff _ _).2 h, h.1.1, h.1.2, h.2⟩
  · refine .inr ⟨?_, by omega⟩
    cases he : chB places (x, y) with
    | false => rfl
    | true => exact absurd ((chB_iff _ _).1 he) h
set_option maxRecDepth 100000 in
set_option maxHeartbeats 8000000 in
theorem specL12Ok (p : Int) (v : Value) (cs : List Ch) (w : World) (hn : cs.length ≤ 1048576) (hv : RdCh w v cs) :
    Calls Try.prog 39 #[.int .i64 p, v] w fun e w' => e = .returned (.bool (oddsB p cs)) ∧ Upd 0 0 w w' := by
  obtain ⟨ad, cap, rfl, hA⟩ := hv
  replace hA := hide hA
  go_enter Try.func39, Try.ntmps39
  go_wp2_with fail
  go_loopw [6, 9] (fun _ i wr => ∃ (j : Nat), i = .int .i64 (j : Int) ∧ j ≤ cs.length ∧ Hid (∀ k, k < j → chB p (cs.getD k (0, 0)) = true) ∧ Hid (Below w.heap.size w wr)) (fun _ i _ => cs.length - (intOf i).toNat)
  case atStart => exact ⟨0, rfl, by omega, hide (fun k hk => by omega), hide (Below.refl _ _)⟩
  case round =>
    obtain ⟨j, rfl, hj, hst, hbel⟩ := hrel
    by_cases hjl : j < cs.length
    · obtain ⟨bb, off, rfl, hbl, hcl⟩ := (unhide hA) (ne_of_lt_length hjl)
      obtain ⟨c0, c1⟩ := hcl j hjl
      rw [show cs.getD j Ch0 = cs.getD j (0, 0) from rfl] at c0 c1
      generalize hx : cs.getD j (0, 0) = c at c0 c1
      obtain ⟨x, y⟩ := c
      have c0 : wr.cell? ⟨bb, off + j * 2, none⟩ = some (.int .i64 x) := ((unhide hbel).cell (by simpa using hbl)).trans c0
      have c1 : wr.cell? ⟨bb, off + j * 2 + 1, none⟩ = some (.int .i64 y) := ((unhide hbel).cell (by simpa using hbl)).trans c1
      have hb2 := hide ((unhide hbel).alloc (unhide hbel).size (.cells #[.int .i64 x, .int .i64 y] 31))
      replace hA := hide hA
      clear hcl
      rcases chB_cases p x y with ⟨hcb, x0, x1, y0, y1⟩ | ⟨hcb, hbad⟩
      · have hst2 := hide (show ∀ k, k < j + 1 → chB p (cs.getD k (0, 0)) = true from fun k hk => by
          rcases Nat.lt_or_ge k j with h | h
          · exact unhide hst k h
          · rw [show k = j by omega, hx]; exact hcb)
        clear hst hx hcb
        go_wp2_with fail
        go_roundw
        case rel => exact ⟨j + 1, by go_num, by omega, hst2, hb2⟩
        case measure => simp [intOf]; omega
      · have hno := hide (oddsB_no (chsB_no (places := p) j hjl (by rw [hx]; exact hcb)))
        have hfin := hide (Upd.of_below (unhide hb2) 0 0)
        clear hst hx hcb
        rcases hbad with h | ⟨h, h'⟩ | ⟨h, h', h''⟩ | ⟨h, h', h'', h3⟩
        all_goals
          go_wp2
          go_ret
          exact ⟨by rw [unhide hno]; rfl, unhide hfin⟩
    · obtain rfl : j = cs.length := by omega
      have hyes := hide (chsOk_take (places := p) (unhide hst))
      clear hst hjl
      have hE := hide (show oddsB p cs = (decide (1 ≤ p) && decide (p ≤ 512) && decide (cs.length ≤ 20000)) by unfold oddsB; rw [unhide hyes, Bool.and_true])
      have hfin := hide (Upd.of_below (unhide hbel) 0 0)
      clear hyes hbel
      rcases (show p < 1 ∨ (1 ≤ p ∧ 512 < p) ∨ (1 ≤ p ∧ p ≤ 512 ∧ 20000 < cs.length) ∨ (1 ≤ p ∧ p ≤ 512 ∧ cs.length ≤ 20000) by omega) with h | ⟨h, h'⟩ | ⟨h, h', h''⟩ | ⟨h, h', h''⟩
      · replace hE := hide (show oddsB p cs = false by rw [unhide hE, decide_eq_false (by omega)]; rfl)
        go_wp2
        go_ret
        exact ⟨by rw [unhide hE]; rfl, unhide hfin⟩
      · replace hE := hide (show oddsB p cs = false by rw [unhide hE, decide_eq_false (show ¬ p ≤ 512 by omega), Bool.and_false]; rfl)
        go_wp2
        go_ret
        exact ⟨by rw [unhide hE]; rfl, unhide hfin⟩
      · replace hE := hide (show oddsB p cs = false by rw [unhide hE, decide_eq_false (show ¬ cs.length ≤ 20000 by omega), Bool.and_false])
        have d : decide ((cs.length : Int) ≤ 20000) = false := decide_eq_false (by omega)
        go_wp2
        go_ret
        exact ⟨by rw [unhide hE]; rfl, unhide hfin⟩
      · replace hE := hide (show oddsB p cs = true by rw [unhide hE, decide_eq_true h, decide_eq_true h', decide_eq_true h'']; rfl)
        have d : decide ((cs.length : Int) ≤ 20000) = true := decide_eq_true (by omega)
        go_wp2
        go_ret
        exact ⟨by rw [unhide hE]; rfl, unhide hfin⟩
def placesB (p : Int) : Bool := decide (1 ≤ p) && decide (p ≤ 512)
set_option maxHeartbeats 4000000 in
theorem implGoodPlaces (p : Int) (w : World) : Calls Try.prog 44 #[.int .i64 p] w fun e w' => e = .returned (.bool (placesB p)) ∧ w' = w := by
  rcases (show p < 1 ∨ (1 ≤ p ∧ 512 < p) ∨ (1 ≤ p ∧ p ≤ 512) by omega) with h | ⟨h, h'⟩ | ⟨h, h'⟩
  · have hE := hide (show placesB p = false by unfold placesB; rw [decide_eq_false (by omega)]; rfl)
    go_enter Try.func44, Try.ntmps44
    go_wp2
    go_ret
    exact ⟨by rw [unhide hE]; rfl, rfl⟩
  · have hE := hide (show placesB p = false by unfold placesB; rw [decide_eq_false (show ¬ p ≤ 512 by omega), Bool.and_false])
    have d : decide (p ≤ 512) = false := decide_eq_false (by omega)
    go_enter Try.func44, Try.ntmps44
    go_wp2
    go_ret
    exact ⟨by rw [unhide hE]; rfl, rfl⟩
  · have hE := hide (show placesB p = true by unfold placesB; rw [decide_eq_true h, decide_eq_true h']; rfl)
    have d : decide (p ≤ 512) = true := decide_eq_true h'
    go_enter Try.func44, Try.ntmps44
    go_wp2
    go_ret
    exact ⟨by rw [unhide hE]; rfl, rfl⟩
set_option maxRecDepth 100000 in
set_option maxHeartbeats 8000000 in
theorem implGoodChoices (p : Int) (v : Value) (cs : List Ch) (w : World) (hn : cs.length ≤ 1048576) (hv : RdCh w v cs) :
    Calls Try.prog 35 #[.int .i64 p, v] w fun e w' => e = .returned (.bool (oddsB p cs)) ∧ Upd 0 0 w w' := by
  obtain ⟨ad, cap, rfl, hA⟩ := hv
  have hP := hide (implGoodPlaces p w)
  by_cases hpl : placesB p = true
  case neg =>
    have hpl : placesB p = false := by simpa using hpl
    have hE := hide (show oddsB p cs = false by unfold oddsB; unfold placesB at hpl; rw [hpl]; rfl)
    rw [hpl] at hP
    clear hpl hA
    go_enter Try.func35, Try.ntmps35
    go_wp2_with fail
    refine (unhide hP).mono ?_
    rintro e w1 ⟨rfl, rfl⟩
    go_wp2
    go_ret
    exact ⟨by rw [unhide hE]; rfl, Upd.refl _ _ _⟩
  by_cases hlen : 20000 < cs.length
  · have hE := hide (show oddsB p cs = false by unfold oddsB; rw [decide_eq_false (show ¬ cs.length ≤ 20000 by omega), Bool.and_false]; rfl)
    rw [hpl] at hP
    clear hpl hA
    go_enter Try.func35, Try.ntmps35
    go_wp2_with fail
    refine (unhide hP).mono ?_
    rintro e w1 ⟨rfl, rfl⟩
    go_wp2
    go_ret
    exact ⟨by rw [unhide hE]; rfl, Upd.refl _ _ _⟩
  have hE0 := hide (show oddsB p cs = chsB p cs by unfold oddsB; unfold placesB at hpl; rw [hpl, decide_eq_true (show cs.length ≤ 20000 by omega)]; rfl)
  rw [hpl] at hP
  clear hpl
  replace hA := hide hA
  go_enter Try.func35, Try.ntmps35
  go_wp2_with fail
  refine (unhide hP).mono ?_
  rintro e w1 ⟨rfl, hw1⟩
  obtain rfl : w = w1 := hw1.symm
  clear hP
  go_wp2_with fail
  go_loopw [6, 17] (fun _ i wr => ∃ (j : Nat), i = .int .i64 (j : Int) ∧ j ≤ cs.length ∧ Hid (∀ k, k < j → chB p (cs.getD k (0, 0)) = true) ∧ Hid (Below w.heap.size w wr)) (fun _ i _ => cs.length - (intOf i).toNat)
  case atStart => exact ⟨0, rfl, by omega, hide (fun k hk => by omega), hide (Below.refl _ _)⟩
  case round =>
    obtain ⟨j, rfl, hj, hst, hbel⟩ := hrel
    by_cases hjl : j < cs.length
    · obtain ⟨bb, off, rfl, hbl, hcl⟩ := (unhide hA) (ne_of_lt_length hjl)
      obtain ⟨c0, c1⟩ := hcl j hjl
      rw [show cs.getD j Ch0 = cs.getD j (0, 0) from rfl] at c0 c1
      generalize hx : cs.getD j (0, 0) = c at c0 c1
      obtain ⟨x, y⟩ := c
      have c0 : wr.cell? ⟨bb, off + j * 2, none⟩ = some (.int .i64 x) := ((unhide hbel).cell (by simpa using hbl)).trans c0
      have c1 : wr.cell? ⟨bb, off + j * 2 + 1, none⟩ = some (.int .i64 y) := ((unhide hbel).cell (by simpa using hbl)).trans c1
      have hb2 := hide ((unhide hbel).alloc (unhide hbel).size (.cells #[.int .i64 x, .int .i64 y] 31))
      replace hA := hide hA
      clear hcl
      rcases chB_cases p x y with ⟨hcb, x0, x1, y0, y1⟩ | ⟨hcb, hbad⟩
      · have hst2 := hide (show ∀ k, k < j + 1 → chB p (cs.getD k (0, 0)) = true from fun k hk => by
          rcases Nat.lt_or_ge k j with h | h
          · exact unhide hst k h
          · rw [show k = j by omega, hx]; exact hcb)
        clear hst hx hcb
        go_wp2_with fail
        go_roundw
        case rel => exact ⟨j + 1, by go_num, by omega, hst2, hb2⟩
        case measure => simp [intOf]; omega
      · have hno := hide (oddsB_no (chsB_no (places := p) j hjl (by rw [hx]; exact hcb)))
        have hfin := hide (Upd.of_below (unhide hb2) 0 0)
        clear hst hx hcb
        rcases hbad with h | ⟨h, h'⟩ | ⟨h, h', h''⟩ | ⟨h, h', h'', h3⟩
        all_goals
          go_wp2
          go_ret
          exact ⟨by rw [unhide hno]; rfl, unhide hfin⟩
    · obtain rfl : j = cs.length := by omega
      have hyes := hide (chsOk_take (places := p) (unhide hst))
      clear hst hjl
      have hfin := hide (Upd.of_below (unhide hbel) 0 0)
      clear hbel
      go_wp2
      go_ret
      exact ⟨by rw [unhide hE0, unhide hyes]; rfl, unhide hfin⟩
end Go.Proofs.Ytpofmcepjmbmcaa

/- Plain: sides of pictures. -/
namespace Go.Proofs.Ytpofmcepjmbmcaa
open Go.RowKit

def sideB (w : Int) : Bool := decide (1 ≤ w ∧ w ≤ 512)
def sidesB (w h : Int) : Bool := sideB w && sideB h
theorem sideB_yes {w : Int} (h : 1 ≤ w ∧ w ≤ 512) : sideB w = true := decide_eq_true h
theorem sideB_no {w : Int} (h : ¬ (1 ≤ w ∧ w ≤ 512)) : sideB w = false := decide_eq_false h
theorem sideB_iff {w : Int} : sideB w = true ↔ 1 ≤ w ∧ w ≤ 512 := by unfold sideB; simp
theorem sidesB_yes {w h : Int} (a : 1 ≤ w ∧ w ≤ 512) (b : 1 ≤ h ∧ h ≤ 512) : sidesB w h = true := by unfold sidesB; rw [sideB_yes a, sideB_yes b]; rfl
theorem sidesB_no {w h : Int} (a : ¬ ((1 ≤ w ∧ w ≤ 512) ∧ 1 ≤ h ∧ h ≤ 512)) : sidesB w h = false := by
  unfold sidesB
  by_cases h1 : 1 ≤ w ∧ w ≤ 512
  · rw [sideB_yes h1, sideB_no (fun h2 => a ⟨h1, h2⟩)]; rfl
  · rw [sideB_no h1]; rfl
end Go.Proofs.Ytpofmcepjmbmcaa

/- The walks of the laws' own helpers on byte strings: a copy, whether two are equal, marksB. -/
namespace Go.Proofs.Ytpofmcepjmbmcaa
open Go.RowKit

def byts (zs : List Int) : List Value := zs.map (.int .u8)
theorem byts_length (zs : List Int) : (byts zs).length = zs.length := by simp [byts]
abbrev OwnY (w : World) (a b : Nat) (v : Value) (zs : List Int) : Prop := Own 5 1 w a b v zs.length (byts zs)
abbrev ArgY (w : World) (ad : Option Addr) (zs : List Int) : Prop := ReadK .u8 w ad zs
/-- A byte string as a value that can be read. -/
def RdY (w : World) (v : Value) (zs : List Int) : Prop := ∃ ad cap, v = .slice ad zs.length cap ∧ ArgY w ad zs
theorem RdY.below {w w' : World} {v : Value} {zs : List Int} (h : RdY w v zs) (hb : Below w.heap.size w w') : RdY w' v zs := by
  obtain ⟨ad, cap, e, h⟩ := h
  exact ⟨ad, cap, e, h.below hb⟩
theorem OwnY.rd {w : World} {a b : Nat} {v : Value} {zs : List Int} (h : OwnY w a b v zs) : RdY w v zs := readK_of_own h

def partY (zs : List Int) (k : Nat) : List Value := byts (zs.take k) ++ List.replicate (zs.length - k) (.int .u8 0)
theorem partY_zero (zs : List Int) : partY zs 0 = List.replicate zs.length (.int .u8 0) := by unfold partY byts; simp
theorem partY_all (zs : List Int) : partY zs zs.length = byts zs := by unfold partY byts; simp
theorem partY_set (zs : List Int) (k : Nat) (h : k < zs.length) : (partY zs k).set k (.int .u8 (zs.getD k 0)) = partY zs (k + 1) := by
  unfold partY byts
  rw [take_snoc_getD zs 0 k h, List.map_append, List.set_append, if_neg (by simp; omega), List.append_assoc]
  congr 1
  have : zs.length - k = (zs.length - (k + 1)) + 1 := by omega
  rw [this, List.replicate_succ]
  simp [Nat.min_eq_left (Nat.le_of_lt h)]
theorem partY_length (zs : List Int) (k : Nat) (h : k ≤ zs.length) : (partY zs k).length = zs.length := by unfold partY byts; simp; omega

end Go.Proofs.Ytpofmcepjmbmcaa

/- Plain: depths of samples, rows of samples packed into bytes. -/
namespace Go.Proofs.Ytpofmcepjmbmcaa
open Go.RowKit

def depthOk (d : Int) : Bool := d == 1 || d == 2 || d == 4 || d == 8 || d == 16
theorem depthOk_cases {d : Int} (h : depthOk d = true) : d = 1 ∨ d = 2 ∨ d = 4 ∨ d = 8 ∨ d = 16 := by
  unfold depthOk at h; simp at h; omega
theorem depthOk_nat {d : Int} (h : depthOk d = true) : ∃ D : Nat, d = (D : Int) ∧ 1 ≤ D ∧ D ≤ 16 := by
  rcases depthOk_cases h with e | e | e | e | e <;> subst e
  · exact ⟨1, rfl, by omega, by omega⟩
  · exact ⟨2, rfl, by omega, by omega⟩
  · exact ⟨4, rfl, by omega, by omega⟩
  · exact ⟨8, rfl, by omega, by omega⟩
  · exact ⟨16, rfl, by omega, by omega⟩
theorem two_pow_16 {D : Nat} (h : D ≤ 16) : (0 : Int) < (2 : Int) ^ D ∧ (2 : Int) ^ D ≤ 65536 := by
  have h1 : 2 ^ D ≤ 2 ^ 16 := Nat.pow_le_pow_right (by omega) h
  have h2 : 0 < 2 ^ D := Nat.pow_pos (by omega)
  have e : (2 : Int) ^ D = ((2 ^ D : Nat) : Int) := by simp
  rw [e]; generalize 2 ^ D = y at h1 h2; omega
theorem two_pow_n {D : Nat} : (2 : Int) ^ D = ((2 ^ D : Nat) : Int) := by simp
/-- All samples are in the range of a depth. -/
def SmpOk (zs : List Int) (d : Int) : Prop := ∀ j, j < zs.length → 0 ≤ zs.getD j 0 ∧ zs.getD j 0 < 2 ^ d.toNat
def RowOk (zs : List Int) (d : Int) : Prop := depthOk d = true ∧ zs.length ≤ 4096 ∧ SmpOk zs d
def rowFs (zs : List Int) (d : Int) : List (Int × Int) := zs.map fun x => (d, x)
@[simp] theorem rowFs_length (zs : List Int) (d : Int) : (rowFs zs d).length = zs.length := by simp [rowFs]
theorem rowFs_at (zs : List Int) (d : Int) (k : Nat) (h : k < zs.length) : (rowFs zs d).getD k (0, 0) = (d, zs.getD k 0) := by
  unfold rowFs
  rw [List.getD_eq_getElem?_getD, List.getD_eq_getElem?_getD, List.getElem?_map, List.getElem?_eq_getElem h]; rfl
theorem rowFs_ok {d : Int} (h : depthOk d = true) (zs : List Int) (k : Nat) (hk : k < zs.length) : okF ((rowFs zs d).getD k (0, 0)) := by
  rw [rowFs_at zs d k hk]
  obtain ⟨D, rfl, h1, h2⟩ := depthOk_nat h
  exact ⟨by simp, by simp; omega⟩
noncomputable def rowB (zs : List Int) (d : Int) : List Nat := open Classical in if RowOk zs d then (packTo true (rowFs zs d) zs.length).1 else []
theorem rowB_yes {zs : List Int} {d : Int} (h : RowOk zs d) : rowB zs d = (packTo true (rowFs zs d) zs.length).1 := by unfold rowB; exact if_pos h
theorem rowB_no {zs : List Int} {d : Int} (h : ¬ RowOk zs d) : rowB zs d = [] := by unfold rowB; exact if_neg h
noncomputable def rowF (zs : List Int) (d : Int) : List Int := (rowB zs d).map fun b : Nat => (b : Int)
theorem rowF_no {zs : List Int} {d : Int} (h : ¬ RowOk zs d) : rowF zs d = [] := by unfold rowF; rw [rowB_no h]; rfl
theorem rowF_length (zs : List Int) (d : Int) : (rowF zs d).length = (rowB zs d).length := by simp [rowF]
theorem rowF_byts (zs : List Int) (d : Int) : byts (rowF zs d) = vals (rowB zs d) := by unfold rowF byts vals; simp
theorem row_inv {d : Int} (h : depthOk d = true) (zs : List Int) (k : Nat) (hk : k ≤ zs.length) : Inv true (packTo true (rowFs zs d) k).1 (packTo true (rowFs zs d) k).2 ∧ (packTo true (rowFs zs d) k).2 ≤ 64 * k :=
  packTo_inv true (rowFs zs d) k (by simpa using hk) (fun j hj => rowFs_ok h zs j (by omega))
theorem row_step {zs : List Int} {D : Nat} {k : Nat} (hk : k < zs.length) (u : Nat) (hu : zs.getD k 0 = (u : Int)) :
    (packTo true (rowFs zs D) (k + 1)).1 = ft true u D (packTo true (rowFs zs D) k).1 (packTo true (rowFs zs D) k).2 D ∧ (packTo true (rowFs zs D) (k + 1)).2 = (packTo true (rowFs zs D) k).2 + D := by
  rw [packTo_succ true _ k (by simpa using hk), rowFs_at zs D k hk]
  unfold packStep
  rw [hu]
  exact ⟨rfl, rfl⟩
theorem rowF_len (zs : List Int) (d : Int) : (rowF zs d).length ≤ 1048576 := by
  rw [rowF_length]
  by_cases h : RowOk zs d
  · rw [rowB_yes h]
    have h1 := row_inv h.1 zs zs.length (Nat.le_refl _)
    have h2 := h1.1.1
    have := h.2.1
    omega
  · rw [rowB_no h]; simp
end Go.Proofs.Ytpofmcepjmbmcaa

/- How much a list of ints holds. -/
namespace Go.Proofs.Ytpofmcepjmbmcaa
open Go.RowKit

theorem bcellU {W w1 : World} (hb : Upd 0 0 W w1) : (∀ b o, b < W.heap.size → w1.cell? ⟨b, o, none⟩ = W.cell? ⟨b, o, none⟩) ∧ (∀ b o, b < W.heap.size → w1.frozen? ⟨b, o, none⟩ = W.frozen? ⟨b, o, none⟩) :=
  ⟨fun b o h => hb.none.cell (p := ⟨b, o, none⟩) h, fun b o h => hb.none.frozen (p := ⟨b, o, none⟩) h⟩

theorem Upd.drew1 (w : World) : Upd 0 0 w w.drew := ⟨rfl, rfl, rfl, Nat.le_refl _, fun _ _ _ => rfl⟩
theorem Own.set {e : TypeId} {s : Nat} {w : World} {a b : Nat} {v : Value} {n : Nat} {xs : List Value} (h : Own e s w a b v n xs) {c : Nat} (hc : c < a) (o : Nat) (u : Value) : Own e s (w.setCell ⟨c, o, none⟩ u) a b v n xs :=
  ⟨ownsRow_setCell_below h.1 hc u, h.2⟩

set_option maxHeartbeats 1000000 in
theorem szIntS_any (ad : Option Addr) (n cap : Nat) (left : Int) (w : World) (h0 : 0 ≤ left) (h1 : left ≤ 1099511627776) (hn : n ≤ 9223372036854775807) :
    Calls Try.prog 77 #[.slice ad n cap, .int .i64 left] w fun e w' => e = .returned (.int .i64 (if left < n then -1 else left - n)) ∧ w' = w := by
  by_cases hlt : left < n
  · rw [if_pos hlt]
    go_enter Try.func77, Try.ntmps77
    go_wp2
    go_ret
    exact ⟨rfl, rfl⟩
  · rw [if_neg hlt]
    go_enter Try.func77, Try.ntmps77
    go_wp2
    go_ret
    exact ⟨rfl, rfl⟩

end Go.Proofs.Ytpofmcepjmbmcaa

/- Images as arguments and answers: four numbers and a list; the walks of the laws' own helpers on them. -/
namespace Go.Proofs.Ytpofmcepjmbmcaa
open Go.RowKit

abbrev Im := Int × Int × Int × Int × List Int
abbrev imv (d : Im) (vl : Value) : Value := .agg #[.int .i64 d.1, .int .i64 d.2.1, .int .i64 d.2.2.1, .int .i64 d.2.2.2.1, vl]
abbrev imc (d : Im) (vl : Value) : List Value := [.int .i64 d.1, .int .i64 d.2.1, .int .i64 d.2.2.1, .int .i64 d.2.2.2.1, vl]
abbrev ims (d : Im) : List Int := d.2.2.2.2
def RdIm (w : World) (v : Value) (d : Im) : Prop := ∃ vl, v = imv d vl ∧ RdI w vl (ims d)
def OwnIm (w : World) (a b : Nat) (v : Value) (d : Im) : Prop := ∃ vl, v = imv d vl ∧ OwnI w a b vl (ims d)
theorem OwnIm.rd {w : World} {a b : Nat} {v : Value} {d : Im} (h : OwnIm w a b v d) : RdIm w v d := by
  obtain ⟨vl, rfl, h⟩ := h
  exact ⟨vl, rfl, h.rd⟩
theorem RdIm.below {w w' : World} {v : Value} {d : Im} (h : RdIm w v d) (hb : Below w.heap.size w w') : RdIm w' v d := by
  obtain ⟨vl, rfl, h⟩ := h
  exact ⟨vl, rfl, h.below hb⟩
theorem OwnIm.upd {w w' : World} {a b c e : Nat} {v : Value} {d : Im} (h : OwnIm w a b v d) (u : Upd c e w w') (hd : b ≤ c ∨ e ≤ a) : OwnIm w' a b v d := by
  obtain ⟨vl, rfl, h⟩ := h
  exact ⟨vl, rfl, h.upd u hd⟩
theorem OwnIm.keep {w w' : World} {a b : Nat} {v : Value} {d : Im} (h : OwnIm w a b v d) (u : Upd 0 0 w w') : OwnIm w' a b v d := h.upd u (.inr (Nat.zero_le _))
theorem OwnIm.form {w : World} {a b : Nat} {v : Value} {d : Im} (h : OwnIm w a b v d) : ∃ ad cap, v = imv d (.slice ad (ims d).length cap) := by
  obtain ⟨vl, rfl, h⟩ := h
  obtain ⟨ad, cap, rfl, _⟩ := h.rd
  exact ⟨ad, cap, rfl⟩
/-- All numbers fit. -/
def InIm (d : Im) : Prop := (-9223372036854775808 ≤ d.1 ∧ d.1 ≤ 9223372036854775807) ∧ (-9223372036854775808 ≤ d.2.1 ∧ d.2.1 ≤ 9223372036854775807) ∧ (-9223372036854775808 ≤ d.2.2.1 ∧ d.2.2.1 ≤ 9223372036854775807) ∧ (-9223372036854775808 ≤ d.2.2.2.1 ∧ d.2.2.2.1 ≤ 9223372036854775807) ∧ InI (ims d)
def imCount (d : Im) : Nat := (ims d).length
def imMarked (k : Nat) (d : Im) : Im := (d.1, d.2.1, d.2.2.1, d.2.2.2.1, marks k (ims d).length)

end Go.Proofs.Ytpofmcepjmbmcaa

/- Planes as arguments and answers; the walks of the laws' own helpers on them. -/
namespace Go.Proofs.Ytpofmcepjmbmcaa
open Go.RowKit

abbrev Pl := Int × Int × List Int
abbrev Plv (d : Pl) (vl : Value) : Value := .agg #[.int .i64 d.1, .int .i64 d.2.1, vl]
abbrev Pls (d : Pl) : List Int := d.2.2
def RdPl (w : World) (v : Value) (d : Pl) : Prop := ∃ vl, v = Plv d vl ∧ RdI w vl (Pls d)
def OwnPl (w : World) (a b : Nat) (v : Value) (d : Pl) : Prop := ∃ vl, v = Plv d vl ∧ OwnI w a b vl (Pls d)
theorem OwnPl.rd {w : World} {a b : Nat} {v : Value} {d : Pl} (h : OwnPl w a b v d) : RdPl w v d := by
  obtain ⟨vl, rfl, h⟩ := h
  exact ⟨vl, rfl, h.rd⟩
theorem RdPl.below {w w' : World} {v : Value} {d : Pl} (h : RdPl w v d) (hb : Below w.heap.size w w') : RdPl w' v d := by
  obtain ⟨vl, rfl, h⟩ := h
  exact ⟨vl, rfl, h.below hb⟩
theorem OwnPl.upd {w w' : World} {a b c e : Nat} {v : Value} {d : Pl} (h : OwnPl w a b v d) (u : Upd c e w w') (hd : b ≤ c ∨ e ≤ a) : OwnPl w' a b v d := by
  obtain ⟨vl, rfl, h⟩ := h
  exact ⟨vl, rfl, h.upd u hd⟩
theorem OwnPl.keep {w w' : World} {a b : Nat} {v : Value} {d : Pl} (h : OwnPl w a b v d) (u : Upd 0 0 w w') : OwnPl w' a b v d := h.upd u (.inr (Nat.zero_le _))
theorem OwnPl.form {w : World} {a b : Nat} {v : Value} {d : Pl} (h : OwnPl w a b v d) : ∃ ad cap, v = Plv d (.slice ad (Pls d).length cap) := by
  obtain ⟨vl, rfl, h⟩ := h
  obtain ⟨ad, cap, rfl, _⟩ := h.rd
  exact ⟨ad, cap, rfl⟩
def PlCount (d : Pl) : Nat := (Pls d).length
def PlMarked (k : Nat) (d : Pl) : Pl := (d.1, d.2.1, marks k (Pls d).length)
/-- All numbers fit. -/
def InPl (d : Pl) : Prop := (-9223372036854775808 ≤ d.1 ∧ d.1 ≤ 9223372036854775807) ∧ (-9223372036854775808 ≤ d.2.1 ∧ d.2.1 ≤ 9223372036854775807) ∧ InI d.2.2

set_option maxHeartbeats 2000000 in
theorem szPlane_any (x0 : Int) (x1 : Int) (ad : Option Addr) (n cap : Nat) (left : Int) (w : World) (h0 : 0 ≤ left) (h1 : left ≤ 1099511627776) (hb0 : n ≤ 9223372036854775807) :
    Calls Try.prog 29 #[.agg #[.int .i64 x0, .int .i64 x1, .slice ad n cap], .int .i64 left] w fun e w' => e = .returned (.int .i64 (if left < ((n : Nat) : Int) then -1 else left - ((n : Nat) : Int))) ∧ Upd 0 0 w w' := by
  have hB := hide (Upd.of_below ((Below.refl w.heap.size w).alloc (Nat.le_refl _) (.cells #[.int .i64 x0, .int .i64 x1, .slice ad n cap] 48)) 0 0)
  by_cases hlt0 : left < ((n : Nat) : Int)
  · rw [if_pos (by omega)]
    have hS := hide (fun W => szIntS_any ad n cap (left) W (by omega) (by omega) hb0)
    rw [if_pos (by omega)] at hS
    go_enter Try.func29, Try.ntmps29
    go_wp2_with fail
    refine (unhide hS _).mono ?_
    rintro e w1 ⟨rfl, rfl⟩
    go_wp2
    go_ret
    exact ⟨by first | rfl | exact ret_int (by omega), unhide hB⟩
  · skip
    rw [if_neg (by omega)]
    have hS := hide (fun W => szIntS_any ad n cap (left) W (by omega) (by omega) hb0)
    rw [if_neg (by omega)] at hS
    have q0 : decide (left - ((n : Nat) : Int) < 0) = false := by simp; omega
    go_enter Try.func29, Try.ntmps29
    go_wp2_with fail
    refine (unhide hS _).mono ?_
    rintro e w1 ⟨rfl, rfl⟩
    go_wp2
    go_ret
    exact ⟨by first | rfl | exact ret_int (by omega), unhide hB⟩

set_option maxHeartbeats 2000000 in
set_option maxRecDepth 100000 in
theorem toPlane_own (v : Value) (d : Pl) (w : World) (hn : (Pls d).length ≤ 1048576) (hv : RdPl w v d) :
    Calls Try.prog 30 #[v] w fun e w' => ∃ u, e = .returned u ∧ OwnPl w' w.heap.size w'.heap.size u d ∧ Upd 0 0 w w' := by
  obtain ⟨vl, rfl, h⟩ := hv
  obtain ⟨ad, cap, rfl, hA⟩ := h
  obtain ⟨x0, x1, zs⟩ := d
  simp only [Pls, Plv] at hn hA ⊢
  have hB' := (((Below.refl w.heap.size w).alloc (Nat.le_refl _) (.cells #[.int .i64 x0, .int .i64 x1, .slice ad zs.length cap] 48)).alloc (by simp) (.cells #[.int .i64 0, .int .i64 0, .slice none 0 0] 37)).alloc (by simp; omega) (.cells #[.int .i64 x0, .int .i64 x1, .slice none 0 0] 37)
  have hT := hide (toIntS_own ad cap zs _ hn (hA.below hB'))
  replace hB' := hide hB'
  clear hA
  go_enter Try.func30, Try.ntmps30
  go_wp2_with fail
  refine (unhide hT).mono ?_
  rintro e w1 ⟨u, rfl, ho, hu⟩
  obtain ⟨hc, hf⟩ := bcellU hu
  obtain ⟨ad', cap', rfl, _⟩ := ho.rd
  have hsz := hu.size
  simp at hsz
  replace ho := hide ho
  have huB := hide ((Upd.of_below (unhide hB') 0 0).trans hu)
  clear hT hu hB'
  go_wp2
  have hbl := (unhide huB).none
  refine bodyPost_ret (v := .agg #[.int .i64 x0, .int .i64 x1, (.slice ad' zs.length cap')]) (by simp [results, Try.results30, go_sem, hc]) rfl ⟨_, rfl, ⟨_, rfl, own_mono (((((unhide ho).set (by first | (simp; done) | (simp; omega)) _ _).set (by first | (simp; done) | (simp; omega)) _ _).set (by first | (simp; done) | (simp; omega)) _ _).set (by first | (simp; done) | (simp; omega)) _ _) (by simp; omega) (by simp)⟩, Upd.of_below ((((hbl.setCell (by first | (simp; done) | (simp; omega)) _).setCell (by first | (simp; done) | (simp; omega)) _).setCell (by first | (simp; done) | (simp; omega)) _).setCell (by first | (simp; done) | (simp; omega)) _) 0 0⟩

set_option maxHeartbeats 2000000 in
set_option maxRecDepth 100000 in
theorem eqPlane_rd (u v : Value) (d : Pl) (w : World) (hn : (Pls d).length ≤ 1048576) (hu : RdPl w u d) (hv : RdPl w v d) :
    Calls Try.prog 31 #[u, v] w fun e w' => e = .returned (.bool true) ∧ Upd 0 0 w w' := by
  obtain ⟨ul, rfl, hu⟩ := hu
  obtain ⟨vl, rfl, hv⟩ := hv
  obtain ⟨x0, x1, zs⟩ := d
  obtain ⟨ad, cap, rfl, hA⟩ := hu
  obtain ⟨ad', cap', rfl, hA'⟩ := hv
  simp only [Pls, Plv] at hn hA hA' ⊢
  have hB := (((Below.refl w.heap.size w).alloc (Nat.le_refl _) (.cells #[.int .i64 x0, .int .i64 x1, .slice ad zs.length cap] 37)).alloc (by simp) (.cells #[.int .i64 x0, .int .i64 x1, (.slice ad' zs.length cap')] 37))
  have hE := hide (eqIntS_rd _ _ zs _ hn ⟨ad, cap, rfl, hA.below hB⟩ ⟨ad', cap', rfl, hA'.below hB⟩)
  replace hB := hide hB
  clear hA hA'
  go_enter Try.func31, Try.ntmps31
  go_wp2_with fail
  refine (unhide hE).mono ?_
  rintro e w1 ⟨rfl, hu⟩
  replace hu := hide ((Upd.of_below (unhide hB) 0 0).trans hu)
  clear hE
  go_wp2
  go_ret
  exact ⟨rfl, unhide hu⟩

set_option maxHeartbeats 1000000 in
theorem markPlane_own {w : World} {a b : Nat} {v : Value} {d : Pl} (k : Nat) (hL : (Pls d).length ≤ 1048576) (hk : k ≤ 1099511627776) (hv : OwnPl w a b v d) :
    Calls Try.prog 32 #[v, .int .i64 k] w fun e w' => e = .returned (.int .i64 ((k + PlCount d : Nat) : Int)) ∧ OwnPl w' a b v (PlMarked k d) ∧ Upd a b w w' := by
  obtain ⟨vl, rfl, hv⟩ := hv
  obtain ⟨x0, x1, zs⟩ := d
  simp only [Pls, Plv, PlCount, PlMarked] at hL hv ⊢
  have hB := Upd.of_below ((Below.refl w.heap.size w).alloc (Nat.le_refl _) (.cells #[.int .i64 x0, .int .i64 x1, vl] 37)) a b
  have hv1 := hv.keep (Upd.of_below ((Below.refl w.heap.size w).alloc (Nat.le_refl _) (.cells #[.int .i64 x0, .int .i64 x1, vl] 37)) 0 0)
  have hM := hide (markIntS_own a b vl k zs _ hL hk hv1)
  replace hB := hide hB
  clear hv1 hv
  go_enter Try.func32, Try.ntmps32
  go_wp2_with fail
  refine (unhide hM).mono ?_
  rintro e' w1 ⟨rfl, ho, hu⟩
  replace hu := hide ((unhide hB).trans hu)
  replace ho := hide ho
  clear hM
  go_wp2
  go_ret
  exact ⟨rfl, ⟨vl, rfl, unhide ho⟩, unhide hu⟩

set_option maxHeartbeats 1000000 in
theorem heldPlane_own {w : World} {a b : Nat} {v : Value} {d : Pl} (k : Nat) (hL : (Pls d).length ≤ 1048576) (hk : k ≤ 1099511627776) (hv : OwnPl w a b v (PlMarked k d)) :
    Calls Try.prog 33 #[v, .int .i64 k] w fun e w' => e = .returned (.int .i64 ((k + PlCount d : Nat) : Int)) ∧ Upd 0 0 w w' := by
  obtain ⟨vl, rfl, hv⟩ := hv
  obtain ⟨x0, x1, zs⟩ := d
  simp only [Pls, Plv, PlCount, PlMarked] at hL hv ⊢
  have hB := Upd.of_below ((Below.refl w.heap.size w).alloc (Nat.le_refl _) (.cells #[.int .i64 x0, .int .i64 x1, vl] 37)) 0 0
  have hv1 := hv.keep hB
  have hM := hide (heldIntS_own a b vl k zs.length _ hL hk hv1)
  replace hB := hide hB
  clear hv1 hv
  go_enter Try.func33, Try.ntmps33
  go_wp2_with fail
  refine (unhide hM).mono ?_
  rintro e' w1 ⟨rfl, hw⟩
  subst hw
  clear hM
  go_wp2
  go_ret
  exact ⟨rfl, unhide hB⟩
end Go.Proofs.Ytpofmcepjmbmcaa

/- Plain: good planes. -/
namespace Go.Proofs.Ytpofmcepjmbmcaa
open Go.RowKit

def SidesOk (a b : Int) : Prop := (1 ≤ a ∧ a ≤ 512) ∧ (1 ≤ b ∧ b ≤ 512) ∧ a * b ≤ 4096
instance (a b : Int) : Decidable (SidesOk a b) := by unfold SidesOk; infer_instance
def GoodPl (d : Pl) : Prop := SidesOk d.1 d.2.1 ∧ (d.2.2.length : Int) = d.1 * d.2.1 ∧ SmpOk d.2.2 8
noncomputable def goodPlB (d : Pl) : Bool := open Classical in decide (GoodPl d)
theorem goodPlB_yes {d : Pl} (h : GoodPl d) : goodPlB d = true := by unfold goodPlB; simpa using h
theorem goodPlB_no {d : Pl} (h : ¬ GoodPl d) : goodPlB d = false := by unfold goodPlB; simpa using h
theorem prod_side {w h : Int} (hw : 1 ≤ w ∧ w ≤ 512) (hh : 1 ≤ h ∧ h ≤ 512) : ∃ P : Int, w * h = P ∧ 1 ≤ P ∧ P ≤ 262144 := by
  obtain ⟨W, rfl⟩ := Int.eq_ofNat_of_zero_le (show 0 ≤ w by omega)
  obtain ⟨H, rfl⟩ := Int.eq_ofNat_of_zero_le (show 0 ≤ h by omega)
  have h1 : W * H ≤ 512 * 512 := Nat.mul_le_mul (by omega) (by omega)
  have h2 : 1 * 1 ≤ W * H := Nat.mul_le_mul (by omega) (by omega)
  exact ⟨((W * H : Nat) : Int), by simp, by omega, by omega⟩
end Go.Proofs.Ytpofmcepjmbmcaa

/- Plain: a plane made smaller. -/
namespace Go.Proofs.Ytpofmcepjmbmcaa
open Go.RowKit

/-- The first n samples from x on in row j. -/
def rowSum (zs : List Int) (W j x : Nat) : Nat → Int
  | 0 => 0
  | n + 1 => rowSum zs W j x n + zs.getD (j * W + (x + n)) 0
/-- .. of the first m rows from y on. -/
def boxSum (zs : List Int) (W x nx y : Nat) : Nat → Int
  | 0 => 0
  | m + 1 => boxSum zs W x nx y m + rowSum zs W (y + m) x nx
def manyF (W by_ x : Nat) : Nat := min (x + by_) W - x
def meanF (zs : List Int) (W H by_ x y : Nat) : Int :=
  (boxSum zs W x (manyF W by_ x) y (manyF H by_ y) + ((manyF W by_ x * manyF H by_ y / 2 : Nat) : Int)) / ((manyF W by_ x * manyF H by_ y : Nat) : Int)
def stepsF (n by_ : Nat) : Nat := (n + by_ - 1) / by_
def shrinkL (zs : List Int) (W H by_ : Nat) (k : Nat) : List Int := (List.range k).map fun i => meanF zs W H by_ (i % stepsF W by_ * by_) (i / stepsF W by_ * by_)
theorem shrinkL_zero (zs : List Int) (W H b : Nat) : shrinkL zs W H b 0 = [] := rfl
theorem shrinkL_succ (zs : List Int) (W H b k : Nat) : shrinkL zs W H b (k + 1) = shrinkL zs W H b k ++ [meanF zs W H b (k % stepsF W b * b) (k / stepsF W b * b)] := by
  unfold shrinkL; rw [List.range_succ, List.map_append]; rfl
@[simp] theorem shrinkL_length (zs : List Int) (W H b k : Nat) : (shrinkL zs W H b k).length = k := by simp [shrinkL]
theorem smp_bd {zs : List Int} (h : SmpOk zs 8) (k : Nat) : 0 ≤ zs.getD k 0 ∧ zs.getD k 0 ≤ 255 := by
  by_cases hk : k < zs.length
  · have h1 := h k hk
    have h2 : zs.getD k 0 < 2 ^ 8 := h1.2
    exact ⟨h1.1, by omega⟩
  · rw [List.getD_eq_getElem?_getD, List.getElem?_eq_none (by omega)]; simp
theorem rowSum_bd {zs : List Int} (h : SmpOk zs 8) (W j x n : Nat) : 0 ≤ rowSum zs W j x n ∧ rowSum zs W j x n ≤ 255 * n := by
  induction n with
  | zero => unfold rowSum; omega
  | succ n ih => have := smp_bd h (j * W + (x + n)); unfold rowSum; omega
theorem boxSum_bd {zs : List Int} (h : SmpOk zs 8) (W x nx y m : Nat) (hx : nx ≤ 4) : 0 ≤ boxSum zs W x nx y m ∧ boxSum zs W x nx y m ≤ 1020 * m := by
  induction m with
  | zero => unfold boxSum; omega
  | succ m ih => have := rowSum_bd h W (y + m) x nx; unfold boxSum; omega
theorem manyF_bd {W b x : Nat} (hx : x < W) (hb : 1 ≤ b) : 1 ≤ manyF W b x ∧ manyF W b x ≤ b ∧ x + manyF W b x ≤ W ∧ x + manyF W b x = min (x + b) W := by unfold manyF; omega
theorem stepsF_lt {W b i : Nat} (hb : b = 2 ∨ b = 4) (hi : i < stepsF W b) : i * b < W := by
  unfold stepsF at hi
  rcases hb with rfl | rfl <;> omega
theorem stepsF_bd {W b : Nat} (hb : b = 2 ∨ b = 4) (hW : 1 ≤ W) : 1 ≤ stepsF W b ∧ stepsF W b ≤ W := by
  unfold stepsF
  rcases hb with rfl | rfl <;> omega
/-- What Shrink answers. -/
noncomputable def shrinkF (d : Pl) (b : Int) : Pl :=
  open Classical in if GoodPl d ∧ (b = 2 ∨ b = 4) then (((stepsF d.1.toNat b.toNat : Nat) : Int), ((stepsF d.2.1.toNat b.toNat : Nat) : Int), shrinkL d.2.2 d.1.toNat d.2.1.toNat b.toNat (stepsF d.1.toNat b.toNat * stepsF d.2.1.toNat b.toNat)) else (0, 0, [])
theorem shrinkF_yes {d : Pl} {b : Int} (h : GoodPl d) (hb : b = 2 ∨ b = 4) : shrinkF d b = (((stepsF d.1.toNat b.toNat : Nat) : Int), ((stepsF d.2.1.toNat b.toNat : Nat) : Int), shrinkL d.2.2 d.1.toNat d.2.1.toNat b.toNat (stepsF d.1.toNat b.toNat * stepsF d.2.1.toNat b.toNat)) := by
  unfold shrinkF; rw [if_pos ⟨h, hb⟩]
theorem shrinkF_no {d : Pl} {b : Int} (h : ¬ (GoodPl d ∧ (b = 2 ∨ b = 4))) : shrinkF d b = (0, 0, []) := by
  unfold shrinkF; rw [if_neg h]
theorem shrinkF_len (d : Pl) (b : Int) : (shrinkF d b).2.2.length ≤ 1048576 := by
  by_cases h : GoodPl d ∧ (b = 2 ∨ b = 4)
  · rw [shrinkF_yes h.1 h.2]
    simp only [shrinkL_length]
    obtain ⟨⟨h1, h2, _⟩, _⟩ := h.1
    obtain ⟨b, rfl⟩ := Int.eq_ofNat_of_zero_le (show 0 ≤ b by omega)
    have hb : b = 2 ∨ b = 4 := by omega
    have e1 := (stepsF_bd (W := d.1.toNat) hb (by omega)).2
    have e2 := (stepsF_bd (W := d.2.1.toNat) hb (by omega)).2
    rw [Int.toNat_natCast]
    exact Nat.le_trans (Nat.mul_le_mul (Nat.le_trans e1 (show d.1.toNat ≤ 512 by omega)) (Nat.le_trans e2 (show d.2.1.toNat ≤ 512 by omega))) (by omega)
  · rw [shrinkF_no h]; simp
end Go.Proofs.Ytpofmcepjmbmcaa

/- A region that draws its order, whose operations read old memory and whose calls only lay new blocks: one walk of the text's order serves. -/
namespace Go.Proofs.Ytpofmcepjmbmcaa
open Go.RowKit

/-- The worlds in which all that was there is as it was. -/
def UpdT (w : World) : Type := { w' : World // Upd 0 0 w w' }
def UpdT.to {w : World} (x : UpdT w) : World := x.1
instance (w : World) : Nonempty (UpdT w) := ⟨⟨w, Upd.refl _ _ _⟩⟩
theorem UpdT.upd {w : World} (x : UpdT w) : Upd 0 0 w x.to := x.2
theorem wp_region_upd {P : Program} {id : Nat} {Q : Exit → Act → World → Prop} {a : Act} {w : World} {l : List Oper} (hm : P.follows .mixedOrders = true) (hB : Region.lexB .any l.toArray = true)
    (h : wpQuiet P l.toArray (fun w' => ∃ x : UpdT w, w' = x.to) (fun a' => ∀ w', (∃ x : UpdT w, w' = x.to) → Q .normal a' w') l a) : (Code.region id l.toArray true).wp P Q a w :=
  wp_region_quiet (C := fun w' => ∃ x : UpdT w, w' = x.to) hm hB ⟨⟨{ w with drawn := w.drawn + 1 }, ⟨rfl, rfl, rfl, Nat.le_refl _, fun _ _ _ => rfl⟩⟩, rfl⟩ (by simpa using h)
/-- A call that only lays new blocks, in such a world. -/
theorem Calls.updT {P : Program} {f : FuncId} {args : Array Value} {w : World} {v : Value} (x : UpdT w) (h : Calls P f args x.to fun e w' => e = .returned v ∧ Upd 0 0 x.to w') :
    Calls P f args x.to fun e w' => e = .returned v ∧ ∃ y : UpdT w, w' = y.to :=
  h.mono fun _ w' ⟨he, hu⟩ => ⟨he, ⟨w', x.upd.trans hu⟩, rfl⟩
theorem Calls.updT_same {P : Program} {f : FuncId} {args : Array Value} {w : World} {v : Value} (x : UpdT w) (h : Calls P f args x.to fun e w' => e = .returned v ∧ w' = x.to) :
    Calls P f args x.to fun e w' => e = .returned v ∧ ∃ y : UpdT w, w' = y.to :=
  h.mono fun _ _ ⟨he, hw⟩ => ⟨he, x, hw⟩
theorem Held.updT {w : World} {g : Nat} {cs : List Value} (h : Held w g cs) (x : UpdT w) : Held x.to g cs := h.keep x.upd
end Go.Proofs.Ytpofmcepjmbmcaa

/- The walk of a region that draws its order, behind a wrapper that no elaborator looks through (a guard's test is then never evaluated unasked). -/
namespace Go.Proofs.Ytpofmcepjmbmcaa
open Go.RowKit

structure WQ (P : Program) (ops : Array Oper) (C : World → Prop) (Q : Act → Prop) (l : List Oper) (a : Act) : Prop where
  h : wpQuiet P ops C Q l a
theorem WQ.nil {P : Program} {ops : Array Oper} {C : World → Prop} {Q : Act → Prop} {a : Act} (h : Q a) : WQ P ops C Q [] a := ⟨h⟩
theorem WQ.step {P : Program} {ops : Array Oper} {C : World → Prop} {Q : Act → Prop} {a : Act} {o : Oper} {rest : List Oper}
    (h : ∀ K : Act → Prop, (∀ a, WQ P ops C Q rest a → K a) → if Region.wanted o (yielded ops a.tmps) then o.quiet P a C K else K (a.put o.dst undef)) : WQ P ops C Q (o :: rest) a :=
  ⟨wpQuiet_step (fun K hK => h K (fun a ha => hK a ha.h))⟩
theorem wq_region_upd {P : Program} {id : Nat} {Q : Exit → Act → World → Prop} {a : Act} {w : World} {l : List Oper} (hm : P.follows .mixedOrders = true) (hB : Region.lexB .any l.toArray = true)
    (h : WQ P l.toArray (fun w' => ∃ x : UpdT w, w' = x.to) (fun a' => ∀ w', (∃ x : UpdT w, w' = x.to) → Q .normal a' w') l a) : (Code.region id l.toArray true).wp P Q a w :=
  wp_region_upd hm hB h.h
end Go.Proofs.Ytpofmcepjmbmcaa

/- The program's samples of a plane, and means of them. -/
namespace Go.Proofs.Ytpofmcepjmbmcaa
open Go.RowKit

/-- A good plane's facts, in natural numbers. -/
structure PlOk (W H : Nat) (zs : List Int) : Prop where
  w : 1 ≤ W ∧ W ≤ 512
  h : 1 ≤ H ∧ H ≤ 512
  l : zs.length = W * H
  m : W * H ≤ 4096
  s : SmpOk zs 8
theorem GoodPl.nat {a b : Int} {zs : List Int} (h : GoodPl (a, b, zs)) : ∃ W H : Nat, a = W ∧ b = H ∧ PlOk W H zs := by
  obtain ⟨⟨h1, h2, h3⟩, hl, hs⟩ := h
  simp only at h1 h2 h3 hl hs
  obtain ⟨W, rfl⟩ := Int.eq_ofNat_of_zero_le (show 0 ≤ a by omega)
  obtain ⟨H, rfl⟩ := Int.eq_ofNat_of_zero_le (show 0 ≤ b by omega)
  have e : (W : Int) * (H : Int) = ((W * H : Nat) : Int) := by simp
  exact ⟨W, H, rfl, rfl, ⟨by omega, by omega, by omega, by omega, hs⟩⟩
theorem PlOk.at_lt {W H : Nat} {zs : List Int} (h : PlOk W H zs) {x y : Nat} (hx : x < W) (hy : y < H) : y * W + x < zs.length ∧ y * W ≤ 4096 := by
  have h1 : (y + 1) * W ≤ H * W := Nat.mul_le_mul hy (Nat.le_refl _)
  have h2 := h.m
  rw [h.l, Nat.mul_comm W H]
  rw [Nat.mul_comm W H] at h2
  rw [Nat.add_mul, Nat.one_mul] at h1
  omega

set_option maxHeartbeats 4000000 in
set_option maxRecDepth 100000 in
theorem implPlAt (W H x y : Nat) (ad : Option Addr) (cap : Nat) (zs : List Int) (w : World) (hp : PlOk W H zs) (hx : x < W) (hy : y < H) (hA : ArgI w ad zs) :
    Calls Try.prog 117 #[.agg #[.int .i64 (W : Int), .int .i64 (H : Int), .slice ad zs.length cap], .int .i64 (x : Int), .int .i64 (y : Int)] w fun e w' => e = .returned (.int .i64 (zs.getD (y * W + x) 0)) ∧ Upd 0 0 w w' := by
  obtain ⟨hlt, hyW⟩ := hp.at_lt hx hy
  obtain ⟨p, hpe⟩ : ∃ p, y * W = p := ⟨_, rfl⟩
  have e1 : (y : Int) * (W : Int) = (p : Int) := by rw [← hpe]; simp
  rw [hpe] at hlt hyW ⊢
  have hB := (Below.refl w.heap.size w).alloc (Nat.le_refl _) (.cells #[.int .i64 (W : Int), .int .i64 (H : Int), .slice ad zs.length cap] 37)
  have hU := hide (Upd.of_below hB 0 0)
  obtain ⟨bb, off, rfl, hbl, hcl⟩ := (hA.below hB) (ne_of_lt_length hlt)
  have hck := hcl (p + x) hlt
  generalize zs.getD (p + x) 0 = v at hck ⊢
  have hWs := hp.w
  have hlen : zs.length ≤ 4096 := by have := hp.l; have := hp.m; omega
  clear hcl hbl hA hB hp hpe
  have k1 : (0 : Int) ≤ (p : Int) + (x : Int) := by omega
  have k2 : (p : Int) + (x : Int) < (zs.length : Int) := by omega
  have k3 : ((p : Int) + (x : Int)).toNat = p + x := by omega
  go_enter Try.func117, Try.ntmps117
  go_wp2
  go_ret
  exact ⟨rfl, unhide hU⟩
end Go.Proofs.Ytpofmcepjmbmcaa

/- Plain: a plane in other sides. -/
namespace Go.Proofs.Ytpofmcepjmbmcaa
open Go.RowKit

/-- Where a sample comes from, in parts of 256. -/
def fromF (x old new : Nat) : Nat := (2 * x + 1) * old * 256 / (2 * new) - 128
/-- A sample, the nearest one where there is none. -/
def nearF (zs : List Int) (W H x y : Nat) : Int := zs.getD (min y (H - 1) * W + min x (W - 1)) 0
def topF (zs : List Int) (W H s j : Nat) : Int := (256 - ((s % 256 : Nat) : Int)) * nearF zs W H (s / 256) j + ((s % 256 : Nat) : Int) * nearF zs W H (s / 256 + 1) j
def blendF (zs : List Int) (W H s t : Nat) : Int := ((256 - ((t % 256 : Nat) : Int)) * topF zs W H s (t / 256) + ((t % 256 : Nat) : Int) * topF zs W H s (t / 256 + 1) + 32768) / 65536
def resizeL (zs : List Int) (W H w h k : Nat) : List Int := (List.range k).map fun i => blendF zs W H (fromF (i % w) W w) (fromF (i / w) H h)
theorem resizeL_zero (zs : List Int) (W H w h : Nat) : resizeL zs W H w h 0 = [] := rfl
theorem resizeL_succ (zs : List Int) (W H w h k : Nat) : resizeL zs W H w h (k + 1) = resizeL zs W H w h k ++ [blendF zs W H (fromF (k % w) W w) (fromF (k / w) H h)] := by
  unfold resizeL; rw [List.range_succ, List.map_append]; rfl
@[simp] theorem resizeL_length (zs : List Int) (W H w h k : Nat) : (resizeL zs W H w h k).length = k := by simp [resizeL]
theorem mul_bd {a b m n : Int} (a0 : 0 ≤ a) (a1 : a ≤ m) (b0 : 0 ≤ b) (b1 : b ≤ n) : 0 ≤ a * b ∧ a * b ≤ m * n :=
  ⟨Int.mul_nonneg a0 b0, Int.mul_le_mul a1 b1 b0 (Int.le_trans a0 a1)⟩
theorem nearF_bd {zs : List Int} (h : SmpOk zs 8) (W H x y : Nat) : 0 ≤ nearF zs W H x y ∧ nearF zs W H x y ≤ 255 := smp_bd h _
theorem fromF_bd {x W w : Nat} (hx : x < w) (hW : W ≤ 512) : fromF x W w ≤ 131072 := by
  unfold fromF
  have h0 : W * 256 ≤ 131072 := by omega
  have h1 : (2 * x + 1) * W * 256 ≤ (2 * w) * 131072 := by
    rw [Nat.mul_assoc]
    exact Nat.mul_le_mul (by omega) h0
  have h2 : (2 * x + 1) * W * 256 / (2 * w) ≤ 131072 := Nat.div_le_of_le_mul h1
  generalize (2 * x + 1) * W * 256 / (2 * w) = q at h2
  omega
theorem topF_bd {zs : List Int} (h : SmpOk zs 8) (W H s j : Nat) : 0 ≤ topF zs W H s j ∧ topF zs W H s j ≤ 65280 := by
  have a := nearF_bd h W H (s / 256) j
  have b := nearF_bd h W H (s / 256 + 1) j
  unfold topF
  generalize nearF zs W H (s / 256) j = p at a
  generalize nearF zs W H (s / 256 + 1) j = q at b
  have hf : s % 256 < 256 := Nat.mod_lt _ (by omega)
  generalize s % 256 = f at hf
  have h1 : (256 - (f : Int)) * p ≤ (256 - (f : Int)) * 255 := Int.mul_le_mul_of_nonneg_left a.2 (by omega)
  have h2 : (f : Int) * q ≤ (f : Int) * 255 := Int.mul_le_mul_of_nonneg_left b.2 (by omega)
  have h3 : 0 ≤ (256 - (f : Int)) * p := Int.mul_nonneg (by omega) a.1
  have h4 : 0 ≤ (f : Int) * q := Int.mul_nonneg (by omega) b.1
  generalize (256 - (f : Int)) * p = P at h1 h3
  generalize (f : Int) * q = Q at h2 h4
  omega
/-- What Resize answers. -/
noncomputable def resizeF (d : Pl) (w h : Int) : Pl :=
  open Classical in if GoodPl d ∧ SidesOk w h then (w, h, resizeL d.2.2 d.1.toNat d.2.1.toNat w.toNat h.toNat (w.toNat * h.toNat)) else (0, 0, [])
theorem resizeF_yes {d : Pl} {w h : Int} (a : GoodPl d) (b : SidesOk w h) : resizeF d w h = (w, h, resizeL d.2.2 d.1.toNat d.2.1.toNat w.toNat h.toNat (w.toNat * h.toNat)) := by
  unfold resizeF; rw [if_pos ⟨a, b⟩]
theorem resizeF_no {d : Pl} {w h : Int} (a : ¬ (GoodPl d ∧ SidesOk w h)) : resizeF d w h = (0, 0, []) := by
  unfold resizeF; rw [if_neg a]
theorem resizeF_len (d : Pl) (w h : Int) : (resizeF d w h).2.2.length ≤ 1048576 := by
  by_cases a : GoodPl d ∧ SidesOk w h
  · rw [resizeF_yes a.1 a.2]
    simp only [resizeL_length]
    obtain ⟨h1, h2, _⟩ := a.2
    exact Nat.le_trans (Nat.mul_le_mul (show w.toNat ≤ 512 by omega) (show h.toNat ≤ 512 by omega)) (by omega)
  · rw [resizeF_no a]; simp
end Go.Proofs.Ytpofmcepjmbmcaa

/- The specification's Resize: where samples come from. -/
namespace Go.Proofs.Ytpofmcepjmbmcaa
open Go.RowKit

theorem wrapI {x : Int} (h : -9223372036854775808 ≤ x ∧ x ≤ 9223372036854775807) : IntKind.i64.wrap x = x := by
  simp [IntKind.wrap, IntKind.bits, IntKind.signed]; omega
theorem i64_and_255 (n : Nat) : bits .and .i64 (n : Int) 255 = ((n % 256 : Nat) : Int) := by
  have h1 : (BitVec.ofInt 64 255).toNat = 2 ^ 8 - 1 := by decide
  have key : (BitVec.ofInt 64 (n : Int) &&& BitVec.ofInt 64 255).toNat = ((n : Int) % ((2 ^ 64 : Nat) : Int)).toNat % 2 ^ 8 := by
    rw [BitVec.toNat_and, BitVec.toNat_ofInt, h1, Nat.and_two_pow_sub_one_eq_mod]
  show IntKind.i64.wrap ((BitVec.ofInt 64 (n : Int) &&& BitVec.ofInt 64 255).toNat : Nat) = _
  rw [key, IntKind.wrap_i64]
  omega
end Go.Proofs.Ytpofmcepjmbmcaa

/- Plain: colours of three numbers. -/
namespace Go.Proofs.Ytpofmcepjmbmcaa
open Go.RowKit

def clipF (n : Int) : Int := if n < 0 then 0 else if 255 < n then 255 else n
theorem clipF_bd (n : Int) : 0 ≤ clipF n ∧ clipF n ≤ 255 := by unfold clipF; split <;> (try split) <;> omega
theorem clipF_low {n : Int} (h : n < 0) : clipF n = 0 := by unfold clipF; rw [if_pos h]
theorem clipF_high {n : Int} (h : 255 < n) : clipF n = 255 := by unfold clipF; rw [if_neg (by omega), if_pos h]
theorem clipF_in {n : Int} (h0 : ¬ n < 0) (h : ¬ 255 < n) : clipF n = n := by unfold clipF; rw [if_neg h0, if_neg h]
def yOf (r g b : Int) : Int := clipF ((77 * r + 150 * g + 29 * b + 128) / 256)
def cbOf (r g b : Int) : Int := clipF ((-43 * r - 85 * g + 128 * b + 128) / 256 + 128)
def crOf (r g b : Int) : Int := clipF ((128 * r - 107 * g - 21 * b + 128) / 256 + 128)
def brightF (d : Int × Int × Int) : Int × Int × Int := (yOf (clipF d.1) (clipF d.2.1) (clipF d.2.2), cbOf (clipF d.1) (clipF d.2.1) (clipF d.2.2), crOf (clipF d.1) (clipF d.2.1) (clipF d.2.2))
def rOf (y _u v : Int) : Int := clipF (y + (359 * v + 128) / 256)
def gOf (y u v : Int) : Int := clipF (y - (88 * u + 183 * v + 128) / 256)
def bOf (y u _v : Int) : Int := clipF (y + (454 * u + 128) / 256)
def unbrightF (d : Int × Int × Int) : Int × Int × Int := (rOf (clipF d.1) (clipF d.2.1 - 128) (clipF d.2.2 - 128), gOf (clipF d.1) (clipF d.2.1 - 128) (clipF d.2.2 - 128), bOf (clipF d.1) (clipF d.2.1 - 128) (clipF d.2.2 - 128))
def Near (m : Int) (d : Int × Int × Int) : Prop := (-m ≤ d.1 ∧ d.1 ≤ m) ∧ (-m ≤ d.2.1 ∧ d.2.1 ≤ m) ∧ (-m ≤ d.2.2 ∧ d.2.2 ≤ m)
instance (m : Int) (d : Int × Int × Int) : Decidable (Near m d) := by unfold Near; infer_instance
def liftF (d : Int × Int × Int) : Int × Int × Int := if Near 1000000 d then ((d.1 + 2 * d.2.1 + d.2.2) / 4, d.2.2 - d.2.1, d.1 - d.2.1) else (0, 0, 0)
def unliftG (d : Int × Int × Int) : Int := d.1 - (d.2.1 + d.2.2) / 4
def unliftF (d : Int × Int × Int) : Int × Int × Int := if Near 4000000 d ∧ Near 1000000 (d.2.2 + unliftG d, unliftG d, d.2.1 + unliftG d) then (d.2.2 + unliftG d, unliftG d, d.2.1 + unliftG d) else (0, 0, 0)
theorem unlift_lift {d : Int × Int × Int} (h : Near 1000000 d) : unliftF (liftF d) = d := by
  obtain ⟨r, g, b⟩ := d
  unfold liftF
  rw [if_pos h]
  obtain ⟨⟨h1, h2⟩, ⟨h3, h4⟩, h5, h6⟩ := h
  simp only at h1 h2 h3 h4 h5 h6
  have e : unliftG ((r + 2 * g + b) / 4, b - g, r - g) = g := by unfold unliftG; simp only; omega
  unfold unliftF
  rw [e, if_pos]
  · simp only [Prod.mk.injEq]; exact ⟨by omega, trivial, by omega⟩
  · unfold Near; simp only; omega
theorem yOf_bd (r g b : Int) (hr : 0 ≤ r ∧ r ≤ 255) (hg : 0 ≤ g ∧ g ≤ 255) (hb : 0 ≤ b ∧ b ≤ 255) : yOf r g b = (77 * r + 150 * g + 29 * b + 128) / 256 := by
  unfold yOf; rw [clipF_in (by omega) (by omega)]
theorem red_near (r g b : Int) (hr : 0 ≤ r ∧ r ≤ 255) (hg : 0 ≤ g ∧ g ≤ 255) (hb : 0 ≤ b ∧ b ≤ 255) : -2 ≤ r - rOf (yOf r g b) (cbOf r g b - 128) (crOf r g b - 128) ∧ r - rOf (yOf r g b) (cbOf r g b - 128) (crOf r g b - 128) ≤ 2 := by
  rw [yOf_bd r g b hr hg hb]
  unfold rOf crOf clipF
  split <;> (try split) <;> (try split) <;> (try split) <;> omega
theorem green_near (r g b : Int) (hr : 0 ≤ r ∧ r ≤ 255) (hg : 0 ≤ g ∧ g ≤ 255) (hb : 0 ≤ b ∧ b ≤ 255) : -2 ≤ g - gOf (yOf r g b) (cbOf r g b - 128) (crOf r g b - 128) ∧ g - gOf (yOf r g b) (cbOf r g b - 128) (crOf r g b - 128) ≤ 2 := by
  rw [yOf_bd r g b hr hg hb]
  unfold gOf cbOf crOf clipF
  split <;> (try split) <;> (try split) <;> (try split) <;> (try split) <;> (try split) <;> omega
theorem blue_near (r g b : Int) (hr : 0 ≤ r ∧ r ≤ 255) (hg : 0 ≤ g ∧ g ≤ 255) (hb : 0 ≤ b ∧ b ≤ 255) : -2 ≤ b - bOf (yOf r g b) (cbOf r g b - 128) (crOf r g b - 128) ∧ b - bOf (yOf r g b) (cbOf r g b - 128) (crOf r g b - 128) ≤ 2 := by
  rw [yOf_bd r g b hr hg hb]
  unfold bOf cbOf clipF
  split <;> (try split) <;> (try split) <;> (try split) <;> omega
theorem grey_bright (g : Int) (hg : 0 ≤ g ∧ g ≤ 255) : brightF (g, g, g) = (g, 128, 128) := by
  unfold brightF
  simp only
  rw [clipF_in (by omega) (by omega)]
  unfold yOf cbOf crOf
  simp only [Prod.mk.injEq]
  refine ⟨?_, ?_, ?_⟩
  · rw [clipF_in (by omega) (by omega)]; omega
  · rw [clipF_in (by omega) (by omega)]; omega
  · rw [clipF_in (by omega) (by omega)]; omega
end Go.Proofs.Ytpofmcepjmbmcaa

/- The program's colours: clipping. -/
namespace Go.Proofs.Ytpofmcepjmbmcaa
open Go.RowKit

theorem implClipInt (n a b : Int) (w : World) : Calls Try.prog 118 #[.int .i64 n, .int .i64 a, .int .i64 b] w fun e w' => e = .returned (.int .i64 (max a (min b n))) ∧ w' = w := by
  go_enter Try.func118, Try.ntmps118
  go_wp2
  all_goals
    go_ret
    exact ⟨ret_int (by omega), rfl⟩
set_option maxHeartbeats 4000000 in
set_option maxRecDepth 100000 in
theorem implClipSample (n : Int) (w : World) : Calls Try.prog 103 #[.int .i64 n] w fun e w' => e = .returned (.int .i64 (clipF n)) ∧ w' = w := by
  have hC := hide (fun W => implClipInt n 0 255 W)
  have e : max 0 (min 255 n) = clipF n := by unfold clipF; split <;> (try split) <;> omega
  rw [e] at hC
  clear e
  go_enter Try.func103, Try.ntmps103
  go_wp2_with fail
  refine (unhide hC _).mono ?_
  rintro e w1 ⟨rfl, rfl⟩
  go_wp2
  go_ret
  exact ⟨rfl, rfl⟩
set_option maxHeartbeats 4000000 in
set_option maxRecDepth 100000 in
theorem implRound8 (n : Int) (w : World) (h0 : -1152921504606846976 ≤ n) (h1 : n ≤ 1152921504606846976) : Calls Try.prog 76 #[.int .i64 n, .int .i64 8] w fun e w' => e = .returned (.int .i64 ((n + 128) / 256)) ∧ w' = w := by
  go_enter Try.func76, Try.ntmps76
  go_wp2
  go_ret
  exact ⟨rfl, rfl⟩
theorem implRound4 (n : Int) (w : World) (h0 : -1152921504606846976 ≤ n) (h1 : n ≤ 1152921504606846976) : Calls Try.prog 76 #[.int .i64 n, .int .i64 4] w fun e w' => e = .returned (.int .i64 ((n + 8) / 16)) ∧ w' = w := by
  go_enter Try.func76, Try.ntmps76
  go_wp2
  go_ret
  exact ⟨rfl, rfl⟩
theorem implRound16 (n : Int) (w : World) (h0 : -1152921504606846976 ≤ n) (h1 : n ≤ 1152921504606846976) : Calls Try.prog 76 #[.int .i64 n, .int .i64 16] w fun e w' => e = .returned (.int .i64 ((n + 32768) / 65536)) ∧ w' = w := by
  go_enter Try.func76, Try.ntmps76
  go_wp2
  go_ret
  exact ⟨rfl, rfl⟩
end Go.Proofs.Ytpofmcepjmbmcaa

/- A region that draws its order: a head of operations that are quiet in a class of worlds (loads, arithmetic, calls that lay new blocks alone), and a tail that waits for all of them: the head is walked once, in the text's order; the tail behind it. -/
namespace Go.Proofs.Ytpofmcepjmbmcaa
open Go.RowKit

section
variable {P : Program} {ops : Array Oper} {md : Region.Mode} {C : World → Prop}
/-- Whatever order is picked among the first n, with 'L' to be shown behind them. -/
def wpHeadQ (P : Program) (md : Region.Mode) (ops : Array Oper) (C : World → Prop) (n : Nat) (L : Array Bool → Act → Prop) : Nat → Array Bool → Act → Prop
  | 0, b, a => L b a
  | f + 1, b, a => Region.ready md ops b ≠ [] ∧ ∀ i ∈ Region.ready md ops b, i < n ∧ qOp P ops C i (wpHeadQ P md ops C n L f (b.setIfInBounds i true)) a
theorem wpAny_of_headQ {n g : Nat} {L : Array Bool → Act → Prop} {Q' : Exit → Act → World → Prop} (hL : ∀ b a w, C w → L b a → wpAny P md ops Q' g b a w) (f : Nat) :
    ∀ (b : Array Bool) (a : Act) (w : World), C w → wpHeadQ P md ops C n L f b a → wpAny P md ops Q' (f + g) b a w := by
  induction f with
  | zero => intro b a w hC h; rw [Nat.zero_add]; exact hL _ _ _ hC h
  | succ f ih =>
    intro b a w hC h
    rw [show f + 1 + g = (f + g) + 1 by omega]
    exact ⟨fun h0 => absurd h0 h.1, fun i hi => wpOp_of_qOp hC (fun a' w' hC' h' => ih _ a' w' hC' h') (h.2 i hi).2⟩
theorem wpHeadQ_first {n i : Nat} {oi : Oper} {v : Value} {L : Array Bool → Act → Prop} (hi : ops[i]? = some oi) (hsel : ∀ (j : Nat) (o : Oper) cs b, ops[j]? = some o → o.op ≠ .select cs b)
    (hs : Region.sinkB md ops n = true) (hc : Region.chainB md ops n = true) (hn : n < ops.size) (hin : i < n) (hdone : ∀ b a, L b a → ∀ j ∈ Region.ready md ops b, n ≤ j) (f : Nat) :
    ∀ (b : Array Bool) (a : Act), HeadInv md ops n b →
      (∀ j oj, ops[j]? = some oj → j ≠ i → b.getD j true = false → (∀ e ∈ oj.after, Region.binds md e = true → e.on ≠ i) → oi.apart ops oj = true) →
      i ∈ Region.ready md ops b → YieldsIn P ops C oi v a →
      wpHeadQ P md ops C n L f (b.setIfInBounds i true) (a.put oi.dst v) → wpHeadQ P md ops C n L (f + 1) b a := by
  induction f with
  | zero =>
    intro b a inv _ hr hy H
    refine ⟨fun h => (by rw [h] at hr; cases hr), fun j hj => ?_⟩
    have hjn : j < n := Nat.lt_of_not_le fun h => tail_waits hs hc hn inv _ i rfl hin (mem_ready.1 hr).1 j h hj
    refine ⟨hjn, ?_⟩
    by_cases hji : j = i
    · subst hji; exact hy.qOp hi H
    · exact absurd (hdone _ _ H j (ready_mono hj hji)) (by omega)
  | succ f ih =>
    intro b a inv hfree hr hy H
    refine ⟨fun h => (by rw [h] at hr; cases hr), fun j hj => ?_⟩
    have hun := (mem_ready.1 hr).1
    have hjn : j < n := Nat.lt_of_not_le fun h => tail_waits hs hc hn inv _ i rfl hin hun j h hj
    refine ⟨hjn, ?_⟩
    by_cases hji : j = i
    · subst hji; exact hy.qOp hi H
    · obtain ⟨hjun, oj, hoj, hall⟩ := mem_ready.1 hj
      have hnot : ∀ e ∈ oj.after, Region.binds md e = true → e.on ≠ i := fun e he hb heq => by
        have h1 := hall e he hb
        rw [heq, getD_both hun] at h1
        cases h1
      have h2 := qOp_put hoj (hfree j oj hoj hji hjun hnot) (fun cs b => hsel i oi cs b hi) (fun cs b => hsel j oj cs b hoj) hy (H.2 j (ready_mono hj hji)).2
      refine qOp_mono (fun a' h3 => ih (b.setIfInBounds j true) a' (inv.set hj hjn) (fun k ok hk hki hun' hno => hfree k ok hk hki ?_ hno) (ready_mono hr (Ne.symm hji)) h3.1 ?_) h2
      · by_cases hjk : j = k
        · subst hjk; exact hjun
        · rw [getD_set_ne true hjk] at hun'; exact hun'
      · rw [Array.setIfInBounds_comm _ _ hji]
        exact h3.2
theorem wpHeadQ_lex {n g : Nat} {Lq : Act → Prop} (hsel : Region.noSelect ops = true) (hs : Region.sinkB md ops n = true) (hc : Region.chainB md ops n = true) (hn : n < ops.size) (l : List Oper) :
    ∀ (k : Nat) (b : Array Bool) (a : Act), (∀ j, j < l.length → l[j]? = ops[k + j]?) → k + l.length = n → HeadInv md ops n b →
    Region.lexHead md ops g l.length k b = true → wpQuiet P ops C Lq l a → wpHeadQ P md ops C n (fun b' a' => Region.seqB md ops g n b' = true ∧ Lq a') l.length b a := by
  induction l with
  | nil =>
    intro k b a hl hk inv hB h
    have hkn : k = n := by simpa using hk
    subst hkn
    exact ⟨by simpa [Region.lexHead] using hB, h⟩
  | cons o l ih =>
    intro k b a hl hk inv hB h
    have h0 : ops[k]? = some o := by simpa using (hl 0 (by simp)).symm
    simp only [List.length_cons, Region.lexHead, Bool.and_eq_true] at hB
    obtain ⟨⟨hr, hf⟩, hB'⟩ := hB
    have hkn : k < n := by simp only [List.length_cons] at hk; omega
    have hr' : k ∈ Region.ready md ops b := by simpa using hr
    have hst : qOp P ops C k (wpQuiet P ops C Lq l) a := by unfold qOp; simp only [h0]; exact h
    obtain ⟨v, hy, hK⟩ := yieldsIn_of_qOp h0 hst
    exact wpHeadQ_first h0 (Region.noSelect_spec hsel) hs hc hn hkn (fun b' a' hL => seqB_ready hL.1) l.length b a inv (Region.free_spec h0 hf) hr' hy
      (ih (k + 1) _ _ (fun j hj => by have := hl (j + 1) (by simp; omega); simpa [Nat.add_assoc, Nat.add_comm 1 j] using this) (by simp only [List.length_cons] at hk; omega) (inv.set hr' hkn) hB' hK)
theorem wp_region_quiet_tail {id : Nat} {Q : Exit → Act → World → Prop} {a : Act} {w : World} {l : List Oper} (n : Nat) (hm : P.follows .mixedOrders = true) (hB : Region.lexTailB .any l.toArray n = true) (hC : C { w with drawn := w.drawn + 1 })
    (h : wpQuiet P l.toArray C (fun a' => ∀ w', C w' → wpList P l.toArray Q (l.drop n) a' w') (l.take n) a) : (Code.region id l.toArray true).wp P Q a w := by
  simp only [Region.lexTailB, Bool.and_eq_true, decide_eq_true_eq] at hB
  obtain ⟨⟨⟨⟨hsel, hn⟩, hs⟩, hc⟩, hlex⟩ := hB
  have hn' : n < l.length := by simpa using hn
  have htl : (l.take n).length = n := by simp; omega
  have hdl : (l.drop n).length = l.toArray.size - n := by simp
  have inv0 : HeadInv .any l.toArray n (Array.replicate l.toArray.size false) :=
    ⟨by simp, fun j oj _ hl => (by rw [getD_replicate_false] at hl; cases hl), fun t _ ht => getD_in (by simpa using ht) (getD_replicate_false _ _)⟩
  have H := wpHeadQ_lex (md := .any) (g := l.toArray.size - n) hsel hs hc hn (l.take n) 0 _ a (fun j hj => by
    have hj' : j < n := by rw [htl] at hj; exact hj
    simp [hj']) (by simpa using htl) inv0 (by rw [htl]; exact hlex) h
  refine wp_region_any hm ?_
  have := wpAny_of_headQ (Q' := Q) (g := l.toArray.size - n) (fun b a' w' hC' hL => by
    have := wpAny_of_seq (md := .any) (Q' := Q) (l.drop n) n b a' w' (fun j => by simp [List.getElem?_drop]) (by rw [hdl]; exact hL.1) (hL.2 w' hC')
    rwa [hdl] at this) _ _ _ _ hC H
  rw [htl, show n + (l.toArray.size - n) = l.toArray.size by omega] at this
  exact this
end
/-- .. at the class 'all that was there is as it was', behind the wrapper. -/
theorem wq_region_tail {P : Program} {id : Nat} {Q : Exit → Act → World → Prop} {a : Act} {w : World} {l : List Oper} (n : Nat) (hm : P.follows .mixedOrders = true) (hB : Region.lexTailB .any l.toArray n = true)
    (h : WQ P l.toArray (fun w' => ∃ x : UpdT w, w' = x.to) (fun a' => ∀ w', (∃ x : UpdT w, w' = x.to) → wpList P l.toArray Q (l.drop n) a' w') (l.take n) a) : (Code.region id l.toArray true).wp P Q a w :=
  wp_region_quiet_tail (C := fun w' => ∃ x : UpdT w, w' = x.to) n hm hB ⟨⟨{ w with drawn := w.drawn + 1 }, ⟨rfl, rfl, rfl, Nat.le_refl _, fun _ _ _ => rfl⟩⟩, rfl⟩ h.h
end Go.Proofs.Ytpofmcepjmbmcaa

/- The program's weights, corners and blending. -/
namespace Go.Proofs.Ytpofmcepjmbmcaa
open Go.RowKit

end Go.Proofs.Ytpofmcepjmbmcaa

/- The program's blending of four samples. -/
namespace Go.Proofs.Ytpofmcepjmbmcaa
open Go.RowKit

end Go.Proofs.Ytpofmcepjmbmcaa

/- Lists of Passs: 6 numbers each; the walks of the laws' own helpers on them. -/
namespace Go.Proofs.Ytpofmcepjmbmcaa
open Go.RowKit

abbrev Ps := Int × Int × Int × Int × Int × Int
abbrev Ps0 : Ps := (0, 0, 0, 0, 0, 0)
def cellsPs (ps : List Ps) : List Value := ps.flatMap fun p => [.int .i64 p.1, .int .i64 p.2.1, .int .i64 p.2.2.1, .int .i64 p.2.2.2.1, .int .i64 p.2.2.2.2.1, .int .i64 p.2.2.2.2.2]
theorem cellsPs_length (ps : List Ps) : (cellsPs ps).length = ps.length * 6 := by
  induction ps with
  | nil => rfl
  | cons p ps ih => unfold cellsPs at ih ⊢; rw [List.flatMap_cons, List.length_append, ih]; simp; omega
theorem cellsPs_snoc (ps : List Ps) (p : Ps) : cellsPs (ps ++ [p]) = cellsPs ps ++ [.int .i64 p.1, .int .i64 p.2.1, .int .i64 p.2.2.1, .int .i64 p.2.2.2.1, .int .i64 p.2.2.2.2.1, .int .i64 p.2.2.2.2.2] := by unfold cellsPs; simp
def RowPs (ys : List Value) (ps : List Ps) (k : Nat) : Prop := ∀ j, j < k → ys[j * 6]? = some (.int .i64 (ps.getD j Ps0).1) ∧ ys[j * 6 + 1]? = some (.int .i64 (ps.getD j Ps0).2.1) ∧ ys[j * 6 + 2]? = some (.int .i64 (ps.getD j Ps0).2.2.1) ∧ ys[j * 6 + 3]? = some (.int .i64 (ps.getD j Ps0).2.2.2.1) ∧ ys[j * 6 + 4]? = some (.int .i64 (ps.getD j Ps0).2.2.2.2.1) ∧ ys[j * 6 + 5]? = some (.int .i64 (ps.getD j Ps0).2.2.2.2.2)
theorem cellsPs_at (ps : List Ps) : RowPs (cellsPs ps) ps ps.length := by
  induction ps with
  | nil => intro j hj; simp at hj
  | cons p ps ih =>
    intro j hj
    have e : cellsPs (p :: ps) = [.int .i64 p.1, .int .i64 p.2.1, .int .i64 p.2.2.1, .int .i64 p.2.2.2.1, .int .i64 p.2.2.2.2.1, .int .i64 p.2.2.2.2.2] ++ cellsPs ps := by unfold cellsPs; simp
    rw [e]
    cases j with
    | zero => exact ⟨rfl, rfl, rfl, rfl, rfl, rfl⟩
    | succ j =>
      have h := ih j (by simpa using hj)
      rw [List.getElem?_append_right (by simp; omega), List.getElem?_append_right (by simp; omega), List.getElem?_append_right (by simp; omega), List.getElem?_append_right (by simp; omega), List.getElem?_append_right (by simp; omega), List.getElem?_append_right (by simp; omega)]
      simp only [List.length_cons, List.length_nil, List.getD_cons_succ]
      rw [show (j + 1) * 6 - (0 + 1 + 1 + 1 + 1 + 1 + 1) = j * 6 by omega, show (j + 1) * 6 + 1 - (0 + 1 + 1 + 1 + 1 + 1 + 1) = j * 6 + 1 by omega, show (j + 1) * 6 + 2 - (0 + 1 + 1 + 1 + 1 + 1 + 1) = j * 6 + 2 by omega, show (j + 1) * 6 + 3 - (0 + 1 + 1 + 1 + 1 + 1 + 1) = j * 6 + 3 by omega, show (j + 1) * 6 + 4 - (0 + 1 + 1 + 1 + 1 + 1 + 1) = j * 6 + 4 by omega, show (j + 1) * 6 + 5 - (0 + 1 + 1 + 1 + 1 + 1 + 1) = j * 6 + 5 by omega]
      exact h
theorem cellsPs_of {ys : List Value} {ps : List Ps} (hl : ys.length = ps.length * 6) (h : RowPs ys ps ps.length) : ys = cellsPs ps := by
  apply List.ext_getElem?
  intro i
  by_cases hi : i < ps.length * 6
  · have h1 := h (i / 6) (by omega)
    have h2 := cellsPs_at ps (i / 6) (by omega)
    rcases (show i = i / 6 * 6 ∨ i = i / 6 * 6 + 1 ∨ i = i / 6 * 6 + 2 ∨ i = i / 6 * 6 + 3 ∨ i = i / 6 * 6 + 4 ∨ i = i / 6 * 6 + 5 by omega) with e | e | e | e | e | e
    · rw [e, h1.1, h2.1]
    · rw [e, h1.2.1, h2.2.1]
    · rw [e, h1.2.2.1, h2.2.2.1]
    · rw [e, h1.2.2.2.1, h2.2.2.2.1]
    · rw [e, h1.2.2.2.2.1, h2.2.2.2.2.1]
    · rw [e, h1.2.2.2.2.2, h2.2.2.2.2.2]
  · rw [List.getElem?_eq_none (by omega), List.getElem?_eq_none (by rw [cellsPs_length]; omega)]
def AtPs (w : World) (b off : Nat) (ps : List Ps) : Prop := ∀ j, j < ps.length → w.cell? ⟨b, off + j * 6, none⟩ = some (.int .i64 (ps.getD j Ps0).1) ∧ w.cell? ⟨b, off + j * 6 + 1, none⟩ = some (.int .i64 (ps.getD j Ps0).2.1) ∧ w.cell? ⟨b, off + j * 6 + 2, none⟩ = some (.int .i64 (ps.getD j Ps0).2.2.1) ∧ w.cell? ⟨b, off + j * 6 + 3, none⟩ = some (.int .i64 (ps.getD j Ps0).2.2.2.1) ∧ w.cell? ⟨b, off + j * 6 + 4, none⟩ = some (.int .i64 (ps.getD j Ps0).2.2.2.2.1) ∧ w.cell? ⟨b, off + j * 6 + 5, none⟩ = some (.int .i64 (ps.getD j Ps0).2.2.2.2.2)
def InPs (ps : List Ps) : Prop := ∀ j, (-9223372036854775808 ≤ (ps.getD j Ps0).1 ∧ (ps.getD j Ps0).1 ≤ 9223372036854775807) ∧ (-9223372036854775808 ≤ (ps.getD j Ps0).2.1 ∧ (ps.getD j Ps0).2.1 ≤ 9223372036854775807) ∧ (-9223372036854775808 ≤ (ps.getD j Ps0).2.2.1 ∧ (ps.getD j Ps0).2.2.1 ≤ 9223372036854775807) ∧ (-9223372036854775808 ≤ (ps.getD j Ps0).2.2.2.1 ∧ (ps.getD j Ps0).2.2.2.1 ≤ 9223372036854775807) ∧ (-9223372036854775808 ≤ (ps.getD j Ps0).2.2.2.2.1 ∧ (ps.getD j Ps0).2.2.2.2.1 ≤ 9223372036854775807) ∧ (-9223372036854775808 ≤ (ps.getD j Ps0).2.2.2.2.2 ∧ (ps.getD j Ps0).2.2.2.2.2 ≤ 9223372036854775807)
def ArgPs (w : World) (ad : Option Addr) (ps : List Ps) : Prop := ps ≠ [] → ∃ b off, ad = some ⟨b, off, none⟩ ∧ b < w.heap.size ∧ AtPs w b off ps
theorem ArgPs.below {w w' : World} {ad : Option Addr} {ps : List Ps} (h : ArgPs w ad ps) (hb : Below w.heap.size w w') : ArgPs w' ad ps := by
  intro hne
  obtain ⟨b, off, e, hl, hc⟩ := h hne
  exact ⟨b, off, e, Nat.lt_of_lt_of_le hl hb.size, fun j hj => ⟨(hb.cell (by simpa using hl)).trans (hc j hj).1, (hb.cell (by simpa using hl)).trans (hc j hj).2.1, (hb.cell (by simpa using hl)).trans (hc j hj).2.2.1, (hb.cell (by simpa using hl)).trans (hc j hj).2.2.2.1, (hb.cell (by simpa using hl)).trans (hc j hj).2.2.2.2.1, (hb.cell (by simpa using hl)).trans (hc j hj).2.2.2.2.2⟩⟩
def RdPs (w : World) (v : Value) (ps : List Ps) : Prop := ∃ ad cap, v = .slice ad ps.length cap ∧ ArgPs w ad ps
theorem RdPs.below {w w' : World} {v : Value} {ps : List Ps} (h : RdPs w v ps) (hb : Below w.heap.size w w') : RdPs w' v ps := by
  obtain ⟨ad, cap, e, h⟩ := h
  exact ⟨ad, cap, e, h.below hb⟩
def marksPs (k n : Nat) : List Ps := (List.range n).map fun j => (((k + 6 * j : Nat) : Int), ((k + 6 * j + 1 : Nat) : Int), ((k + 6 * j + 2 : Nat) : Int), ((k + 6 * j + 3 : Nat) : Int), ((k + 6 * j + 4 : Nat) : Int), ((k + 6 * j + 5 : Nat) : Int))
@[simp] theorem marksPs_length (k n : Nat) : (marksPs k n).length = n := by simp [marksPs]
theorem marksPs_at (k n j : Nat) (h : j < n) : (marksPs k n).getD j Ps0 = (((k + 6 * j : Nat) : Int), ((k + 6 * j + 1 : Nat) : Int), ((k + 6 * j + 2 : Nat) : Int), ((k + 6 * j + 3 : Nat) : Int), ((k + 6 * j + 4 : Nat) : Int), ((k + 6 * j + 5 : Nat) : Int)) := by
  unfold marksPs; rw [List.getD_eq_getElem?_getD, List.getElem?_map, List.getElem?_range h]; rfl
end Go.Proofs.Ytpofmcepjmbmcaa

/- The program's mixes for another side. -/
namespace Go.Proofs.Ytpofmcepjmbmcaa
open Go.RowKit

def RowMx (ys : List Value) (old side k : Nat) : Prop := ∀ j, j < k → ys[j * 3]? = some (.int .i64 ((min (fromF j old side / 256) (old - 1) : Nat) : Int)) ∧ ys[j * 3 + 1]? = some (.int .i64 ((min (fromF j old side / 256 + 1) (old - 1) : Nat) : Int)) ∧ ys[j * 3 + 2]? = some (.int .i64 ((fromF j old side % 256 : Nat) : Int))
theorem RowMx.snoc {ys : List Value} {old side k : Nat} (h : RowMx ys old side k) (hk : k * 3 + 2 < ys.length) :
    RowMx (((ys.set (k * 3) (.int .i64 ((min (fromF k old side / 256) (old - 1) : Nat) : Int))).set (k * 3 + 1) (.int .i64 ((min (fromF k old side / 256 + 1) (old - 1) : Nat) : Int))).set (k * 3 + 2) (.int .i64 ((fromF k old side % 256 : Nat) : Int))) old side (k + 1) := by
  intro j hj
  by_cases e : j = k
  · subst e
    refine ⟨?_, ?_, ?_⟩
    · rw [List.getElem?_set_ne (by omega), List.getElem?_set_ne (by omega), List.getElem?_set_self (by first | omega | (simp; omega))]
    · rw [List.getElem?_set_ne (by omega), List.getElem?_set_self (by first | omega | (simp; omega))]
    · rw [List.getElem?_set_self (by first | omega | (simp; omega))]
  · have := h j (by omega)
    refine ⟨?_, ?_, ?_⟩
    · rw [List.getElem?_set_ne (by omega), List.getElem?_set_ne (by omega), List.getElem?_set_ne (by omega)]; exact this.1
    · rw [List.getElem?_set_ne (by omega), List.getElem?_set_ne (by omega), List.getElem?_set_ne (by omega)]; exact this.2.1
    · rw [List.getElem?_set_ne (by omega), List.getElem?_set_ne (by omega), List.getElem?_set_ne (by omega)]; exact this.2.2
theorem clipU (n a b c : Int) (h : max a (min b n) = c) (W : World) : Calls Try.prog 118 #[.int .i64 n, .int .i64 a, .int .i64 b] W fun e w' => e = .returned (.int .i64 c) ∧ w' = W := by
  refine (implClipInt n a b W).mono ?_
  rintro e w' ⟨rfl, rfl⟩
  rw [h]
  exact ⟨rfl, rfl⟩
end Go.Proofs.Ytpofmcepjmbmcaa

/- How many bits a number has; grades: the program's walk. -/
namespace Go.Proofs.Ytpofmcepjmbmcaa
open Go.RowKit

/-- The bits of a number of which all but the last eight are shifted away. -/
theorem len_of (x q : Int) (s : Nat) (h0 : 0 ≤ x) (h1 : x ≤ 18446744073709551615) (hq : q.toNat = x.toNat / 2 ^ s) (hl : 2 ^ s ≤ x.toNat) (q0 : 0 ≤ q) (q1 : q ≤ 255) :
    (s : Int) + Lib.len8 q = Lib.bitLen x.toNat := by
  rw [Lib.len8_of q q0 q1, hq, Lib.bitLen_shift s x.toNat hl (show x.toNat < 18446744073709551616 by omega)]
  omega
theorem len_bd (q : Int) (q0 : 0 ≤ q) (q1 : q ≤ 255) : 0 ≤ Lib.len8 q ∧ Lib.len8 q ≤ 8 := by
  rw [Lib.len8_of q q0 q1]
  have := Lib.bitLen_le8' q q0 q1
  omega
set_option maxHeartbeats 4000000 in
set_option maxRecDepth 100000 in
theorem implLen64c111 (x : Int) (w : World) (h0 : 0 ≤ x) (h1 : x ≤ 18446744073709551615) (_c1 : 4294967296 ≤ x) (_c2 : 65536 ≤ x / 4294967296) (_c3 : 256 ≤ x / 4294967296 / 65536) :
    Calls Try.prog 123 #[.int .u64 x] w fun e w' => e = .returned (.int .i64 (Lib.bitLen x.toNat)) ∧ w' = w := by
  obtain ⟨q, hq⟩ : ∃ q : Int, q = x / 4294967296 / 65536 / 256 := ⟨_, rfl⟩
  have q0 : 0 ≤ q := by omega
  have q1 : q ≤ 255 := by omega
  have hv : (56 : Int) + Lib.len8 q = Lib.bitLen x.toNat := len_of x q 56 h0 h1 (by rw [hq]; show _ = x.toNat / 72057594037927936; omega) (by show 72057594037927936 ≤ x.toNat; omega) q0 q1
  rw [← hv]
  have hb := len_bd q q0 q1
  have hix := fun W => Lib.run_index_len8tab (P := Try.prog) W 9 .u8 q (by kernel_rfl) q0 q1
  have hw : IntKind.u8.wrap q = q := by simp [IntKind.wrap, IntKind.bits, IntKind.signed]; omega
  clear hv
  generalize Lib.len8 q = r at hb hix ⊢
  go_enter Try.func123, Try.ntmps123
  go_upto_region 10 with fail
  rw [← hq]
  clear hq _c1 _c2 _c3 h0 h1
  go_wp2
  go_ret
  exact ⟨ret_int (by omega), rfl⟩
set_option maxHeartbeats 4000000 in
set_option maxRecDepth 100000 in
theorem implLen64c110 (x : Int) (w : World) (h0 : 0 ≤ x) (h1 : x ≤ 18446744073709551615) (_c1 : 4294967296 ≤ x) (_c2 : 65536 ≤ x / 4294967296) (_c3 : x / 4294967296 / 65536 < 256) :
    Calls Try.prog 123 #[.int .u64 x] w fun e w' => e = .returned (.int .i64 (Lib.bitLen x.toNat)) ∧ w' = w := by
  obtain ⟨q, hq⟩ : ∃ q : Int, q = x / 4294967296 / 65536 := ⟨_, rfl⟩
  have q0 : 0 ≤ q := by omega
  have q1 : q ≤ 255 := by omega
  have hv : (48 : Int) + Lib.len8 q = Lib.bitLen x.toNat := len_of x q 48 h0 h1 (by rw [hq]; show _ = x.toNat / 281474976710656; omega) (by show 281474976710656 ≤ x.toNat; omega) q0 q1
  rw [← hv]
  have hb := len_bd q q0 q1
  have hix := fun W => Lib.run_index_len8tab (P := Try.prog) W 9 .u8 q (by kernel_rfl) q0 q1
  have hw : IntKind.u8.wrap q = q := by simp [IntKind.wrap, IntKind.bits, IntKind.signed]; omega
  clear hv
  generalize Lib.len8 q = r at hb hix ⊢
  go_enter Try.func123, Try.ntmps123
  go_upto_region 10 with fail
  rw [← hq]
  clear hq _c1 _c2 _c3 h0 h1
  go_wp2
  go_ret
  exact ⟨ret_int (by omega), rfl⟩
set_option maxHeartbeats 4000000 in
set_option maxRecDepth 100000 in
theorem implLen64c101 (x : Int) (w : World) (h0 : 0 ≤ x) (h1 : x ≤ 18446744073709551615) (_c1 : 4294967296 ≤ x) (_c2 : x / 4294967296 < 65536) (_c3 : 256 ≤ x / 4294967296) :
    Calls Try.prog 123 #[.int .u64 x] w fun e w' => e = .returned (.int .i64 (Lib.bitLen x.toNat)) ∧ w' = w := by
  obtain ⟨q, hq⟩ : ∃ q : Int, q = x / 4294967296 / 256 := ⟨_, rfl⟩
  have q0 : 0 ≤ q := by omega
  have q1 : q ≤ 255 := by omega
  have hv : (40 : Int) + Lib.len8 q = Lib.bitLen x.toNat := len_of x q 40 h0 h1 (by rw [hq]; show _ = x.toNat / 1099511627776; omega) (by show 1099511627776 ≤ x.toNat; omega) q0 q1
  rw [← hv]
  have hb := len_bd q q0 q1
  have hix := fun W => Lib.run_index_len8tab (P := Try.prog) W 9 .u8 q (by kernel_rfl) q0 q1
  have hw : IntKind.u8.wrap q = q := by simp [IntKind.wrap, IntKind.bits, IntKind.signed]; omega
  clear hv
  generalize Lib.len8 q = r at hb hix ⊢
  go_enter Try.func123, Try.ntmps123
  go_upto_region 10 with fail
  rw [← hq]
  clear hq _c1 _c2 _c3 h0 h1
  go_wp2
  go_ret
  exact ⟨ret_int (by omega), rfl⟩
set_option maxHeartbeats 4000000 in
set_option maxRecDepth 100000 in
theorem implLen64c100 (x : Int) (w : World) (h0 : 0 ≤ x) (h1 : x ≤ 18446744073709551615) (_c1 : 4294967296 ≤ x) (_c2 : x / 4294967296 < 65536) (_c3 : x / 4294967296 < 256) :
    Calls Try.prog 123 #[.int .u64 x] w fun e w' => e = .returned (.int .i64 (Lib.bitLen x.toNat)) ∧ w' = w := by
  obtain ⟨q, hq⟩ : ∃ q : Int, q = x / 4294967296 := ⟨_, rfl⟩
  have q0 : 0 ≤ q := by omega
  have q1 : q ≤ 255 := by omega
  have hv : (32 : Int) + Lib.len8 q = Lib.bitLen x.toNat := len_of x q 32 h0 h1 (by rw [hq]; show _ = x.toNat / 4294967296; omega) (by show 4294967296 ≤ x.toNat; omega) q0 q1
  rw [← hv]
  have hb := len_bd q q0 q1
  have hix := fun W => Lib.run_index_len8tab (P := Try.prog) W 9 .u8 q (by kernel_rfl) q0 q1
  have hw : IntKind.u8.wrap q = q := by simp [IntKind.wrap, IntKind.bits, IntKind.signed]; omega
  clear hv
  generalize Lib.len8 q = r at hb hix ⊢
  go_enter Try.func123, Try.ntmps123
  go_upto_region 10 with fail
  rw [← hq]
  clear hq _c1 _c2 _c3 h0 h1
  go_wp2
  go_ret
  exact ⟨ret_int (by omega), rfl⟩
set_option maxHeartbeats 4000000 in
set_option maxRecDepth 100000 in
theorem implLen64c011 (x : Int) (w : World) (h0 : 0 ≤ x) (h1 : x ≤ 18446744073709551615) (_c1 : x < 4294967296) (_c2 : 65536 ≤ x) (_c3 : 256 ≤ x / 65536) :
    Calls Try.prog 123 #[.int .u64 x] w fun e w' => e = .returned (.int .i64 (Lib.bitLen x.toNat)) ∧ w' = w := by
  obtain ⟨q, hq⟩ : ∃ q : Int, q = x / 65536 / 256 := ⟨_, rfl⟩
  have q0 : 0 ≤ q := by omega
  have q1 : q ≤ 255 := by omega
  have hv : (24 : Int) + Lib.len8 q = Lib.bitLen x.toNat := len_of x q 24 h0 h1 (by rw [hq]; show _ = x.toNat / 16777216; omega) (by show 16777216 ≤ x.toNat; omega) q0 q1
  rw [← hv]
  have hb := len_bd q q0 q1
  have hix := fun W => Lib.run_index_len8tab (P := Try.prog) W 9 .u8 q (by kernel_rfl) q0 q1
  have hw : IntKind.u8.wrap q = q := by simp [IntKind.wrap, IntKind.bits, IntKind.signed]; omega
  clear hv
  generalize Lib.len8 q = r at hb hix ⊢
  go_enter Try.func123, Try.ntmps123
  go_upto_region 10 with fail
  rw [← hq]
  clear hq _c1 _c2 _c3 h0 h1
  go_wp2
  go_ret
  exact ⟨ret_int (by omega), rfl⟩
set_option maxHeartbeats 4000000 in
set_option maxRecDepth 100000 in
theorem implLen64c010 (x : Int) (w : World) (h0 : 0 ≤ x) (h1 : x ≤ 18446744073709551615) (_c1 : x < 4294967296) (_c2 : 65536 ≤ x) (_c3 : x / 65536 < 256) :
    Calls Try.prog 123 #[.int .u64 x] w fun e w' => e = .returned (.int .i64 (Lib.bitLen x.toNat)) ∧ w' = w := by
  obtain ⟨q, hq⟩ : ∃ q : Int, q = x / 65536 := ⟨_, rfl⟩
  have q0 : 0 ≤ q := by omega
  have q1 : q ≤ 255 := by omega
  have hv : (16 : Int) + Lib.len8 q = Lib.bitLen x.toNat := len_of x q 16 h0 h1 (by rw [hq]; show _ = x.toNat / 65536; omega) (by show 65536 ≤ x.toNat; omega) q0 q1
  rw [← hv]
  have hb := len_bd q q0 q1
  have hix := fun W => Lib.run_index_len8tab (P := Try.prog) W 9 .u8 q (by kernel_rfl) q0 q1
  have hw : IntKind.u8.wrap q = q := by simp [IntKind.wrap, IntKind.bits, IntKind.signed]; omega
  clear hv
  generalize Lib.len8 q = r at hb hix ⊢
  go_enter Try.func123, Try.ntmps123
  go_upto_region 10 with fail
  rw [← hq]
  clear hq _c1 _c2 _c3 h0 h1
  go_wp2
  go_ret
  exact ⟨ret_int (by omega), rfl⟩
set_option maxHeartbeats 4000000 in
set_option maxRecDepth 100000 in
theorem implLen64c001 (x : Int) (w : World) (h0 : 0 ≤ x) (h1 : x ≤ 18446744073709551615) (_c1 : x < 4294967296) (_c2 : x < 65536) (_c3 : 256 ≤ x) :
    Calls Try.prog 123 #[.int .u64 x] w fun e w' => e = .returned (.int .i64 (Lib.bitLen x.toNat)) ∧ w' = w := by
  obtain ⟨q, hq⟩ : ∃ q : Int, q = x / 256 := ⟨_, rfl⟩
  have q0 : 0 ≤ q := by omega
  have q1 : q ≤ 255 := by omega
  have hv : (8 : Int) + Lib.len8 q = Lib.bitLen x.toNat := len_of x q 8 h0 h1 (by rw [hq]; show _ = x.toNat / 256; omega) (by show 256 ≤ x.toNat; omega) q0 q1
  rw [← hv]
  have hb := len_bd q q0 q1
  have hix := fun W => Lib.run_index_len8tab (P := Try.prog) W 9 .u8 q (by kernel_rfl) q0 q1
  have hw : IntKind.u8.wrap q = q := by simp [IntKind.wrap, IntKind.bits, IntKind.signed]; omega
  clear hv
  generalize Lib.len8 q = r at hb hix ⊢
  go_enter Try.func123, Try.ntmps123
  go_upto_region 10 with fail
  rw [← hq]
  clear hq _c1 _c2 _c3 h0 h1
  go_wp2
  go_ret
  exact ⟨ret_int (by omega), rfl⟩
set_option maxHeartbeats 4000000 in
set_option maxRecDepth 100000 in
theorem implLen64c000 (x : Int) (w : World) (h0 : 0 ≤ x) (h1 : x ≤ 18446744073709551615) (_c1 : x < 4294967296) (_c2 : x < 65536) (_c3 : x < 256) :
    Calls Try.prog 123 #[.int .u64 x] w fun e w' => e = .returned (.int .i64 (Lib.bitLen x.toNat)) ∧ w' = w := by
  obtain ⟨q, hq⟩ : ∃ q : Int, q = x := ⟨_, rfl⟩
  have q0 : 0 ≤ q := by omega
  have q1 : q ≤ 255 := by omega
  have hv : (0 : Int) + Lib.len8 q = Lib.bitLen x.toNat := by have e : q.toNat = x.toNat := (by omega); have e2 := Lib.len8_of q q0 q1; rw [e] at e2; omega
  rw [← hv]
  have hb := len_bd q q0 q1
  have hix := fun W => Lib.run_index_len8tab (P := Try.prog) W 9 .u8 q (by kernel_rfl) q0 q1
  have hw : IntKind.u8.wrap q = q := by simp [IntKind.wrap, IntKind.bits, IntKind.signed]; omega
  clear hv
  generalize Lib.len8 q = r at hb hix ⊢
  go_enter Try.func123, Try.ntmps123
  go_upto_region 10 with fail
  rw [← hq]
  clear hq _c1 _c2 _c3 h0 h1
  go_wp2
  go_ret
  exact ⟨ret_int (by omega), rfl⟩
theorem implLen64 (x : Int) (w : World) (h0 : 0 ≤ x) (h1 : x ≤ 18446744073709551615) :
    Calls Try.prog 123 #[.int .u64 x] w fun e w' => e = .returned (.int .i64 (Lib.bitLen x.toNat)) ∧ w' = w := by
  rcases Int.lt_or_le x 4294967296 with c1 | c1
  · rcases Int.lt_or_le x 65536 with c2 | c2
    · rcases Int.lt_or_le x 256 with c3 | c3
      · exact implLen64c000 x w h0 h1 c1 c2 c3
      · exact implLen64c001 x w h0 h1 c1 c2 c3
    · rcases Int.lt_or_le (x / 65536) 256 with c3 | c3
      · exact implLen64c010 x w h0 h1 c1 c2 c3
      · exact implLen64c011 x w h0 h1 c1 c2 c3
  · rcases Int.lt_or_le (x / 4294967296) 65536 with c2 | c2
    · rcases Int.lt_or_le (x / 4294967296) 256 with c3 | c3
      · exact implLen64c100 x w h0 h1 c1 c2 c3
      · exact implLen64c101 x w h0 h1 c1 c2 c3
    · rcases Int.lt_or_le (x / 4294967296 / 65536) 256 with c3 | c3
      · exact implLen64c110 x w h0 h1 c1 c2 c3
      · exact implLen64c111 x w h0 h1 c1 c2 c3
set_option maxHeartbeats 1000000 in
theorem implLen (x : Int) (w : World) (h0 : 0 ≤ x) (h1 : x ≤ 18446744073709551615) :
    Calls Try.prog 121 #[.int .u64 x] w fun e w' => e = .returned (.int .i64 (Lib.bitLen x.toNat)) ∧ w' = w := by
  have h := hide (implLen64 x w h0 h1)
  go_enter Try.func121, Try.ntmps121
  go_wp2_with fail
  refine (unhide h).mono ?_
  rintro e w' ⟨rfl, rfl⟩
  go_wp2
  go_ret
  exact ⟨rfl, rfl⟩
set_option maxHeartbeats 1000000 in
theorem implDistP (p : Int) (w : World) (h0 : 0 ≤ p) (h1 : p ≤ 9223372036854775807) :
    Calls Try.prog 111 #[.int .i64 p, .int .i64 0] w fun e w' => e = .returned (.int .i64 p) ∧ w' = w := by
  go_enter Try.func111, Try.ntmps111
  go_wp2
  all_goals
    go_ret
    exact ⟨ret_int (by omega), rfl⟩
set_option maxHeartbeats 1000000 in
theorem implSizeOf (p : Int) (w : World) (h0 : 0 ≤ p) (h1 : p ≤ 9223372036854775807) :
    Calls Try.prog 114 #[.int .i64 p] w fun e w' => e = .returned (.int .i64 (Lib.bitLen p.toNat)) ∧ w' = w := by
  have hd := hide (implDistP p w h0 h1)
  have h := hide (implLen p w h0 (by omega))
  go_enter Try.func114, Try.ntmps114
  go_wp2_with fail
  refine (unhide hd).mono ?_
  rintro e w' ⟨rfl, rfl⟩
  go_wp2_with fail
  refine (unhide h).mono ?_
  rintro e w' ⟨rfl, rfl⟩
  go_wp2
  go_ret
  exact ⟨rfl, rfl⟩
def GrdOk (p q : Int) : Prop := 0 ≤ p ∧ 0 ≤ q ∧ q ≤ 15
def gradeF (p q : Int) : Int := if p < 0 then 0 else if q < 0 then 0 else if 15 < q then 0 else max 0 (min 12 (((Lib.bitLen p.toNat : Int) + 1) / 2 - q))
theorem bitLen_64 (p : Int) (h1 : p ≤ 9223372036854775807) : Lib.bitLen p.toNat ≤ 64 := by
  refine Lib.bitLen_le _ 64 (Nat.le_refl _) ?_
  show p.toNat < 18446744073709551616
  omega
end Go.Proofs.Ytpofmcepjmbmcaa

/- Odds: how they learn, what a choice costs: the small functions of both sides. -/
namespace Go.Proofs.Ytpofmcepjmbmcaa
open Go.RowKit

set_option maxHeartbeats 4000000 in
theorem specL12Learn (o b : Int) (h : 31 ≤ o ∧ o ≤ 4065) (w : World) :
    Calls Try.prog 87 #[.int .i64 o, .int .i64 b] w fun e w' => e = .returned (.int .i64 (learnF o b)) ∧ w' = w := by
  obtain ⟨h0, h1⟩ := h
  unfold learnF
  by_cases hb : b = 0
  · rw [if_pos hb]
    have t : (b == 0) = true := by simpa using hb
    subst hb
    go_enter Try.func87, Try.ntmps87
    go_wp2
    go_ret
    exact ⟨rfl, rfl⟩
  · rw [if_neg hb]
    have t : (b == 0) = false := by simpa using hb
    clear hb
    go_enter Try.func87, Try.ntmps87
    go_wp2
    go_ret
    exact ⟨rfl, rfl⟩
theorem logF_of (v : Int) (b : Nat) (h0 : 1 ≤ v) (h1 : v ≤ 256) (hb0 : 2 ^ b ≤ v.toNat) (hb1 : v.toNat < 2 ^ (b + 1)) : logF v = 256 * (8 - (b : Int)) - 256 * (v - 2 ^ b) / 2 ^ b := by
  unfold logF
  rw [show max v 1 = v by omega]
  simp only [bitLen_between _ b hb0 hb1 (by omega), Nat.add_sub_cancel]
theorem shr_8 (m b : Nat) (h : 2 ^ b ≤ m) (hm : m ≤ 256) : b ≤ 8 := by
  rcases Nat.lt_or_ge 8 b with h1 | h1
  · have : 2 ^ 9 ≤ 2 ^ b := Nat.pow_le_pow_right (by omega) (by omega)
    omega
  · exact h1
/-- With the number's bits known. -/
theorem bits_of (m : Nat) (h0 : 1 ≤ m) (h1 : m ≤ 256) : ∃ b, b ≤ 8 ∧ 2 ^ b ≤ m ∧ m < 2 ^ (b + 1) ∧ Lib.bitLen m = b + 1 := by
  obtain ⟨b, h2, h3⟩ := exists_between m (by omega)
  exact ⟨b, shr_8 m b h2 h1, h2, h3, bitLen_between m b h2 h3 (by omega)⟩
set_option maxRecDepth 100000 in
set_option maxHeartbeats 8000000 in
theorem implLikely (v : Int) (h0 : 1 ≤ v) (h1 : v ≤ 256) (w : World) :
    Calls Try.prog 89 #[.int .i64 v] w fun e w' => e = .returned (.int .i64 (logF v)) ∧ w' = w := by
  obtain ⟨m, rfl⟩ := Int.eq_ofNat_of_zero_le (show 0 ≤ v by omega)
  obtain ⟨b, hb, hm0, hm1, hbl⟩ := bits_of m (by omega) (by omega)
  have hE := hide (logF_of (m : Int) b h0 h1 (by simpa using hm0) (by simpa using hm1))
  have hlb := hide (logF_all ⟨m, by omega⟩)
  have hS := hide (fun X => implSizeOf (m : Int) X (by omega) (by omega))
  rw [show (Lib.bitLen (m : Int).toNat : Int) = (b : Int) + 1 by rw [Int.toNat_natCast, hbl]; rfl] at hS
  obtain ⟨P, hP⟩ : ∃ P : Nat, 2 ^ b = P := ⟨_, rfl⟩
  have hPi : (2 : Int) ^ b = (P : Int) := by rw [← hP]; simp
  rw [hP] at hm0
  have hP0 : 0 < P := by rw [← hP]; exact Nat.two_pow_pos b
  have hb64 : (b : Int) ≤ 64 := by omega
  have hb00 : (0 : Int) ≤ (b : Int) := by omega
  rw [hPi] at hE
  clear hP hm1 hbl
  go_enter Try.func89, Try.ntmps89
  go_wp2_with fail
  rw [show max (m : Int) 1 = (m : Int) by omega]
  refine (unhide hS _).mono ?_
  rintro e w1 ⟨rfl, rfl⟩
  go_wp2
  go_ret
  refine ⟨ret_int ?_, rfl⟩
  have h2 : 0 ≤ logF (m : Int) ∧ logF (m : Int) ≤ 2048 := unhide hlb
  rw [← unhide hE]
  unfold wrap64
  omega
end Go.Proofs.Ytpofmcepjmbmcaa

/- Odds: the program's rows of 512 odds: how they begin, learn, what a choice costs by them. -/
namespace Go.Proofs.Ytpofmcepjmbmcaa
open Go.RowKit

def oddsV (s : Int → Int) : List Value := (List.range 512).map fun p : Nat => .int .u16 (s (p : Int))
@[simp] theorem oddsV_length (s : Int → Int) : (oddsV s).length = 512 := by simp [oddsV]
theorem oddsV_at (s : Int → Int) (p : Nat) (h : p < 512) : (oddsV s)[p]? = some (.int .u16 (s p)) := by
  unfold oddsV; rw [List.getElem?_map, List.getElem?_range h]; rfl
theorem oddsV_put (s : Int → Int) (c : Int × Int) (p : Nat) (hp : c.1 = (p : Int)) : (oddsV s).set p (.int .u16 (learnF (s c.1) c.2)) = oddsV (oddsSet s c) := by
  apply List.ext_getElem?
  intro j
  by_cases hj : j < 512
  · by_cases e : p = j
    · subst e
      rw [List.getElem?_set_self (by simpa using hj), oddsV_at _ _ hj]
      unfold oddsSet; rw [if_pos hp.symm, hp]
    · rw [List.getElem?_set_ne e, oddsV_at _ _ hj, oddsV_at _ _ hj]
      unfold oddsSet; rw [if_neg (by omega)]
  · rw [List.getElem?_eq_none (by simp; omega), List.getElem?_eq_none (by simp; omega)]
/-- A row of odds at the head of a block, other cells behind them. -/
def OdAt (w : World) (g : Nat) (s : Int → Int) (rest : List Value) : Prop := HeldF w g (oddsV s ++ rest)
theorem OdAt.odds {w : World} {g : Nat} {s : Int → Int} {rest : List Value} (h : OdAt w g s rest) (p : Nat) (hp : p < 512) : w.cell? ⟨g, p, none⟩ = some (.int .u16 (s p)) :=
  h.1.2 p _ (by rw [List.getElem?_append_left (by simpa using hp)]; exact oddsV_at s p hp)
theorem OdAt.back {w : World} {g : Nat} {s : Int → Int} {rest : List Value} (h : OdAt w g s rest) (i : Nat) (v : Value) (hv : rest[i]? = some v) : w.cell? ⟨g, 512 + i, none⟩ = some v :=
  h.1.2 (512 + i) v (by rw [List.getElem?_append_right (by simp)]; simpa using hv)
theorem OdAt.frozen {w : World} {g : Nat} {s : Int → Int} {rest : List Value} (h : OdAt w g s rest) (j : Nat) : w.frozen? ⟨g, j, none⟩ = false := h.2 j
theorem OdAt.lt {w : World} {g : Nat} {s : Int → Int} {rest : List Value} (h : OdAt w g s rest) : g < w.heap.size := h.1.1
theorem OdAt.upd {w w' : World} {g a b : Nat} {s : Int → Int} {rest : List Value} (h : OdAt w g s rest) (u : Upd a b w w') (hd : g + 1 ≤ a ∨ b ≤ g) : OdAt w' g s rest := HeldF.upd h u hd
theorem OdAt.learn {w : World} {g : Nat} {s : Int → Int} {rest : List Value} (h : OdAt w g s rest) (c : Int × Int) (p : Nat) (hp : c.1 = (p : Int)) (hl : p < 512) : OdAt (w.setCell ⟨g, p, none⟩ (.int .u16 (learnF (s c.1) c.2))) g (oddsSet s c) rest := by
  have h1 := HeldF.set h p (.int .u16 (learnF (s c.1) c.2)) (by simp; omega)
  rw [List.set_append_left _ _ (by simpa using hl), oddsV_put s c p hp] at h1
  exact h1
theorem OdAt.setBack {w : World} {g : Nat} {s : Int → Int} {rest : List Value} (h : OdAt w g s rest) (i : Nat) (hi : i < rest.length) (v : Value) : OdAt (w.setCell ⟨g, 512 + i, none⟩ v) g s (rest.set i v) := by
  have h1 := HeldF.set h (512 + i) v (by simp; omega)
  rw [List.set_append_right _ _ (by simp)] at h1
  rw [show 512 + i - (oddsV s).length = i by simp] at h1
  exact h1
theorem OdAt.other {w : World} {g : Nat} {s : Int → Int} {rest : List Value} (h : OdAt w g s rest) {g' : Nat} (hne : g' ≠ g) (o : Nat) (u : Value) : OdAt (w.setCell ⟨g', o, none⟩ u) g s rest := HeldF.other h hne o u
/-- One cell of a block is written. -/
theorem upd_setCell (w : World) (g j : Nat) (v : Value) : Upd g (g + 1) w (w.setCell ⟨g, j, none⟩ v) :=
  ⟨rfl, rfl, rfl, by simp, fun k _ hk => Below.heap_setCell w ⟨g, j, none⟩ v k (by simp; omega)⟩

def SOk (s : Int → Int) : Prop := ∀ p, 31 ≤ s p ∧ s p ≤ 4065
/-- What learning leaves, behind whatever was laid besides. -/
theorem learn_fin {w w0 wt : World} {g p : Nat} {b : Int} {s : Int → Int} {rest : List Value} (h : OdAt w0 g s rest) (hp : p < 512) (u0 : Upd 0 0 w w0) (u : Upd 0 0 w0 wt) (y : Int) (hy : y = learnF (s p) b) :
    OdAt (wt.setCell ⟨g, p, none⟩ (.int .u16 y)) g (oddsSet s (p, b)) rest ∧ Upd g (g + 1) w (wt.setCell ⟨g, p, none⟩ (.int .u16 y)) := by
  have h1 : OdAt wt g s rest := h.upd u (.inr (Nat.zero_le _))
  refine ⟨by rw [hy]; exact h1.learn (p, b) p rfl hp, ?_⟩
  have h2 := u0.trans u
  exact Upd.trans ⟨h2.os, h2.tape, h2.output, h2.size, fun k hk _ => h2.block k hk (.inr (Nat.zero_le _))⟩ (upd_setCell _ g p _)
set_option maxRecDepth 100000 in
set_option maxHeartbeats 8000000 in
theorem implLearn (g : Nat) (p : Nat) (b : Int) (s : Int → Int) (rest : List Value) (w : World) (h : OdAt w g s rest) (hp : p < 512) (hs : SOk s) :
    Calls Try.prog 43 #[.pointer (some ⟨g, 0, none⟩), .agg #[.int .i64 (p : Int), .int .i64 b]] w fun e w' => e = .returned (.tuple #[]) ∧ OdAt w' g (oddsSet s (p, b)) rest ∧ Upd g (g + 1) w w' := by
  have hu0 := Upd.of_below ((Below.refl w.heap.size w).alloc (Nat.le_refl _) (.cells #[.int .i64 (p : Int), .int .i64 b] 31)) 0 0
  have h1 := h.upd hu0 (.inr (Nat.zero_le _))
  have hch := heldF_new w [.int .i64 (p : Int), .int .i64 b] 31
  have hcell : (oddsV s ++ rest)[p]? = some (.int .u16 (s p)) := by rw [List.getElem?_append_left (by simpa using hp)]; exact oddsV_at s p hp
  obtain ⟨o, ho⟩ : ∃ o, s p = o := ⟨_, rfl⟩
  have hob := hs p
  rw [ho] at hcell hob
  have hl := learnF_bd o b hob
  obtain ⟨o0, o1⟩ := hob
  have hpI : (p : Int) < 512 := by omega
  replace h1 := hide h1
  replace hu0 := hide hu0
  replace hch := hide hch
  replace hcell := hide hcell
  replace ho := hide ho
  clear h hs
  by_cases hb : b = 0
  · have t : (b == 0) = true := by simpa using hb
    subst hb
    have hE : learnF o 0 = o + (4096 - o) / 32 := by unfold learnF; rw [if_pos rfl]
    rw [hE] at hl
    replace hE := hide hE
    obtain ⟨l0, l1⟩ := hl
    go_enter Try.func43, Try.ntmps43
    go_wp2_with fail
    simp only [List.toArray] at hch
    generalize w.alloc (.cells #[.int .i64 (p : Int), .int .i64 0] 31) = w0 at h1 hch hu0 ⊢
    generalize w.heap.size = c at hch ⊢
    have k0 := fun x : UpdT w0 => (((unhide hch).1.updT x).2 0 _ rfl)
    have kc := fun x : UpdT w0 => (((unhide h1).1.updT x).2 p _ (unhide hcell))
    refine wq_region_tail 17 (by kernel_rfl) (by kernel_rfl) ?_
    simp only [List.take_succ_cons, List.take_zero, List.drop_succ_cons, List.drop_zero]
    iterate 17
      refine WQ.step (fun K hK => ?_)
      go_simp
      refine hK _ ?_
      clear hK K
    refine WQ.nil ?_
    rintro _ ⟨x, rfl⟩
    clear k0 kc
    have hx := x.upd
    generalize x.to = wt at hx ⊢
    have f0 := (unhide h1).upd hx (.inr (Nat.zero_le _)) |>.frozen p
    have c0 := ((unhide h1).upd hx (.inr (Nat.zero_le _))).1.2 p _ (unhide hcell)
    have hfin := hide (learn_fin (b := 0) (unhide h1) hp (unhide hu0) hx (o + (4096 - o) / 32) (by rw [unhide ho, unhide hE]))
    clear hx h1 hch hu0
    go_wp2
    go_end0
    exact ⟨rfl, unhide hfin⟩
  · have t : (b == 0) = false := by simpa using hb
    have hE : learnF o b = o - o / 32 := by unfold learnF; rw [if_neg hb]
    rw [hE] at hl
    replace hE := hide hE
    obtain ⟨l0, l1⟩ := hl
    clear hb
    go_enter Try.func43, Try.ntmps43
    go_wp2_with fail
    simp only [List.toArray] at hch
    generalize w.alloc (.cells #[.int .i64 (p : Int), .int .i64 b] 31) = w0 at h1 hch hu0 ⊢
    generalize w.heap.size = c at hch ⊢
    have k0 := fun x : UpdT w0 => (((unhide hch).1.updT x).2 0 _ rfl)
    have kc := fun x : UpdT w0 => (((unhide h1).1.updT x).2 p _ (unhide hcell))
    refine wq_region_tail 16 (by kernel_rfl) (by kernel_rfl) ?_
    simp only [List.take_succ_cons, List.take_zero, List.drop_succ_cons, List.drop_zero]
    iterate 16
      refine WQ.step (fun K hK => ?_)
      go_simp
      refine hK _ ?_
      clear hK K
    refine WQ.nil ?_
    rintro _ ⟨x, rfl⟩
    clear k0 kc
    have hx := x.upd
    generalize x.to = wt at hx ⊢
    have f0 := (unhide h1).upd hx (.inr (Nat.zero_le _)) |>.frozen p
    have c0 := ((unhide h1).upd hx (.inr (Nat.zero_le _))).1.2 p _ (unhide hcell)
    have hfin := hide (learn_fin (b := b) (unhide h1) hp (unhide hu0) hx (o - o / 32) (by rw [unhide ho, unhide hE]))
    clear hx h1 hch hu0
    go_wp2
    go_end0
    exact ⟨rfl, unhide hfin⟩
set_option maxRecDepth 100000 in
set_option maxHeartbeats 8000000 in
theorem implCost (g : Nat) (p : Nat) (b : Int) (s : Int → Int) (rest : List Value) (w : World) (h : OdAt w g s rest) (hp : p < 512) (hs : SOk s) :
    Calls Try.prog 42 #[.pointer (some ⟨g, 0, none⟩), .agg #[.int .i64 (p : Int), .int .i64 b]] w fun e w' => e = .returned (.int .i64 (costF (s p) b)) ∧ Upd 0 0 w w' := by
  have hu0 := Upd.of_below ((Below.refl w.heap.size w).alloc (Nat.le_refl _) (.cells #[.int .i64 (p : Int), .int .i64 b] 31)) 0 0
  have h1 := h.upd hu0 (.inr (Nat.zero_le _))
  have hch := heldF_new w [.int .i64 (p : Int), .int .i64 b] 31
  have hcell : (oddsV s ++ rest)[p]? = some (.int .u16 (s p)) := by rw [List.getElem?_append_left (by simpa using hp)]; exact oddsV_at s p hp
  have hob := hs p
  generalize s p = o at hcell hob ⊢
  have hpb := partsF_bd o b hob
  have hL := hide (fun X => implLikely (partsF o b) (by omega) (by omega) X)
  have hR := hide (fun X => implRound4 (if b = 1 then 4096 - o else o) X (by split <;> omega) (by split <;> omega))
  have hcf : costF o b = logF (partsF o b) := rfl
  have hpf : partsF o b = ((if b = 1 then 4096 - o else o) + 8) / 16 := rfl
  rw [← hpf] at hR
  rw [hcf]
  clear hcf hpf
  generalize partsF o b = q at hR hL hpb ⊢
  obtain ⟨o0, o1⟩ := hob
  obtain ⟨q0, q1⟩ := hpb
  have hpI : (p : Int) < 512 := by omega
  replace h1 := hide h1
  replace hu0 := hide hu0
  replace hch := hide hch
  replace hcell := hide hcell
  clear h hs
  go_enter Try.func42, Try.ntmps42
  go_wp2_with fail
  simp only [List.toArray] at hch
  generalize w.alloc (.cells #[.int .i64 (p : Int), .int .i64 b] 31) = w0 at h1 hch hu0 ⊢
  generalize w.heap.size = c at hch ⊢
  have k0 := fun x : UpdT w0 => (((unhide hch).1.updT x).2 0 _ rfl)
  have kc := fun x : UpdT w0 => (((unhide h1).1.updT x).2 p _ (unhide hcell))
  refine wq_region_tail 7 (by kernel_rfl) (by kernel_rfl) ?_
  simp only [List.take_succ_cons, List.take_zero, List.drop_succ_cons, List.drop_zero]
  iterate 7
    refine WQ.step (fun K hK => ?_)
    go_simp
    refine hK _ ?_
    clear hK K
  refine WQ.nil ?_
  rintro _ ⟨x, rfl⟩
  clear k0 kc
  have hx := x.upd
  generalize x.to = wt at hx ⊢
  have c1 := ((unhide hch).keep hx).1.2 1 _ rfl
  have hfin := hide ((unhide hu0).trans hx)
  clear hx h1 hch hu0
  by_cases hb : b = 1
  · have t : (b == 1) = true := by simpa using hb
    rw [if_pos hb] at hR
    clear hb
    go_wp2_with fail
    refine (unhide hR _).mono ?_
    rintro e w1 ⟨rfl, rfl⟩
    go_wp2_with fail
    refine (unhide hL _).mono ?_
    rintro e w1 ⟨rfl, rfl⟩
    go_wp2
    go_ret
    exact ⟨rfl, unhide hfin⟩
  · have t : (b == 1) = false := by simpa using hb
    rw [if_neg hb] at hR
    clear hb
    go_wp2_with fail
    refine (unhide hR _).mono ?_
    rintro e w1 ⟨rfl, rfl⟩
    go_wp2_with fail
    refine (unhide hL _).mono ?_
    rintro e w1 ⟨rfl, rfl⟩
    go_wp2
    go_ret
    exact ⟨rfl, unhide hfin⟩
end Go.Proofs.Ytpofmcepjmbmcaa

/- Odds: the program's odds at first, and what choices cost. -/
namespace Go.Proofs.Ytpofmcepjmbmcaa
open Go.RowKit

def odCells (k : Nat) (cs : Array Value) : Prop := cs.size = 512 ∧ cs.all (·.oneCell') = true ∧ ∀ j, j < k → cs[j]? = some (.int .u16 2048)
theorem odCells_zero : odCells 0 (Array.replicate 512 (.int .u16 0)) := ⟨by simp, by rw [Array.all_eq_true_iff_forall_mem]; intro v hv; rw [Array.mem_replicate] at hv; rw [hv.2]; rfl, fun j h => by omega⟩
theorem odCells_succ (k : Nat) (cs : Array Value) (hk : k < 512) (h : odCells k cs) : odCells (k + 1) (cs.setIfInBounds k (.int .u16 2048)) := by
  refine ⟨by simpa using h.1, ?_, ?_⟩
  · have h1 := h.2.1
    rw [Array.all_eq_true_iff_forall_mem] at h1 ⊢
    intro v hv
    rcases Array.mem_or_eq_of_mem_setIfInBounds hv with hv | rfl
    · exact h1 v hv
    · rfl
  · intro j hj
    rw [Array.getElem?_setIfInBounds]
    by_cases e : k = j
    · subst e; simp [h.1, hk]
    · rw [if_neg e]; exact h.2.2 j (by omega)
def odds0 : Int → Int := fun _ => 2048
theorem odCells_all (cs : Array Value) (h : odCells 512 cs) : cs = (oddsV odds0).toArray := by
  apply Array.ext_getElem?
  intro j
  by_cases hj : j < 512
  · rw [h.2.2 j hj, List.getElem?_toArray, oddsV_at _ _ hj]; rfl
  · rw [Array.getElem?_eq_none (by rw [h.1]; omega), List.getElem?_toArray, List.getElem?_eq_none (by simp; omega)]
theorem infoOd : (Try.prog.info? 60).map (fun i => (i.zero, i.size)) = some (some (.agg (Array.replicate 512 (.int .u16 0))), 512) := by kernel_rfl
theorem zeroOd : ∃ z, odCells 0 z ∧ ∀ w, (zeroValue 60).run Try.prog w = .ok (.agg z) w := ⟨_, odCells_zero, (zero_of_info infoOd).1⟩
theorem sizeOd : (Try.prog.info? 60).map (·.size) = some 512 := (zero_of_info infoOd).2
set_option maxHeartbeats 4000000 in
set_option maxRecDepth 1000000 in
theorem implStartOdds (w : World) :
    Calls Try.prog 41 #[] w fun e w' => e = .returned (.agg (oddsV odds0).toArray) ∧ Upd 0 0 w w' := by
  obtain ⟨z, hz0, hz⟩ := zeroOd
  go_enter Try.func41, Try.ntmps41
  go_wp2
  go_loopw [2, 3] (fun _ i wr => ∃ k : Nat, ∃ cs, k ≤ 512 ∧ i = .int .i64 k ∧ odCells k cs ∧ wr.heap[w.heap.size + 1]? = some (.cells cs 60 (0, 0)) ∧ wr.heap[w.heap.size]? = some (.cells z 60 (0, 0)) ∧ Below w.heap.size w wr) (fun _ i _ => 512 - (intOf i).toNat)
  case atStart =>
    refine ⟨0, z, by omega, rfl, hz0, ?_, ?_, ((Below.refl _ _).alloc (Nat.le_refl _) _).alloc (by simp) _⟩
    · have := heap_alloc_new (w.alloc (.cells z 60)) (.cells z 60); simpa using this
    · rw [Below.heap_alloc _ _ _ (by simp)]; exact heap_alloc_new _ _
  case round =>
    obtain ⟨k, cs, hk, rfl, hcs, hrow, hrow0, hbel⟩ := hrel
    by_cases hlt : k < 512
    · have hd : decide ((k : Int) < 512) = true := by simp; omega
      have hcell : wr.cell? ⟨w.heap.size + 1, k, none⟩ = some (cs.getD k undef) := by
        rw [cell_of_row _ _ _ _ _ _ hrow, Array.getElem?_eq_getElem (by rw [hcs.1]; exact hlt)]; simp [hcs.1, hlt]
      have hfree : wr.frozen? ⟨w.heap.size + 1, k, none⟩ = false := by simp [World.frozen?, hrow]
      have hnew := odCells_succ k cs hlt hcs
      have hnr := heap_setCell_same wr (w.heap.size + 1) k cs 60 (.int .u16 2048) hrow
      have hg0 : (wr.setCell ⟨w.heap.size + 1, k, none⟩ (.int .u16 2048)).heap[w.heap.size]? = some (.cells z 60 (0, 0)) := by
        rw [Below.heap_setCell _ _ _ _ (by simp)]; exact hrow0
      have hbel' := hbel.setCell (p := ⟨w.heap.size + 1, k, none⟩) (by simp) (.int .u16 2048)
      replace hnr := hide hnr
      replace hg0 := hide hg0
      replace hrow := hide hrow
      replace hrow0 := hide hrow0
      clear hz
      go_wp2
      go_roundw
      case rel => exact ⟨k + 1, _, by omega, by go_num, hnew, unhide hnr, unhide hg0, hbel'⟩
      case measure => simp [intOf]; omega
    · have hkl : k = 512 := by omega
      subst hkl
      replace hrow0 := hide hrow0
      replace hrow := hide hrow
      have hE := hide (odCells_all cs hcs)
      go_wp2_with fail
      refine wp_load_row 60 (.tmp 1) rfl (w.heap.size + 1) rfl 60 cs (0, 0) _ (unhide hrow) Try.underlying60 rfl (by rw [hcs.1]; exact sizeOd) ?_
      rename_i aK
      refine aK _ _ ?_
      refine wpList_store_row rfl 60 (.tmp 0) (.tmp 9) rfl w.heap.size cs rfl rfl 60 z (unhide hrow0) (by rw [hcs.1]; exact sizeOd) (by rw [hcs.1, hz0.1]) hcs.2.1 ?_
      have hres : (wr.setRow w.heap.size cs).heap[w.heap.size]? = some (.cells cs 60 (0, 0)) := setRow_heap wr _ z cs _ _ (unhide hrow0)
      replace hres := hide hres
      have hb2 : Below w.heap.size w (wr.setRow w.heap.size cs) := below_setRow hbel (Nat.le_refl _) cs
      go_wp2_with fail
      refine bodyPost_ret (v := .agg cs) (results_cell_row rfl _ _ w.heap.size 60 cs (0, 0) _ rfl (unhide hres) Try.underlying60 rfl (by rw [hcs.1]; exact sizeOd)) rfl ⟨by rw [unhide hE], Upd.of_below hb2 0 0⟩
end Go.Proofs.Ytpofmcepjmbmcaa

/- Odds: the program's range: split, narrowed, widened. -/
namespace Go.Proofs.Ytpofmcepjmbmcaa
open Go.RowKit

theorem OdAt.keep {w w' : World} {g : Nat} {s : Int → Int} {rest : List Value} (h : OdAt w g s rest) (u : Upd 0 0 w w') : OdAt w' g s rest := h.upd u (.inr (Nat.zero_le _))
theorem odds_get (s : Int → Int) (rest : List Value) (p : Nat) (hp : p < 512) : (oddsV s ++ rest)[p]? = some (.int .u16 (s p)) := by rw [List.getElem?_append_left (by simpa using hp)]; exact oddsV_at s p hp
theorem odds_back (s : Int → Int) (rest : List Value) (i : Nat) (v : Value) (h : rest[i]? = some v) : (oddsV s ++ rest)[512 + i]? = some v := by rw [List.getElem?_append_right (by simp)]; simpa using h
set_option maxRecDepth 100000 in
set_option maxHeartbeats 8000000 in
theorem implSplit (g p : Nat) (s : Int → Int) (rng : Int) (tl : List Value) (w : World) (h : OdAt w g s (.int .u32 rng :: tl)) (hp : p < 512) (hs : SOk s) (r0 : 16777216 ≤ rng) (r1 : rng ≤ 4294967295) :
    Calls Try.prog 80 #[.pointer (some ⟨g, 0, none⟩), .int .i64 (p : Int)] w fun e w' => e = .returned (.int .u32 (splitF rng (s p))) ∧ Upd 0 0 w w' := by
  have hsp := split_bd rng (s p) (hs p) r0
  have hcell := odds_get s (.int .u32 rng :: tl) p hp
  have hcw := odds_back s (.int .u32 rng :: tl) 0 _ rfl
  have hob := hs p
  have hsv : splitF rng (s p) = rng / 4096 * s p := rfl
  generalize splitF rng (s p) = sv at hsp hsv ⊢
  generalize s p = o at hcell hob hsv
  obtain ⟨o0, o1⟩ := hob
  have hwm : IntKind.u32.wrap (rng / 4096 * o) = sv := by rw [← hsv]; simp [IntKind.wrap, IntKind.bits, IntKind.signed]; omega
  have hwo : IntKind.u32.wrap o = o := by simp [IntKind.wrap, IntKind.bits, IntKind.signed]; omega
  have hpI : (p : Int) < 512 := by omega
  have hof : g < w.heap.size := h.lt
  replace h := hide h
  replace hcell := hide hcell
  replace hcw := hide hcw
  clear hs hsv
  go_enter Try.func80, Try.ntmps80
  go_wp2_with fail
  have kc := fun x : UpdT w => (((unhide h).1.updT x).2 p _ (unhide hcell))
  have kw := fun x : UpdT w => (((unhide h).1.updT x).2 512 _ (unhide hcw))
  refine wq_region_tail 13 (by kernel_rfl) (by kernel_rfl) ?_
  simp only [List.take_succ_cons, List.take_zero, List.drop_succ_cons, List.drop_zero]
  iterate 13
    refine WQ.step (fun K hK => ?_)
    go_simp
    refine hK _ ?_
    clear hK K
  refine WQ.nil ?_
  rintro _ ⟨x, rfl⟩
  clear kc kw
  have hx := hide x.upd
  generalize x.to = wt at hx ⊢
  replace hwo := hide hwo
  replace hwm := hide hwm
  go_wp2
  go_ret
  exact ⟨ret_int (by first | rfl | rw [unhide hwo, unhide hwm]), unhide hx⟩
def rngF (rng sv b : Int) : Int := if b = 0 then sv else rng - sv
set_option maxRecDepth 100000 in
set_option maxHeartbeats 8000000 in
theorem implNarrow (g p : Nat) (b : Int) (s : Int → Int) (rng sv : Int) (tl : List Value) (w : World) (h : OdAt w g s (.int .u32 rng :: tl)) (hp : p < 512) (hs : SOk s) (r1 : rng ≤ 4294967295) (s0 : 0 ≤ sv) (s1 : sv ≤ rng) :
    Calls Try.prog 82 #[.pointer (some ⟨g, 0, none⟩), .agg #[.int .i64 (p : Int), .int .i64 b], .int .u32 sv] w fun e w' => e = .returned (.tuple #[]) ∧ OdAt w' g (oddsSet s (p, b)) (.int .u32 (rngF rng sv b) :: tl) ∧ Upd g (g + 1) w w' := by
  have hu0 := Upd.of_below ((Below.refl w.heap.size w).alloc (Nat.le_refl _) (.cells #[.int .i64 (p : Int), .int .i64 b] 31)) 0 0
  have h1 := h.keep hu0
  have hch := heldF_new w [.int .i64 (p : Int), .int .i64 b] 31
  have hgl := h.lt
  have hL := hide (fun X tl (hX : OdAt X g s tl) => implLearn g p b s tl X hX hp hs)
  have hof := hgl
  replace hu0 := hide hu0
  replace h1 := hide h1
  replace hch := hide hch
  clear h hs
  obtain ⟨nr, hnr⟩ : ∃ nr, rngF rng sv b = nr := ⟨_, rfl⟩
  have hnr2 := hnr
  unfold rngF at hnr2
  rw [hnr]
  clear hnr
  by_cases hb : b = 0
  · have t : (b == 0) = true := by simpa using hb
    rw [if_pos hb] at hnr2
    subst hnr2
    clear hb
    go_enter Try.func82, Try.ntmps82
    go_upto_region 1 with fail
    simp only [List.toArray] at hch
    generalize hw0 : w.alloc (.cells #[.int .i64 (p : Int), .int .i64 b] 31) = w0 at h1 hch hu0 ⊢
    clear hw0
    have hcg : w.heap.size ≠ g := by omega
    generalize w.heap.size = c at hch hcg ⊢
    have d1 := (unhide hch).1.2 1 _ rfl
    have f512 := (unhide h1).frozen 512
    have c512 := (unhide h1).back 0 _ rfl
    simp only [Nat.add_zero] at c512
    go_upto_region 4 with fail
    clear d1 f512 c512
    have h2 := hide (show OdAt (w0.setCell ⟨g, 512, none⟩ (.int .u32 sv)) g s (.int .u32 sv :: tl) from (unhide h1).setBack 0 (by simp) (.int .u32 sv))
    have hch2 := hide ((unhide hch).other (g' := g) (by omega) 512 (.int .u32 sv))
    have hu2 : Hid (Upd g (g + 1) w (w0.setCell ⟨g, 512, none⟩ (.int .u32 sv))) := hide (Upd.trans ⟨(unhide hu0).os, (unhide hu0).tape, (unhide hu0).output, (unhide hu0).size, fun k hk _ => (unhide hu0).block k hk (.inr (Nat.zero_le _))⟩ (upd_setCell w0 g 512 _))
    clear h1 hch hu0
    generalize w0.setCell ⟨g, 512, none⟩ (.int .u32 sv) = w2 at h2 hch2 hu2 ⊢
    have k0 := fun X : UpdT w2 => (((unhide hch2).1.updT X).2 0 _ rfl)
    have k1 := fun X : UpdT w2 => (((unhide hch2).1.updT X).2 1 _ rfl)
    refine wq_region_tail 4 (by kernel_rfl) (by kernel_rfl) ?_
    simp only [List.take_succ_cons, List.take_zero, List.drop_succ_cons, List.drop_zero]
    iterate 4
      refine WQ.step (fun K hK => ?_)
      go_simp
      refine hK _ ?_
      clear hK K
    refine WQ.nil ?_
    rintro _ ⟨X, rfl⟩
    clear k0 k1
    have hX := X.upd
    generalize X.to = wt at hX ⊢
    have h3 := (unhide h2).keep hX
    have hu3 : Hid (Upd g (g + 1) w wt) := hide (Upd.trans (unhide hu2) ⟨hX.os, hX.tape, hX.output, hX.size, fun k hk _ => hX.block k hk (.inr (Nat.zero_le _))⟩)
    clear hX h2 hch2 hu2
    go_wp2_with fail
    refine (unhide hL wt _ h3).mono ?_
    rintro e w4 ⟨rfl, h4, hu4⟩
    have hu5 := hide ((unhide hu3).trans hu4)
    replace h4 := hide h4
    clear hu3 hu4 h3 hL
    go_wp2
    go_end0
    exact ⟨rfl, unhide h4, unhide hu5⟩
  · have t : (b == 0) = false := by simpa using hb
    rw [if_neg hb] at hnr2
    have hwr : IntKind.u32.wrap (rng - sv) = nr := by rw [hnr2]; simp [IntKind.wrap, IntKind.bits, IntKind.signed]; omega
    clear hb
    replace hnr2 := hide hnr2
    go_enter Try.func82, Try.ntmps82
    go_upto_region 1 with fail
    simp only [List.toArray] at hch
    generalize hw0 : w.alloc (.cells #[.int .i64 (p : Int), .int .i64 b] 31) = w0 at h1 hch hu0 ⊢
    clear hw0
    have hcg : w.heap.size ≠ g := by omega
    generalize w.heap.size = c at hch hcg ⊢
    have d1 := (unhide hch).1.2 1 _ rfl
    have f512 := (unhide h1).frozen 512
    have c512 := (unhide h1).back 0 _ rfl
    simp only [Nat.add_zero] at c512
    go_upto_region 4 with fail
    clear d1 f512 c512
    have h2 := hide (show OdAt (w0.setCell ⟨g, 512, none⟩ (.int .u32 nr)) g s (.int .u32 nr :: tl) from (unhide h1).setBack 0 (by simp) (.int .u32 nr))
    have hch2 := hide ((unhide hch).other (g' := g) (by omega) 512 (.int .u32 nr))
    have hu2 : Hid (Upd g (g + 1) w (w0.setCell ⟨g, 512, none⟩ (.int .u32 nr))) := hide (Upd.trans ⟨(unhide hu0).os, (unhide hu0).tape, (unhide hu0).output, (unhide hu0).size, fun k hk _ => (unhide hu0).block k hk (.inr (Nat.zero_le _))⟩ (upd_setCell w0 g 512 _))
    clear h1 hch hu0
    generalize w0.setCell ⟨g, 512, none⟩ (.int .u32 nr) = w2 at h2 hch2 hu2 ⊢
    have k0 := fun X : UpdT w2 => (((unhide hch2).1.updT X).2 0 _ rfl)
    have k1 := fun X : UpdT w2 => (((unhide hch2).1.updT X).2 1 _ rfl)
    refine wq_region_tail 4 (by kernel_rfl) (by kernel_rfl) ?_
    simp only [List.take_succ_cons, List.take_zero, List.drop_succ_cons, List.drop_zero]
    iterate 4
      refine WQ.step (fun K hK => ?_)
      go_simp
      refine hK _ ?_
      clear hK K
    refine WQ.nil ?_
    rintro _ ⟨X, rfl⟩
    clear k0 k1
    have hX := X.upd
    generalize X.to = wt at hX ⊢
    have h3 := (unhide h2).keep hX
    have hu3 : Hid (Upd g (g + 1) w wt) := hide (Upd.trans (unhide hu2) ⟨hX.os, hX.tape, hX.output, hX.size, fun k hk _ => hX.block k hk (.inr (Nat.zero_le _))⟩)
    clear hX h2 hch2 hu2
    go_wp2_with fail
    refine (unhide hL wt _ h3).mono ?_
    rintro e w4 ⟨rfl, h4, hu4⟩
    have hu5 := hide ((unhide hu3).trans hu4)
    replace h4 := hide h4
    clear hu3 hu4 h3 hL
    go_wp2
    go_end0
    exact ⟨rfl, unhide h4, unhide hu5⟩
set_option maxHeartbeats 4000000 in
theorem implWidenNo (g : Nat) (s : Int → Int) (rng : Int) (tl : List Value) (w : World) (h : OdAt w g s (.int .u32 rng :: tl)) (r0 : 16777216 ≤ rng) :
    Calls Try.prog 83 #[.pointer (some ⟨g, 0, none⟩)] w fun e w' => e = .returned (.bool false) ∧ w' = w := by
  have c := h.back 0 _ rfl
  simp only [Nat.add_zero] at c
  have t : decide (16777216 ≤ rng) = true := decide_eq_true r0
  clear h
  go_enter Try.func83, Try.ntmps83
  go_wp2
  go_ret
  exact ⟨rfl, rfl⟩
set_option maxHeartbeats 4000000 in
theorem implWidenYes (g : Nat) (s : Int → Int) (rng : Int) (tl : List Value) (w : World) (h : OdAt w g s (.int .u32 rng :: tl)) (r0 : 0 ≤ rng) (r1 : rng < 16777216) :
    Calls Try.prog 83 #[.pointer (some ⟨g, 0, none⟩)] w fun e w' => e = .returned (.bool true) ∧ OdAt w' g s (.int .u32 (rng * 256) :: tl) ∧ Upd g (g + 1) w w' := by
  have c := h.back 0 _ rfl
  have f := h.frozen 512
  simp only [Nat.add_zero] at c
  have t : decide (16777216 ≤ rng) = false := decide_eq_false (by omega)
  have hw : IntKind.u32.wrap (rng * 256) = rng * 256 := by simp [IntKind.wrap, IntKind.bits, IntKind.signed]; omega
  have hfin := hide (show OdAt (w.setCell ⟨g, 512, none⟩ (.int .u32 (rng * 256))) g s (.int .u32 (rng * 256) :: tl) from h.setBack 0 (by simp) (.int .u32 (rng * 256)))
  have hu := hide (upd_setCell w g 512 (.int .u32 (rng * 256)))
  clear h
  go_enter Try.func83, Try.ntmps83
  go_wp2
  go_ret
  exact ⟨rfl, unhide hfin, unhide hu⟩
end Go.Proofs.Ytpofmcepjmbmcaa

/- Chunks, plainly: a number in four bytes, what a name is, the bytes of a chunk; no program is named here. -/
namespace Go.Proofs.Ytpofmcepjmbmcaa
open Go.RowKit

def four (n : Nat) : List Nat := [n / 16777216 % 256, n / 65536 % 256, n / 256 % 256, n % 256]
theorem byte_step (v : Nat) (zs : List Nat) (d : Nat) (hd : d % 8 = 0) (h32 : d + 8 ≤ 32) (hz : (ft true v 32 [] 0 d) = zs) (hl : zs.length = d / 8) :
    ft true v 32 [] 0 (d + 8) = zs ++ [v / 2 ^ (24 - d) % 256] := by
  have h := ft_chunk (h := true) (v := v) (n := 32) (zs := []) (L := 0) (inv_nil true) d 7 (by omega) (by omega)
  rw [hz] at h
  have ho : opn zs (0 + d) = zs ++ [0] := by unfold opn; rw [if_pos (by omega)]
  rw [ho] at h
  have hi : (0 + d) / 8 = zs.length := by omega
  rw [hi] at h
  rw [h, List.set_append, if_neg (by omega)]
  have e0 : (zs ++ [0]).getD zs.length 0 = 0 := getD_snoc_last zs 0
  rw [e0]
  have e1 : (0 + d) % 8 = 0 := by omega
  rw [e1]
  simp [chunk, cex, show 32 - d - 8 = 24 - d by omega]
theorem packF_four (n : Nat) : packF true [(32, (n : Int))] = four n := by
  rw [packF_good _ _ (by simp) (by intro j hj; simp at hj; subst hj; unfold okF; simp)]
  have hp : (packTo true [(32, (n : Int))] [(32, (n : Int))].length).1 = ft true n 32 [] 0 32 := by
    simp [packTo, packStep]
  refine hp.trans ?_
  have h1 := byte_step n [] 0 rfl (by omega) rfl rfl
  have h2 := byte_step n _ 8 rfl (by omega) h1 rfl
  have h3 := byte_step n _ 16 rfl (by omega) h2 rfl
  have h4 := byte_step n _ 24 rfl (by omega) h3 rfl
  rw [h4]
  unfold four
  simp
theorem four_length (n : Nat) : (four n).length = 4 := rfl

/-- The bytes of a text. -/
def strB (s : ByteArray) : List Int := s.data.toList.map fun b => (b.toNat : Int)
theorem strB_length (s : ByteArray) : (strB s).length = s.size := by simp [strB]
theorem strB_getD (s : ByteArray) (k : Nat) (h : k < s.size) : (strB s).getD k 0 = ((s[k]'h).toNat : Int) := by
  unfold strB
  rw [List.getD_eq_getElem?_getD, List.getElem?_map, List.getElem?_eq_getElem (by simpa using h)]
  rfl
def letterI (x : Int) : Bool := (decide (97 ≤ x) && decide (x ≤ 122)) || (decide (65 ≤ x) && decide (x ≤ 90))
def nameOk (s : ByteArray) : Prop := s.size = 4 ∧ ∀ k, k < s.size → letterI ((strB s).getD k 0) = true
noncomputable def nameB (s : ByteArray) : Bool := open Classical in decide (nameOk s)
theorem nameB_yes {s : ByteArray} (h : nameOk s) : nameB s = true := by unfold nameB; simpa using h
theorem nameB_no {s : ByteArray} (h : ¬ nameOk s) : nameB s = false := by unfold nameB; simpa using h
theorem crcF_nat (zs : List Int) : ∃ n : Nat, crcF zs = (n : Int) ∧ n < 4294967296 := by
  have h := crcTo_lt zs zs.length
  refine ⟨4294967295 - crcTo zs zs.length, ?_, by omega⟩
  unfold crcF; omega
noncomputable def chunkF (s : ByteArray) (zs : List Int) : List Int :=
  open Classical in if nameOk s ∧ zs.length ≤ 60000 then (four zs.length).map (fun n : Nat => (n : Int)) ++ (strB s ++ zs) ++ (four (crcF (strB s ++ zs)).toNat).map (fun n : Nat => (n : Int)) else []
theorem chunkF_len (s : ByteArray) (zs : List Int) : (chunkF s zs).length ≤ 1048576 := by
  unfold chunkF; split
  · rename_i h
    simp [strB_length, four_length]; have := h.1.1; omega
  · simp
theorem chunkF_yes {s : ByteArray} {zs : List Int} (h1 : nameOk s) (h2 : zs.length ≤ 60000) (n : Nat) (hn : crcF (strB s ++ zs) = (n : Int)) :
    chunkF s zs = (four zs.length).map (fun n : Nat => (n : Int)) ++ (strB s ++ zs) ++ (four n).map (fun n : Nat => (n : Int)) := by
  unfold chunkF; rw [if_pos ⟨h1, h2⟩, hn, Int.toNat_natCast]
theorem chunkF_name {s : ByteArray} {zs : List Int} (h1 : ¬ nameOk s) : chunkF s zs = [] := by unfold chunkF; rw [if_neg (fun h => h1 h.1)]
theorem chunkF_long {s : ByteArray} {zs : List Int} (h2 : ¬ zs.length ≤ 60000) : chunkF s zs = [] := by unfold chunkF; rw [if_neg (fun h => h2 h.2)]
end Go.Proofs.Ytpofmcepjmbmcaa

/- Appending bytes to a row of the call's own, whatever slice they come in. -/
namespace Go.Proofs.Ytpofmcepjmbmcaa
open Go.RowKit

theorem byts_append (a b : List Int) : byts (a ++ b) = byts a ++ byts b := by simp [byts]
theorem byts_one (zs : List Int) : ∀ u ∈ byts zs, u.oneCell' = true := by
  intro u hu
  simp only [byts, List.mem_map] at hu
  obtain ⟨b, _, rfl⟩ := hu
  rfl
theorem byts_cells {w : World} {b off : Nat} {ys : List Int} (h : KindAt .u8 w b off ys) : ∀ j u, (byts ys)[j]? = some u → w.cell? ((⟨b, off, none⟩ : Addr).add j) = some u := by
  intro j u hu
  rw [add_cellA]
  have hj : j < ys.length := by
    rcases Nat.lt_or_ge j ys.length with h' | h'
    · exact h'
    · rw [List.getElem?_eq_none (by rw [byts_length]; exact h')] at hu; cases hu
  have := getD_map_int ys .u8 j hj
  unfold byts at hu
  rw [this] at hu
  cases hu
  exact h j hj
where
  add_cellA {g o j : Nat} : (⟨g, o, none⟩ : Addr).add j = ⟨g, o + j, none⟩ := by unfold Addr.add; split <;> simp_all

/-- Bytes that can be read: nil, or in the cells of a block. -/
def RdN (w : World) (u : Value) (ys : List Int) : Prop := (u = .slice none 0 0 ∧ ys = []) ∨ ∃ b off cap, u = .slice (some ⟨b, off, none⟩) ys.length cap ∧ b < w.heap.size ∧ KindAt .u8 w b off ys
theorem RdN.below {w w' : World} {u : Value} {ys : List Int} (h : RdN w u ys) (hb : Below w.heap.size w w') : RdN w' u ys := by
  rcases h with h | ⟨b, off, cap, e, hl, hc⟩
  · exact .inl h
  · exact .inr ⟨b, off, cap, e, Nat.lt_of_lt_of_le hl hb.size, fun j hj => (hb.cell (by simpa using hl)).trans (hc j hj)⟩
theorem RdN.form {w : World} {u : Value} {ys : List Int} (h : RdN w u ys) : ∃ ad cap, u = .slice ad ys.length cap := by
  rcases h with ⟨rfl, rfl⟩ | ⟨b, off, cap, rfl, _⟩
  · exact ⟨_, _, rfl⟩
  · exact ⟨_, _, rfl⟩
theorem RdN.argB {w : World} {ad : Option Addr} {cap : Nat} {ys : List Int} (h : RdN w (.slice ad ys.length cap) ys) (hB : InB ys) : ArgB w ad ys := by
  refine ⟨hB, fun hne => ?_⟩
  rcases h with ⟨_, rfl⟩ | ⟨b, off, cap', e, hl, hc⟩
  · exact absurd rfl hne
  · cases e; exact ⟨b, off, rfl, hl, hc⟩
theorem inB_append {a b : List Int} (ha : InB a) (hb : InB b) : InB (a ++ b) := by
  intro j
  rcases Nat.lt_or_ge j a.length with h | h
  · have := ha j
    rw [List.getD_eq_getElem?_getD] at this ⊢
    rw [List.getElem?_append_left h]; exact this
  · have := hb (j - a.length)
    rw [List.getD_eq_getElem?_getD] at this ⊢
    rw [List.getElem?_append_right h]; exact this
theorem inB_strB (s : ByteArray) : InB (strB s) := by
  intro j
  rcases Nat.lt_or_ge j s.size with h | h
  · rw [strB_getD s j h]; have := (s[j]'h).toNat_lt; omega
  · rw [List.getD_eq_getElem?_getD, List.getElem?_eq_none (by rw [strB_length]; exact h)]; simp
theorem rdN_of_owns {w : World} {base : Nat} {v : Value} {zs : List Int} (h : w.ownsRow base 5 1 v zs.length (byts zs)) : RdN w v zs := by
  rcases h.2 with ⟨rfl, hn⟩ | ⟨g, cap, cur, rfl, h1, h2, h3⟩
  · exact .inl ⟨rfl, List.length_eq_zero_iff.1 hn⟩
  · refine .inr ⟨g, 0, cap, rfl, (h.lt g rfl).2, fun j hj => ?_⟩
    rw [Nat.zero_add, h.cellAt j (by omega)]
    exact getD_map_int zs .u8 j hj
theorem rdN_of_own {w : World} {a b : Nat} {v : Value} {zs : List Int} (h : OwnY w a b v zs) : RdN w v zs := rdN_of_owns h.1

theorem wpList_appY {ops : Array Oper} {rest : List Oper} {o : Oper} {a : Act} {Q : Exit → Act → World → Prop} {w : World} (hgd : o.guard = none) (s x : Operand)
    (ho : o.op = .call { callee := .builtin .append, args := #[s, x], argTypes := #[22, 22] }) (base : Nat) (v : Value) (zs : List Int) (hs : a.eval s = v)
    (hown : w.ownsRow base 5 1 v zs.length (byts zs)) (u : Value) (ys : List Int) (hx : a.eval x = u) (hr : RdN w u ys) (h63 : zs.length + ys.length ≤ 1099511627776) (hbase : base ≤ w.heap.size)
    (h : ∀ v' w', w'.ownsRow base 5 1 v' (zs ++ ys).length (byts (zs ++ ys)) → w.grownBy w' v.ownBlock → (v'.ownBlock = v.ownBlock ∨ v'.ownBlock = some w.heap.size) → wpList Try.prog ops Q rest (a.put o.dst v') w') :
    wpList Try.prog ops Q (o :: rest) a w := by
  obtain ⟨i0, hi0, hz0, hz1, hz2⟩ := info_parts infoB
  rcases hr with ⟨rfl, rfl⟩ | ⟨b, off, cap, rfl, hl, hc⟩
  · refine wpList_append_own_none hgd s x 22 ho base 5 i0 1 Try.underlying22 hi0 v _ _ hs hown hx ?_
    refine h v w ?_ ⟨rfl, rfl, rfl, Nat.le_refl _, fun _ _ _ => rfl⟩ (.inl rfl)
    rw [List.append_nil]; exact hown
  · refine wpList_append_own_at _ hgd s x 22 ho base 5 i0 (.int .u8 0) 1 1 Try.underlying22 hi0 hz0 hz1 hz2 rfl (by decide) v zs.length (byts zs) hs hown ⟨b, off, none⟩ ys.length cap (byts ys) hx (by rw [byts_length]; omega) (byts_cells hc) (byts_one ys) (by unfold maxLen; omega) (by omega) hbase ?_
    intro v' w' h1 h2 _ h4
    refine h v' w' ?_ h2 h4
    rw [List.length_append, byts_append]; exact h1

theorem strCells_byts (s : ByteArray) : Lib.strCells s = byts (strB s) := by unfold Lib.strCells byts strB; simp
theorem wpList_appS {ops : Array Oper} {rest : List Oper} {o : Oper} {a : Act} {Q : Exit → Act → World → Prop} {w : World} (hgd : o.guard = none) (sl x : Operand)
    (ho : o.op = .call { callee := .builtin .append, args := #[sl, x], argTypes := #[22, 9] }) (base : Nat) (v : Value) (zs : List Int) (hs : a.eval sl = v)
    (hown : w.ownsRow base 5 1 v zs.length (byts zs)) (s : ByteArray) (hx : a.eval x = .string s) (h63 : zs.length + s.size ≤ 1099511627776) (hbase : base ≤ w.heap.size)
    (h : ∀ v' w', w'.ownsRow base 5 1 v' (zs ++ strB s).length (byts (zs ++ strB s)) → w.grownBy w' v.ownBlock → wpList Try.prog ops Q rest (a.put o.dst v') w') :
    wpList Try.prog ops Q (o :: rest) a w := by
  obtain ⟨i0, hi0, hz0, hz1, hz2⟩ := info_parts infoB
  refine Lib.wpList_append_own_string _ hgd sl x 22 9 ho base 5 i0 Try.underlying22 Try.underlying9 hi0 hz0 hz1 hz2 v zs.length (byts zs) hs hown s hx (by unfold maxLen; omega) (by omega) hbase ?_
  intro v' w' h1 h2 _
  refine h v' w' ?_ h2
  rw [List.length_append, byts_append, strB_length, ← strCells_byts]; exact h1
theorem own_nilY (w : World) (a b : Nat) : OwnY w a b (.slice none 0 0) [] := ⟨World.ownsRow_nil _ _ _ _, fun k hk => by simp [Value.ownBlock] at hk⟩
theorem upd_of_grown {w w' : World} {a : Nat} {e : TypeId} {s : Nat} {v : Value} {n : Nat} {xs : List Value} (hg : w.grownBy w' v.ownBlock) (ho : w.ownsRow a e s v n xs) : Upd a w.heap.size w w' :=
  ⟨hg.os, hg.tape, hg.output, hg.size, fun k hk hn => hg.block k hk (fun e => by have := ho.lt k e.symm; omega)⟩
theorem byts_nats (l : List Nat) : byts (l.map (fun n : Nat => (n : Int))) = vals l := by unfold byts vals; simp
/-- A text's bytes, laid anew. -/
theorem bytesOfStr (s : ByteArray) (w : World) : ∃ cp w2, (convert 9 22 (.string s)).run Try.prog w = .ok (.slice (some ⟨w.heap.size, 0, none⟩) s.size cp) w2 ∧ RdN w2 (.slice (some ⟨w.heap.size, 0, none⟩) s.size cp) (strB s) ∧ Upd 0 0 w w2 ∧ w.heap.size < w2.heap.size := by
  refine ⟨_, _, run_bytes_of_string (P := Try.prog) w 9 22 5 s Try.underlying9 Try.underlying22 Try.underlying5, ?_, ?_, ?_⟩
  · refine .inr ⟨w.heap.size, 0, _, by rw [strB_length], ?_, ?_⟩
    · exact (Array.getElem?_eq_some_iff.1 (heap_alloc_new w.drew _)).1
    · intro j hj
      rw [strB_length] at hj
      have := World.cell?_alloc_mark w.drew (bytesRow s (grownCap w s.size 0 5)) 5 ((bytesRow s (grownCap w s.size 0 5)).size, (bytesRow s (grownCap w s.size 0 5)).size + 1) j
      rw [Nat.zero_add, strB_getD s j hj]
      exact this.trans (bytesRow_at s _ j (by simpa using hj))
  · exact (Upd.of_below (Below.alloc (⟨rfl, rfl, rfl, Nat.le_refl _, fun _ _ => rfl⟩ : Below w.heap.size w w.drew) (Nat.le_refl _) _) 0 0)
  · exact (Array.getElem?_eq_some_iff.1 (heap_alloc_new w.drew _)).1
end Go.Proofs.Ytpofmcepjmbmcaa

/- A row of ints of a call's own, made full, under way: its cells, stores into it and into others. -/
namespace Go.Proofs.Ytpofmcepjmbmcaa
open Go.RowKit

def RowI (w : World) (g n : Nat) (xs : List Value) : Prop := w.ownsRow g 3 1 (.slice (some ⟨g, 0, none⟩) n n) n xs
theorem RowI.own {w : World} {g n : Nat} {xs : List Value} (h : RowI w g n xs) : Own 3 1 w g (g + 1) (.slice (some ⟨g, 0, none⟩) n n) n xs :=
  ⟨h, fun k hk => by simp [Value.ownBlock] at hk; omega⟩
theorem RowI.upd {w w' : World} {g n c e : Nat} {xs : List Value} (h : RowI w g n xs) (u : Upd c e w w') (hd : g + 1 ≤ c ∨ e ≤ g) : RowI w' g n xs := (h.own.upd u hd).1
theorem RowI.keep {w w' : World} {g n : Nat} {xs : List Value} (h : RowI w g n xs) (u : Upd 0 0 w w') : RowI w' g n xs := h.upd u (.inr (Nat.zero_le _))
theorem RowI.other {w : World} {g n c : Nat} {xs : List Value} (h : RowI w g n xs) (hne : c ≠ g) (o : Nat) (u : Value) : RowI (w.setCell ⟨c, o, none⟩ u) g n xs :=
  h.upd ((Upd.refl c (c + 1) w).setCell ⟨Nat.le_refl _, Nat.lt_succ_self _⟩ o u) (by omega)
theorem RowI.set {w : World} {g n : Nat} {xs : List Value} (h : RowI w g n xs) (k : Nat) (u : Value) : RowI (w.setCell ⟨g, k, none⟩ u) g n (xs.set k u) := (World.ownsRow.stored h k u).1
theorem RowI.len {w : World} {g n : Nat} {xs : List Value} (h : RowI w g n xs) : xs.length = n := by have h' : w.ownsRow g 3 1 (.slice (some ⟨g, 0, none⟩) n n) n xs := h; have := h'.1; omega
theorem RowI.cell {w : World} {g n : Nat} {xs : List Value} (h : RowI w g n xs) (k : Nat) (hk : k < n) : w.cell? ⟨g, k, none⟩ = xs[k]? := World.ownsRow.cellAt h k (by omega)
theorem RowI.frozen {w : World} {g n : Nat} {xs : List Value} (h : RowI w g n xs) (k : Nat) : w.frozen? ⟨g, k, none⟩ = false := World.ownsRow.frozenAt h k
theorem RowI.has {w : World} {g n : Nat} {xs : List Value} (h : RowI w g n xs) (k : Nat) (hk : k < n) : ∃ u, w.cell? ⟨g, k, none⟩ = some u := by
  rw [h.cell k hk]; exact ⟨_, List.getElem?_eq_getElem (by have := h.len; omega)⟩
theorem RowI.lt {w : World} {g n : Nat} {xs : List Value} (h : RowI w g n xs) : g < w.heap.size := by
  have h' : w.ownsRow g 3 1 (.slice (some ⟨g, 0, none⟩) n n) n xs := h
  exact (h'.lt g rfl).2
theorem RowI.ownI {w : World} {g : Nat} {zs : List Int} (h : RowI w g zs.length (ints zs)) : OwnI w g (g + 1) (.slice (some ⟨g, 0, none⟩) zs.length zs.length) zs := h.own
theorem RowI.alloc {w : World} {g n : Nat} {xs : List Value} (h : RowI w g n xs) (o : Obj) : RowI (w.alloc o) g n xs :=
  h.keep (Upd.of_below ((Below.refl w.heap.size w).alloc (Nat.le_refl _) o) 0 0)
theorem alloc_newR (w : World) (o : Obj) : (w.alloc o).heap[w.heap.size]? = Option.some o := by unfold World.alloc; simp
/-- A row of n numbers made in any world. -/
theorem mkRowI (n : Nat) (hn : n ≤ 1048576) : ∃ o : Obj, ∀ (X : World), (Instr.makeSlice 29 (.int .i64 (n : Int)) (.int .i64 (n : Int))).run Try.prog X = .ok (.slice (some ⟨X.heap.size, 0, none⟩) n n) (X.alloc o) ∧
    RowI (X.alloc o) X.heap.size n (List.replicate n (.int .i64 0)) := by
  obtain ⟨i0, hi, hz0, hz1, hz2⟩ := info_parts infoI
  refine ⟨.cells (madeCells (Value.int .i64 0).cells ((n : Int).toNat * i0.size)) 3, fun X => ⟨?_, ?_⟩⟩
  · have h := run_makeSlice (P := Try.prog) (w := X) 29 3 i0 (.int .i64 0) Try.underlying29 hi hz0 .i64 .i64 (n : Int) (n : Int) (by omega) (by omega) (by rw [hz1]; omega) (by rw [hz2]; omega) (by omega)
    simpa using h
  · refine ⟨by simp, .inr ⟨X.heap.size, n, _, rfl, Nat.le_refl _, alloc_newR X _, Nat.le_refl _, by unfold maxLen; omega, by rw [size_madeCells, hz1]; simp, ?_⟩⟩
    rw [hz1]
    simp [toList_madeCells_one, Value.cells]
end Go.Proofs.Ytpofmcepjmbmcaa

/- A struct's block and the row of bytes that it tells: what calls on it keep. -/
namespace Go.Proofs.Ytpofmcepjmbmcaa
open Go.RowKit

theorem bytsAt (xs : List Int) (j : Nat) (h : j < xs.length) : (byts xs)[j]? = some (.int .u8 (xs.getD j 0)) := by
  unfold byts; rw [List.getElem?_map, List.getElem?_eq_getElem h, List.getD_eq_getElem?_getD, List.getElem?_eq_getElem h]; rfl
theorem bytsSet (xs : List Int) (k : Nat) (x : Int) : (byts xs).set k (.int .u8 x) = byts (xs.set k x) := by unfold byts; rw [List.map_set]
/-- All blocks stay but the struct's own and its row's. -/
structure KpO (g : Nat) (v : Value) (w w' : World) : Prop where
  os : w'.os = w.os
  tape : w'.tape = w.tape
  output : w'.output = w.output
  size : w.heap.size ≤ w'.heap.size
  block : ∀ k, k < w.heap.size → k ≠ g → some k ≠ v.ownBlock → w'.heap[k]? = w.heap[k]?
/-- A row that is new, or the one from before. -/
def FreshV (w : World) (v v' : Value) : Prop := ∀ b, v'.ownBlock = some b → v.ownBlock = some b ∨ w.heap.size ≤ b
theorem FreshV.refl (w : World) (v : Value) : FreshV w v v := fun _ h => .inl h
theorem FreshV.trans {w w1 : World} {v v1 v2 : Value} (h1 : FreshV w v v1) (h2 : FreshV w1 v1 v2) (hs : w.heap.size ≤ w1.heap.size) : FreshV w v v2 := fun b hb => by
  rcases h2 b hb with h | h
  · exact h1 b h
  · exact .inr (by omega)
theorem KpO.refl (g : Nat) (v : Value) (w : World) : KpO g v w w := ⟨rfl, rfl, rfl, Nat.le_refl _, fun _ _ _ _ => rfl⟩
theorem KpO.trans {g : Nat} {v v1 : Value} {w w1 w2 : World} (h1 : KpO g v w w1) (f : FreshV w v v1) (h2 : KpO g v1 w1 w2) : KpO g v w w2 :=
  ⟨h2.os.trans h1.os, h2.tape.trans h1.tape, h2.output.trans h1.output, Nat.le_trans h1.size h2.size, fun k hk hg hv =>
    (h2.block k (Nat.lt_of_lt_of_le hk h1.size) hg (fun e => by
      rcases f k e.symm with h | h
      · exact hv h.symm
      · omega)).trans (h1.block k hk hg hv)⟩
theorem KpO.upd {g : Nat} {v : Value} {w w' : World} (u : Upd 0 0 w w') : KpO g v w w' := ⟨u.os, u.tape, u.output, u.size, fun k hk _ _ => u.block k hk (.inr (Nat.zero_le _))⟩
theorem KpO.grown {g : Nat} {v : Value} {w w' : World} (h : w.grownBy w' v.ownBlock) : KpO g v w w' := ⟨h.os, h.tape, h.output, h.size, fun k hk _ hv => h.block k hk hv⟩
theorem KpO.head (g j : Nat) (v u : Value) (w : World) : KpO g v w (w.setCell ⟨g, j, none⟩ u) :=
  ⟨rfl, rfl, rfl, by simp, fun k _ hk _ => Below.heap_setCell w ⟨g, j, none⟩ u k (by simp; omega)⟩
theorem KpO.below {g B : Nat} {v : Value} {x w w' : World} (h : KpO g v w w') (hB : Below B x w) (hx : B ≤ x.heap.size) (hg : B ≤ g) (hv : ∀ b, v.ownBlock = some b → B ≤ b) : Below B x w' :=
  hB.trans ⟨h.os, h.tape, h.output, h.size, fun k hk => h.block k (by have := hB.size; omega) (by omega) (fun e => by have := hv k e.symm; omega)⟩
theorem HeldF.kpO {g c : Nat} {v : Value} {cs : List Value} {w w' : World} (h : HeldF w c cs) (k : KpO g v w w') (hc : c ≠ g) (hv : some c ≠ v.ownBlock) : HeldF w' c cs := by
  have hb := k.block c h.1.1 hc hv
  exact ⟨⟨Nat.lt_of_lt_of_le h.1.1 k.size, fun j u hj => (World.cell?_of_block (a := ⟨c, j, none⟩) hb).trans (h.1.2 j u hj)⟩, fun j => (World.frozen?_of_block (a := ⟨c, j, none⟩) hb).trans (h.2 j)⟩
theorem RowI.kpO {g c n : Nat} {v : Value} {xs : List Value} {w w' : World} (h : RowI w c n xs) (k : KpO g v w w') (hc : c ≠ g) (hv : some c ≠ v.ownBlock) : RowI w' c n xs := by
  have hb := k.block c h.lt hc hv
  obtain ⟨h1, h2⟩ := (show w.ownsRow c 3 1 (.slice (some ⟨c, 0, none⟩) n n) n xs from h)
  refine ⟨h1, ?_⟩
  rcases h2 with h2 | ⟨g', cap, cur, hv', hg, hh, r⟩
  · exact .inl h2
  · have e : g' = c := by cases hv'; rfl
    subst e
    exact .inr ⟨g', cap, cur, hv', hg, hb.trans hh, r⟩
/-- The row of bytes told. -/
def TRow (w : World) (base : Nat) (v : Value) (xs : List Int) : Prop := w.ownsRow base 5 1 v xs.length (byts xs)
theorem TRow.block {w : World} {base : Nat} {v : Value} {xs : List Int} (h : TRow w base v xs) : ∀ b, v.ownBlock = some b → base ≤ b ∧ b < w.heap.size := fun b hb => (World.ownsRow.lt h b hb)
theorem TRow.kept {w w' : World} {base : Nat} {v : Value} {xs : List Int} (h : TRow w base v xs) (hb : ∀ b, v.ownBlock = some b → w'.heap[b]? = w.heap[b]?) : TRow w' base v xs := by
  obtain ⟨h1, h2⟩ := (show w.ownsRow base 5 1 v xs.length (byts xs) from h)
  refine ⟨h1, ?_⟩
  rcases h2 with h2 | ⟨g', cap, cur, rfl, hg, hh, r⟩
  · exact .inl h2
  · exact .inr ⟨g', cap, cur, rfl, hg, (hb g' rfl).trans hh, r⟩
theorem TRow.upd {w w' : World} {base : Nat} {v : Value} {xs : List Int} (h : TRow w base v xs) (u : Upd 0 0 w w') : TRow w' base v xs := h.kept fun b hb => u.block b (h.block b hb).2 (.inr (Nat.zero_le _))
theorem TRow.head {w : World} {base g j : Nat} {v u : Value} {xs : List Int} (h : TRow w base v xs) (hg : g < base) : TRow (w.setCell ⟨g, j, none⟩ u) base v xs :=
  h.kept fun b hb => Below.heap_setCell w ⟨g, j, none⟩ u b (by have := (h.block b hb).1; simp; omega)
/-- The row's cells. -/
theorem TRow.at {w : World} {base : Nat} {v : Value} {xs : List Int} (h : TRow w base v xs) (h0 : xs ≠ []) : ∃ b cap, v = .slice (some ⟨b, 0, none⟩) xs.length cap ∧ base ≤ b ∧ b < w.heap.size ∧
    (∀ j, j < xs.length → w.cell? ⟨b, j, none⟩ = some (.int .u8 (xs.getD j 0))) ∧ (∀ j, w.frozen? ⟨b, j, none⟩ = false) ∧ (∀ j y, TRow (w.setCell ⟨b, j, none⟩ (.int .u8 y)) base v (xs.set j y) ∧ w.grownBy (w.setCell ⟨b, j, none⟩ (.int .u8 y)) v.ownBlock) := by
  rcases h.2 with ⟨_, hn⟩ | ⟨b, cap, cur, rfl, hg, hh, r⟩
  · exact absurd (List.length_eq_zero_iff.1 hn) h0
  · have h' : w.ownsRow base 5 1 (.slice (some ⟨b, 0, none⟩) xs.length cap) xs.length (byts xs) := h
    refine ⟨b, cap, rfl, hg, (h'.lt b rfl).2, fun j hj => ?_, fun j => World.ownsRow.frozenAt h' j, fun j y => ?_⟩
    · rw [World.ownsRow.cellAt h' j (by omega)]
      exact bytsAt xs j hj
    · have hs := World.ownsRow.stored h' j (.int .u8 y)
      refine ⟨?_, hs.2⟩
      unfold TRow
      rw [List.length_set, ← bytsSet]
      exact hs.1
end Go.Proofs.Ytpofmcepjmbmcaa

/- Append of one byte to a row that a struct tells, as a step of a region that draws its order. -/
namespace Go.Proofs.Ytpofmcepjmbmcaa
open Go.RowKit

theorem step_appT {ops : Array Oper} {o : Oper} {a : Act} {wc w : World} {K : Act → World → Prop} {Q : Exit → Act → World → Prop} {E : Prop}
    (hgd : o.guard = none) (s x : Operand) (ho : o.op = .call { callee := .builtin .append, args := #[s, x], argTypes := #[22, 22] })
    (g base : Nat) (v : Value) (xs : List Int) (cs : List Value) (y : Int) (hh : HeldF wc g cs) (hrow : TRow wc base v xs) (hg : g < base) (hn : xs.length ≤ 1048576) (hb : base ≤ wc.heap.size) (hu : Upd 0 0 wc w)
    (hs : a.eval s = v) (b c : Nat) (hx : a.eval x = .slice (some ⟨b, 0, none⟩) 1 c) (hc : w.cell? ⟨b, 0, none⟩ = some (.int .u8 y))
    (hK : ∀ ad cp w', TRow w' base (.slice ad (xs.length + 1) cp) (xs ++ [y]) → HeldF w' g cs → KpO g v wc w' → FreshV wc v (.slice ad (xs.length + 1) cp) → K (a.put o.dst (.slice ad (xs.length + 1) cp)) w') :
    if Region.wanted o (yielded ops a.tmps) = true then Oper.wp Try.prog o a w K Q else E := by
  have hw : Region.wanted o (yielded ops a.tmps) = true := by simp [Region.wanted, hgd]
  rw [if_pos hw]
  obtain ⟨i0, hi0, hz0, hz1, hz2⟩ := info_parts infoB
  have hrow' : TRow w base v xs := hrow.upd hu
  obtain ⟨v', w', hr, h2, h3, h4, h5⟩ := run_append_own_at (P := Try.prog) w base 22 o.type 5 i0 (.int .u8 0) 1 1 Try.underlying22 hi0 hz0 hz1 hz2 rfl (by decide) v xs.length (byts xs) hrow' ⟨b, 0, none⟩ 1 c [.int .u8 y] rfl
    (fun j u hj => by
      match j, hj with
      | 0, hj => simp at hj; subst hj; simpa [Addr.add] using hc)
    (fun u hu' => by simp at hu'; subst hu'; rfl) (by unfold maxLen; omega) (by omega) (by have := hu.size; omega)
  obtain ⟨ad, cp, rfl⟩ : ∃ ad cp, v' = .slice ad (xs.length + 1) cp := by
    obtain ⟨g', c', e⟩ := ownsRow_succ h2
    exact ⟨_, _, e⟩
  unfold Oper.wp execOp
  simp only [ho, resolve, invoke, builtin, Sem.run_bind, Sem.run_pure, Result.andThen_ok, List.map_toArray, List.map_cons, List.map_nil, hs, hx, hr]
  have hgn : some g ≠ v.ownBlock := fun e => by have := (hrow.block g e.symm).1; omega
  have hk1 : KpO g v w w' := KpO.grown h3
  have hk : KpO g v wc w' := KpO.trans (KpO.upd hu) (FreshV.refl _ _) hk1
  refine hK ad cp w' (by unfold TRow; rw [List.length_append, byts_append]; exact h2) ?_ hk (fun b' hb' => ?_)
  · have hhw := hh.keep hu
    have hb2 := h3.block g hhw.1.1 hgn
    exact ⟨⟨Nat.lt_of_lt_of_le hhw.1.1 h3.size, fun j u hj => (World.cell?_of_block (a := ⟨g, j, none⟩) hb2).trans (hhw.1.2 j u hj)⟩, fun j => (World.frozen?_of_block (a := ⟨g, j, none⟩) hb2).trans (hhw.2 j)⟩
  · rcases h5 with e | e
    · exact .inl (e.symm.trans hb')
    · rw [e] at hb'
      have := hu.size
      simp only [Option.some.injEq] at hb'
      exact .inr (by omega)
theorem TRow.empty (w : World) (base : Nat) : TRow w base (.slice none 0 0) [] := World.ownsRow_nil _ _ _ _
end Go.Proofs.Ytpofmcepjmbmcaa

/- Odds: the program's writer: a carry, a byte told. -/
namespace Go.Proofs.Ytpofmcepjmbmcaa
open Go.RowKit

theorem carryTo_stepI (xs : List Int) (k : Nat) (y : Int) (hy : y = (xs.getD k 0 + 1) % 256) : carryTo xs (k + 1) = if y ≠ 0 then xs.set k y else carryTo (xs.set k y) k := by
  subst hy; rfl
theorem wrap_u8I (n : Int) : IntKind.u8.wrap n = n % 256 := by simp [IntKind.wrap, IntKind.bits, IntKind.signed]
theorem OdAt.kpO {w w' : World} {g c : Nat} {v : Value} {s : Int → Int} {rest : List Value} (h : OdAt w c s rest) (k : KpO g v w w') (hc : c ≠ g) (hv : some c ≠ v.ownBlock) : OdAt w' c s rest := HeldF.kpO h k hc hv
theorem KpO.updG {g : Nat} {v : Value} {w w' : World} (u : Upd g (g + 1) w w') : KpO g v w w' := ⟨u.os, u.tape, u.output, u.size, fun k hk hg _ => u.block k hk (by omega)⟩
/-- The program's writer. -/
def WrAt (W : World) (g base : Nat) (s : Int → Int) (rng low : Int) (v : Value) (xs : List Int) : Prop := OdAt W g s [.int .u32 rng, .int .u32 low, v] ∧ TRow W base v xs
theorem TRow.updG {w w' : World} {g base : Nat} {v : Value} {xs : List Int} (h : TRow w base v xs) (u : Upd g (g + 1) w w') (hg : g < base) : TRow w' base v xs := h.kept fun b hb => u.block b (h.block b hb).2 (by have := (h.block b hb).1; omega)
set_option maxHeartbeats 16000000 in
set_option maxRecDepth 100000 in
theorem implCarry (g base : Nat) (s : Int → Int) (rng low : Int) (v : Value) (out : List Int) (W : World) (hg : g < base) (h : WrAt W g base s rng low v out) (hn : out.length ≤ 30000) :
    Calls Try.prog 81 #[.pointer (some ⟨g, 0, none⟩)] W fun e w' => e = .returned (.tuple #[]) ∧ WrAt w' g base s rng low v (carryF out) ∧ KpO g v W w' := by
  obtain ⟨hh, hrow⟩ := h
  have c0 : W.cell? ⟨g, 514, none⟩ = some v := hh.back 2 _ rfl
  replace hh := hide hh
  replace hrow := hide hrow
  have hci : Hid (carryF out = carryTo out out.length) := hide rfl
  obtain ⟨ad, cp, rfl⟩ : ∃ ad cp, v = .slice ad out.length cp := by
    rcases (unhide hrow).2 with ⟨rfl, hz⟩ | ⟨b, cap, cur, rfl, _⟩
    · exact ⟨none, 0, by rw [hz]⟩
    · exact ⟨_, cap, rfl⟩
  go_enter Try.func81, Try.ntmps81
  go_wp2_with fail
  clear c0
  go_loopw [2] (fun i wr => ∃ (k : Nat) (xs : List Int), i = .int .i64 ((k : Int) - 1) ∧ k ≤ out.length ∧ xs.length = out.length ∧ Hid (carryTo xs k = carryTo out out.length) ∧ Hid (OdAt wr g s [.int .u32 rng, .int .u32 low, .slice ad out.length cp]) ∧ Hid (TRow wr base (.slice ad out.length cp) xs) ∧ Hid (KpO g (.slice ad out.length cp) W wr)) (fun i _ => (intOf i + 1).toNat)
  case atStart => exact ⟨out.length, out, rfl, Nat.le_refl _, rfl, hide rfl, hh, hrow, hide (KpO.refl _ _ _)⟩
  case round =>
    clear hh hrow
    obtain ⟨k, xs, rfl, hk, hxl, hca, hh, hrow, hkp⟩ := hrel
    cases k with
    | zero =>
      have tz : decide ((0 : Int) ≤ ((0 : Nat) : Int) - 1) = false := by decide
      have hcx := hide ((unhide hca).trans (unhide hci).symm)
      clear hca
      go_wp2
      go_end0
      exact ⟨rfl, ⟨unhide hh, by rw [← unhide hcx]; exact unhide hrow⟩, unhide hkp⟩
    | succ k =>
      have e1 : ((k + 1 : Nat) : Int) - 1 = (k : Int) := by omega
      rw [e1]
      clear e1
      have hxne : xs ≠ [] := ne_of_lt_length (show k < xs.length by omega)
      obtain ⟨b, cap, hv, hbb, hbl, hcells, hfz, hset⟩ := (unhide hrow).at hxne
      have hck := hcells k (by omega)
      have hfk := hfz k
      obtain ⟨y, hy⟩ : ∃ y, y = (xs.getD k 0 + 1) % 256 := ⟨_, rfl⟩
      have hwy : IntKind.u8.wrap (xs.getD k 0 + 1) = y := by rw [wrap_u8I, hy]
      have hst := hide (carryTo_stepI xs k y hy)
      have hs := hset k y
      have hbg : b ≠ g := by omega
      obtain ⟨rfl, rfl⟩ : ad = some ⟨b, 0, none⟩ ∧ cp = cap := by
        simp only [Value.slice.injEq] at hv; exact ⟨hv.1, hv.2.2⟩
      have hrow2 := hide hs.1
      have hkp2 := hide ((unhide hkp).trans (FreshV.refl _ _) (KpO.grown (g := g) hs.2))
      have hh2 := hide ((unhide hh).other (g' := b) hbg k (.int .u8 y))
      have c0 : wr.cell? ⟨g, 514, none⟩ = some _ := (unhide hh).back 2 _ rfl
      have kI : (k : Int) < (out.length : Int) := by omega
      have kD : decide ((0 : Int) ≤ (k : Int)) = true := decide_eq_true (by omega)
      generalize xs.getD k 0 = x at hck hwy hy
      clear hy hv hs hset hcells hfz
      go_upto_region 4 with fail
      have ck2 : (wr.setCell ⟨b, k, none⟩ (.int .u8 y)).cell? ⟨b, k, none⟩ = some (.int .u8 y) := World.cell?_setCell_same _ _ _ hck
      have c02 : (wr.setCell ⟨b, k, none⟩ (.int .u8 y)).cell? ⟨g, 514, none⟩ = some _ := (unhide hh2).back 2 _ rfl
      have hxl2 : (xs.set k y).length = out.length := by rw [List.length_set]; exact hxl
      generalize xs.set k y = ys at hrow2 hst hxl2
      generalize wr.setCell ⟨b, k, none⟩ (.int .u8 y) = w2 at hrow2 hkp2 hh2 ck2 c02 ⊢
      clear c0 hck hfk hwy hrow hkp hh
      by_cases hy0 : y = 0
      · have ty : (y == 0) = true := by simpa using hy0
        have hca2 := hide (show carryTo ys k = carryTo out out.length by rw [← unhide hca, unhide hst, if_neg (by simpa using hy0)])
        clear hy0 hst hca
        go_wp2_with fail
        go_roundw
        case rel => exact ⟨k, ys, by go_num, by omega, hxl2, hca2, hh2, hrow2, hkp2⟩
        case measure => first | (simp [intOf]; done) | (simp [intOf]; omega)
      · have ty : (y == 0) = false := by simpa using hy0
        have hcx := hide (show ys = carryF out by rw [unhide hci, ← unhide hca, unhide hst, if_pos hy0])
        clear hy0 hst hca
        go_wp2
        (try simp only [Exit.inBlock, Exit.then])
        refine bodyPost_ret (results_none rfl _ _ _) rfl ?_
        exact ⟨rfl, ⟨unhide hh2, by rw [← unhide hcx]; exact unhide hrow2⟩, unhide hkp2⟩
set_option maxHeartbeats 16000000 in
set_option maxRecDepth 100000 in
theorem implWShift (g base : Nat) (s : Int → Int) (rng low : Int) (v : Value) (xs : List Int) (wc : World) (hg : g < base) (hbb : base ≤ wc.heap.size) (h : WrAt wc g base s rng low v xs) (l0 : 0 ≤ low) (l1 : low ≤ 4294967295) (hn : xs.length ≤ 30000) :
    Calls Try.prog 84 #[.pointer (some ⟨g, 0, none⟩)] wc fun e w' => e = .returned (.tuple #[]) ∧ ∃ v', WrAt w' g base s rng (low * 256 % 4294967296) v' (xs ++ [low / 16777216]) ∧ KpO g v wc w' ∧ FreshV wc v v' := by
  obtain ⟨hh, hrow⟩ := h
  obtain ⟨bt, hbt⟩ : ∃ bt, low / 16777216 = bt := ⟨_, rfl⟩
  have hwb : IntKind.u8.wrap bt = bt := by rw [wrap_u8I]; omega
  obtain ⟨nl, hnl⟩ : ∃ nl, low * 256 % 4294967296 = nl := ⟨_, rfl⟩
  have hwr : IntKind.u32.wrap (low * 256) = nl := by rw [← hnl]; simp [IntKind.wrap, IntKind.bits, IntKind.signed]
  rw [hbt, hnl]
  replace hnl := hide hnl
  have q2 : wc.cell? ⟨g, 514, none⟩ = some v := hh.back 2 _ rfl
  have q1 : wc.cell? ⟨g, 513, none⟩ = some (.int .u32 low) := hh.back 1 _ rfl
  have hgw : g < wc.heap.size := hh.lt
  replace hh := hide hh
  replace hrow := hide hrow
  go_enter Try.func84, Try.ntmps84
  go_wp2_with fail
  go_region_law (refine step_appT rfl (.tmp 6) (.tmp 13) rfl g base v xs (oddsV s ++ [.int .u32 rng, .int .u32 low, v]) bt (unhide hh) (unhide hrow) hg (by omega) hbb (Upd.of_below (by repeat (first | exact Below.refl _ _ | refine Below.alloc ?_ (by simp) _ | refine Below.drew ?_)) 0 0) rfl _ _ rfl (by simp) ?_; intro ad6 cp6 w6 hrow6 hh6 hkp6 hfr6; have c60 : w6.cell? ⟨g, 514, none⟩ = some v := OdAt.back (rest := [.int .u32 rng, .int .u32 low, v]) hh6 2 _ rfl; have f60 := hh6.2 514; replace hrow6 := hide hrow6; replace hkp6 := hide hkp6; replace hfr6 := hide hfr6; replace hh6 := hide (show OdAt w6 g s [.int .u32 rng, .int .u32 low, v] from hh6))
  all_goals
    have hh7 := hide (show OdAt (w6.setCell ⟨g, 514, none⟩ (.slice ad6 (xs.length + 1) cp6)) g s [.int .u32 rng, .int .u32 low, .slice ad6 (xs.length + 1) cp6] from (unhide hh6).setBack 2 (by simp) (.slice ad6 (xs.length + 1) cp6))
    have hrow7 := hide ((unhide hrow6).head (j := 514) (u := .slice ad6 (xs.length + 1) cp6) hg)
    have hkp7 := hide ((unhide hkp6).trans (unhide hfr6) (KpO.head g 514 _ (.slice ad6 (xs.length + 1) cp6) w6))
    clear hh6 hrow6 hkp6 c60 f60 q1 q2 hh hrow
    go_upto_region 1 with fail
    generalize w6.setCell ⟨g, 514, none⟩ (.slice ad6 (xs.length + 1) cp6) = w7 at hh7 hrow7 hkp7 ⊢
    have q1 : w7.cell? ⟨g, 513, none⟩ = some (.int .u32 low) := (unhide hh7).back 1 _ rfl
    have f1 := (unhide hh7).frozen 513
    have hh8 := hide (show OdAt (w7.setCell ⟨g, 513, none⟩ (.int .u32 nl)) g s [.int .u32 rng, .int .u32 nl, .slice ad6 (xs.length + 1) cp6] from (unhide hh7).setBack 1 (by simp) (.int .u32 nl))
    have hrow8 := hide ((unhide hrow7).head (j := 513) (u := .int .u32 nl) hg)
    have hkp8 := hide ((unhide hkp7).trans (unhide hfr6) (KpO.head g 513 _ (.int .u32 nl) w7))
    clear hh7 hrow7 hkp7
    replace hrow8 := hide (show TRow (w7.setCell ⟨g, 513, none⟩ (.int .u32 nl)) base (.slice ad6 (xs.length + 1) cp6) (xs ++ [bt]) from unhide hrow8)
    go_wp2
    go_end0
    exact ⟨rfl, .slice ad6 (xs.length + 1) cp6, ⟨unhide hh8, unhide hrow8⟩, unhide hkp8, unhide hfr6⟩
end Go.Proofs.Ytpofmcepjmbmcaa
