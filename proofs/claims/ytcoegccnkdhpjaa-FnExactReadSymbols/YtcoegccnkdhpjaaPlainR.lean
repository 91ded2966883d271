/- Plain: a symbol is read bit by bit: which word it is, whether it may go on, and where canonical tables find it. -/
import Derived.Test.YtcoegccnkdhpjaaPlainW
import Derived.Test.YtcoegccnkdhpjaaPlainS
import Derived.Test.YtcoegccnkdhpjaaPlainT
namespace Go.Proofs.Ytcoegccnkdhpjaa
open Go.RowKit

def HitAt (zs : List Int) (w n j : Nat) : Prop := zs.getD j 0 = (n : Int) ∧ wordOf zs j = (w : Int)
def MoreAt (zs : List Int) (w n j : Nat) : Prop := (n : Int) < zs.getD j 0 ∧ wordOf zs j / 2 ^ ((zs.getD j 0).toNat - n) = (w : Int)
open Classical in
/-- The symbol whose word of n bits w is; -2: w may go on; -1: it begins no word. -/
noncomputable def findF (zs : List Int) (w n : Nat) : Int := if h : ∃ j, j < zs.length ∧ HitAt zs w n j then (Classical.choose h : Nat) else if ∃ j, j < zs.length ∧ MoreAt zs w n j then -2 else -1
noncomputable def rdF (zs d : List Int) (p : Nat) : Nat → Nat → Int × Nat
  | 0, n => (-1, p + n)
  | f + 1, n => if 8 * d.length ≤ p + n then (-2, p + n) else if findF zs (highTo d p (n + 1)) (n + 1) = -2 then rdF zs d p f (n + 1) else (findF zs (highTo d p (n + 1)) (n + 1), p + n + 1)
noncomputable def readOne (zs d : List Int) (p : Nat) : Int × Nat := rdF zs d p 15 0

theorem word_at {zs : List Int} {n j : Nat} (hn : 0 < n) (h : zs.getD j 0 = (n : Int)) : wordOf zs j = ((firstOf zs n + cnt1 zs n j : Nat) : Int) := by
  unfold wordOf; rw [if_pos (by omega), h, Int.toNat_natCast]
theorem cnt1_inj {zs : List Int} {n i j : Nat} (hn : 0 < n) (hi : zs.getD i 0 = (n : Int)) (hj : zs.getD j 0 = (n : Int)) (h : cnt1 zs n i = cnt1 zs n j) : i = j := by
  rcases Nat.lt_trichotomy i j with e | e | e
  · have := cnt1_hit zs i n hn hi
    have := cnt1_mono zs n (show i + 1 ≤ j by omega); omega
  · exact e
  · have := cnt1_hit zs j n hn hj
    have := cnt1_mono zs n (show j + 1 ≤ i by omega); omega
theorem hit_inj {zs : List Int} {w n i j : Nat} (hn : 0 < n) (hi : HitAt zs w n i) (hj : HitAt zs w n j) : i = j := by
  have h1 := word_at hn hi.1
  have h2 := word_at hn hj.1
  exact cnt1_inj hn hi.1 hj.1 (by have := hi.2; have := hj.2; omega)
theorem findF_hit {zs : List Int} {w n j : Nat} (hn : 0 < n) (hj : j < zs.length) (h : HitAt zs w n j) : findF zs w n = (j : Int) := by
  have hex : ∃ j, j < zs.length ∧ HitAt zs w n j := ⟨j, hj, h⟩
  unfold findF; rw [dif_pos hex]
  have := Classical.choose_spec hex
  rw [hit_inj hn this.2 h]
theorem findF_more {zs : List Int} {w n : Nat} (h0 : ∀ j, j < zs.length → ¬ HitAt zs w n j) (h : ∃ j, j < zs.length ∧ MoreAt zs w n j) : findF zs w n = -2 := by
  unfold findF; rw [dif_neg (fun ⟨j, a, b⟩ => h0 j a b), if_pos h]
theorem findF_none {zs : List Int} {w n : Nat} (h0 : ∀ j, j < zs.length → ¬ HitAt zs w n j) (h : ∀ j, j < zs.length → ¬ MoreAt zs w n j) : findF zs w n = -1 := by
  unfold findF; rw [dif_neg (fun ⟨j, a, b⟩ => h0 j a b), if_neg (fun ⟨j, a, b⟩ => h j a b)]

/-- A word's place among those of its length is some symbol's. -/
theorem cnt1_onto (zs : List Int) (n i : Nat) (hn : 0 < n) (k : Nat) (h : i < cnt1 zs n k) : ∃ j, j < k ∧ zs.getD j 0 = (n : Int) ∧ cnt1 zs n j = i := by
  induction k with
  | zero => rw [cnt1_zero] at h; omega
  | succ k ih =>
    by_cases hk : zs.getD k 0 = (n : Int)
    · rw [cnt1_hit zs k n hn hk] at h
      by_cases h' : i < cnt1 zs n k
      · obtain ⟨j, a, b⟩ := ih h'; exact ⟨j, by omega, b⟩
      · exact ⟨k, by omega, hk, by omega⟩
    · rw [cnt1_miss zs k n hk] at h
      obtain ⟨j, a, b⟩ := ih h; exact ⟨j, by omega, b⟩
def endOf (zs : List Int) (l : Nat) : Nat := firstOf zs l + manyOf zs l
theorem endOf_succ (zs : List Int) (l : Nat) : endOf zs (l + 1) = 2 * endOf zs l + manyOf zs (l + 1) := rfl
theorem first_succ (zs : List Int) (l : Nat) : firstOf zs (l + 1) = 2 * endOf zs l := rfl
theorem endOf_zero (zs : List Int) : endOf zs 0 = 0 := by unfold endOf firstOf manyOf cnt1; simp
theorem word_lt_end {zs : List Int} {n j : Nat} (hn : 0 < n) (hj : j < zs.length) (h : zs.getD j 0 = (n : Int)) : firstOf zs n + cnt1 zs n j < endOf zs n := by
  have := cnt1_lt_many zs j n hn hj h; unfold endOf; omega
theorem endOf_grow (zs : List Int) (l m : Nat) : endOf zs l * 2 ^ m ≤ endOf zs (l + m) := by
  induction m with
  | zero => simp
  | succ m ih =>
    rw [← Nat.add_assoc, endOf_succ, Nat.pow_succ, ← Nat.mul_assoc]; omega
theorem hit_of_word {zs : List Int} {n w : Nat} (hn : 0 < n) (h0 : firstOf zs n ≤ w) (h1 : w < endOf zs n) : ∃ j, j < zs.length ∧ HitAt zs w n j ∧ cnt1 zs n j = w - firstOf zs n := by
  obtain ⟨j, a, b, c⟩ := cnt1_onto zs n (w - firstOf zs n) hn zs.length (by unfold endOf manyOf at h1; omega)
  exact ⟨j, a, ⟨b, by rw [word_at hn b, c]; omega⟩, c⟩
theorem no_hit {zs : List Int} {n w : Nat} (hn : 0 < n) (h : endOf zs n ≤ w) : ∀ j, j < zs.length → ¬ HitAt zs w n j := fun j hj hh => by
  have h1 := word_lt_end hn hj hh.1
  have h2 := word_at hn hh.1
  have := hh.2; omega
theorem more_least {zs : List Int} {n w : Nat} (h0 : endOf zs n ≤ w) (m : Nat) (h : w * 2 ^ m < endOf zs (n + m)) : ∃ j, j < zs.length ∧ MoreAt zs w n j := by
  induction m with
  | zero => simp at h; omega
  | succ m ih =>
    by_cases h' : w * 2 ^ m < endOf zs (n + m)
    · exact ih h'
    · have hf : firstOf zs (n + (m + 1)) ≤ w * 2 ^ (m + 1) := by
        rw [← Nat.add_assoc, first_succ, Nat.pow_succ, ← Nat.mul_assoc]; omega
      obtain ⟨j, hj, hh, _⟩ := hit_of_word (by omega) hf h
      refine ⟨j, hj, by rw [hh.1]; omega, ?_⟩
      rw [hh.2, hh.1, Int.toNat_natCast, show n + (m + 1) - n = m + 1 by omega]
      have hp : 0 < 2 ^ (m + 1) := Nat.pow_pos (by omega)
      rw [show (((w * 2 ^ (m + 1) : Nat) : Int) / 2 ^ (m + 1)) = ((w * 2 ^ (m + 1) / 2 ^ (m + 1) : Nat) : Int) by simp, Nat.mul_div_cancel _ hp]
theorem more_bound {zs : List Int} {n w : Nat} (hn15 : n ≤ 15) (hg : goodL zs) (h : ∃ j, j < zs.length ∧ MoreAt zs w n j) : w * 2 ^ (15 - n) < endOf zs 15 := by
  obtain ⟨j, hj, h1, h2⟩ := h
  have hok := hg.2 j hj
  obtain ⟨l, hl⟩ := Int.eq_ofNat_of_zero_le hok.1
  have hl15 : l ≤ 15 := by have := hok.2; omega
  have hln : n < l := by omega
  have hw := word_at (by omega) hl
  have hlt := word_lt_end (by omega) hj hl
  rw [hl, Int.toNat_natCast, hw] at h2
  generalize firstOf zs l + cnt1 zs l j = x at h2 hlt
  have h3 : x / 2 ^ (l - n) = w := by
    have : (((x / 2 ^ (l - n) : Nat)) : Int) = (w : Int) := by rw [← h2]; simp
    exact_mod_cast this
  have h4 : w * 2 ^ (l - n) ≤ x := by rw [← h3]; exact Nat.div_mul_le_self _ _
  have h5 := endOf_grow zs l (15 - l)
  rw [show l + (15 - l) = 15 by omega] at h5
  have h6 : w * 2 ^ (15 - n) = w * 2 ^ (l - n) * 2 ^ (15 - l) := by
    rw [Nat.mul_assoc, ← Nat.pow_add, show l - n + (15 - l) = 15 - n by omega]
  have hp : 0 < 2 ^ (15 - l) := Nat.pow_pos (by omega)
  have h7 : w * 2 ^ (l - n) * 2 ^ (15 - l) < endOf zs l * 2 ^ (15 - l) := Nat.mul_lt_mul_of_pos_right (by omega) hp
  omega
theorem findF_go {zs : List Int} {n w : Nat} (hn : 0 < n) (hn15 : n ≤ 15) (h0 : endOf zs n ≤ w) (h1 : w * 2 ^ (15 - n) < endOf zs 15) : findF zs w n = -2 :=
  findF_more (no_hit hn h0) (more_least h0 (15 - n) (by rw [show n + (15 - n) = 15 by omega]; exact h1))
theorem findF_end {zs : List Int} {n w : Nat} (hg : goodL zs) (hn : 0 < n) (hn15 : n ≤ 15) (h0 : endOf zs n ≤ w) (h1 : endOf zs 15 ≤ w * 2 ^ (15 - n)) : findF zs w n = -1 :=
  findF_none (no_hit hn h0) (fun j hj h => by have := more_bound hn15 hg ⟨j, hj, h⟩; omega)
theorem findF_table {zs ys : List Int} {n w : Nat} (hs : SymTo zs ys zs.length) (hn : 0 < n) (h0 : firstOf zs n ≤ w) (h1 : w < endOf zs n) : findF zs w n = ys.getD (startOf zs n + (w - firstOf zs n)) 0 ∧ 0 ≤ findF zs w n := by
  obtain ⟨j, hj, hh, hc⟩ := hit_of_word hn h0 h1
  have hf := findF_hit hn hj hh
  have hp := hs j hj (by rw [hh.1]; omega)
  unfold posOf lenAt at hp
  rw [hh.1, Int.toNat_natCast, hc] at hp
  exact ⟨by rw [hf, hp], by rw [hf]; omega⟩
theorem table_lt {zs : List Int} {n w : Nat} (h0 : firstOf zs n ≤ w) (h1 : w < endOf zs n) (hn15 : n ≤ 15) : startOf zs n + (w - firstOf zs n) < startOf zs 16 := by
  have h2 : startOf zs (n + 1) = startOf zs n + manyOf zs n := rfl
  have h3 := startOf_mono zs (show n + 1 ≤ 16 by omega)
  unfold endOf at h1; omega

theorem findF_le {zs : List Int} (hn : zs.length ≤ 300) (w n : Nat) : -2 ≤ findF zs w n ∧ findF zs w n < 300 := by
  unfold findF
  split
  · rename_i h
    have := (Classical.choose_spec h).1; omega
  · split <;> omega
theorem rdF_bd {zs : List Int} (hn : zs.length ≤ 300) (d : List Int) (p f n : Nat) : -2 ≤ (rdF zs d p f n).1 ∧ (rdF zs d p f n).1 < 300 := by
  induction f generalizing n with
  | zero => unfold rdF; simp
  | succ f ih =>
    unfold rdF; split
    · simp
    · split
      · exact ih _
      · exact findF_le hn _ _
theorem rdF_short {zs d : List Int} {p f n : Nat} (h : 8 * d.length ≤ p + n) : rdF zs d p (f + 1) n = (-2, p + n) := by rw [rdF, if_pos h]
theorem rdF_go {zs d : List Int} {p f n : Nat} (h : p + n < 8 * d.length) (h2 : findF zs (highTo d p (n + 1)) (n + 1) = -2) : rdF zs d p (f + 1) n = rdF zs d p f (n + 1) := by
  rw [rdF, if_neg (by omega), if_pos h2]
theorem rdF_end {zs d : List Int} {p f n : Nat} (h : p + n < 8 * d.length) (h2 : findF zs (highTo d p (n + 1)) (n + 1) ≠ -2) : rdF zs d p (f + 1) n = (findF zs (highTo d p (n + 1)) (n + 1), p + n + 1) := by
  rw [rdF, if_neg (by omega), if_neg h2]

/-! ### Many of them -/
noncomputable def rdTo (zs d : List Int) (p : Nat) : Nat → Int × List Int × Nat
  | 0 => (0, [], p)
  | k + 1 => if (rdTo zs d p k).1 ≠ 0 then rdTo zs d p k else if (readOne zs d (rdTo zs d p k).2.2).1 = -2 then (2, [], 0) else if (readOne zs d (rdTo zs d p k).2.2).1 = -1 then (4, [], 0)
    else (0, (rdTo zs d p k).2.1 ++ [(readOne zs d (rdTo zs d p k).2.2).1], (readOne zs d (rdTo zs d p k).2.2).2)
theorem rdTo_err {zs d : List Int} {p k m : Nat} (h : k ≤ m) (he : (rdTo zs d p k).1 ≠ 0) : rdTo zs d p m = rdTo zs d p k := by
  induction m with
  | zero => rw [show k = 0 by omega]
  | succ m ih =>
    rcases Nat.lt_or_eq_of_le h with h' | h'
    · have := ih (by omega)
      rw [rdTo, if_pos (by rw [this]; exact he), this]
    · rw [h']
open Classical in
/-- What ReadSymbols answers: an error, the symbols, the bit that is next. -/
noncomputable def readF (zs d : List Int) (at' many : Int) : Int × List Int × Nat := if kindF zs = 0 ∨ at' < 0 ∨ many < 0 ∨ 20000 < many then (1, [], 0) else rdTo zs d at'.toNat many.toNat
end Go.Proofs.Ytcoegccnkdhpjaa
