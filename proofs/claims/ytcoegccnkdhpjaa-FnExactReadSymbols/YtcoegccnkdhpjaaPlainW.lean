/- Plain: the words of a code by its lengths: counting on within a length, shifting at a longer one. -/
import Derived.Test.YtcoegccnkdhpjaaPlainH
namespace Go.Proofs.Ytcoegccnkdhpjaa
open Go.RowKit

def cntTo (zs : List Int) (l : Nat) : Nat → Nat
  | 0 => 0
  | k + 1 => cntTo zs l k + (if zs.getD k 0 = (l : Int) then 1 else 0)
/-- How many of the first k have the length l, 0 apart. -/
def cnt1 (zs : List Int) (l k : Nat) : Nat := if l = 0 then 0 else cntTo zs l k
def manyOf (zs : List Int) (l : Nat) : Nat := cnt1 zs l zs.length
def firstOf (zs : List Int) : Nat → Nat
  | 0 => 0
  | l + 1 => 2 * (firstOf zs l + manyOf zs l)
def startOf (zs : List Int) : Nat → Nat
  | 0 => 0
  | l + 1 => startOf zs l + manyOf zs l
def wordOf (zs : List Int) (j : Nat) : Int := if 0 < zs.getD j 0 then ((firstOf zs (zs.getD j 0).toNat + cnt1 zs (zs.getD j 0).toNat j : Nat) : Int) else 0
def wordsL (zs : List Int) : List Int := (List.range zs.length).map (wordOf zs)
open Classical in
noncomputable def wordsF (zs : List Int) : List Int := if kindF zs = 0 then [] else wordsL zs
theorem wordsF_no {zs : List Int} (h : kindF zs = 0) : wordsF zs = [] := by unfold wordsF; exact if_pos h
theorem wordsF_yes {zs : List Int} (h : kindF zs ≠ 0) : wordsF zs = wordsL zs := by unfold wordsF; exact if_neg h
@[simp] theorem wordsL_length (zs : List Int) : (wordsL zs).length = zs.length := by simp [wordsL]
theorem wordsF_len (zs : List Int) : (wordsF zs).length ≤ 1048576 := by
  by_cases h : kindF zs = 0
  · rw [wordsF_no h]; simp
  · rw [wordsF_yes h, wordsL_length]; have := (kindF_ne h).1.1; omega

theorem cntTo_le (zs : List Int) (l k : Nat) : cntTo zs l k ≤ k := by
  induction k with
  | zero => exact Nat.le_refl _
  | succ k ih => show cntTo zs l k + _ ≤ _; split <;> omega
theorem cnt1_le (zs : List Int) (l k : Nat) : cnt1 zs l k ≤ k := by
  unfold cnt1; split
  · omega
  · exact cntTo_le zs l k
theorem cnt1_zero (zs : List Int) (l : Nat) : cnt1 zs l 0 = 0 := by unfold cnt1; split <;> rfl
theorem cnt1_hit (zs : List Int) (k x : Nat) (hx : 0 < x) (h : zs.getD k 0 = (x : Int)) : cnt1 zs x (k + 1) = cnt1 zs x k + 1 := by
  unfold cnt1; rw [if_neg (by omega), if_neg (by omega)]; show cntTo zs x k + _ = _; rw [if_pos h]
theorem cnt1_miss (zs : List Int) (k l : Nat) (h : zs.getD k 0 ≠ (l : Int)) : cnt1 zs l (k + 1) = cnt1 zs l k := by
  unfold cnt1; split
  · rfl
  · show cntTo zs l k + _ = _; rw [if_neg h]; omega
theorem cntTo_mono (zs : List Int) (l : Nat) {j k : Nat} (h : j ≤ k) : cntTo zs l j ≤ cntTo zs l k := by
  induction k with
  | zero => rw [Nat.le_zero.1 h]; exact Nat.le_refl _
  | succ k ih =>
    rcases Nat.lt_or_eq_of_le h with h' | h'
    · have := ih (by omega); show _ ≤ cntTo zs l k + _; omega
    · subst h'; exact Nat.le_refl _
theorem cnt1_mono (zs : List Int) (l : Nat) {j k : Nat} (h : j ≤ k) : cnt1 zs l j ≤ cnt1 zs l k := by
  unfold cnt1; split
  · omega
  · exact cntTo_mono zs l h
theorem cnt1_lt_many (zs : List Int) (k x : Nat) (hx : 0 < x) (hk : k < zs.length) (h : zs.getD k 0 = (x : Int)) : cnt1 zs x k < manyOf zs x := by
  have h1 := cnt1_hit zs k x hx h
  have h2 := cnt1_mono zs x (show k + 1 ≤ zs.length by omega)
  unfold manyOf; omega
theorem manyOf_zero (zs : List Int) : manyOf zs 0 = 0 := rfl
theorem firstOf_bd (zs : List Int) (l : Nat) : firstOf zs l + manyOf zs l + zs.length ≤ zs.length * 2 ^ (l + 1) := by
  induction l with
  | zero => show 0 + 0 + _ ≤ _; omega
  | succ l ih =>
    have hm : manyOf zs (l + 1) ≤ zs.length := cnt1_le _ _ _
    show 2 * (firstOf zs l + manyOf zs l) + _ + _ ≤ _
    rw [Nat.pow_succ 2 (l + 1), ← Nat.mul_assoc]
    generalize zs.length * 2 ^ (l + 1) = q at ih ⊢
    omega
theorem firstOf_lt (zs : List Int) (l : Nat) (hn : zs.length ≤ 300) (hl : l ≤ 15) : firstOf zs l + manyOf zs l < 100000000 := by
  have h1 := firstOf_bd zs l
  have h2 : 2 ^ (l + 1) ≤ 2 ^ 16 := Nat.pow_le_pow_right (by omega) (by omega)
  have h3 := Nat.mul_le_mul hn h2
  omega
theorem startOf_mono (zs : List Int) {l m : Nat} (h : l ≤ m) : startOf zs l ≤ startOf zs m := by
  induction m with
  | zero => rw [Nat.le_zero.1 h]; exact Nat.le_refl _
  | succ m ih =>
    rcases Nat.lt_or_eq_of_le h with h' | h'
    · have := ih (by omega); show _ ≤ startOf zs m + _; omega
    · subst h'; exact Nat.le_refl _
theorem startOf_bd (zs : List Int) (l : Nat) : startOf zs l ≤ zs.length * l := by
  induction l with
  | zero => exact Nat.le_refl _
  | succ l ih => have : manyOf zs l ≤ zs.length := cnt1_le _ _ _; show startOf zs l + _ ≤ _; rw [Nat.mul_succ]; omega
theorem startOf_lt (zs : List Int) (l : Nat) (hn : zs.length ≤ 300) (hl : l ≤ 16) : startOf zs l ≤ 4800 := by
  have h1 := startOf_bd zs l
  have h3 := Nat.mul_le_mul hn hl
  omega

/-! ### The specification's way -/
def outAt (zs : List Int) (l i : Nat) : List Int := (List.range zs.length).map fun j => if 0 < zs.getD j 0 ∧ (zs.getD j 0 < (l : Int) ∨ (zs.getD j 0 = (l : Int) ∧ j < i)) then wordOf zs j else 0
@[simp] theorem outAt_length (zs : List Int) (l i : Nat) : (outAt zs l i).length = zs.length := by simp [outAt]
theorem outAt_start (zs : List Int) : outAt zs 1 0 = List.replicate zs.length 0 := by
  apply List.ext_getElem
  · simp
  · intro j h1 h2
    simp only [outAt, List.getElem_map, List.getElem_range, List.getElem_replicate]
    rw [if_neg]; omega
theorem outAt_next (zs : List Int) (l : Nat) : outAt zs l zs.length = outAt zs (l + 1) 0 := by
  apply List.ext_getElem
  · simp
  · intro j h1 h2
    have hj : j < zs.length := by simpa using h1
    simp only [outAt, List.getElem_map, List.getElem_range]
    by_cases h : 0 < zs.getD j 0 ∧ (zs.getD j 0 < (l : Int) ∨ (zs.getD j 0 = (l : Int) ∧ j < zs.length))
    · rw [if_pos h, if_pos (by omega)]
    · rw [if_neg h, if_neg (by omega)]
theorem outAt_miss (zs : List Int) (l i : Nat) (h : zs.getD i 0 ≠ (l : Int)) : outAt zs l (i + 1) = outAt zs l i := by
  apply List.ext_getElem
  · simp
  · intro j h1 h2
    simp only [outAt, List.getElem_map, List.getElem_range]
    by_cases e : j = i
    · subst e
      by_cases h' : 0 < zs.getD j 0 ∧ (zs.getD j 0 < (l : Int) ∨ (zs.getD j 0 = (l : Int) ∧ j < j))
      · rw [if_pos h', if_pos (by omega)]
      · rw [if_neg h', if_neg (by omega)]
    · by_cases h' : 0 < zs.getD j 0 ∧ (zs.getD j 0 < (l : Int) ∨ (zs.getD j 0 = (l : Int) ∧ j < i))
      · rw [if_pos h', if_pos (by omega)]
      · rw [if_neg h', if_neg (by omega)]
theorem outAt_hit (zs : List Int) (l i : Nat) (hl : 0 < l) (_hi : i < zs.length) (h : zs.getD i 0 = (l : Int)) : (outAt zs l i).set i (wordOf zs i) = outAt zs l (i + 1) := by
  apply List.ext_getElem
  · simp
  · intro j h1 h2
    rw [List.getElem_set]
    by_cases e : i = j
    · subst e
      rw [if_pos rfl]
      simp only [outAt, List.getElem_map, List.getElem_range]
      rw [if_pos (by omega)]
    · rw [if_neg e]
      simp only [outAt, List.getElem_map, List.getElem_range]
      by_cases h' : 0 < zs.getD j 0 ∧ (zs.getD j 0 < (l : Int) ∨ (zs.getD j 0 = (l : Int) ∧ j < i))
      · rw [if_pos h', if_pos (by omega)]
      · rw [if_neg h', if_neg (by omega)]
theorem outAt_end (zs : List Int) (h : goodL zs) : outAt zs 16 0 = wordsL zs := by
  apply List.ext_getElem
  · simp
  · intro j h1 h2
    have hj : j < zs.length := by simpa using h1
    have hb := h.2 j hj
    unfold okL at hb
    simp only [outAt, wordsL, List.getElem_map, List.getElem_range]
    by_cases h0 : 0 < zs.getD j 0
    · rw [if_pos (by omega)]
    · rw [if_neg (by omega)]; unfold wordOf; rw [if_neg h0]
/-- What the specification's last length and word tell. -/
def SpecW (zs : List Int) (l i : Nat) (last word : Nat) : Prop :=
  (last = 0 ∧ word = 0 ∧ firstOf zs l + cnt1 zs l i = 0) ∨ (0 < last ∧ last ≤ l ∧ (word + 1) * 2 ^ (l - last) = firstOf zs l + cnt1 zs l i)
theorem SpecW.start (zs : List Int) : SpecW zs 1 0 0 0 := .inl ⟨rfl, rfl, by rw [cnt1_zero]; rfl⟩
theorem SpecW.miss {zs : List Int} {l i last word : Nat} (h : SpecW zs l i last word) (hx : zs.getD i 0 ≠ (l : Int)) : SpecW zs l (i + 1) last word := by
  unfold SpecW; rw [cnt1_miss zs i l hx]; exact h
theorem SpecW.next {zs : List Int} {l last word : Nat} (h : SpecW zs l zs.length last word) : SpecW zs (l + 1) 0 last word := by
  have e : firstOf zs (l + 1) + cnt1 zs (l + 1) 0 = 2 * (firstOf zs l + cnt1 zs l zs.length) := by rw [cnt1_zero]; rfl
  rcases h with ⟨h1, h2, h3⟩ | ⟨h1, h2, h3⟩
  · exact .inl ⟨h1, h2, by rw [e, h3]⟩
  · refine .inr ⟨h1, by omega, ?_⟩
    rw [e, ← h3, show l + 1 - last = (l - last) + 1 by omega, Nat.pow_succ, Nat.mul_comm 2, Nat.mul_assoc]
theorem SpecW.hit0 {zs : List Int} {l i word : Nat} (hl : 0 < l) (h : SpecW zs l i 0 word) (hx : zs.getD i 0 = (l : Int)) : word = 0 ∧ wordOf zs i = 0 ∧ SpecW zs l (i + 1) l 0 := by
  rcases h with ⟨h1, h2, h3⟩ | ⟨h1, _⟩
  · refine ⟨h2, ?_, .inr ⟨hl, Nat.le_refl _, ?_⟩⟩
    · unfold wordOf; rw [if_pos (by omega), hx, Int.toNat_natCast, h3]; rfl
    · rw [cnt1_hit zs i l hl hx]; simp; omega
  · omega
theorem SpecW.hit1 {zs : List Int} {l i last word : Nat} (hl : 0 < l) (h : SpecW zs l i last word) (h0 : 0 < last) (hx : zs.getD i 0 = (l : Int)) :
    last ≤ l ∧ wordOf zs i = (((word + 1) * 2 ^ (l - last) : Nat) : Int) ∧ SpecW zs l (i + 1) l ((word + 1) * 2 ^ (l - last)) := by
  rcases h with ⟨h1, _⟩ | ⟨h1, h2, h3⟩
  · omega
  · refine ⟨h2, ?_, .inr ⟨hl, Nat.le_refl _, ?_⟩⟩
    · unfold wordOf; rw [if_pos (by omega), hx, Int.toNat_natCast, h3]
    · rw [cnt1_hit zs i l hl hx, h3]; simp; omega
theorem SpecW.last {zs : List Int} {l i last word : Nat} (h : SpecW zs l i last word) : last ≤ l := by
  rcases h with ⟨h1, _⟩ | ⟨_, h2, _⟩ <;> omega
theorem SpecW.bd {zs : List Int} {l i last word : Nat} (h : SpecW zs l i last word) (hn : zs.length ≤ 300) (hl : l ≤ 15) (hi : i ≤ zs.length) : word < 100000000 ∧ (0 < last → (word + 1) * 2 ^ (l - last) < 100000000) := by
  have h0 := firstOf_lt zs l hn hl
  have h4 := cnt1_mono zs l hi
  unfold manyOf at h0
  rcases h with ⟨h1, h2, h3⟩ | ⟨h1, h2, h3⟩
  · exact ⟨by omega, fun h => by omega⟩
  · have h5 : (word + 1) * 1 ≤ (word + 1) * 2 ^ (l - last) := Nat.mul_le_mul_left _ (Nat.pow_pos (by omega))
    exact ⟨by omega, fun _ => by omega⟩
end Go.Proofs.Ytcoegccnkdhpjaa
