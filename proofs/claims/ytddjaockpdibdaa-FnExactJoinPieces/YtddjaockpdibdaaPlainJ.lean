/- Plain: the bytes that pieces make, and which error ends it. -/
import Derived.Test.YtddjaockpdibdaaWPc
namespace Go.Proofs.Ytddjaockpdibdaa
open Go.RowKit

def litP (p : Pc) : Prop := p.2.1 = 0 ∧ p.2.2 = 0 ∧ 0 ≤ p.1 ∧ p.1 ≤ 255
def copP (p : Pc) : Prop := p.1 = 0 ∧ 3 ≤ p.2.1 ∧ p.2.1 ≤ 258 ∧ 1 ≤ p.2.2 ∧ p.2.2 ≤ 32768
instance (p : Pc) : Decidable (litP p) := by unfold litP; infer_instance
instance (p : Pc) : Decidable (copP p) := by unfold copP; infer_instance
/-- n bytes more, each the one that stands so many back. -/
def copyN (back : Nat) : Nat → List Int → List Int
  | 0, l => l
  | n + 1, l => copyN back n l ++ [(copyN back n l).getD ((copyN back n l).length - back) 0]
@[simp] theorem copyN_length (back n : Nat) (l : List Int) : (copyN back n l).length = l.length + n := by
  induction n with
  | zero => rfl
  | succ n ih => show (copyN back n l ++ _).length = _; simp [ih]; omega
theorem copyN_succ (back n : Nat) (l : List Int) : copyN back (n + 1) l = copyN back n l ++ [(copyN back n l).getD (l.length + n - back) 0] := by
  show copyN back n l ++ _ = _; rw [copyN_length]
def joinStep (l : List Int) (p : Pc) : Int × List Int :=
  if litP p then (if 40000 ≤ l.length then (7, []) else (0, l ++ [p.1]))
  else if copP p then (if (l.length : Int) < p.2.2 then (5, []) else if 40000 < l.length + p.2.1.toNat then (7, []) else (0, copyN p.2.2.toNat p.2.1.toNat l))
  else (1, [])
def joinTo (ps : List Pc) : Nat → Int × List Int
  | 0 => (0, [])
  | k + 1 => if (joinTo ps k).1 ≠ 0 then joinTo ps k else joinStep (joinTo ps k).2 (ps.getD k pc0)
theorem joinTo_err {ps : List Pc} {k m : Nat} (h : k ≤ m) (he : (joinTo ps k).1 ≠ 0) : joinTo ps m = joinTo ps k := by
  induction m with
  | zero => rw [show k = 0 by omega]
  | succ m ih =>
    rcases Nat.lt_or_eq_of_le h with h' | h'
    · have := ih (by omega)
      rw [joinTo, if_pos (by rw [this]; exact he), this]
    · rw [h']
theorem joinTo_next {ps : List Pc} {k : Nat} {l : List Int} (h : joinTo ps k = (0, l)) : joinTo ps (k + 1) = joinStep l (ps.getD k pc0) := by
  rw [joinTo, h]; simp
def joinF (ps : List Pc) : Int × List Int × Nat := if 40000 < ps.length then (7, [], 0) else ((joinTo ps ps.length).1, (joinTo ps ps.length).2, 0)
theorem joinF_stop {ps : List Pc} {k : Nat} {l : List Int} {x : Int} (hn : ps.length ≤ 40000) (hk : k < ps.length) (h : joinTo ps k = (0, l)) (hs : joinStep l (ps.getD k pc0) = (x, [])) (hx : x ≠ 0) : joinF ps = (x, [], 0) := by
  have h1 : joinTo ps (k + 1) = (x, []) := by rw [joinTo_next h, hs]
  have h2 := joinTo_err (show k + 1 ≤ ps.length by omega) (by rw [h1]; exact hx)
  unfold joinF; rw [if_neg (by omega), h2, h1]
theorem joinF_all {ps : List Pc} {l : List Int} (hn : ps.length ≤ 40000) (h : joinTo ps ps.length = (0, l)) : joinF ps = (0, l, 0) := by
  unfold joinF; rw [if_neg (by omega), h]
theorem joinF_many {ps : List Pc} (h : 40000 < ps.length) : joinF ps = (7, [], 0) := by unfold joinF; rw [if_pos h]
theorem joinStep_bad {l : List Int} {p : Pc} (h1 : ¬ litP p) (h2 : ¬ copP p) : joinStep l p = (1, []) := by unfold joinStep; rw [if_neg h1, if_neg h2]
theorem joinStep_lit_many {l : List Int} {p : Pc} (h1 : litP p) (h : 40000 ≤ l.length) : joinStep l p = (7, []) := by unfold joinStep; rw [if_pos h1, if_pos h]
theorem joinStep_lit {l : List Int} {p : Pc} (h1 : litP p) (h : l.length < 40000) : joinStep l p = (0, l ++ [p.1]) := by unfold joinStep; rw [if_pos h1, if_neg (by omega)]
theorem litP_not_cop {p : Pc} (h : copP p) : ¬ litP p := fun h' => by have := h.2.1; have := h'.1; omega
theorem joinStep_range {l : List Int} {p : Pc} (h1 : copP p) (h : (l.length : Int) < p.2.2) : joinStep l p = (5, []) := by unfold joinStep; rw [if_neg (litP_not_cop h1), if_pos h1, if_pos h]
theorem joinStep_many {l : List Int} {p : Pc} (h1 : copP p) (h : ¬ (l.length : Int) < p.2.2) (h2 : 40000 < l.length + p.2.1.toNat) : joinStep l p = (7, []) := by unfold joinStep; rw [if_neg (litP_not_cop h1), if_pos h1, if_neg h, if_pos h2]
theorem joinStep_copy {l : List Int} {p : Pc} (h1 : copP p) (h : ¬ (l.length : Int) < p.2.2) (h2 : l.length + p.2.1.toNat ≤ 40000) : joinStep l p = (0, copyN p.2.2.toNat p.2.1.toNat l) := by unfold joinStep; rw [if_neg (litP_not_cop h1), if_pos h1, if_neg h, if_neg (by omega)]
theorem inB_snoc {l : List Int} {x : Int} (h : InB l) (h0 : 0 ≤ x) (h1 : x < 256) : InB (l ++ [x]) := by
  intro j
  rw [List.getD_eq_getElem?_getD, List.getElem?_append]
  split
  · have := h j; rwa [List.getD_eq_getElem?_getD] at this
  · by_cases e : j - l.length = 0
    · rw [e]; exact ⟨by simpa using h0, by simpa using h1⟩
    · rw [List.getElem?_eq_none (by simp; omega)]; simp
theorem inB_copyN {back n : Nat} {l : List Int} (h : InB l) : InB (copyN back n l) := by
  induction n with
  | zero => exact h
  | succ n ih => rw [copyN_succ]; exact inB_snoc ih (ih _).1 (ih _).2
theorem joinStep_bd {l : List Int} {p : Pc} (h : l.length ≤ 40000) : (joinStep l p).2.length ≤ 40000 := by
  unfold joinStep
  split
  · split
    · simp
    · simp; omega
  · split
    · split
      · simp
      · split
        · simp
        · simp; omega
    · simp
theorem joinTo_bd (ps : List Pc) (k : Nat) : (joinTo ps k).2.length ≤ 40000 := by
  induction k with
  | zero => simp [joinTo]
  | succ k ih => rw [joinTo]; split; exact ih; exact joinStep_bd ih
theorem joinF_len (ps : List Pc) : (joinF ps).2.1.length ≤ 1048576 := by
  unfold joinF; split
  · simp
  · have := joinTo_bd ps ps.length; simp only; omega
end Go.Proofs.Ytddjaockpdibdaa
