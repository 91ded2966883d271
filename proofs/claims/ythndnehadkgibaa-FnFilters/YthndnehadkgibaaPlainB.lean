/- Plain: the kind of filter whose bytes have the least sum. -/
import Derived.Test.YthndnehadkgibaaPlainF
namespace Go.Proofs.Ythndnehadkgibaa
open Go.RowKit

def upw (x : Int) : Int := if 127 < x then 256 - x else x
def sumTo (zs : List Int) : Nat → Int
  | 0 => 0
  | k + 1 => sumTo zs k + upw (zs.getD k 0)
def sumF (zs : List Int) : Int := sumTo zs zs.length
theorem sumTo_bd {zs : List Int} (h : InB zs) (k : Nat) : 0 ≤ sumTo zs k ∧ sumTo zs k ≤ 256 * k := by
  induction k with
  | zero => exact ⟨Int.le_refl _, by simp [sumTo]⟩
  | succ k ih =>
    have := h k
    have hu : 0 ≤ upw (zs.getD k 0) ∧ upw (zs.getD k 0) ≤ 256 := by unfold upw; split <;> omega
    rw [sumTo]; omega
theorem sumF_bd {zs : List Int} (h : InB zs) (hn : zs.length ≤ 1048576) : 0 ≤ sumF zs ∧ sumF zs ≤ 268435456 := by
  have := sumTo_bd h zs.length; unfold sumF; omega
def bestStep (p : Int × Int) (kind s : Int) : Int × Int := if p.2 < 0 ∨ s < p.2 then (kind, s) else p
def kindSum (step : Int) (ab row : List Int) (k : Nat) : Int := sumF (filtF (k : Int) step ab row)
def bestTo (step : Int) (ab row : List Int) : Nat → Int × Int
  | 0 => (0, -1)
  | k + 1 => bestStep (bestTo step ab row k) k (kindSum step ab row k)
theorem kindSum_bd (step : Int) (ab row : List Int) (k : Nat) : 0 ≤ kindSum step ab row k ∧ kindSum step ab row k ≤ 268435456 := sumF_bd (filtF_inB _ _ _ _) (filtF_len _ _ _ _)
theorem bestTo_bd (step : Int) (ab row : List Int) (k : Nat) : (0 ≤ (bestTo step ab row k).1 ∧ (bestTo step ab row k).1 ≤ 1000 + k) ∧ -1 ≤ (bestTo step ab row k).2 ∧ (bestTo step ab row k).2 ≤ 268435456 ∧ (0 < k → 0 ≤ (bestTo step ab row k).2) := by
  induction k with
  | zero => simp [bestTo]
  | succ k ih =>
    have := kindSum_bd step ab row k
    rw [bestTo]
    unfold bestStep
    split
    · simp only; omega
    · rename_i h
      refine ⟨⟨ih.1.1, by omega⟩, ih.2.1, ih.2.2.1, fun _ => by omega⟩
def bestF (step : Int) (ab row : List Int) : Int := if filtOk 0 step ab row then (bestTo step ab row 5).1 else -1
theorem bestF_yes {step : Int} {ab row : List Int} (h : filtOk 0 step ab row) : bestF step ab row = (bestTo step ab row 5).1 := if_pos h
theorem bestF_no {step : Int} {ab row : List Int} (h : ¬ filtOk 0 step ab row) : bestF step ab row = -1 := if_neg h
/-- As the program has it. -/
def bestP (step : Int) (ab row : List Int) (k : Nat) : Int × Int := if k = 0 then (0, 0) else bestTo step ab row k
theorem bestP_succ (step : Int) (ab row : List Int) (k : Nat) : bestP step ab row (k + 1) = if k = 0 ∨ kindSum step ab row k < (bestP step ab row k).2 then ((k : Int), kindSum step ab row k) else bestP step ab row k := by
  unfold bestP
  rw [if_neg (by omega)]
  by_cases h : k = 0
  · subst h; rw [if_pos (.inl rfl)]; rfl
  · rw [if_neg h, bestTo]
    unfold bestStep
    have := (bestTo_bd step ab row k).2.2.2 (by omega)
    by_cases h2 : kindSum step ab row k < (bestTo step ab row k).2
    · rw [if_pos (.inr h2), if_pos (.inr h2)]
    · rw [if_neg (by omega), if_neg (by omega)]
end Go.Proofs.Ythndnehadkgibaa
