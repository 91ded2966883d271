/- Plain: where in a code's table each symbol stands. -/
import Derived.Test.YtcoegccnkdhpjaaPlainW
namespace Go.Proofs.Ytcoegccnkdhpjaa
open Go.RowKit

def lenAt (zs : List Int) (j : Nat) : Nat := (zs.getD j 0).toNat
def posOf (zs : List Int) (j : Nat) : Nat := startOf zs (lenAt zs j) + cnt1 zs (lenAt zs j) j
/-- The first k symbols that have a length stand at their places. -/
def SymTo (zs ys : List Int) (k : Nat) : Prop := ∀ j, j < k → 0 < zs.getD j 0 → ys.getD (posOf zs j) 0 = (j : Int)
theorem pos_lt (zs : List Int) (j : Nat) (hj : j < zs.length) (h0 : 0 < zs.getD j 0) : posOf zs j < startOf zs (lenAt zs j + 1) := by
  have h := cnt1_lt_many zs j (lenAt zs j) (by unfold lenAt; omega) hj (by unfold lenAt; omega)
  show startOf zs _ + _ < startOf zs _ + _; omega
theorem pos_lt_all (zs : List Int) (j : Nat) (hj : j < zs.length) (h0 : 0 < zs.getD j 0) (h1 : zs.getD j 0 ≤ 15) : posOf zs j < startOf zs 16 :=
  Nat.lt_of_lt_of_le (pos_lt zs j hj h0) (startOf_mono zs (by unfold lenAt; omega))
theorem pos_ne (zs : List Int) (j k : Nat) (hjk : j < k) (hk : k < zs.length) (hj0 : 0 < zs.getD j 0) (hk0 : 0 < zs.getD k 0) : posOf zs j ≠ posOf zs k := by
  have h1 := pos_lt zs j (by omega) hj0
  have h2 := pos_lt zs k hk hk0
  rcases Nat.lt_trichotomy (lenAt zs j) (lenAt zs k) with h | h | h
  · have := startOf_mono zs (show lenAt zs j + 1 ≤ lenAt zs k by omega)
    have h3 : startOf zs (lenAt zs k) ≤ posOf zs k := Nat.le_add_right _ _
    omega
  · have e1 := cnt1_hit zs j (lenAt zs j) (by unfold lenAt; omega) (by unfold lenAt; omega)
    have e2 := cnt1_mono zs (lenAt zs j) (show j + 1 ≤ k by omega)
    unfold posOf; rw [← h]; omega
  · have := startOf_mono zs (show lenAt zs k + 1 ≤ lenAt zs j by omega)
    have h3 : startOf zs (lenAt zs j) ≤ posOf zs j := Nat.le_add_right _ _
    omega
theorem SymTo.zero (zs ys : List Int) : SymTo zs ys 0 := fun j hj => by omega
theorem SymTo.miss {zs ys : List Int} {k : Nat} (h : SymTo zs ys k) (hk : ¬ 0 < zs.getD k 0) : SymTo zs ys (k + 1) := by
  intro j hj h0
  rcases Nat.lt_or_eq_of_le (Nat.le_of_lt_succ hj) with h' | h'
  · exact h j h' h0
  · subst h'; exact absurd h0 hk
theorem SymTo.hit {zs ys : List Int} {k : Nat} (h : SymTo zs ys k) (hk : k < zs.length) (hk0 : 0 < zs.getD k 0) (hp : posOf zs k < ys.length) : SymTo zs (ys.set (posOf zs k) (k : Int)) (k + 1) := by
  intro j hj h0
  rw [List.getD_eq_getElem?_getD, List.getElem?_set]
  rcases Nat.lt_or_eq_of_le (Nat.le_of_lt_succ hj) with h' | h'
  · rw [if_neg (fun e => pos_ne zs j k h' hk h0 hk0 e.symm)]
    have := h j h' h0
    rwa [List.getD_eq_getElem?_getD] at this
  · subst h'; rw [if_pos rfl, if_pos hp]; rfl
end Go.Proofs.Ytcoegccnkdhpjaa
