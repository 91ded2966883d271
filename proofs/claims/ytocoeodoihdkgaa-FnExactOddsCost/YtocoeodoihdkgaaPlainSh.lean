/- Plain: a plane made smaller. -/
import Derived.Test.YtocoeodoihdkgaaPlainPl
namespace Go.Proofs.Ytocoeodoihdkgaa
open Go.RowKit

/-- The first n samples from x on in row j. -/
def rowSum (zs : List Int) (W j x : Nat) : Nat → Int
  | 0 => 0
  | n + 1 => rowSum zs W j x n + zs.getD (j * W + (x + n)) 0
/-- .. of the first m rows from y on. -/
def boxSum (zs : List Int) (W x nx y : Nat) : Nat → Int
  | 0 => 0
  | m + 1 => boxSum zs W x nx y m + rowSum zs W (y + m) x nx
def manyF (W by_ x : Nat) : Nat := min (x + by_) W - x
def meanF (zs : List Int) (W H by_ x y : Nat) : Int :=
  (boxSum zs W x (manyF W by_ x) y (manyF H by_ y) + ((manyF W by_ x * manyF H by_ y / 2 : Nat) : Int)) / ((manyF W by_ x * manyF H by_ y : Nat) : Int)
def stepsF (n by_ : Nat) : Nat := (n + by_ - 1) / by_
def shrinkL (zs : List Int) (W H by_ : Nat) (k : Nat) : List Int := (List.range k).map fun i => meanF zs W H by_ (i % stepsF W by_ * by_) (i / stepsF W by_ * by_)
theorem shrinkL_zero (zs : List Int) (W H b : Nat) : shrinkL zs W H b 0 = [] := rfl
theorem shrinkL_succ (zs : List Int) (W H b k : Nat) : shrinkL zs W H b (k + 1) = shrinkL zs W H b k ++ [meanF zs W H b (k % stepsF W b * b) (k / stepsF W b * b)] := by
  unfold shrinkL; rw [List.range_succ, List.map_append]; rfl
@[simp] theorem shrinkL_length (zs : List Int) (W H b k : Nat) : (shrinkL zs W H b k).length = k := by simp [shrinkL]
theorem smp_bd {zs : List Int} (h : SmpOk zs 8) (k : Nat) : 0 ≤ zs.getD k 0 ∧ zs.getD k 0 ≤ 255 := by
  by_cases hk : k < zs.length
  · have h1 := h k hk
    have h2 : zs.getD k 0 < 2 ^ 8 := h1.2
    exact ⟨h1.1, by omega⟩
  · rw [List.getD_eq_getElem?_getD, List.getElem?_eq_none (by omega)]; simp
theorem rowSum_bd {zs : List Int} (h : SmpOk zs 8) (W j x n : Nat) : 0 ≤ rowSum zs W j x n ∧ rowSum zs W j x n ≤ 255 * n := by
  induction n with
  | zero => unfold rowSum; omega
  | succ n ih => have := smp_bd h (j * W + (x + n)); unfold rowSum; omega
theorem boxSum_bd {zs : List Int} (h : SmpOk zs 8) (W x nx y m : Nat) (hx : nx ≤ 4) : 0 ≤ boxSum zs W x nx y m ∧ boxSum zs W x nx y m ≤ 1020 * m := by
  induction m with
  | zero => unfold boxSum; omega
  | succ m ih => have := rowSum_bd h W (y + m) x nx; unfold boxSum; omega
theorem manyF_bd {W b x : Nat} (hx : x < W) (hb : 1 ≤ b) : 1 ≤ manyF W b x ∧ manyF W b x ≤ b ∧ x + manyF W b x ≤ W ∧ x + manyF W b x = min (x + b) W := by unfold manyF; omega
theorem stepsF_lt {W b i : Nat} (hb : b = 2 ∨ b = 4) (hi : i < stepsF W b) : i * b < W := by
  unfold stepsF at hi
  rcases hb with rfl | rfl <;> omega
theorem stepsF_bd {W b : Nat} (hb : b = 2 ∨ b = 4) (hW : 1 ≤ W) : 1 ≤ stepsF W b ∧ stepsF W b ≤ W := by
  unfold stepsF
  rcases hb with rfl | rfl <;> omega
/-- What Shrink answers. -/
noncomputable def shrinkF (d : Pl) (b : Int) : Pl :=
  open Classical in if GoodPl d ∧ (b = 2 ∨ b = 4) then (((stepsF d.1.toNat b.toNat : Nat) : Int), ((stepsF d.2.1.toNat b.toNat : Nat) : Int), shrinkL d.2.2 d.1.toNat d.2.1.toNat b.toNat (stepsF d.1.toNat b.toNat * stepsF d.2.1.toNat b.toNat)) else (0, 0, [])
theorem shrinkF_yes {d : Pl} {b : Int} (h : GoodPl d) (hb : b = 2 ∨ b = 4) : shrinkF d b = (((stepsF d.1.toNat b.toNat : Nat) : Int), ((stepsF d.2.1.toNat b.toNat : Nat) : Int), shrinkL d.2.2 d.1.toNat d.2.1.toNat b.toNat (stepsF d.1.toNat b.toNat * stepsF d.2.1.toNat b.toNat)) := by
  unfold shrinkF; rw [if_pos ⟨h, hb⟩]
theorem shrinkF_no {d : Pl} {b : Int} (h : ¬ (GoodPl d ∧ (b = 2 ∨ b = 4))) : shrinkF d b = (0, 0, []) := by
  unfold shrinkF; rw [if_neg h]
theorem shrinkF_len (d : Pl) (b : Int) : (shrinkF d b).2.2.length ≤ 1048576 := by
  by_cases h : GoodPl d ∧ (b = 2 ∨ b = 4)
  · rw [shrinkF_yes h.1 h.2]
    simp only [shrinkL_length]
    obtain ⟨⟨h1, h2, _⟩, _⟩ := h.1
    obtain ⟨b, rfl⟩ := Int.eq_ofNat_of_zero_le (show 0 ≤ b by omega)
    have hb : b = 2 ∨ b = 4 := by omega
    have e1 := (stepsF_bd (W := d.1.toNat) hb (by omega)).2
    have e2 := (stepsF_bd (W := d.2.1.toNat) hb (by omega)).2
    rw [Int.toNat_natCast]
    exact Nat.le_trans (Nat.mul_le_mul (Nat.le_trans e1 (show d.1.toNat ≤ 512 by omega)) (Nat.le_trans e2 (show d.2.1.toNat ≤ 512 by omega))) (by omega)
  · rw [shrinkF_no h]; simp
end Go.Proofs.Ytocoeodoihdkgaa
