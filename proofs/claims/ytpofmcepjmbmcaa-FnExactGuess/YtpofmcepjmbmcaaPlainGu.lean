/- Plain: guesses of a square by what is around it. -/
import Derived.Test.YtpofmcepjmbmcaaPlainAp
import Derived.Test.YtpofmcepjmbmcaaPlainTr
namespace Go.Proofs.Ytpofmcepjmbmcaa
open Go.RowKit

def sumTo (xs : List Int) : Nat → Int
  | 0 => 0
  | k + 1 => sumTo xs k + xs.getD k 0
theorem sumTo_bd {xs : List Int} (h : InR 0 255 xs) (k : Nat) (hk : k ≤ xs.length) : 0 ≤ sumTo xs k ∧ sumTo xs k ≤ 255 * k := by
  induction k with
  | zero => exact ⟨Int.le_refl _, by simp [sumTo]⟩
  | succ k ih =>
    have h1 := ih (by omega)
    have h2 := h k (by omega)
    unfold sumTo
    omega
def guMean (xs ys : List Int) : Int := if xs.length + ys.length = 0 then 128 else (sumTo xs xs.length + sumTo ys ys.length + ((xs.length + ys.length) / 2 : Nat)) / ((xs.length + ys.length : Nat) : Int)
def guCell (mode : Int) (S : Nat) (xs ys : List Int) (corner : Int) (i : Nat) : Int :=
  if mode = 0 then guMean xs ys else if mode = 1 then xs.getD (i / S) 0 else if mode = 2 then ys.getD (i % S) 0 else clipF (xs.getD (i / S) 0 + ys.getD (i % S) 0 - corner)
/-- The square is told by its places. -/
def guL (mode : Int) (S : Nat) (xs ys : List Int) (corner : Int) : List Int := (List.range (S * S)).map (guCell mode S xs ys corner)
@[simp] theorem guL_length (mode : Int) (S : Nat) (xs ys : List Int) (corner : Int) : (guL mode S xs ys corner).length = S * S := by simp [guL]
/-- What is around is as it must be. -/
def GuOk (S : Nat) (xs ys : List Int) (corner : Int) : Prop := (S = 4 ∨ S = 8) ∧ (xs.length = 0 ∨ xs.length = S) ∧ (ys.length = 0 ∨ ys.length = S) ∧ InR 0 255 xs ∧ InR 0 255 ys ∧ (0 ≤ corner ∧ corner ≤ 255)
/-- A mode lacks what it needs. -/
def guLack (mode : Int) (xs ys : List Int) : Prop := ((mode = 1 ∨ mode = 3) ∧ xs.length = 0) ∨ ((mode = 2 ∨ mode = 3) ∧ ys.length = 0)
theorem guMean_bd {S : Nat} {xs ys : List Int} {corner : Int} (h : GuOk S xs ys corner) : 0 ≤ guMean xs ys ∧ guMean xs ys ≤ 255 := by
  obtain ⟨hS, h1, h2, h3, h4, _⟩ := h
  have b1 := sumTo_bd h3 xs.length (Nat.le_refl _)
  have b2 := sumTo_bd h4 ys.length (Nat.le_refl _)
  unfold guMean
  split
  · omega
  · rename_i hn
    generalize sumTo xs xs.length = A at *
    generalize sumTo ys ys.length = B at *
    refine ⟨Int.ediv_nonneg (by omega) (by omega), ?_⟩
    have hlt : A + B + ((xs.length + ys.length) / 2 : Nat) < 256 * ((xs.length + ys.length : Nat) : Int) := by omega
    have := Int.ediv_lt_of_lt_mul (show (0 : Int) < ((xs.length + ys.length : Nat) : Int) by omega) hlt
    omega
def guLackB (mode : Int) (xs ys : List Int) : Bool := ((decide (mode = 1) || decide (mode = 3)) && decide (xs.length = 0)) || ((decide (mode = 2) || decide (mode = 3)) && decide (ys.length = 0))
theorem guLackB_iff {mode : Int} {xs ys : List Int} : guLackB mode xs ys = true ↔ guLack mode xs ys := by unfold guLackB guLack; simp
def guB (mode size : Int) (xs ys : List Int) (corner : Int) : Bool :=
  decide (0 ≤ mode ∧ mode ≤ 3) && decide (size = 4 ∨ size = 8) && decide (0 ≤ corner ∧ corner ≤ 255) && (decide (xs.length = 0) || (inRB 0 255 xs && decide ((xs.length : Int) = size))) && (decide (ys.length = 0) || (inRB 0 255 ys && decide ((ys.length : Int) = size))) && !guLackB mode xs ys
def guF (mode size : Int) (xs ys : List Int) (corner : Int) : List Int := if guB mode size xs ys corner = true then guL mode size.toNat xs ys corner else []
theorem guF_len (mode size : Int) (xs ys : List Int) (corner : Int) : (guF mode size xs ys corner).length ≤ 1048576 := by
  unfold guF
  split
  · rename_i h
    rw [guL_length]
    unfold guB at h
    simp only [Bool.and_eq_true, decide_eq_true_eq] at h
    rcases h.1.1.1.1.2 with rfl | rfl <;> decide
  · simp
theorem guF_no {mode size : Int} {xs ys : List Int} {corner : Int} (h : guB mode size xs ys corner = false) : guF mode size xs ys corner = [] := by unfold guF; rw [if_neg (by simp [h])]
theorem guF_yes {mode size : Int} {xs ys : List Int} {corner : Int} (h : guB mode size xs ys corner = true) : guF mode size xs ys corner = guL mode size.toNat xs ys corner := by unfold guF; rw [if_pos h]
/-- A side that may be, with its samples. -/
def guSide (size : Int) (xs : List Int) : Bool := decide (xs.length = 0) || (inRB 0 255 xs && decide ((xs.length : Int) = size))
theorem guB_of {mode size : Int} {xs ys : List Int} {corner : Int} (hm : 0 ≤ mode ∧ mode ≤ 3) (hs : size = 4 ∨ size = 8) (hc : 0 ≤ corner ∧ corner ≤ 255) (hx : guSide size xs = true) (hy : guSide size ys = true) : guB mode size xs ys corner = !guLackB mode xs ys := by
  unfold guSide at hx hy
  unfold guB
  rw [decide_eq_true hm, decide_eq_true hs, decide_eq_true hc, hx, hy]
  simp
theorem guSide_ok {size : Int} {xs : List Int} (h : guSide size xs = true) : (xs.length = 0 ∨ xs.length = size.toNat) ∧ InR 0 255 xs := by
  unfold guSide at h
  simp only [Bool.or_eq_true, Bool.and_eq_true, decide_eq_true_eq, inRB_iff0] at h
  rcases h with h | ⟨h1, h2⟩
  · exact ⟨.inl h, fun j hj => by omega⟩
  · exact ⟨.inr (by omega), h1⟩
theorem guOk_of {size : Int} {xs ys : List Int} {corner : Int} (hs : size = 4 ∨ size = 8) (hc : 0 ≤ corner ∧ corner ≤ 255) (hx : guSide size xs = true) (hy : guSide size ys = true) : GuOk size.toNat xs ys corner :=
  ⟨by rcases hs with rfl | rfl <;> decide, (guSide_ok hx).1, (guSide_ok hy).1, (guSide_ok hx).2, (guSide_ok hy).2, hc⟩
end Go.Proofs.Ytpofmcepjmbmcaa
