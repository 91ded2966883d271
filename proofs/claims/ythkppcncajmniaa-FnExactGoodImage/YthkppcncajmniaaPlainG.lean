/- Plain: good images. -/
import Derived.Test.YthkppcncajmniaaPlainSd
import Derived.Test.YthkppcncajmniaaPlainI
import Derived.Test.YthkppcncajmniaaWIm
namespace Go.Proofs.Ythkppcncajmniaa
open Go.RowKit

/-- Sides, planes and depth. -/
def ShapeOk (w h p dp : Int) : Prop := (1 ≤ w ∧ w ≤ 512) ∧ (1 ≤ h ∧ h ≤ 512) ∧ w * h ≤ 4096 ∧ (1 ≤ p ∧ p ≤ 4) ∧ depthOk dp = true ∧ (p = 1 ∨ 8 ≤ dp)
instance (w h p dp : Int) : Decidable (ShapeOk w h p dp) := by unfold ShapeOk; infer_instance
def shapeB (w h p dp : Int) : Bool := decide (ShapeOk w h p dp)
theorem shapeB_yes {w h p dp : Int} (a : ShapeOk w h p dp) : shapeB w h p dp = true := decide_eq_true a
theorem shapeB_no {w h p dp : Int} (a : ¬ ShapeOk w h p dp) : shapeB w h p dp = false := decide_eq_false a
def GoodIm (d : Im) : Prop := ShapeOk d.1 d.2.1 d.2.2.1 d.2.2.2.1 ∧ (d.2.2.2.2.length : Int) = d.1 * d.2.1 * d.2.2.1 ∧ SmpOk d.2.2.2.2 d.2.2.2.1
noncomputable def goodImB (d : Im) : Bool := open Classical in decide (GoodIm d)
theorem goodImB_yes {d : Im} (h : GoodIm d) : goodImB d = true := by unfold goodImB; simpa using h
theorem goodImB_no {d : Im} (h : ¬ GoodIm d) : goodImB d = false := by unfold goodImB; simpa using h
theorem prod_bd {w h : Int} (hw : 1 ≤ w ∧ w ≤ 512) (hh : 1 ≤ h ∧ h ≤ 512) : ∃ P : Int, w * h = P ∧ 1 ≤ P ∧ P ≤ 262144 := by
  obtain ⟨W, rfl⟩ := Int.eq_ofNat_of_zero_le (show 0 ≤ w by omega)
  obtain ⟨H, rfl⟩ := Int.eq_ofNat_of_zero_le (show 0 ≤ h by omega)
  have h1 : W * H ≤ 512 * 512 := Nat.mul_le_mul (by omega) (by omega)
  have h2 : 1 * 1 ≤ W * H := Nat.mul_le_mul (by omega) (by omega)
  exact ⟨((W * H : Nat) : Int), by simp, by omega, by omega⟩
theorem prod3_bd {P p : Int} (hP : 1 ≤ P ∧ P ≤ 4096) (hp : 1 ≤ p ∧ p ≤ 4) : ∃ Q : Int, P * p = Q ∧ 1 ≤ Q ∧ Q ≤ 16384 := by
  obtain ⟨W, rfl⟩ := Int.eq_ofNat_of_zero_le (show 0 ≤ P by omega)
  obtain ⟨H, rfl⟩ := Int.eq_ofNat_of_zero_le (show 0 ≤ p by omega)
  have h1 : W * H ≤ 4096 * 4 := Nat.mul_le_mul (by omega) (by omega)
  have h2 : 1 * 1 ≤ W * H := Nat.mul_le_mul (by omega) (by omega)
  exact ⟨((W * H : Nat) : Int), by simp, by omega, by omega⟩
end Go.Proofs.Ythkppcncajmniaa
