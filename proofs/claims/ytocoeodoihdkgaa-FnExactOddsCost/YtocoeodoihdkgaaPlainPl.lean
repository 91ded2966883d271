/- Plain: good planes. -/
import Derived.Test.YtocoeodoihdkgaaPlainSd
import Derived.Test.YtocoeodoihdkgaaPlainI
import Derived.Test.YtocoeodoihdkgaaWPl
namespace Go.Proofs.Ytocoeodoihdkgaa
open Go.RowKit

def SidesOk (a b : Int) : Prop := (1 ≤ a ∧ a ≤ 512) ∧ (1 ≤ b ∧ b ≤ 512) ∧ a * b ≤ 4096
instance (a b : Int) : Decidable (SidesOk a b) := by unfold SidesOk; infer_instance
def GoodPl (d : Pl) : Prop := SidesOk d.1 d.2.1 ∧ (d.2.2.length : Int) = d.1 * d.2.1 ∧ SmpOk d.2.2 8
noncomputable def goodPlB (d : Pl) : Bool := open Classical in decide (GoodPl d)
theorem goodPlB_yes {d : Pl} (h : GoodPl d) : goodPlB d = true := by unfold goodPlB; simpa using h
theorem goodPlB_no {d : Pl} (h : ¬ GoodPl d) : goodPlB d = false := by unfold goodPlB; simpa using h
theorem prod_side {w h : Int} (hw : 1 ≤ w ∧ w ≤ 512) (hh : 1 ≤ h ∧ h ≤ 512) : ∃ P : Int, w * h = P ∧ 1 ≤ P ∧ P ≤ 262144 := by
  obtain ⟨W, rfl⟩ := Int.eq_ofNat_of_zero_le (show 0 ≤ w by omega)
  obtain ⟨H, rfl⟩ := Int.eq_ofNat_of_zero_le (show 0 ≤ h by omega)
  have h1 : W * H ≤ 512 * 512 := Nat.mul_le_mul (by omega) (by omega)
  have h2 : 1 * 1 ≤ W * H := Nat.mul_le_mul (by omega) (by omega)
  exact ⟨((W * H : Nat) : Int), by simp, by omega, by omega⟩
end Go.Proofs.Ytocoeodoihdkgaa
