/- Plain: how far two lists of samples are apart. -/
import Derived.Test.YtpofmcepjmbmcaaPlainI
import Derived.Test.YtpofmcepjmbmcaaPlainF
import Derived.Test.YtpofmcepjmbmcaaPlainBl
namespace Go.Proofs.Ytpofmcepjmbmcaa
open Go.RowKit

def apartN (xs ys : List Int) : Nat → Int
  | 0 => 0
  | k + 1 => apartN xs ys k + absI (xs.getD k 0 - ys.getD k 0)
def apB (xs ys : List Int) : Bool := decide (xs.length = ys.length) && decide (xs.length ≤ 64) && inRB 0 255 xs && inRB 0 255 ys
def apF (xs ys : List Int) : Int := if apB xs ys = true then apartN xs ys xs.length else -1
theorem apartN_bd {xs ys : List Int} (hx : InR 0 255 xs) (hy : InR 0 255 ys) (k : Nat) (h1 : k ≤ xs.length) (h2 : k ≤ ys.length) : 0 ≤ apartN xs ys k ∧ apartN xs ys k ≤ 255 * k := by
  induction k with
  | zero => exact ⟨Int.le_refl _, by simp [apartN]⟩
  | succ k ih =>
    have h := ih (by omega) (by omega)
    have a := hx k (by omega)
    have b := hy k (by omega)
    unfold apartN absI
    split <;> omega
theorem inR_smp {zs : List Int} : InR 0 255 zs ↔ SmpOk zs 8 := by
  unfold InR SmpOk
  constructor
  · intro h j hj
    have := h j hj
    exact ⟨this.1, by show zs.getD j 0 < 2 ^ (8 : Int).toNat; rw [show (2 : Int) ^ (8 : Int).toNat = 256 by decide]; omega⟩
  · intro h j hj
    have := h j hj
    rw [show (2 : Int) ^ (8 : Int).toNat = 256 by decide] at this
    omega
theorem apF_yes {xs ys : List Int} (h : apB xs ys = true) : apF xs ys = apartN xs ys xs.length := by unfold apF; rw [if_pos h]
theorem apF_no {xs ys : List Int} (h : apB xs ys = false) : apF xs ys = -1 := by unfold apF; rw [if_neg (by simp [h])]
theorem apB_iff {xs ys : List Int} : apB xs ys = true ↔ xs.length = ys.length ∧ xs.length ≤ 64 ∧ InR 0 255 xs ∧ InR 0 255 ys := by
  unfold apB
  simp only [Bool.and_eq_true, decide_eq_true_eq, inRB_iff0]
  exact ⟨fun ⟨⟨⟨a, b⟩, c⟩, d⟩ => ⟨a, b, c, d⟩, fun ⟨a, b, c, d⟩ => ⟨⟨⟨a, b⟩, c⟩, d⟩⟩
end Go.Proofs.Ytpofmcepjmbmcaa
