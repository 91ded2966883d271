/- The program's samples of a plane, and means of them. -/
import Derived.Test.YtocoeodoihdkgaaPlainSh
import Derived.Test.YtocoeodoihdkgaaWUpd2
import Derived.Test.YtocoeodoihdkgaaWHeld
import Derived.Test.YtocoeodoihdkgaaWSzI
namespace Go.Proofs.Ytocoeodoihdkgaa
open Go.RowKit

/-- A good plane's facts, in natural numbers. -/
structure PlOk (W H : Nat) (zs : List Int) : Prop where
  w : 1 ≤ W ∧ W ≤ 512
  h : 1 ≤ H ∧ H ≤ 512
  l : zs.length = W * H
  m : W * H ≤ 4096
  s : SmpOk zs 8
theorem GoodPl.nat {a b : Int} {zs : List Int} (h : GoodPl (a, b, zs)) : ∃ W H : Nat, a = W ∧ b = H ∧ PlOk W H zs := by
  obtain ⟨⟨h1, h2, h3⟩, hl, hs⟩ := h
  simp only at h1 h2 h3 hl hs
  obtain ⟨W, rfl⟩ := Int.eq_ofNat_of_zero_le (show 0 ≤ a by omega)
  obtain ⟨H, rfl⟩ := Int.eq_ofNat_of_zero_le (show 0 ≤ b by omega)
  have e : (W : Int) * (H : Int) = ((W * H : Nat) : Int) := by simp
  exact ⟨W, H, rfl, rfl, ⟨by omega, by omega, by omega, by omega, hs⟩⟩
theorem PlOk.at_lt {W H : Nat} {zs : List Int} (h : PlOk W H zs) {x y : Nat} (hx : x < W) (hy : y < H) : y * W + x < zs.length ∧ y * W ≤ 4096 := by
  have h1 : (y + 1) * W ≤ H * W := Nat.mul_le_mul hy (Nat.le_refl _)
  have h2 := h.m
  rw [h.l, Nat.mul_comm W H]
  rw [Nat.mul_comm W H] at h2
  rw [Nat.add_mul, Nat.one_mul] at h1
  omega

end Go.Proofs.Ytocoeodoihdkgaa
