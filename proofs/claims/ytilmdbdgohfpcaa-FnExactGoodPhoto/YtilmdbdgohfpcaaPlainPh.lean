/- Plain: how a photo is cut: units, blocks, what is good. -/
import Derived.Test.YtilmdbdgohfpcaaPlainPl
namespace Go.Proofs.Ytilmdbdgohfpcaa
open Go.RowKit

/-- How many samples of a plane a unit has across. -/
def uSide (hf : Bool) (p : Int) : Int := if hf = true ∧ p = 0 then 16 else 8
def uZ (hf : Bool) : Int := if hf then 16 else 8
theorem uSide_zero (hf : Bool) : uSide hf 0 = uZ hf := by unfold uSide uZ; cases hf <;> simp
def upZ (n s : Int) : Int := (n + s - 1) / s
def perN (hf : Bool) (np : Nat) : Nat := if hf then 6 else np
def blocksZ (a b : Int) (hf : Bool) (np : Nat) : Int := upZ a (uZ hf) * upZ b (uZ hf) * (perN hf np : Int)
theorem upZ_bd (n : Int) (hf : Bool) (h : 1 ≤ n ∧ n ≤ 512) : 1 ≤ upZ n (uZ hf) ∧ upZ n (uZ hf) ≤ 64 := by
  unfold upZ uZ
  cases hf <;> simp <;> omega
theorem units_bd (a b : Int) (hf : Bool) (ha : 1 ≤ a ∧ a ≤ 512) (hb : 1 ≤ b ∧ b ≤ 512) : 1 ≤ upZ a (uZ hf) * upZ b (uZ hf) ∧ upZ a (uZ hf) * upZ b (uZ hf) ≤ 4096 := by
  obtain ⟨a1, a2⟩ := upZ_bd a hf ha
  obtain ⟨b1, b2⟩ := upZ_bd b hf hb
  obtain ⟨A, hA⟩ := Int.eq_ofNat_of_zero_le (show 0 ≤ upZ a (uZ hf) by omega)
  obtain ⟨B, hB⟩ := Int.eq_ofNat_of_zero_le (show 0 ≤ upZ b (uZ hf) by omega)
  rw [hA] at a1 a2 ⊢
  rw [hB] at b1 b2 ⊢
  have h1 : A * B ≤ 64 * 64 := Nat.mul_le_mul (by omega) (by omega)
  have h2 : 1 * 1 ≤ A * B := Nat.mul_le_mul (by omega) (by omega)
  constructor
  · have : ((1 : Nat) : Int) ≤ ((A * B : Nat) : Int) := by omega
    simpa using this
  · have : ((A * B : Nat) : Int) ≤ ((4096 : Nat) : Int) := by omega
    simpa using this
theorem perN_bd (hf : Bool) (np : Nat) (h : np ≤ 3) : perN hf np ≤ 6 := by unfold perN; split <;> omega
/-- The head of a photo that may be good, its samples aside. -/
def HeadOk (a b q : Int) (hf st : Bool) (ev : Int) (np : Nat) : Prop :=
  SidesOk a b ∧ (1 ≤ q ∧ q ≤ 100) ∧ (0 ≤ ev ∧ ev ≤ 1000) ∧ (np = 1 ∨ np = 3) ∧ (hf = true → np = 3) ∧ (st = true → ev = 0) ∧ blocksZ a b hf np ≤ 400
instance (a b q : Int) (hf st : Bool) (ev : Int) (np : Nat) : Decidable (HeadOk a b q hf st ev np) := by unfold HeadOk; infer_instance
/-- The blocks of a unit of so many planes. -/
def unitTo (hf : Bool) : Nat → Int
  | 0 => 0
  | p + 1 => unitTo hf p + uSide hf (p : Int) * uSide hf (p : Int) / 64
theorem unitTo_all (hf : Bool) (np : Nat) (h : np = 1 ∨ np = 3) (h3 : hf = true → np = 3) : unitTo hf np = (perN hf np : Int) := by
  rcases h with rfl | rfl
  · cases hf
    · decide
    · exact absurd (h3 rfl) (by omega)
  · cases hf <;> decide
theorem uSide_bd (hf : Bool) (p : Int) : uSide hf p = 8 ∨ uSide hf p = 16 := by unfold uSide; split <;> simp
end Go.Proofs.Ytilmdbdgohfpcaa
