/- Plain: good moving pictures. -/
import Derived.Test.YtnfifpngiocbnaaPlainSd
import Derived.Test.YtnfifpngiocbnaaWMv
namespace Go.Proofs.Ytnfifpngiocbnaa
open Go.RowKit

noncomputable def mB (p : Prop) : Bool := open Classical in decide p
theorem mB_yes {p : Prop} (h : p) : mB p = true := by unfold mB; simpa using h
theorem mB_no {p : Prop} (h : ¬ p) : mB p = false := by unfold mB; simpa using h
/-- How many bits tell just so many. -/
def logB (n : Nat) : Nat := if n = 2 then 1 else if n = 4 then 2 else if n = 8 then 3 else if n = 16 then 4 else if n = 32 then 5 else if n = 64 then 6 else if n = 128 then 7 else if n = 256 then 8 else 0
theorem logB_cases (n : Nat) : (logB n = 0 ∧ n ≠ 2 ∧ n ≠ 4 ∧ n ≠ 8 ∧ n ≠ 16 ∧ n ≠ 32 ∧ n ≠ 64 ∧ n ≠ 128 ∧ n ≠ 256) ∨ (n = 2 ∧ logB n = 1) ∨ (n = 4 ∧ logB n = 2) ∨ (n = 8 ∧ logB n = 3) ∨ (n = 16 ∧ logB n = 4) ∨ (n = 32 ∧ logB n = 5) ∨ (n = 64 ∧ logB n = 6) ∨ (n = 128 ∧ logB n = 7) ∨ (n = 256 ∧ logB n = 8) := by
  unfold logB
  repeat' split
  all_goals omega
theorem logB_le (n : Nat) : logB n ≤ 8 := by rcases logB_cases n with h | h | h | h | h | h | h | h | h <;> omega
theorem logB_pow {n : Nat} (h : 0 < logB n) : n = 2 ^ logB n := by
  rcases logB_cases n with ⟨e, _⟩ | ⟨rfl, e⟩ | ⟨rfl, e⟩ | ⟨rfl, e⟩ | ⟨rfl, e⟩ | ⟨rfl, e⟩ | ⟨rfl, e⟩ | ⟨rfl, e⟩ | ⟨rfl, e⟩
  · omega
  all_goals rw [e]
def ColsOk (zs : List Int) : Prop := zs.length ≤ 256 ∧ ∀ j, j < zs.length → 0 ≤ zs.getD j 0 ∧ zs.getD j 0 ≤ 16777215
def PixOk (n : Nat) (zs : List Int) : Prop := ∀ j, j < zs.length → 0 ≤ zs.getD j 0 ∧ zs.getD j 0 < (n : Int)
def FrOk (a b n x0 x1 x2 x3 x4 x5 x6 : Int) : Prop := 0 ≤ x0 ∧ 0 ≤ x1 ∧ 1 ≤ x2 ∧ 1 ≤ x3 ∧ x2 ≤ a - x0 ∧ x3 ≤ b - x1 ∧ (0 ≤ x4 ∧ x4 ≤ 65535) ∧ (0 ≤ x5 ∧ x5 ≤ 2) ∧ (-1 ≤ x6 ∧ x6 < n)
def FrAll (a b : Int) (n : Nat) (f : Fr) : Prop := FrOk a b (n : Int) f.1 f.2.1 f.2.2.1 f.2.2.2.1 f.2.2.2.2.1 f.2.2.2.2.2.1 f.2.2.2.2.2.2.1 ∧ ((Fss f).length : Int) = f.2.2.1 * f.2.2.2.1 ∧ PixOk n (Fss f)
def SideOk (a b : Int) : Prop := (1 ≤ a ∧ a ≤ 512) ∧ (1 ≤ b ∧ b ≤ 512) ∧ a * b ≤ 4096
def HeadOk (a b : Int) (zs : List Int) (l : Int) : Prop := SideOk a b ∧ 0 < logB zs.length ∧ ColsOk zs ∧ (0 ≤ l ∧ l ≤ 65535)
def FramesOk (a b : Int) (n : Nat) (fs : Fs) : Prop := (∀ j, j < fs.length → FrAll a b n (fs.getD j Fr0)) ∧ szToFs fs fs.length ≤ 16384
def GoodMv (d : Mv) : Prop := HeadOk d.1 d.2.1 d.2.2.1 d.2.2.2.1 ∧ (1 ≤ d.2.2.2.2.length ∧ d.2.2.2.2.length ≤ 40) ∧ FramesOk d.1 d.2.1 d.2.2.1.length d.2.2.2.2
theorem side_prod {w h : Int} (hw : 1 ≤ w ∧ w ≤ 512) (hh : 1 ≤ h ∧ h ≤ 512) : ∃ P : Int, w * h = P ∧ 1 ≤ P ∧ P ≤ 262144 := by
  obtain ⟨W, rfl⟩ := Int.eq_ofNat_of_zero_le (show 0 ≤ w by omega)
  obtain ⟨H, rfl⟩ := Int.eq_ofNat_of_zero_le (show 0 ≤ h by omega)
  have h1 : W * H ≤ 512 * 512 := Nat.mul_le_mul (by omega) (by omega)
  have h2 : 1 * 1 ≤ W * H := Nat.mul_le_mul (by omega) (by omega)
  exact ⟨((W * H : Nat) : Int), by simp, by omega, by omega⟩
end Go.Proofs.Ytnfifpngiocbnaa
