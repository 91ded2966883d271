/- Plain: marks of numbers: choices by how many bits a number has; no program is named here. -/
import Derived.Test.YtocoeodoihdkgaaPlain
import Derived.Lib.BitFns
namespace Go.Proofs.Ytocoeodoihdkgaa
open Go.RowKit

theorem bitLen_one : Lib.bitLen 1 = 1 := by decide
/-- A number between 2^b and 2^(b+1) has b + 1 bits. -/
theorem bitLen_between (x b : Nat) (h0 : 2 ^ b ≤ x) (h1 : x < 2 ^ (b + 1)) (hx : x < 2 ^ 64) : Lib.bitLen x = b + 1 := by
  have hp : 0 < 2 ^ b := Nat.two_pow_pos b
  have hq : x / 2 ^ b = 1 := by
    rw [Nat.pow_succ] at h1
    exact Nat.div_eq_of_lt_le (by omega) (by omega)
  rw [Lib.bitLen_shift b x h0 hx, hq, bitLen_one]
theorem exists_between : ∀ x : Nat, 0 < x → ∃ b, 2 ^ b ≤ x ∧ x < 2 ^ (b + 1)
  | 1, _ => ⟨0, by decide, by decide⟩
  | x + 2, _ => by
    obtain ⟨b, h0, h1⟩ := exists_between ((x + 2) / 2) (by omega)
    refine ⟨b + 1, ?_, ?_⟩
    · rw [Nat.pow_succ]; omega
    · rw [Nat.pow_succ]; omega
theorem bitLen_bd (x : Nat) (h0 : 0 < x) (hx : x < 2 ^ 64) : 1 ≤ Lib.bitLen x ∧ 2 ^ (Lib.bitLen x - 1) ≤ x ∧ x < 2 ^ Lib.bitLen x := by
  obtain ⟨b, h1, h2⟩ := exists_between x h0
  rw [bitLen_between x b h1 h2 hx]
  exact ⟨by omega, by simpa using h1, h2⟩

def mkAt (n f : Int) (b j : Nat) : Int × Int :=
  if j < b then (f + j, 1) else if j = b then (f + b, 0) else (f + 20 + ((2 * b - j : Nat) : Int), (n + 1) / 2 ^ (2 * b - j) % 2)
def marksTo (n f : Int) (b k : Nat) : List (Int × Int) := (List.range k).map (mkAt n f b)
@[simp] theorem marksTo_length (n f : Int) (b k : Nat) : (marksTo n f b k).length = k := by simp [marksTo]
theorem marksTo_succ (n f : Int) (b k : Nat) : marksTo n f b (k + 1) = marksTo n f b k ++ [mkAt n f b k] := by simp [marksTo, List.range_succ]
def markBits (n : Int) : Nat := Lib.bitLen (n + 1).toNat - 1
abbrev MkOk (n f : Int) : Prop := 0 ≤ n ∧ n ≤ 65535 ∧ 0 ≤ f ∧ f ≤ 472

def marksL (n f : Int) : List (Int × Int) := marksTo n f (markBits n) (2 * markBits n + 1)
def marksF (n f : Int) : List (Int × Int) := if MkOk n f then marksL n f else []
theorem markBits_bd (n : Int) (h : 0 ≤ n ∧ n ≤ 65535) : 2 ^ markBits n ≤ (n + 1).toNat ∧ (n + 1).toNat < 2 ^ (markBits n + 1) ∧ markBits n ≤ 16 := by
  have h1 := bitLen_bd (n + 1).toNat (by omega) (by omega)
  have h2 : Lib.bitLen (n + 1).toNat - 1 + 1 = Lib.bitLen (n + 1).toNat := by omega
  refine ⟨h1.2.1, ?_, ?_⟩
  · unfold markBits; rw [h2]; exact h1.2.2
  · have : Lib.bitLen (n + 1).toNat ≤ 17 := Lib.bitLen_le _ 17 (by omega) (by omega)
    unfold markBits; omega
/-- The bits are found by shifting. -/
theorem markBits_of (n : Int) (b : Nat) (h : 0 ≤ n ∧ n ≤ 65535) (h0 : 2 ^ b ≤ (n + 1).toNat) (h1 : (n + 1).toNat < 2 ^ (b + 1)) : markBits n = b := by
  unfold markBits; rw [bitLen_between _ b h0 h1 (by omega)]; rfl
theorem marksF_len (n f : Int) : (marksF n f).length ≤ 33 := by
  unfold marksF
  split
  · rename_i h
    have := markBits_bd n ⟨h.1, h.2.1⟩
    unfold marksL; simp; omega
  · simp
theorem marksF_big (n f : Int) : (marksF n f).length ≤ 1048576 := by have := marksF_len n f; omega
theorem mkAt_lt (n f : Int) (b j : Nat) (h : j < b) : mkAt n f b j = (f + j, 1) := by simp [mkAt, h]
theorem mkAt_eq (n f : Int) (b : Nat) : mkAt n f b b = (f + b, 0) := by simp [mkAt]
theorem mkAt_gt (n f : Int) (b i : Nat) (h : i < b) : mkAt n f b (2 * b - i) = (f + 20 + i, (n + 1) / 2 ^ i % 2) := by
  have h1 : ¬ (2 * b - i < b) := by omega
  have h2 : ¬ (2 * b - i = b) := by omega
  have h3 : 2 * b - (2 * b - i) = i := by omega
  simp only [mkAt, if_neg h1, if_neg h2, h3]
end Go.Proofs.Ytocoeodoihdkgaa
