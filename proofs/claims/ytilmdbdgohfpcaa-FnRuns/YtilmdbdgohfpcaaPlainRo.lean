/- Plain: the rows that a slanting line meets, and the places of all lines. -/
import Derived.Test.YtilmdbdgohfpcaaPlainSc
namespace Go.Proofs.Ytilmdbdgohfpcaa
open Go.RowKit

def tpN (s : Nat) : Nat := s - 7
def btN (s : Nat) : Nat := min s 7
def rowN (s i : Nat) : Nat := if s % 2 = 0 then btN s - i else tpN s + i
def rowsN (s : Nat) : Nat → List Int
  | 0 => []
  | i + 1 => rowsN s i ++ [((rowN s i : Nat) : Int)]
def cntN (s : Nat) : Nat := btN s - tpN s + 1
theorem rowsN_length (s : Nat) : ∀ k, (rowsN s k).length = k
  | 0 => rfl
  | k + 1 => by simp [rowsN, rowsN_length s k]
theorem tpN_le (s : Nat) (h : s ≤ 14) : tpN s ≤ btN s := by unfold tpN btN; omega
theorem btN_le (s : Nat) : btN s ≤ 7 := by unfold btN; omega
theorem rowN_le (s i : Nat) (h : s ≤ 14) (hi : i < cntN s) : rowN s i ≤ 7 ∧ rowN s i ≤ s ∧ s ≤ rowN s i + 7 := by
  revert hi
  unfold rowN cntN btN tpN
  split <;> omega
/-- The place of a line's i-th row. -/
def placeN (s i : Nat) : Int := ((rowN s i * 8 + s - rowN s i : Nat) : Int)
def placesN (s : Nat) : Nat → List Int
  | 0 => []
  | i + 1 => placesN s i ++ [placeN s i]
def linesN : Nat → List Int
  | 0 => []
  | s + 1 => linesN s ++ placesN s (cntN s)
theorem linesN_all : linesN 15 = scanL := by decide
theorem placesN_length (s : Nat) : ∀ k, (placesN s k).length = k
  | 0 => rfl
  | k + 1 => by simp [placesN, placesN_length s k]
theorem linesN_len : ∀ s, s < 15 → (linesN s).length + cntN s ≤ 64 := by decide
theorem placesN_of (s : Nat) : ∀ k, placesN s k = (rowsN s k).map (fun r : Int => r * 8 + (s : Int) - r)
  | 0 => rfl
  | k + 1 => by
    rw [placesN, rowsN, List.map_append, placesN_of s k]
    simp only [List.map_cons, List.map_nil, placeN]
    rw [show ((rowN s k * 8 + s - rowN s k : Nat) : Int) = (rowN s k : Int) * 8 + (s : Int) - (rowN s k : Int) by omega]
end Go.Proofs.Ytilmdbdgohfpcaa
