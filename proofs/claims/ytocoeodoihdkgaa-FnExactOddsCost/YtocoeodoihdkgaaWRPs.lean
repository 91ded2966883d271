/- Lists of Passs: 6 numbers each; the walks of the laws' own helpers on them. -/
import Derived.Test.YtocoeodoihdkgaaWInts
import Derived.Test.YtocoeodoihdkgaaWOwn2
import Derived.Deep.RegionWith
namespace Go.Proofs.Ytocoeodoihdkgaa
open Go.RowKit

abbrev Ps := Int × Int × Int × Int × Int × Int
abbrev Ps0 : Ps := (0, 0, 0, 0, 0, 0)
def cellsPs (ps : List Ps) : List Value := ps.flatMap fun p => [.int .i64 p.1, .int .i64 p.2.1, .int .i64 p.2.2.1, .int .i64 p.2.2.2.1, .int .i64 p.2.2.2.2.1, .int .i64 p.2.2.2.2.2]
theorem cellsPs_length (ps : List Ps) : (cellsPs ps).length = ps.length * 6 := by
  induction ps with
  | nil => rfl
  | cons p ps ih => unfold cellsPs at ih ⊢; rw [List.flatMap_cons, List.length_append, ih]; simp; omega
theorem cellsPs_snoc (ps : List Ps) (p : Ps) : cellsPs (ps ++ [p]) = cellsPs ps ++ [.int .i64 p.1, .int .i64 p.2.1, .int .i64 p.2.2.1, .int .i64 p.2.2.2.1, .int .i64 p.2.2.2.2.1, .int .i64 p.2.2.2.2.2] := by unfold cellsPs; simp
def RowPs (ys : List Value) (ps : List Ps) (k : Nat) : Prop := ∀ j, j < k → ys[j * 6]? = some (.int .i64 (ps.getD j Ps0).1) ∧ ys[j * 6 + 1]? = some (.int .i64 (ps.getD j Ps0).2.1) ∧ ys[j * 6 + 2]? = some (.int .i64 (ps.getD j Ps0).2.2.1) ∧ ys[j * 6 + 3]? = some (.int .i64 (ps.getD j Ps0).2.2.2.1) ∧ ys[j * 6 + 4]? = some (.int .i64 (ps.getD j Ps0).2.2.2.2.1) ∧ ys[j * 6 + 5]? = some (.int .i64 (ps.getD j Ps0).2.2.2.2.2)
theorem cellsPs_at (ps : List Ps) : RowPs (cellsPs ps) ps ps.length := by
  induction ps with
  | nil => intro j hj; simp at hj
  | cons p ps ih =>
    intro j hj
    have e : cellsPs (p :: ps) = [.int .i64 p.1, .int .i64 p.2.1, .int .i64 p.2.2.1, .int .i64 p.2.2.2.1, .int .i64 p.2.2.2.2.1, .int .i64 p.2.2.2.2.2] ++ cellsPs ps := by unfold cellsPs; simp
    rw [e]
    cases j with
    | zero => exact ⟨rfl, rfl, rfl, rfl, rfl, rfl⟩
    | succ j =>
      have h := ih j (by simpa using hj)
      rw [List.getElem?_append_right (by simp; omega), List.getElem?_append_right (by simp; omega), List.getElem?_append_right (by simp; omega), List.getElem?_append_right (by simp; omega), List.getElem?_append_right (by simp; omega), List.getElem?_append_right (by simp; omega)]
      simp only [List.length_cons, List.length_nil, List.getD_cons_succ]
      rw [show (j + 1) * 6 - (0 + 1 + 1 + 1 + 1 + 1 + 1) = j * 6 by omega, show (j + 1) * 6 + 1 - (0 + 1 + 1 + 1 + 1 + 1 + 1) = j * 6 + 1 by omega, show (j + 1) * 6 + 2 - (0 + 1 + 1 + 1 + 1 + 1 + 1) = j * 6 + 2 by omega, show (j + 1) * 6 + 3 - (0 + 1 + 1 + 1 + 1 + 1 + 1) = j * 6 + 3 by omega, show (j + 1) * 6 + 4 - (0 + 1 + 1 + 1 + 1 + 1 + 1) = j * 6 + 4 by omega, show (j + 1) * 6 + 5 - (0 + 1 + 1 + 1 + 1 + 1 + 1) = j * 6 + 5 by omega]
      exact h
theorem cellsPs_of {ys : List Value} {ps : List Ps} (hl : ys.length = ps.length * 6) (h : RowPs ys ps ps.length) : ys = cellsPs ps := by
  apply List.ext_getElem?
  intro i
  by_cases hi : i < ps.length * 6
  · have h1 := h (i / 6) (by omega)
    have h2 := cellsPs_at ps (i / 6) (by omega)
    rcases (show i = i / 6 * 6 ∨ i = i / 6 * 6 + 1 ∨ i = i / 6 * 6 + 2 ∨ i = i / 6 * 6 + 3 ∨ i = i / 6 * 6 + 4 ∨ i = i / 6 * 6 + 5 by omega) with e | e | e | e | e | e
    · rw [e, h1.1, h2.1]
    · rw [e, h1.2.1, h2.2.1]
    · rw [e, h1.2.2.1, h2.2.2.1]
    · rw [e, h1.2.2.2.1, h2.2.2.2.1]
    · rw [e, h1.2.2.2.2.1, h2.2.2.2.2.1]
    · rw [e, h1.2.2.2.2.2, h2.2.2.2.2.2]
  · rw [List.getElem?_eq_none (by omega), List.getElem?_eq_none (by rw [cellsPs_length]; omega)]
def AtPs (w : World) (b off : Nat) (ps : List Ps) : Prop := ∀ j, j < ps.length → w.cell? ⟨b, off + j * 6, none⟩ = some (.int .i64 (ps.getD j Ps0).1) ∧ w.cell? ⟨b, off + j * 6 + 1, none⟩ = some (.int .i64 (ps.getD j Ps0).2.1) ∧ w.cell? ⟨b, off + j * 6 + 2, none⟩ = some (.int .i64 (ps.getD j Ps0).2.2.1) ∧ w.cell? ⟨b, off + j * 6 + 3, none⟩ = some (.int .i64 (ps.getD j Ps0).2.2.2.1) ∧ w.cell? ⟨b, off + j * 6 + 4, none⟩ = some (.int .i64 (ps.getD j Ps0).2.2.2.2.1) ∧ w.cell? ⟨b, off + j * 6 + 5, none⟩ = some (.int .i64 (ps.getD j Ps0).2.2.2.2.2)
def InPs (ps : List Ps) : Prop := ∀ j, (-9223372036854775808 ≤ (ps.getD j Ps0).1 ∧ (ps.getD j Ps0).1 ≤ 9223372036854775807) ∧ (-9223372036854775808 ≤ (ps.getD j Ps0).2.1 ∧ (ps.getD j Ps0).2.1 ≤ 9223372036854775807) ∧ (-9223372036854775808 ≤ (ps.getD j Ps0).2.2.1 ∧ (ps.getD j Ps0).2.2.1 ≤ 9223372036854775807) ∧ (-9223372036854775808 ≤ (ps.getD j Ps0).2.2.2.1 ∧ (ps.getD j Ps0).2.2.2.1 ≤ 9223372036854775807) ∧ (-9223372036854775808 ≤ (ps.getD j Ps0).2.2.2.2.1 ∧ (ps.getD j Ps0).2.2.2.2.1 ≤ 9223372036854775807) ∧ (-9223372036854775808 ≤ (ps.getD j Ps0).2.2.2.2.2 ∧ (ps.getD j Ps0).2.2.2.2.2 ≤ 9223372036854775807)
def ArgPs (w : World) (ad : Option Addr) (ps : List Ps) : Prop := ps ≠ [] → ∃ b off, ad = some ⟨b, off, none⟩ ∧ b < w.heap.size ∧ AtPs w b off ps
theorem ArgPs.below {w w' : World} {ad : Option Addr} {ps : List Ps} (h : ArgPs w ad ps) (hb : Below w.heap.size w w') : ArgPs w' ad ps := by
  intro hne
  obtain ⟨b, off, e, hl, hc⟩ := h hne
  exact ⟨b, off, e, Nat.lt_of_lt_of_le hl hb.size, fun j hj => ⟨(hb.cell (by simpa using hl)).trans (hc j hj).1, (hb.cell (by simpa using hl)).trans (hc j hj).2.1, (hb.cell (by simpa using hl)).trans (hc j hj).2.2.1, (hb.cell (by simpa using hl)).trans (hc j hj).2.2.2.1, (hb.cell (by simpa using hl)).trans (hc j hj).2.2.2.2.1, (hb.cell (by simpa using hl)).trans (hc j hj).2.2.2.2.2⟩⟩
def RdPs (w : World) (v : Value) (ps : List Ps) : Prop := ∃ ad cap, v = .slice ad ps.length cap ∧ ArgPs w ad ps
theorem RdPs.below {w w' : World} {v : Value} {ps : List Ps} (h : RdPs w v ps) (hb : Below w.heap.size w w') : RdPs w' v ps := by
  obtain ⟨ad, cap, e, h⟩ := h
  exact ⟨ad, cap, e, h.below hb⟩
def marksPs (k n : Nat) : List Ps := (List.range n).map fun j => (((k + 6 * j : Nat) : Int), ((k + 6 * j + 1 : Nat) : Int), ((k + 6 * j + 2 : Nat) : Int), ((k + 6 * j + 3 : Nat) : Int), ((k + 6 * j + 4 : Nat) : Int), ((k + 6 * j + 5 : Nat) : Int))
@[simp] theorem marksPs_length (k n : Nat) : (marksPs k n).length = n := by simp [marksPs]
theorem marksPs_at (k n j : Nat) (h : j < n) : (marksPs k n).getD j Ps0 = (((k + 6 * j : Nat) : Int), ((k + 6 * j + 1 : Nat) : Int), ((k + 6 * j + 2 : Nat) : Int), ((k + 6 * j + 3 : Nat) : Int), ((k + 6 * j + 4 : Nat) : Int), ((k + 6 * j + 5 : Nat) : Int)) := by
  unfold marksPs; rw [List.getD_eq_getElem?_getD, List.getElem?_map, List.getElem?_range h]; rfl
end Go.Proofs.Ytocoeodoihdkgaa
