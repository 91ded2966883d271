/- Planes as arguments and answers; the walks of the laws' own helpers on them. -/
import Derived.Test.YtocoeodoihdkgaaWIm
import Derived.Deep.RegionHeld3
namespace Go.Proofs.Ytocoeodoihdkgaa
open Go.RowKit

abbrev Pl := Int × Int × List Int
abbrev Plv (d : Pl) (vl : Value) : Value := .agg #[.int .i64 d.1, .int .i64 d.2.1, vl]
abbrev Pls (d : Pl) : List Int := d.2.2
def RdPl (w : World) (v : Value) (d : Pl) : Prop := ∃ vl, v = Plv d vl ∧ RdI w vl (Pls d)
def OwnPl (w : World) (a b : Nat) (v : Value) (d : Pl) : Prop := ∃ vl, v = Plv d vl ∧ OwnI w a b vl (Pls d)
theorem OwnPl.rd {w : World} {a b : Nat} {v : Value} {d : Pl} (h : OwnPl w a b v d) : RdPl w v d := by
  obtain ⟨vl, rfl, h⟩ := h
  exact ⟨vl, rfl, h.rd⟩
theorem RdPl.below {w w' : World} {v : Value} {d : Pl} (h : RdPl w v d) (hb : Below w.heap.size w w') : RdPl w' v d := by
  obtain ⟨vl, rfl, h⟩ := h
  exact ⟨vl, rfl, h.below hb⟩
theorem OwnPl.upd {w w' : World} {a b c e : Nat} {v : Value} {d : Pl} (h : OwnPl w a b v d) (u : Upd c e w w') (hd : b ≤ c ∨ e ≤ a) : OwnPl w' a b v d := by
  obtain ⟨vl, rfl, h⟩ := h
  exact ⟨vl, rfl, h.upd u hd⟩
theorem OwnPl.keep {w w' : World} {a b : Nat} {v : Value} {d : Pl} (h : OwnPl w a b v d) (u : Upd 0 0 w w') : OwnPl w' a b v d := h.upd u (.inr (Nat.zero_le _))
theorem OwnPl.form {w : World} {a b : Nat} {v : Value} {d : Pl} (h : OwnPl w a b v d) : ∃ ad cap, v = Plv d (.slice ad (Pls d).length cap) := by
  obtain ⟨vl, rfl, h⟩ := h
  obtain ⟨ad, cap, rfl, _⟩ := h.rd
  exact ⟨ad, cap, rfl⟩
def PlCount (d : Pl) : Nat := (Pls d).length
def PlMarked (k : Nat) (d : Pl) : Pl := (d.1, d.2.1, marks k (Pls d).length)
/-- All numbers fit. -/
def InPl (d : Pl) : Prop := (-9223372036854775808 ≤ d.1 ∧ d.1 ≤ 9223372036854775807) ∧ (-9223372036854775808 ≤ d.2.1 ∧ d.2.1 ≤ 9223372036854775807) ∧ InI d.2.2

end Go.Proofs.Ytocoeodoihdkgaa
