/- Images as arguments and answers: four numbers and a list; the walks of the laws' own helpers on them. -/
import Derived.Test.YtocoeodoihdkgaaWSzI
import Derived.Deep.RegionHeld3
namespace Go.Proofs.Ytocoeodoihdkgaa
open Go.RowKit

abbrev Im := Int × Int × Int × Int × List Int
abbrev imv (d : Im) (vl : Value) : Value := .agg #[.int .i64 d.1, .int .i64 d.2.1, .int .i64 d.2.2.1, .int .i64 d.2.2.2.1, vl]
abbrev imc (d : Im) (vl : Value) : List Value := [.int .i64 d.1, .int .i64 d.2.1, .int .i64 d.2.2.1, .int .i64 d.2.2.2.1, vl]
abbrev ims (d : Im) : List Int := d.2.2.2.2
def RdIm (w : World) (v : Value) (d : Im) : Prop := ∃ vl, v = imv d vl ∧ RdI w vl (ims d)
def OwnIm (w : World) (a b : Nat) (v : Value) (d : Im) : Prop := ∃ vl, v = imv d vl ∧ OwnI w a b vl (ims d)
theorem OwnIm.rd {w : World} {a b : Nat} {v : Value} {d : Im} (h : OwnIm w a b v d) : RdIm w v d := by
  obtain ⟨vl, rfl, h⟩ := h
  exact ⟨vl, rfl, h.rd⟩
theorem RdIm.below {w w' : World} {v : Value} {d : Im} (h : RdIm w v d) (hb : Below w.heap.size w w') : RdIm w' v d := by
  obtain ⟨vl, rfl, h⟩ := h
  exact ⟨vl, rfl, h.below hb⟩
theorem OwnIm.upd {w w' : World} {a b c e : Nat} {v : Value} {d : Im} (h : OwnIm w a b v d) (u : Upd c e w w') (hd : b ≤ c ∨ e ≤ a) : OwnIm w' a b v d := by
  obtain ⟨vl, rfl, h⟩ := h
  exact ⟨vl, rfl, h.upd u hd⟩
theorem OwnIm.keep {w w' : World} {a b : Nat} {v : Value} {d : Im} (h : OwnIm w a b v d) (u : Upd 0 0 w w') : OwnIm w' a b v d := h.upd u (.inr (Nat.zero_le _))
theorem OwnIm.form {w : World} {a b : Nat} {v : Value} {d : Im} (h : OwnIm w a b v d) : ∃ ad cap, v = imv d (.slice ad (ims d).length cap) := by
  obtain ⟨vl, rfl, h⟩ := h
  obtain ⟨ad, cap, rfl, _⟩ := h.rd
  exact ⟨ad, cap, rfl⟩
/-- All numbers fit. -/
def InIm (d : Im) : Prop := (-9223372036854775808 ≤ d.1 ∧ d.1 ≤ 9223372036854775807) ∧ (-9223372036854775808 ≤ d.2.1 ∧ d.2.1 ≤ 9223372036854775807) ∧ (-9223372036854775808 ≤ d.2.2.1 ∧ d.2.2.1 ≤ 9223372036854775807) ∧ (-9223372036854775808 ≤ d.2.2.2.1 ∧ d.2.2.2.1 ≤ 9223372036854775807) ∧ InI (ims d)
def imCount (d : Im) : Nat := (ims d).length
def imMarked (k : Nat) (d : Im) : Im := (d.1, d.2.1, d.2.2.1, d.2.2.2.1, marks k (ims d).length)

end Go.Proofs.Ytocoeodoihdkgaa
