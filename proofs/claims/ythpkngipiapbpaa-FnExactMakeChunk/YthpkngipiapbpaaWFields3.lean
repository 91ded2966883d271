/- The walks of the laws' own helpers on fields: equal, marked; a list of fields handed in. -/
import Derived.Test.YthpkngipiapbpaaWFields2
import Derived.Deep.RegionWith
namespace Go.Proofs.Ythpkngipiapbpaa
open Go.RowKit

def ArgF (w : World) (ad : Option Addr) (fs : List (Int × Int)) : Prop := InF fs ∧ (fs ≠ [] → ∃ b off, ad = some ⟨b, off, none⟩ ∧ b < w.heap.size ∧ FieldsAt w b off fs)
theorem ArgF.below {w w' : World} {ad : Option Addr} {fs : List (Int × Int)} (h : ArgF w ad fs) (hb : Below w.heap.size w w') : ArgF w' ad fs := by
  refine ⟨h.1, fun hne => ?_⟩
  obtain ⟨b, off, e, hl, hc⟩ := h.2 hne
  exact ⟨b, off, e, Nat.lt_of_lt_of_le hl hb.size, fun j hj => ⟨(hb.cell (by simpa using hl)).trans (hc j hj).1, (hb.cell (by simpa using hl)).trans (hc j hj).2⟩⟩
theorem ownF_of_owns {w : World} {base g cap : Nat} {ys : List Value} {fs : List (Int × Int)} (h : w.ownsRow base 48 2 (.slice (some ⟨g, 0, none⟩) fs.length cap) fs.length ys) (hr : FieldRow ys fs fs.length) : OwnF w g fs := by
  refine ⟨(h.lt g rfl).2, fun j hj => ⟨?_, ?_⟩⟩
  · rw [Nat.zero_add, h.cellAt _ (by omega)]; exact (hr j hj).1
  · rw [Nat.zero_add, h.cellAt _ (by omega)]; exact (hr j hj).2

end Go.Proofs.Ythpkngipiapbpaa
