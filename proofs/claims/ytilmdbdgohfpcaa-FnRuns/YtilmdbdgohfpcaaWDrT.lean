/- The drawing of colours. -/
import Derived.Test.YtilmdbdgohfpcaaWCurA
import Derived.Test.YtilmdbdgohfpcaaWTr
namespace Go.Proofs.Ytilmdbdgohfpcaa
open Go.RowKit

theorem HeldF.only {w w' : World} {g r : Nat} {cs : List Value} (h : HeldF w g cs) (o : OnlyAt r w w') (hne : g ≠ r) : HeldF w' g cs :=
  ⟨⟨Nat.lt_of_lt_of_le h.1.1 o.size, fun j v hj => (o.cell (p := ⟨g, j, none⟩) h.1.1 hne).trans (h.1.2 j v hj)⟩, fun j => (o.frozen (p := ⟨g, j, none⟩) h.1.1 hne).trans (h.2 j)⟩
theorem OnlyAt.past {c g : Nat} {w w' : World} (h : OnlyAt c w w') (hg : w.heap.size ≤ g) {k : Nat} {u : Value} : OnlyAt c w (w'.setCell ⟨g, k, none⟩ u) :=
  ⟨h.os, h.tape, h.output, by simpa using h.size, fun j hj hjc => (Below.heap_setCell w' ⟨g, k, none⟩ u j (by simp; omega)).trans (h.block j hj hjc)⟩
end Go.Proofs.Ytilmdbdgohfpcaa
