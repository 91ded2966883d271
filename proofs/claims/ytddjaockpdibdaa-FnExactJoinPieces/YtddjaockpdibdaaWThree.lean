/- The three cells of a result that is kept in a block. -/
import Derived.Test.YtddjaockpdibdaaWOwn
namespace Go.Proofs.Ytddjaockpdibdaa
open Go.RowKit

/-- The three cells of a result of this kind. -/
def Three (w : World) (c : Nat) (x y z : Value) : Prop := c < w.heap.size ∧ (w.cell? ⟨c, 0, none⟩ = some x ∧ w.cell? ⟨c, 1, none⟩ = some y ∧ w.cell? ⟨c, 2, none⟩ = some z) ∧ w.frozen? ⟨c, 0, none⟩ = false ∧ w.frozen? ⟨c, 1, none⟩ = false ∧ w.frozen? ⟨c, 2, none⟩ = false
theorem three_new (w : World) (x y z : Value) (t : TypeId) : Three (w.alloc (.cells #[x, y, z] t)) w.heap.size x y z := by
  refine ⟨by simp, ⟨?_, ?_, ?_⟩, World.frozen?_alloc_at _ _ _ _ rfl, World.frozen?_alloc_at _ _ _ _ rfl, World.frozen?_alloc_at _ _ _ _ rfl⟩ <;> (rw [World.cell?_alloc_at _ _ _ _ rfl]; rfl)
theorem Three.below {w w' : World} {c B : Nat} {x y z : Value} (h : Three w c x y z) (hb : Below B w w') (hc : c < B) : Three w' c x y z := by
  obtain ⟨h0, ⟨h1, h2, h3⟩, f1, f2, f3⟩ := h
  exact ⟨Nat.lt_of_lt_of_le h0 hb.size, ⟨(hb.cell (by simpa using hc)).trans h1, (hb.cell (by simpa using hc)).trans h2, (hb.cell (by simpa using hc)).trans h3⟩, (hb.frozen (by simpa using hc)).trans f1, (hb.frozen (by simpa using hc)).trans f2, (hb.frozen (by simpa using hc)).trans f3⟩

end Go.Proofs.Ytddjaockpdibdaa
