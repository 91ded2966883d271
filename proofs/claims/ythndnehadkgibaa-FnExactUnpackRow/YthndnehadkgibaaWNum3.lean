/- GetNumber at every place, by the program and by the specification. -/
import Derived.Test.YthndnehadkgibaaWNum2
import Derived.Test.YthndnehadkgibaaWBytes2
namespace Go.Proofs.Ythndnehadkgibaa
open Go.RowKit

theorem getNum_neg (zs : List Int) (p : Int) (h : p < 0) : getNum zs p = none := by unfold getNum; rw [if_pos h]
theorem getNum_past (zs : List Int) (p : Int) (h : (zs.length : Int) ≤ p) : getNum zs p = none := by
  unfold getNum; rw [if_neg (by omega)]; exact gn_end _ _ _ _ _ (by omega)
theorem numV_agg (x : Option (Nat × Nat)) : ∃ o v n, numV x = .agg #[.bool o, .int .u64 v, .int .i64 n] := by
  rcases x with _ | ⟨v, n⟩ <;> exact ⟨_, _, _, rfl⟩

/-- A number of the call's own in the variable at block b. -/
def NumAt (w : World) (b : Nat) (o : Bool) (v n : Int) : Prop := b < w.heap.size ∧ w.cell? ⟨b, 0, none⟩ = some (.bool o) ∧ w.cell? ⟨b, 1, none⟩ = some (.int .u64 v) ∧ w.cell? ⟨b, 2, none⟩ = some (.int .i64 n)
theorem NumAt.below {w w' : World} {b : Nat} {o : Bool} {v n : Int} (h : NumAt w b o v n) (hb : Below w.heap.size w w') : NumAt w' b o v n :=
  ⟨Nat.lt_of_lt_of_le h.1 hb.size, (hb.cell (by simpa using h.1)).trans h.2.1, (hb.cell (by simpa using h.1)).trans h.2.2.1, (hb.cell (by simpa using h.1)).trans h.2.2.2⟩
theorem numAt_new (w : World) (o : Bool) (v n : Int) : NumAt (w.alloc (.cells #[.bool o, .int .u64 v, .int .i64 n] 92)) w.heap.size o v n := by
  refine ⟨by simp, ?_, ?_, ?_⟩ <;> (rw [World.cell?_alloc_at _ _ _ _ rfl]; rfl)
end Go.Proofs.Ythndnehadkgibaa
