/- MakeChunk, both sides, over a chunk as an argument. -/
import Derived.Test.YthpkngipiapbpaaWChC
import Derived.Test.YthpkngipiapbpaaWChD
import Derived.Test.YthpkngipiapbpaaWCk
namespace Go.Proofs.Ythpkngipiapbpaa
open Go.RowKit

def RnCk (w : World) (v : Value) (d : Ck) : Prop := ∃ vl, v = Ckv d vl ∧ RdN w vl (Cks d)
theorem OwnCk.rn {w : World} {a b : Nat} {v : Value} {d : Ck} (h : OwnCk w a b v d) : RnCk w v d := by
  obtain ⟨vl, rfl, h⟩ := h
  exact ⟨vl, rfl, rdN_of_own h⟩
theorem specMakeChunkD (v : Value) (d : Ck) (w : World) (hn : d.1.size + d.2.length ≤ 1048576) (hR : InCk d) (hv : RnCk w v d) :
    Calls Try.prog 5 #[v] w fun e w' => ∃ u, e = .returned u ∧ OwnY w' w.heap.size w'.heap.size u (chunkF d.1 d.2) ∧ Upd 0 0 w w' := by
  obtain ⟨vl, rfl, h⟩ := hv
  exact specMakeChunk d.1 vl d.2 w (by omega) (by omega) hR.2 h
theorem implMakeChunkD (v : Value) (d : Ck) (w : World) (hn : d.1.size + d.2.length ≤ 1048576) (hR : InCk d) (hv : RnCk w v d) :
    Calls Try.prog 7 #[v] w fun e w' => ∃ u, e = .returned u ∧ OwnY w' w.heap.size w'.heap.size u (chunkF d.1 d.2) ∧ Upd 0 0 w w' := by
  obtain ⟨vl, rfl, h⟩ := hv
  exact implMakeChunk d.1 vl d.2 w (by omega) (by omega) hR.2 h
end Go.Proofs.Ythpkngipiapbpaa
