/- JoinPieces' two walks, as a law's walk takes them. -/
import Derived.Test.YtddjaockpdibdaaWJoin4
namespace Go.Proofs.Ytddjaockpdibdaa
open Go.RowKit

theorem specJoinPieces (v : Value) (ps : List Pc) (w : World) (_hn : ps.length ≤ 1048576) (_hR : InP ps) (hv : RdP w v ps) :
    Calls Try.prog 35 #[v] w fun e w' => ∃ u, e = .returned u ∧ OwnPl w' w.heap.size w'.heap.size u (joinF ps) ∧ Upd 0 0 w w' := by
  by_cases h : 40000 < ps.length
  · exact specJoinMany v ps w hv h
  · exact specJoinFew v ps w hv (by omega)
theorem implJoinPieces (v : Value) (ps : List Pc) (w : World) (_hn : ps.length ≤ 1048576) (_hR : InP ps) (hv : RdP w v ps) :
    Calls Try.prog 33 #[v] w fun e w' => ∃ u, e = .returned u ∧ OwnPl w' w.heap.size w'.heap.size u (joinF ps) ∧ Upd 0 0 w w' := by
  by_cases h : 40000 < ps.length
  · exact implJoinMany v ps w hv h
  · exact implJoinFew v ps w hv (by omega)
end Go.Proofs.Ytddjaockpdibdaa
