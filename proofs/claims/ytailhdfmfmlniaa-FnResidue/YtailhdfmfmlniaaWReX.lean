/- Residue on both sides, read in one way. -/
import Derived.Test.YtailhdfmfmlniaaWReB
import Derived.Test.YtailhdfmfmlniaaWReC
namespace Go.Proofs.Ytailhdfmfmlniaa
open Go.RowKit

theorem resF_lenM (o : Int) (xs : List Int) : (resF o xs).length ≤ 1048576 := by have := resF_len o xs; omega
theorem specResidueX (o : Int) (v : Value) (xs : List Int) (w : World) (hl : -9223372036854775808 ≤ o) (hh : o ≤ 9223372036854775807) (hn : xs.length ≤ 1048576) (hR : InI xs) (hv : RdX w v xs) :
    Calls Try.prog 20 #[.int .i64 o, v] w fun e w' => ∃ u, e = .returned u ∧ OwnI w' w.heap.size w'.heap.size u (resF o xs) ∧ Upd 0 0 w w' :=
  specResidue o v xs w hl hh hn hR hv.rd
end Go.Proofs.Ytailhdfmfmlniaa
