/- The law on PackHigh, with the program's writer put in. -/
import Derived.Test.YtjndkhkkgdcghaaLPackHigh
import Derived.Test.YtjndkhkkgdcghaaWPutD
namespace Go.Proofs.Ytjndkhkkgdcghaa
open Go.RowKit

theorem lawPackHigh (ad : Option Addr) (cap : Nat) (fs : List (Int × Int)) (w : World) (h : ArgF w ad fs ∧ fs.length ≤ 9223372036854775807) :
    Calls Try.prog 7 #[.slice ad fs.length cap] w fun e w' => e = .returned (.bool true) ∧ Below w.heap.size w w' :=
  lawPackHighOver (fun zs L v n c w hi hv hn hL hs => implPutT zs L v n c w hi hv hn hL hs) ad cap fs w h
end Go.Proofs.Ytjndkhkkgdcghaa
