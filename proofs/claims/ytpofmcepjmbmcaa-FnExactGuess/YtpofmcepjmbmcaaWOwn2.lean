/- What a step that only lays new blocks keeps of a row of the call's own. -/
import Derived.Test.YtpofmcepjmbmcaaWOwn
namespace Go.Proofs.Ytpofmcepjmbmcaa
open Go.RowKit

theorem ownsP_below {w w' : World} {base : Nat} {e : TypeId} {size n : Nat} {v : Value} {xs : List Value} (h : w.ownsRow base e size v n xs) (hb : Below w.heap.size w w') : w'.ownsRow base e size v n xs :=
  ((Own.of h).keep (Upd.of_below hb 0 0)).1
end Go.Proofs.Ytpofmcepjmbmcaa
