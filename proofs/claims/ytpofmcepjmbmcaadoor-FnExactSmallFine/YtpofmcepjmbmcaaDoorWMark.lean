/- The walks of the laws' own helpers that mark a byte string of the call's own, and ask whether the marks are there. -/
import Derived.Test.YtpofmcepjmbmcaaDoorWTake3
namespace Go.Proofs.YtpofmcepjmbmcaaDoor
open Go.RowKit

def markAt (k j : Nat) : Value := .int .u8 (((k : Int) + j) % 256)
def Marked (w : World) (g n k : Nat) : Prop := ∀ j, j < n → w.cell? ⟨g, j, none⟩ = some (markAt k j)

end Go.Proofs.YtpofmcepjmbmcaaDoor
