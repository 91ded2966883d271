/- The walk of the writer of bits in high order: the program's. -/
import Derived.Test.YtpofmcepjmbmcaaWPutE
import Derived.Test.YtpofmcepjmbmcaaWTake4
import Derived.Deep.RegionWith
import Derived.Deep.LoopGhost
import Derived.Deep.DeepCutAuto
namespace Go.Proofs.Ytpofmcepjmbmcaa
open Go.RowKit


end Go.Proofs.Ytpofmcepjmbmcaa
