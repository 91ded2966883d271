/- The walk of the writer of bits in high order: the program's. -/
import Derived.Test.YtkeplngifceegaaWPutE
import Derived.Test.YtkeplngifceegaaWTake4
import Derived.Deep.RegionWith
import Derived.Deep.LoopGhost
import Derived.Deep.DeepCutAuto
namespace Go.Proofs.Ytkeplngifceegaa
open Go.RowKit


end Go.Proofs.Ytkeplngifceegaa
