/- The walk of the writer of bits in high order: the program's. -/
import Derived.Test.YthkppcncajmniaaWPutE
import Derived.Test.YthkppcncajmniaaWTake4
import Derived.Deep.RegionWith
import Derived.Deep.LoopGhost
import Derived.Deep.DeepCutAuto
namespace Go.Proofs.Ythkppcncajmniaa
open Go.RowKit


end Go.Proofs.Ythkppcncajmniaa
