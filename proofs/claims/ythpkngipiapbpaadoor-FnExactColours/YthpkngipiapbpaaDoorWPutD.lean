/- The walk of the writer of bits in high order: the program's. -/
import Derived.Test.YthpkngipiapbpaaDoorWPutE
import Derived.Test.YthpkngipiapbpaaDoorWTake4
import Derived.Deep.RegionWith
import Derived.Deep.LoopGhost
import Derived.Deep.DeepCutAuto
namespace Go.Proofs.YthpkngipiapbpaaDoor
open Go.RowKit


end Go.Proofs.YthpkngipiapbpaaDoor
