/- The walk of the writer of bits in high order: the program's. -/
import Derived.Test.YtilmdbdgohfpcaaWPutE
import Derived.Test.YtilmdbdgohfpcaaWTake4
import Derived.Deep.RegionWith
import Derived.Deep.LoopGhost
import Derived.Deep.DeepCutAuto
namespace Go.Proofs.Ytilmdbdgohfpcaa
open Go.RowKit


end Go.Proofs.Ytilmdbdgohfpcaa
