/- The program's weights, corners and blending. -/
import Derived.Test.YtnoojbppfbmbgaaWRsA
import Derived.Test.YtnoojbppfbmbgaaWTrC
import Derived.Test.YtnoojbppfbmbgaaWQT
import Derived.Test.YtnoojbppfbmbgaaWHeld
import Derived.Test.YtnoojbppfbmbgaaWSzI
import Derived.StillTailTactics
namespace Go.Proofs.Ytnoojbppfbmbgaa
open Go.RowKit

end Go.Proofs.Ytnoojbppfbmbgaa
