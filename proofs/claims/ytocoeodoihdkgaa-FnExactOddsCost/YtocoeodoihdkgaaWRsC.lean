/- The program's weights, corners and blending. -/
import Derived.Test.YtocoeodoihdkgaaWRsA
import Derived.Test.YtocoeodoihdkgaaWTrC
import Derived.Test.YtocoeodoihdkgaaWQT
import Derived.Test.YtocoeodoihdkgaaWHeld
import Derived.Test.YtocoeodoihdkgaaWSzI
import Derived.StillTailTactics
namespace Go.Proofs.Ytocoeodoihdkgaa
open Go.RowKit

end Go.Proofs.Ytocoeodoihdkgaa
