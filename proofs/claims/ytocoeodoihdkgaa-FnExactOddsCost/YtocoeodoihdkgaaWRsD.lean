/- The program's blending of four samples. -/
import Derived.Test.YtocoeodoihdkgaaWRsC
import Derived.Deep.Cut
namespace Go.Proofs.Ytocoeodoihdkgaa
open Go.RowKit

end Go.Proofs.Ytocoeodoihdkgaa
