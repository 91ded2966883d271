/- The program's blending of four samples. -/
import Derived.Test.YtnoojbppfbmbgaaWRsC
import Derived.Deep.Cut
namespace Go.Proofs.Ytnoojbppfbmbgaa
open Go.RowKit

end Go.Proofs.Ytnoojbppfbmbgaa
