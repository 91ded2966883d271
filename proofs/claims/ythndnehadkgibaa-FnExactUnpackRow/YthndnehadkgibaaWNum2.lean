/- The walks of GetNumber: the specification's. -/
import Derived.Test.YthndnehadkgibaaWNum
namespace Go.Proofs.Ythndnehadkgibaa
open Go.RowKit

end Go.Proofs.Ythndnehadkgibaa
