/- The walks of GetNumber. -/
import Derived.Test.YthndnehadkgibaaRows
import Derived.Test.YthndnehadkgibaaPlainN
import Derived.WalkKit
import Derived.WalkSpells
import Derived.WalkLawsBesides
namespace Go.Proofs.Ythndnehadkgibaa
open Go.RowKit

end Go.Proofs.Ythndnehadkgibaa
