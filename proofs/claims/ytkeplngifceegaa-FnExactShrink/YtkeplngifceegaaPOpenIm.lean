/- Opening an argument that is an image: what the form's reading of it says. -/
import Derived.Test.YtkeplngifceegaaPOpenR
import Derived.Test.YtkeplngifceegaaWIm
namespace Go.Proofs.Ytkeplngifceegaa
open Go.ChangeShapes Go.WideShapes Go.ChangeAt Go.RowKit

theorem cellsLI : Try.prog.cellsOf 27 = 1 := by kernel_rfl

end Go.Proofs.Ytkeplngifceegaa
