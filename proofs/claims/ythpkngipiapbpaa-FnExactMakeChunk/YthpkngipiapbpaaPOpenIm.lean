/- Opening an argument that is an image: what the form's reading of it says. -/
import Derived.Test.YthpkngipiapbpaaPOpenR
import Derived.Test.YthpkngipiapbpaaWIm
namespace Go.Proofs.Ythpkngipiapbpaa
open Go.ChangeShapes Go.WideShapes Go.ChangeAt Go.RowKit

end Go.Proofs.Ythpkngipiapbpaa
