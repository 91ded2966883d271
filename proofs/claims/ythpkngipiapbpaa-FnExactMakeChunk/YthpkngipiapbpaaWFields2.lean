/- The walks of the laws' own helpers on fields. -/
import Derived.Test.YthpkngipiapbpaaWFields
import Derived.Test.YthpkngipiapbpaaWPut2
namespace Go.Proofs.Ythpkngipiapbpaa
open Go.RowKit

theorem infoF : (Try.prog.info? 48).map (fun i => (i.zero, i.size, i.bytes)) = some (some (.agg #[.int .i64 0, .int .u64 0]), 2, 16) := by kernel_rfl

def FieldRow (ys : List Value) (fs : List (Int × Int)) (k : Nat) : Prop := ∀ j, j < k → ys[j * 2]? = some (.int .i64 (fs.getD j (0, 0)).1) ∧ ys[j * 2 + 1]? = some (.int .u64 (fs.getD j (0, 0)).2)

end Go.Proofs.Ythpkngipiapbpaa
