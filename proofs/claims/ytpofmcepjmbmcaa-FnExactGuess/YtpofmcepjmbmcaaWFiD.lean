/- The walks of the filters of rows: the program's guesses, its table of them, and the filter that it makes. -/
import Derived.Test.YtpofmcepjmbmcaaPlainF
import Derived.Test.YtpofmcepjmbmcaaWOwn2
import Derived.Laws.EntriesVeiled
import Derived.Deep.RegionWith
namespace Go.Proofs.Ytpofmcepjmbmcaa
open Go.RowKit

set_option maxHeartbeats 1000000 in
theorem implDistance (a b : Int) (w : World) (ha : -10000 ≤ a ∧ a ≤ 10000) (hb : -10000 ≤ b ∧ b ≤ 10000) : Calls Try.prog 111 #[.int .i64 a, .int .i64 b] w fun e w' => e = .returned (.int .i64 (absI (a - b))) ∧ w' = w := by
  obtain ⟨a1, a2⟩ := ha
  obtain ⟨b1, b2⟩ := hb
  go_enter Try.func111, Try.ntmps111
  go_wp2
  all_goals
    go_ret
    exact ⟨ret_int (by unfold absI; split <;> omega), rfl⟩

end Go.Proofs.Ytpofmcepjmbmcaa
