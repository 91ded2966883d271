/- The walk of the program's test of a side. -/
import Derived.Test.YtilmdbdgohfpcaaPlainSd
import Derived.Test.YtilmdbdgohfpcaaWOwn
namespace Go.Proofs.Ytilmdbdgohfpcaa
open Go.RowKit

set_option maxHeartbeats 1000000 in
theorem implGoodSide (a : Int) (w : World) : Calls Try.prog 63 #[.int .i64 a] w fun e w' => e = .returned (.bool (sideB a)) ∧ w' = w := by
  by_cases ha : 1 ≤ a ∧ a ≤ 512
  · rw [sideB_yes ha]
    obtain ⟨a1, a2⟩ := ha
    go_enter Try.func63, Try.ntmps63
    go_wp2
    go_ret
    exact ⟨rfl, rfl⟩
  · rw [sideB_no ha]
    by_cases h1 : a < 1
    · have q1 : decide (1 ≤ a) = false := by simp; omega
      clear ha
      go_enter Try.func63, Try.ntmps63
      go_wp2
      go_ret
      exact ⟨rfl, rfl⟩
    · have q1 : decide (1 ≤ a) = true := by simp; omega
      have q2 : decide (a ≤ 512) = false := by simp; omega
      clear ha
      go_enter Try.func63, Try.ntmps63
      go_wp2
      go_ret
      exact ⟨rfl, rfl⟩

end Go.Proofs.Ytilmdbdgohfpcaa
