/- The specification's colours. -/
import Derived.Test.YtpofmcepjmbmcaaPlainTr
import Derived.Test.YtpofmcepjmbmcaaWTr
namespace Go.Proofs.Ytpofmcepjmbmcaa
open Go.RowKit

theorem specClip (n : Int) (w : World) : Calls Try.prog 100 #[.int .i64 n] w fun e w' => e = .returned (.int .i64 (clipF n)) ∧ w' = w := by
  by_cases h0 : n < 0
  · rw [clipF_low h0]
    go_enter Try.func100, Try.ntmps100
    go_wp2
    go_ret
    exact ⟨rfl, rfl⟩
  · by_cases h1 : 255 < n
    · rw [clipF_high h1]
      go_enter Try.func100, Try.ntmps100
      go_wp2
      go_ret
      exact ⟨rfl, rfl⟩
    · rw [clipF_in h0 h1]
      go_enter Try.func100, Try.ntmps100
      go_wp2
      go_ret
      exact ⟨rfl, rfl⟩
theorem near_no {m : Int} {d : Tr} (h : ¬ Near m d) : (d.1 < -m ∨ m < d.1) ∨ (d.2.1 < -m ∨ m < d.2.1) ∨ (d.2.2 < -m ∨ m < d.2.2) := by
  unfold Near at h; omega
end Go.Proofs.Ytpofmcepjmbmcaa
