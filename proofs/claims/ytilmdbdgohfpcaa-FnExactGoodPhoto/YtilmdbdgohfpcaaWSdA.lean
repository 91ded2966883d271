/- The walk of the specification's test of sides. -/
import Derived.Test.YtilmdbdgohfpcaaPlainSd
import Derived.Test.YtilmdbdgohfpcaaWOwn
namespace Go.Proofs.Ytilmdbdgohfpcaa
open Go.RowKit

set_option maxHeartbeats 1000000 in
theorem specL4Sides (a b : Int) (w : World) : Calls Try.prog 62 #[.int .i64 a, .int .i64 b] w fun e w' => e = .returned (.bool (sidesB a b)) ∧ w' = w := by
  by_cases ha : 1 ≤ a ∧ a ≤ 512
  · have hE : sidesB a b = sideB b := by unfold sidesB; rw [sideB_yes ha]; rfl
    rw [hE]
    obtain ⟨a1, a2⟩ := ha
    by_cases hb : 1 ≤ b ∧ b ≤ 512
    · rw [sideB_yes hb]
      obtain ⟨b1, b2⟩ := hb
      clear hE
      go_enter Try.func62, Try.ntmps62
      go_wp2
      go_ret
      exact ⟨rfl, rfl⟩
    · rw [sideB_no hb]
      clear hE
      by_cases h1 : b < 1
      · have q1 : decide (1 ≤ b) = false := by simp; omega
        clear hb
        go_enter Try.func62, Try.ntmps62
        go_wp2
        go_ret
        exact ⟨rfl, rfl⟩
      · have q1 : decide (1 ≤ b) = true := by simp; omega
        have q2 : decide (b ≤ 512) = false := by simp; omega
        clear hb
        go_enter Try.func62, Try.ntmps62
        go_wp2
        go_ret
        exact ⟨rfl, rfl⟩
  · have hE : sidesB a b = false := by unfold sidesB; rw [sideB_no ha]; rfl
    rw [hE]
    clear hE
    by_cases h1 : a < 1
    · have q1 : decide (1 ≤ a) = false := by simp; omega
      clear ha
      go_enter Try.func62, Try.ntmps62
      go_wp2
      go_ret
      exact ⟨rfl, rfl⟩
    · have q1 : decide (1 ≤ a) = true := by simp; omega
      have q2 : decide (a ≤ 512) = false := by simp; omega
      clear ha
      go_enter Try.func62, Try.ntmps62
      go_wp2
      go_ret
      exact ⟨rfl, rfl⟩

end Go.Proofs.Ytilmdbdgohfpcaa
