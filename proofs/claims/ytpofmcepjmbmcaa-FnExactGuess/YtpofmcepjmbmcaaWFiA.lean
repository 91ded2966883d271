/- The walks of the filters of rows: the specification's helpers. -/
import Derived.Test.YtpofmcepjmbmcaaPlainF
import Derived.Test.YtpofmcepjmbmcaaWOwn2
import Derived.Deep.RegionWith
import Derived.Deep.RegionHeld3
namespace Go.Proofs.Ytpofmcepjmbmcaa
open Go.RowKit

theorem own_nilYF (w : World) (a b : Nat) : OwnY w a b (.slice none 0 0) [] := ⟨World.ownsRow_nil _ _ _ _, fun k hk => by simp [Value.ownBlock] at hk⟩

set_option maxHeartbeats 1000000 in
theorem specL4Abs (n : Int) (w : World) (h : -10000 ≤ n ∧ n ≤ 10000) : Calls Try.prog 110 #[.int .i64 n] w fun e w' => e = .returned (.int .i64 (absI n)) ∧ w' = w := by
  obtain ⟨h1, h2⟩ := h
  by_cases h0 : n < 0
  · have hE := hide (show absI n = -n from if_pos h0)
    go_enter Try.func110, Try.ntmps110
    go_wp2
    go_ret
    exact ⟨ret_int (unhide hE).symm, rfl⟩
  · have hE := hide (show absI n = n from if_neg h0)
    go_enter Try.func110, Try.ntmps110
    go_wp2
    go_ret
    exact ⟨ret_int (unhide hE).symm, rfl⟩

theorem absI_bd (n : Int) (m : Int) (h : -m ≤ n ∧ n ≤ m) : 0 ≤ absI n ∧ absI n ≤ m := by unfold absI; split <;> omega

end Go.Proofs.Ytpofmcepjmbmcaa
