/- The program's colours: clipping. -/
import Derived.Test.YtnalmingbglgfaaPlainTr
import Derived.Test.YtnalmingbglgfaaWTr
import Derived.StillTailTactics
namespace Go.Proofs.Ytnalmingbglgfaa
open Go.RowKit

theorem implClipInt (n a b : Int) (w : World) : Calls Try.prog 78 #[.int .i64 n, .int .i64 a, .int .i64 b] w fun e w' => e = .returned (.int .i64 (max a (min b n))) ∧ w' = w := by
  go_enter Try.func78, Try.ntmps78
  go_wp2
  all_goals
    go_ret
    exact ⟨ret_int (by omega), rfl⟩
set_option maxHeartbeats 4000000 in
set_option maxRecDepth 100000 in
theorem implRound8 (n : Int) (w : World) (h0 : -1152921504606846976 ≤ n) (h1 : n ≤ 1152921504606846976) : Calls Try.prog 101 #[.int .i64 n, .int .i64 8] w fun e w' => e = .returned (.int .i64 ((n + 128) / 256)) ∧ w' = w := by
  go_enter Try.func101, Try.ntmps101
  go_wp2
  go_ret
  exact ⟨rfl, rfl⟩
theorem implRound4 (n : Int) (w : World) (h0 : -1152921504606846976 ≤ n) (h1 : n ≤ 1152921504606846976) : Calls Try.prog 101 #[.int .i64 n, .int .i64 4] w fun e w' => e = .returned (.int .i64 ((n + 8) / 16)) ∧ w' = w := by
  go_enter Try.func101, Try.ntmps101
  go_wp2
  go_ret
  exact ⟨rfl, rfl⟩
theorem implRound16 (n : Int) (w : World) (h0 : -1152921504606846976 ≤ n) (h1 : n ≤ 1152921504606846976) : Calls Try.prog 101 #[.int .i64 n, .int .i64 16] w fun e w' => e = .returned (.int .i64 ((n + 32768) / 65536)) ∧ w' = w := by
  go_enter Try.func101, Try.ntmps101
  go_wp2
  go_ret
  exact ⟨rfl, rfl⟩
end Go.Proofs.Ytnalmingbglgfaa
