/- The program's colours: clipping. -/
import Derived.Test.YtnoojbppfbmbgaaPlainTr
import Derived.Test.YtnoojbppfbmbgaaWTr
import Derived.StillTailTactics
namespace Go.Proofs.Ytnoojbppfbmbgaa
open Go.RowKit

theorem implClipInt (n a b : Int) (w : World) : Calls Try.prog 49 #[.int .i64 n, .int .i64 a, .int .i64 b] w fun e w' => e = .returned (.int .i64 (max a (min b n))) ∧ w' = w := by
  go_enter Try.func49, Try.ntmps49
  go_wp2
  all_goals
    go_ret
    exact ⟨ret_int (by omega), rfl⟩
end Go.Proofs.Ytnoojbppfbmbgaa
