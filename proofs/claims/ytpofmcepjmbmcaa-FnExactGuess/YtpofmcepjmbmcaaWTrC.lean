/- The program's colours: clipping. -/
import Derived.Test.YtpofmcepjmbmcaaPlainTr
import Derived.Test.YtpofmcepjmbmcaaWTr
import Derived.StillTailTactics
namespace Go.Proofs.Ytpofmcepjmbmcaa
open Go.RowKit

theorem implClipInt (n a b : Int) (w : World) : Calls Try.prog 118 #[.int .i64 n, .int .i64 a, .int .i64 b] w fun e w' => e = .returned (.int .i64 (max a (min b n))) ∧ w' = w := by
  go_enter Try.func118, Try.ntmps118
  go_wp2
  all_goals
    go_ret
    exact ⟨ret_int (by omega), rfl⟩
set_option maxHeartbeats 4000000 in
set_option maxRecDepth 100000 in
theorem implClipSample (n : Int) (w : World) : Calls Try.prog 103 #[.int .i64 n] w fun e w' => e = .returned (.int .i64 (clipF n)) ∧ w' = w := by
  have hC := hide (fun W => implClipInt n 0 255 W)
  have e : max 0 (min 255 n) = clipF n := by unfold clipF; split <;> (try split) <;> omega
  rw [e] at hC
  clear e
  go_enter Try.func103, Try.ntmps103
  go_wp2_with fail
  refine (unhide hC _).mono ?_
  rintro e w1 ⟨rfl, rfl⟩
  go_wp2
  go_ret
  exact ⟨rfl, rfl⟩
set_option maxHeartbeats 4000000 in
set_option maxRecDepth 100000 in
theorem implRound8 (n : Int) (w : World) (h0 : -1152921504606846976 ≤ n) (h1 : n ≤ 1152921504606846976) : Calls Try.prog 76 #[.int .i64 n, .int .i64 8] w fun e w' => e = .returned (.int .i64 ((n + 128) / 256)) ∧ w' = w := by
  go_enter Try.func76, Try.ntmps76
  go_wp2
  go_ret
  exact ⟨rfl, rfl⟩
theorem implRound4 (n : Int) (w : World) (h0 : -1152921504606846976 ≤ n) (h1 : n ≤ 1152921504606846976) : Calls Try.prog 76 #[.int .i64 n, .int .i64 4] w fun e w' => e = .returned (.int .i64 ((n + 8) / 16)) ∧ w' = w := by
  go_enter Try.func76, Try.ntmps76
  go_wp2
  go_ret
  exact ⟨rfl, rfl⟩
theorem implRound16 (n : Int) (w : World) (h0 : -1152921504606846976 ≤ n) (h1 : n ≤ 1152921504606846976) : Calls Try.prog 76 #[.int .i64 n, .int .i64 16] w fun e w' => e = .returned (.int .i64 ((n + 32768) / 65536)) ∧ w' = w := by
  go_enter Try.func76, Try.ntmps76
  go_wp2
  go_ret
  exact ⟨rfl, rfl⟩
end Go.Proofs.Ytpofmcepjmbmcaa
