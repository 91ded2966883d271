/- For every int64 Fold answers as its specification. No condition. -/
import Derived.Test.YtailhdfmfmlniaaWSums
import Derived.ProofKit
namespace Go.Proofs.Ytailhdfmfmlniaa
open Go.ChangeShapes Go.WideShapes Go.ChangeAt Go.RowKit

theorem foldF_bd (n : Int) (h0 : -9223372036854775808 ≤ n) (h1 : n ≤ 9223372036854775807) : 0 ≤ foldF n ∧ foldF n ≤ 18446744073709551615 := by unfold foldF; split <;> omega
theorem foldF_neg (n : Int) (h : n < 0) : foldF n = -2 * n - 1 := by unfold foldF; rw [if_pos h]
theorem foldF_pos (n : Int) (h : ¬ n < 0) : foldF n = 2 * n := by unfold foldF; rw [if_neg h]

set_option maxHeartbeats 400000 in
theorem specFold (n : Int) (h0 : -9223372036854775808 ≤ n) (h1 : n ≤ 9223372036854775807) (w : World) :
    Calls Try.prog 130 #[.int .i64 n] w fun e w' => e = .returned (.int .u64 (foldF n)) ∧ w' = w := by
  by_cases h : n < 0
  · have H := hide (foldF_neg n h)
    go_enter Try.func130, Try.ntmps130
    go_wp2
    go_ret
    exact ⟨ret_int (by rw [unhide H]; omega), rfl⟩
  · have H := hide (foldF_pos n h)
    go_enter Try.func130, Try.ntmps130
    go_wp2
    go_ret
    exact ⟨ret_int (by rw [unhide H]), rfl⟩

theorem Try.own : ownKnob Try.prog.godebug = none := by kernel_rfl
theorem i64_of_wf {x : Int} (h : (Lit.int .i64 x).wf = true) : -9223372036854775808 ≤ x ∧ x ≤ 9223372036854775807 := by
  simp [Lit.wf, IntKind.min, IntKind.max, IntKind.signed, IntKind.bits] at h
  exact ⟨by omega, by omega⟩

end Go.Proofs.Ytailhdfmfmlniaa
