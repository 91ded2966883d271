/- The law on Grade, walked: what it calls is told by the walks of the specification and of the program. -/
import Derived.Test.YtnoojbppfbmbgaaWGrs
namespace Go.Proofs.Ytnoojbppfbmbgaa
open Go.RowKit

set_option maxHeartbeats 4000000 in
set_option maxRecDepth 100000 in
theorem lawGrade_short (n0 : Int) (n1 : Int) (w : World)    (hl0 : -9223372036854775808 ≤ n0) (hh0 : n0 ≤ 9223372036854775807) (hl1 : -9223372036854775808 ≤ n1) (hh1 : n1 ≤ 9223372036854775807) :
    Calls Try.prog 6 #[.int .i64 n0, .int .i64 n1] w fun e w' => e = .returned (.bool true) ∧ Below w.heap.size w w' := by
  have hB := hide (Below.refl w.heap.size w)
  go_enter Try.func6, Try.ntmps6
  go_wp2_with fail
  refine (specGrade n0 n1 w  hl0 hh0 hl1 hh1).mono ?_
  rintro e w1 ⟨rfl, hu⟩
  replace hB := hide (below_upd (unhide hB) hu (Nat.le_refl _) (.inr (Nat.le_refl _)))
  have hs1 : Hid (w.heap.size ≤ w1.heap.size) := hide hu.size
  clear hu
  go_wp2_with fail
  refine (implGradeU n0 n1 w1  hl0 hh0 hl1 hh1).mono ?_
  rintro e w2 ⟨rfl, hu⟩
  replace hB := hide (below_upd (unhide hB) hu (Nat.le_refl _) (.inr (Nat.le_refl _)))
  have hs2 : Hid (w1.heap.size ≤ w2.heap.size) := hide hu.size
  clear hu
  go_wp2_with fail
  go_ret
  exact ⟨rfl, unhide hB⟩

theorem lawGrade (n0 : Int) (n1 : Int) (w : World)   (hl0 : -9223372036854775808 ≤ n0) (hh0 : n0 ≤ 9223372036854775807) (hl1 : -9223372036854775808 ≤ n1) (hh1 : n1 ≤ 9223372036854775807) :
    Calls Try.prog 6 #[.int .i64 n0, .int .i64 n1] w fun e w' => e = .returned (.bool true) ∧ Below w.heap.size w w' := by
  exact lawGrade_short n0 n1 w   hl0 hh0 hl1 hh1
end Go.Proofs.Ytnoojbppfbmbgaa
