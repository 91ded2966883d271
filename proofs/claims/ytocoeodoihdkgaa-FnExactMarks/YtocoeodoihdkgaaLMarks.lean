/- The law on Marks, walked: what it calls is told by the walks of the specification and of the program. -/
import Derived.Test.YtocoeodoihdkgaaWMkA
import Derived.Test.YtocoeodoihdkgaaWMkB
import Derived.Test.YtocoeodoihdkgaaWMCh
namespace Go.Proofs.Ytocoeodoihdkgaa
open Go.RowKit

set_option maxHeartbeats 4000000 in
set_option maxRecDepth 100000 in
theorem lawMarks_short (n0 : Int) (n1 : Int) (w : World)    (hl0 : -9223372036854775808 ≤ n0) (hh0 : n0 ≤ 9223372036854775807) (hl1 : -9223372036854775808 ≤ n1) (hh1 : n1 ≤ 9223372036854775807) :
    Calls Try.prog 12 #[.int .i64 n0, .int .i64 n1] w fun e w' => e = .returned (.bool true) ∧ Below w.heap.size w w' := by
  have hL := hide (marksF_big n0 n1)
  have hB := hide (Below.refl w.heap.size w)
  go_enter Try.func12, Try.ntmps12
  go_wp2_with fail
  refine (specMarks n0 n1 w  hl0 hh0 hl1 hh1).mono ?_
  rintro e w1 ⟨vr0, rfl, ho, hu⟩
  replace hB := hide (below_upd (unhide hB) hu (Nat.le_refl _) (.inr (Nat.le_refl _)))
  have hs1 : Hid (w.heap.size ≤ w1.heap.size) := hide hu.size
  have r0 := hide ho
  clear hu ho
  go_wp2_with fail
  refine (implMarks n0 n1 w1  hl0 hh0 hl1 hh1).mono ?_
  rintro e w2 ⟨vr1, rfl, ho, hu⟩
  replace r0 := hide ((unhide r0).keep hu)
  replace hB := hide (below_upd (unhide hB) hu (Nat.le_refl _) (.inr (Nat.le_refl _)))
  have hs2 : Hid (w1.heap.size ≤ w2.heap.size) := hide hu.size
  have r1 := hide ho
  clear hu ho
  go_wp2_with fail
  refine (eqChoiceS_rd vr1 vr0 (marksF n0 n1) w2 (unhide hL) (OwnCh.rd (unhide r1)) (OwnCh.rd (unhide r0))).mono ?_
  rintro e w3 ⟨rfl, hu⟩
  replace r0 := hide ((unhide r0).keep hu)
  replace r1 := hide ((unhide r1).keep hu)
  replace hB := hide (below_upd (unhide hB) hu (Nat.le_refl _) (.inr (Nat.le_refl _)))
  have hs3 : Hid (w2.heap.size ≤ w3.heap.size) := hide hu.size
  clear hu
  go_wp2_with fail
  refine (markChoiceS_own (w1.heap.size) (w2.heap.size) vr1 (1) (marksF n0 n1) w3 (unhide hL) (by omega) (unhide r1)).mono ?_
  rintro e w4 ⟨rfl, ho, hu⟩
  replace r0 := hide ((unhide r0).upd hu (by have := unhide hs1; have := unhide hs2; have := unhide hs3; omega))
  replace hB := hide (below_upd (unhide hB) hu (Nat.le_refl _) (by have := unhide hs1; have := unhide hs2; have := unhide hs3; omega))
  replace r1 := hide ho
  have hs4 : Hid (w3.heap.size ≤ w4.heap.size) := hide hu.size
  clear hu ho
  go_wp2_with fail
  refine (upd_of_same (heldChoiceS_own (w1.heap.size) (w2.heap.size) vr1 1 (marksF n0 n1).length w4 (unhide hL) (by omega) (unhide r1))).mono ?_
  rintro e w5 ⟨rfl, hu⟩
  replace r0 := hide ((unhide r0).keep hu)
  replace r1 := hide ((unhide r1).keep hu)
  replace hB := hide (below_upd (unhide hB) hu (Nat.le_refl _) (.inr (Nat.le_refl _)))
  have hs5 : Hid (w4.heap.size ≤ w5.heap.size) := hide hu.size
  clear hu
  have hq0 : ¬ (((1 + 2 * (marksF n0 n1).length : Nat) : Int) < 0) := by omega
  go_wp2_with fail
  refine (implMarks n0 n1 w5  hl0 hh0 hl1 hh1).mono ?_
  rintro e w6 ⟨vr2, rfl, ho, hu⟩
  replace r0 := hide ((unhide r0).keep hu)
  replace r1 := hide ((unhide r1).keep hu)
  replace hB := hide (below_upd (unhide hB) hu (Nat.le_refl _) (.inr (Nat.le_refl _)))
  have hs6 : Hid (w5.heap.size ≤ w6.heap.size) := hide hu.size
  have r2 := hide ho
  clear hu ho
  go_wp2_with fail
  refine (eqChoiceS_rd vr2 vr0 (marksF n0 n1) w6 (unhide hL) (OwnCh.rd (unhide r2)) (OwnCh.rd (unhide r0))).mono ?_
  rintro e w7 ⟨rfl, hu⟩
  replace r0 := hide ((unhide r0).keep hu)
  replace r1 := hide ((unhide r1).keep hu)
  replace r2 := hide ((unhide r2).keep hu)
  replace hB := hide (below_upd (unhide hB) hu (Nat.le_refl _) (.inr (Nat.le_refl _)))
  have hs7 : Hid (w6.heap.size ≤ w7.heap.size) := hide hu.size
  clear hu
  go_wp2_with fail
  refine (upd_of_same (heldChoiceS_own (w1.heap.size) (w2.heap.size) vr1 1 (marksF n0 n1).length w7 (unhide hL) (by omega) (unhide r1))).mono ?_
  rintro e w8 ⟨rfl, hu⟩
  replace r0 := hide ((unhide r0).keep hu)
  replace r1 := hide ((unhide r1).keep hu)
  replace r2 := hide ((unhide r2).keep hu)
  replace hB := hide (below_upd (unhide hB) hu (Nat.le_refl _) (.inr (Nat.le_refl _)))
  have hs8 : Hid (w7.heap.size ≤ w8.heap.size) := hide hu.size
  clear hu
  go_wp2_with fail
  go_ret
  exact ⟨rfl, unhide hB⟩

theorem lawMarks (n0 : Int) (n1 : Int) (w : World)   (hl0 : -9223372036854775808 ≤ n0) (hh0 : n0 ≤ 9223372036854775807) (hl1 : -9223372036854775808 ≤ n1) (hh1 : n1 ≤ 9223372036854775807) :
    Calls Try.prog 12 #[.int .i64 n0, .int .i64 n1] w fun e w' => e = .returned (.bool true) ∧ Below w.heap.size w w' := by
  exact lawMarks_short n0 n1 w   hl0 hh0 hl1 hh1
end Go.Proofs.Ytocoeodoihdkgaa
