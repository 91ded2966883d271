/- The law on Window, walked: what it calls is told by the walks of the specification and of the program. -/
import Derived.Test.YtnoojbppfbmbgaaDoorWCsW
namespace Go.Proofs.YtnoojbppfbmbgaaDoor
open Go.RowKit

set_option maxHeartbeats 4000000 in
set_option maxRecDepth 100000 in
theorem lawWindow_short  (w : World) (hT : Held w 0 cosCells)    :
    Calls Tryd.prog 5 #[] w fun e w' => e = .returned (.bool true) ∧ Below w.heap.size w w' := by
  have hT0 := hide hT.1
  replace hT := hide hT
  have hL := hide (show winT.length ≤ 1048576 by decide)
  have hB := hide (Below.refl w.heap.size w)
  go_enter Tryd.func5, Tryd.ntmps5
  go_wp2_with fail
  refine (specWindow  w  ).mono ?_
  rintro e w1 ⟨vr0, rfl, ho, hu⟩
  replace hT := hide ((unhide hT).keep hu)
  replace hB := hide (below_upd (unhide hB) hu (Nat.le_refl _) (.inr (Nat.le_refl _)))
  have hs1 : Hid (w.heap.size ≤ w1.heap.size) := hide hu.size
  have r0 := hide ho
  clear hu ho
  go_wp2_with fail
  refine (implWindow  w1 (unhide hT) ).mono ?_
  rintro e w2 ⟨vr1, rfl, ho, hu⟩
  replace r0 := hide ((unhide r0).keep hu)
  replace hT := hide ((unhide hT).keep hu)
  replace hB := hide (below_upd (unhide hB) hu (Nat.le_refl _) (.inr (Nat.le_refl _)))
  have hs2 : Hid (w1.heap.size ≤ w2.heap.size) := hide hu.size
  have r1 := hide ho
  clear hu ho
  go_wp2_with fail
  refine (eqIntS_rd vr1 vr0 (winT) w2 (unhide hL) (OwnI.rd (unhide r1)) (OwnI.rd (unhide r0))).mono ?_
  rintro e w3 ⟨rfl, hu⟩
  replace r0 := hide ((unhide r0).keep hu)
  replace r1 := hide ((unhide r1).keep hu)
  replace hT := hide ((unhide hT).keep hu)
  replace hB := hide (below_upd (unhide hB) hu (Nat.le_refl _) (.inr (Nat.le_refl _)))
  have hs3 : Hid (w2.heap.size ≤ w3.heap.size) := hide hu.size
  clear hu
  go_wp2_with fail
  refine (markIntS_own (w1.heap.size) (w2.heap.size) vr1 (1) (winT) w3 (unhide hL) (by omega) (unhide r1)).mono ?_
  rintro e w4 ⟨rfl, ho, hu⟩
  replace r0 := hide ((unhide r0).upd hu (by have := unhide hT0; have := unhide hs1; have := unhide hs2; have := unhide hs3; omega))
  replace hT := hide ((unhide hT).upd hu (by have := unhide hT0; have := unhide hs1; have := unhide hs2; have := unhide hs3; omega))
  replace hB := hide (below_upd (unhide hB) hu (Nat.le_refl _) (by have := unhide hT0; have := unhide hs1; have := unhide hs2; have := unhide hs3; omega))
  replace r1 := hide ho
  have hs4 : Hid (w3.heap.size ≤ w4.heap.size) := hide hu.size
  clear hu ho
  go_wp2_with fail
  refine (upd_of_same (heldIntS_own (w1.heap.size) (w2.heap.size) vr1 1 (winT).length w4 (unhide hL) (by omega) (unhide r1))).mono ?_
  rintro e w5 ⟨rfl, hu⟩
  replace r0 := hide ((unhide r0).keep hu)
  replace r1 := hide ((unhide r1).keep hu)
  replace hT := hide ((unhide hT).keep hu)
  replace hB := hide (below_upd (unhide hB) hu (Nat.le_refl _) (.inr (Nat.le_refl _)))
  have hs5 : Hid (w4.heap.size ≤ w5.heap.size) := hide hu.size
  clear hu
  have hq0 : ¬ (((1 + (winT).length : Nat) : Int) < 0) := by omega
  go_wp2_with fail
  refine (implWindow  w5 (unhide hT) ).mono ?_
  rintro e w6 ⟨vr2, rfl, ho, hu⟩
  replace r0 := hide ((unhide r0).keep hu)
  replace r1 := hide ((unhide r1).keep hu)
  replace hT := hide ((unhide hT).keep hu)
  replace hB := hide (below_upd (unhide hB) hu (Nat.le_refl _) (.inr (Nat.le_refl _)))
  have hs6 : Hid (w5.heap.size ≤ w6.heap.size) := hide hu.size
  have r2 := hide ho
  clear hu ho
  go_wp2_with fail
  refine (eqIntS_rd vr2 vr0 (winT) w6 (unhide hL) (OwnI.rd (unhide r2)) (OwnI.rd (unhide r0))).mono ?_
  rintro e w7 ⟨rfl, hu⟩
  replace r0 := hide ((unhide r0).keep hu)
  replace r1 := hide ((unhide r1).keep hu)
  replace r2 := hide ((unhide r2).keep hu)
  replace hT := hide ((unhide hT).keep hu)
  replace hB := hide (below_upd (unhide hB) hu (Nat.le_refl _) (.inr (Nat.le_refl _)))
  have hs7 : Hid (w6.heap.size ≤ w7.heap.size) := hide hu.size
  clear hu
  go_wp2_with fail
  refine (upd_of_same (heldIntS_own (w1.heap.size) (w2.heap.size) vr1 1 (winT).length w7 (unhide hL) (by omega) (unhide r1))).mono ?_
  rintro e w8 ⟨rfl, hu⟩
  replace r0 := hide ((unhide r0).keep hu)
  replace r1 := hide ((unhide r1).keep hu)
  replace r2 := hide ((unhide r2).keep hu)
  replace hT := hide ((unhide hT).keep hu)
  replace hB := hide (below_upd (unhide hB) hu (Nat.le_refl _) (.inr (Nat.le_refl _)))
  have hs8 : Hid (w7.heap.size ≤ w8.heap.size) := hide hu.size
  clear hu
  go_wp2_with fail
  go_ret
  exact ⟨rfl, unhide hB⟩

theorem lawWindow  (w : World) (hT : Held w 0 cosCells)   :
    Calls Tryd.prog 5 #[] w fun e w' => e = .returned (.bool true) ∧ Below w.heap.size w w' := by
  exact lawWindow_short  w hT  
end Go.Proofs.YtnoojbppfbmbgaaDoor
