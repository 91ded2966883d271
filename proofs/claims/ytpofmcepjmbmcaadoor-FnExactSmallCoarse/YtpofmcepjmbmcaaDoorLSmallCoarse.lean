/- The law on SmallCoarse, walked: what it calls is told by the walks of the specification and of the program. -/
import Derived.Test.YtpofmcepjmbmcaaDoorWSkE
import Derived.Test.YtpofmcepjmbmcaaDoorWMark
namespace Go.Proofs.YtpofmcepjmbmcaaDoor
open Go.RowKit

set_option maxHeartbeats 1000000 in
theorem lawSmallCoarse_long0 (ad0 : Option Addr) (cap0 : Nat) (zs0 : List Int) (n1 : Int) (w : World)  (_hn0 : 1048576 < zs0.length) :
    Calls Tryd.prog 9 #[.slice ad0 zs0.length cap0, .int .i64 n1] w fun e w' => e = .returned (.bool true) ∧ Below w.heap.size w w' := by
  go_enter Tryd.func9, Tryd.ntmps9
  go_wp2
  go_ret
  exact ⟨rfl, Below.refl _ _⟩

set_option maxHeartbeats 4000000 in
set_option maxRecDepth 100000 in
theorem lawSmallCoarse_short (ad0 : Option Addr) (cap0 : Nat) (zs0 : List Int) (n1 : Int) (w : World) (hT : Held w 0 (ints coT))  (hn0 : zs0.length ≤ 1048576) (hA0 : ArgI w ad0 zs0) (hR0 : InI zs0) (hl1 : -9223372036854775808 ≤ n1) (hh1 : n1 ≤ 9223372036854775807) :
    Calls Tryd.prog 9 #[.slice ad0 zs0.length cap0, .int .i64 n1] w fun e w' => e = .returned (.bool true) ∧ Below w.heap.size w w' := by
  have hT0 := hide hT.1
  replace hT := hide hT
  replace hA0 := hide hA0
  replace hR0 := hide hR0
  have hL := hide (smScaled_len smCo zs0 n1)
  have hB := hide (Below.refl w.heap.size w)
  go_enter Tryd.func9, Tryd.ntmps9
  go_wp2_with fail
  refine (toIntS_own ad0 cap0 zs0 w hn0 ((unhide hA0).below (unhide hB))).mono ?_
  rintro e w1 ⟨vy0_w0, rfl, ho, hu⟩
  replace hT := hide ((unhide hT).keep hu)
  replace hB := hide (below_upd (unhide hB) hu (Nat.le_refl _) (.inr (Nat.le_refl _)))
  have hs1 : Hid (w.heap.size ≤ w1.heap.size) := hide hu.size
  have y0_w0 := hide ho
  clear hu ho
  go_wp2_with fail
  refine (specSmallCoarse vy0_w0 zs0 n1 w1  hn0 (unhide hR0) (OwnI.rd (unhide y0_w0)) hl1 hh1).mono ?_
  rintro e w2 ⟨vr0, rfl, ho, hu⟩
  replace y0_w0 := hide ((unhide y0_w0).keep hu)
  replace hT := hide ((unhide hT).keep hu)
  replace hB := hide (below_upd (unhide hB) hu (Nat.le_refl _) (.inr (Nat.le_refl _)))
  have hs2 : Hid (w1.heap.size ≤ w2.heap.size) := hide hu.size
  have r0 := hide ho
  clear hu ho
  clear y0_w0
  go_wp2_with fail
  refine (toIntS_own ad0 cap0 zs0 w2 hn0 ((unhide hA0).below (unhide hB))).mono ?_
  rintro e w3 ⟨vx0, rfl, ho, hu⟩
  replace r0 := hide ((unhide r0).keep hu)
  replace hT := hide ((unhide hT).keep hu)
  replace hB := hide (below_upd (unhide hB) hu (Nat.le_refl _) (.inr (Nat.le_refl _)))
  have hs3 : Hid (w2.heap.size ≤ w3.heap.size) := hide hu.size
  have x0 := hide ho
  clear hu ho
  go_wp2_with fail
  refine (implSmallCoarse vx0 zs0 n1 w3 (unhide hT) hn0 (unhide hR0) (OwnI.rd (unhide x0)) hl1 hh1).mono ?_
  rintro e w4 ⟨vr1, rfl, ho, hu⟩
  replace r0 := hide ((unhide r0).keep hu)
  replace x0 := hide ((unhide x0).keep hu)
  replace hT := hide ((unhide hT).keep hu)
  replace hB := hide (below_upd (unhide hB) hu (Nat.le_refl _) (.inr (Nat.le_refl _)))
  have hs4 : Hid (w3.heap.size ≤ w4.heap.size) := hide hu.size
  have r1 := hide ho
  clear hu ho
  go_wp2_with fail
  refine (eqIntS_rd vr1 vr0 (smScaled smCo zs0 n1) w4 (unhide hL) (OwnI.rd (unhide r1)) (OwnI.rd (unhide r0))).mono ?_
  rintro e w5 ⟨rfl, hu⟩
  replace r0 := hide ((unhide r0).keep hu)
  replace x0 := hide ((unhide x0).keep hu)
  replace r1 := hide ((unhide r1).keep hu)
  replace hT := hide ((unhide hT).keep hu)
  replace hB := hide (below_upd (unhide hB) hu (Nat.le_refl _) (.inr (Nat.le_refl _)))
  have hs5 : Hid (w4.heap.size ≤ w5.heap.size) := hide hu.size
  clear hu
  go_wp2_with fail
  refine (toIntS_own ad0 cap0 zs0 w5 hn0 ((unhide hA0).below (unhide hB))).mono ?_
  rintro e w6 ⟨vz0, rfl, ho, hu⟩
  replace r0 := hide ((unhide r0).keep hu)
  replace x0 := hide ((unhide x0).keep hu)
  replace r1 := hide ((unhide r1).keep hu)
  replace hT := hide ((unhide hT).keep hu)
  replace hB := hide (below_upd (unhide hB) hu (Nat.le_refl _) (.inr (Nat.le_refl _)))
  have hs6 : Hid (w5.heap.size ≤ w6.heap.size) := hide hu.size
  have z0 := hide ho
  clear hu ho
  go_wp2_with fail
  refine (eqIntS_rd vx0 vz0 zs0 w6 hn0 (OwnI.rd (unhide x0)) (OwnI.rd (unhide z0))).mono ?_
  rintro e w7 ⟨rfl, hu⟩
  replace r0 := hide ((unhide r0).keep hu)
  replace x0 := hide ((unhide x0).keep hu)
  replace r1 := hide ((unhide r1).keep hu)
  replace z0 := hide ((unhide z0).keep hu)
  replace hT := hide ((unhide hT).keep hu)
  replace hB := hide (below_upd (unhide hB) hu (Nat.le_refl _) (.inr (Nat.le_refl _)))
  have hs7 : Hid (w6.heap.size ≤ w7.heap.size) := hide hu.size
  clear hu
  clear z0
  go_wp2_with fail
  refine (markIntS_own (w2.heap.size) (w3.heap.size) vx0 (1) zs0 w7 hn0 (by omega) (unhide x0)).mono ?_
  rintro e w8 ⟨rfl, ho, hu⟩
  replace r0 := hide ((unhide r0).upd hu (by have := unhide hT0; have := unhide hs1; have := unhide hs2; have := unhide hs3; have := unhide hs4; have := unhide hs5; have := unhide hs6; have := unhide hs7; omega))
  replace r1 := hide ((unhide r1).upd hu (by have := unhide hT0; have := unhide hs1; have := unhide hs2; have := unhide hs3; have := unhide hs4; have := unhide hs5; have := unhide hs6; have := unhide hs7; omega))
  replace hT := hide ((unhide hT).upd hu (by have := unhide hT0; have := unhide hs1; have := unhide hs2; have := unhide hs3; have := unhide hs4; have := unhide hs5; have := unhide hs6; have := unhide hs7; omega))
  replace hB := hide (below_upd (unhide hB) hu (Nat.le_refl _) (by have := unhide hT0; have := unhide hs1; have := unhide hs2; have := unhide hs3; have := unhide hs4; have := unhide hs5; have := unhide hs6; have := unhide hs7; omega))
  replace x0 := hide ho
  have hs8 : Hid (w7.heap.size ≤ w8.heap.size) := hide hu.size
  clear hu ho
  have hk0 : ¬ (((1 + zs0.length : Nat) : Int) < 0) := by omega
  go_wp2_with fail
  refine (eqIntS_rd vr1 vr0 (smScaled smCo zs0 n1) w8 (unhide hL) (OwnI.rd (unhide r1)) (OwnI.rd (unhide r0))).mono ?_
  rintro e w9 ⟨rfl, hu⟩
  replace r0 := hide ((unhide r0).keep hu)
  replace x0 := hide ((unhide x0).keep hu)
  replace r1 := hide ((unhide r1).keep hu)
  replace hT := hide ((unhide hT).keep hu)
  replace hB := hide (below_upd (unhide hB) hu (Nat.le_refl _) (.inr (Nat.le_refl _)))
  have hs9 : Hid (w8.heap.size ≤ w9.heap.size) := hide hu.size
  clear hu
  clear x0
  go_wp2_with fail
  refine (markIntS_own (w3.heap.size) (w4.heap.size) vr1 (1) (smScaled smCo zs0 n1) w9 (unhide hL) (by omega) (unhide r1)).mono ?_
  rintro e w10 ⟨rfl, ho, hu⟩
  replace r0 := hide ((unhide r0).upd hu (by have := unhide hT0; have := unhide hs1; have := unhide hs2; have := unhide hs3; have := unhide hs4; have := unhide hs5; have := unhide hs6; have := unhide hs7; have := unhide hs8; have := unhide hs9; omega))
  replace hT := hide ((unhide hT).upd hu (by have := unhide hT0; have := unhide hs1; have := unhide hs2; have := unhide hs3; have := unhide hs4; have := unhide hs5; have := unhide hs6; have := unhide hs7; have := unhide hs8; have := unhide hs9; omega))
  replace hB := hide (below_upd (unhide hB) hu (Nat.le_refl _) (by have := unhide hT0; have := unhide hs1; have := unhide hs2; have := unhide hs3; have := unhide hs4; have := unhide hs5; have := unhide hs6; have := unhide hs7; have := unhide hs8; have := unhide hs9; omega))
  replace r1 := hide ho
  have hs10 : Hid (w9.heap.size ≤ w10.heap.size) := hide hu.size
  clear hu ho
  go_wp2_with fail
  refine (upd_of_same (heldIntS_own (w3.heap.size) (w4.heap.size) vr1 1 (smScaled smCo zs0 n1).length w10 (unhide hL) (by omega) (unhide r1))).mono ?_
  rintro e w11 ⟨rfl, hu⟩
  replace r0 := hide ((unhide r0).keep hu)
  replace r1 := hide ((unhide r1).keep hu)
  replace hT := hide ((unhide hT).keep hu)
  replace hB := hide (below_upd (unhide hB) hu (Nat.le_refl _) (.inr (Nat.le_refl _)))
  have hs11 : Hid (w10.heap.size ≤ w11.heap.size) := hide hu.size
  clear hu
  have hq0 : ¬ (((1 + (smScaled smCo zs0 n1).length : Nat) : Int) < 0) := by omega
  go_wp2_with fail
  refine (toIntS_own ad0 cap0 zs0 w11 hn0 ((unhide hA0).below (unhide hB))).mono ?_
  rintro e w12 ⟨vy0_h0, rfl, ho, hu⟩
  replace r0 := hide ((unhide r0).keep hu)
  replace r1 := hide ((unhide r1).keep hu)
  replace hT := hide ((unhide hT).keep hu)
  replace hB := hide (below_upd (unhide hB) hu (Nat.le_refl _) (.inr (Nat.le_refl _)))
  have hs12 : Hid (w11.heap.size ≤ w12.heap.size) := hide hu.size
  have y0_h0 := hide ho
  clear hu ho
  go_wp2_with fail
  refine (implSmallCoarse vy0_h0 zs0 n1 w12 (unhide hT) hn0 (unhide hR0) (OwnI.rd (unhide y0_h0)) hl1 hh1).mono ?_
  rintro e w13 ⟨vr2, rfl, ho, hu⟩
  replace r0 := hide ((unhide r0).keep hu)
  replace r1 := hide ((unhide r1).keep hu)
  replace y0_h0 := hide ((unhide y0_h0).keep hu)
  replace hT := hide ((unhide hT).keep hu)
  replace hB := hide (below_upd (unhide hB) hu (Nat.le_refl _) (.inr (Nat.le_refl _)))
  have hs13 : Hid (w12.heap.size ≤ w13.heap.size) := hide hu.size
  have r2 := hide ho
  clear hu ho
  clear y0_h0
  go_wp2_with fail
  refine (eqIntS_rd vr2 vr0 (smScaled smCo zs0 n1) w13 (unhide hL) (OwnI.rd (unhide r2)) (OwnI.rd (unhide r0))).mono ?_
  rintro e w14 ⟨rfl, hu⟩
  replace r0 := hide ((unhide r0).keep hu)
  replace r1 := hide ((unhide r1).keep hu)
  replace r2 := hide ((unhide r2).keep hu)
  replace hT := hide ((unhide hT).keep hu)
  replace hB := hide (below_upd (unhide hB) hu (Nat.le_refl _) (.inr (Nat.le_refl _)))
  have hs14 : Hid (w13.heap.size ≤ w14.heap.size) := hide hu.size
  clear hu
  go_wp2_with fail
  refine (upd_of_same (heldIntS_own (w3.heap.size) (w4.heap.size) vr1 1 (smScaled smCo zs0 n1).length w14 (unhide hL) (by omega) (unhide r1))).mono ?_
  rintro e w15 ⟨rfl, hu⟩
  replace r0 := hide ((unhide r0).keep hu)
  replace r1 := hide ((unhide r1).keep hu)
  replace r2 := hide ((unhide r2).keep hu)
  replace hT := hide ((unhide hT).keep hu)
  replace hB := hide (below_upd (unhide hB) hu (Nat.le_refl _) (.inr (Nat.le_refl _)))
  have hs15 : Hid (w14.heap.size ≤ w15.heap.size) := hide hu.size
  clear hu
  go_wp2_with fail
  go_ret
  exact ⟨rfl, unhide hB⟩

theorem lawSmallCoarse (ad0 : Option Addr) (cap0 : Nat) (zs0 : List Int) (n1 : Int) (w : World) (hT : Held w 0 (ints coT))  (hA0 : ArgI w ad0 zs0) (hR0 : InI zs0) (hl1 : -9223372036854775808 ≤ n1) (hh1 : n1 ≤ 9223372036854775807) :
    Calls Tryd.prog 9 #[.slice ad0 zs0.length cap0, .int .i64 n1] w fun e w' => e = .returned (.bool true) ∧ Below w.heap.size w w' := by
  by_cases h0 : 1048576 < zs0.length
  · exact lawSmallCoarse_long0 ad0 cap0 zs0 n1 w  h0
  exact lawSmallCoarse_short ad0 cap0 zs0 n1 w hT (by omega) hA0 hR0 hl1 hh1
end Go.Proofs.YtpofmcepjmbmcaaDoor
