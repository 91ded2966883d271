/- The law on Lap, walked: what it calls is told by the walks of the specification and of the program. -/
import Derived.Test.YtnoojbppfbmbgaaDoorWCsR
namespace Go.Proofs.YtnoojbppfbmbgaaDoor
open Go.RowKit

set_option maxHeartbeats 1000000 in
theorem lawLap_long0 (ad0 : Option Addr) (cap0 : Nat) (zs0 : List Int) (ad1 : Option Addr) (cap1 : Nat) (zs1 : List Int) (w : World)  (_hn0 : 1048576 < zs0.length) :
    Calls Tryd.prog 6 #[.slice ad0 zs0.length cap0, .slice ad1 zs1.length cap1] w fun e w' => e = .returned (.bool true) ∧ Below w.heap.size w w' := by
  go_enter Tryd.func6, Tryd.ntmps6
  go_wp2
  go_ret
  exact ⟨rfl, Below.refl _ _⟩

set_option maxHeartbeats 1000000 in
theorem lawLap_long1 (ad0 : Option Addr) (cap0 : Nat) (zs0 : List Int) (ad1 : Option Addr) (cap1 : Nat) (zs1 : List Int) (w : World) (_hn0 : zs0.length ≤ 1048576) (_hn1 : 1048576 < zs1.length) :
    Calls Tryd.prog 6 #[.slice ad0 zs0.length cap0, .slice ad1 zs1.length cap1] w fun e w' => e = .returned (.bool true) ∧ Below w.heap.size w w' := by
  go_enter Tryd.func6, Tryd.ntmps6
  go_wp2
  go_ret
  exact ⟨rfl, Below.refl _ _⟩

set_option maxHeartbeats 4000000 in
set_option maxRecDepth 100000 in
theorem lawLap_short (ad0 : Option Addr) (cap0 : Nat) (zs0 : List Int) (ad1 : Option Addr) (cap1 : Nat) (zs1 : List Int) (w : World) (hT : Held w 0 cosCells)  (hn0 : zs0.length ≤ 1048576) (hn1 : zs1.length ≤ 1048576) (hA0 : ArgI w ad0 zs0) (hR0 : InI zs0) (hA1 : ArgI w ad1 zs1) (hR1 : InI zs1) :
    Calls Tryd.prog 6 #[.slice ad0 zs0.length cap0, .slice ad1 zs1.length cap1] w fun e w' => e = .returned (.bool true) ∧ Below w.heap.size w w' := by
  have hT0 := hide hT.1
  replace hT := hide hT
  replace hA0 := hide hA0
  replace hR0 := hide hR0
  replace hA1 := hide hA1
  replace hR1 := hide hR1
  have hL := hide (lapF_len zs0 zs1)
  have hB := hide (Below.refl w.heap.size w)
  go_enter Tryd.func6, Tryd.ntmps6
  go_wp2_with fail
  refine (toIntS_own ad0 cap0 zs0 w hn0 ((unhide hA0).below (unhide hB))).mono ?_
  rintro e w1 ⟨vy0_w0, rfl, ho, hu⟩
  replace hT := hide ((unhide hT).keep hu)
  replace hB := hide (below_upd (unhide hB) hu (Nat.le_refl _) (.inr (Nat.le_refl _)))
  have hs1 : Hid (w.heap.size ≤ w1.heap.size) := hide hu.size
  have y0_w0 := hide ho
  clear hu ho
  go_wp2_with fail
  refine (toIntS_own ad1 cap1 zs1 w1 hn1 ((unhide hA1).below (unhide hB))).mono ?_
  rintro e w2 ⟨vy1_w0, rfl, ho, hu⟩
  replace y0_w0 := hide ((unhide y0_w0).keep hu)
  replace hT := hide ((unhide hT).keep hu)
  replace hB := hide (below_upd (unhide hB) hu (Nat.le_refl _) (.inr (Nat.le_refl _)))
  have hs2 : Hid (w1.heap.size ≤ w2.heap.size) := hide hu.size
  have y1_w0 := hide ho
  clear hu ho
  go_wp2_with fail
  refine (specLap vy0_w0 zs0 vy1_w0 zs1 w2  hn0 (unhide hR0) (rdX_of_own (unhide y0_w0)) hn1 (unhide hR1) (rdX_of_own (unhide y1_w0))).mono ?_
  rintro e w3 ⟨vr0, rfl, ho, hu⟩
  replace y0_w0 := hide ((unhide y0_w0).keep hu)
  replace y1_w0 := hide ((unhide y1_w0).keep hu)
  replace hT := hide ((unhide hT).keep hu)
  replace hB := hide (below_upd (unhide hB) hu (Nat.le_refl _) (.inr (Nat.le_refl _)))
  have hs3 : Hid (w2.heap.size ≤ w3.heap.size) := hide hu.size
  have r0 := hide ho
  clear hu ho
  clear y0_w0 y1_w0
  go_wp2_with fail
  refine (toIntS_own ad0 cap0 zs0 w3 hn0 ((unhide hA0).below (unhide hB))).mono ?_
  rintro e w4 ⟨vx0, rfl, ho, hu⟩
  replace r0 := hide ((unhide r0).keep hu)
  replace hT := hide ((unhide hT).keep hu)
  replace hB := hide (below_upd (unhide hB) hu (Nat.le_refl _) (.inr (Nat.le_refl _)))
  have hs4 : Hid (w3.heap.size ≤ w4.heap.size) := hide hu.size
  have x0 := hide ho
  clear hu ho
  go_wp2_with fail
  refine (toIntS_own ad1 cap1 zs1 w4 hn1 ((unhide hA1).below (unhide hB))).mono ?_
  rintro e w5 ⟨vx1, rfl, ho, hu⟩
  replace r0 := hide ((unhide r0).keep hu)
  replace x0 := hide ((unhide x0).keep hu)
  replace hT := hide ((unhide hT).keep hu)
  replace hB := hide (below_upd (unhide hB) hu (Nat.le_refl _) (.inr (Nat.le_refl _)))
  have hs5 : Hid (w4.heap.size ≤ w5.heap.size) := hide hu.size
  have x1 := hide ho
  clear hu ho
  go_wp2_with fail
  refine (implLap vx0 zs0 vx1 zs1 w5 (unhide hT) hn0 (unhide hR0) (rdX_of_own (unhide x0)) hn1 (unhide hR1) (rdX_of_own (unhide x1))).mono ?_
  rintro e w6 ⟨vr1, rfl, ho, hu⟩
  replace r0 := hide ((unhide r0).keep hu)
  replace x0 := hide ((unhide x0).keep hu)
  replace x1 := hide ((unhide x1).keep hu)
  replace hT := hide ((unhide hT).keep hu)
  replace hB := hide (below_upd (unhide hB) hu (Nat.le_refl _) (.inr (Nat.le_refl _)))
  have hs6 : Hid (w5.heap.size ≤ w6.heap.size) := hide hu.size
  have r1 := hide ho
  clear hu ho
  go_wp2_with fail
  refine (eqIntS_rd vr1 vr0 (lapF zs0 zs1) w6 (unhide hL) (OwnI.rd (unhide r1)) (OwnI.rd (unhide r0))).mono ?_
  rintro e w7 ⟨rfl, hu⟩
  replace r0 := hide ((unhide r0).keep hu)
  replace x0 := hide ((unhide x0).keep hu)
  replace x1 := hide ((unhide x1).keep hu)
  replace r1 := hide ((unhide r1).keep hu)
  replace hT := hide ((unhide hT).keep hu)
  replace hB := hide (below_upd (unhide hB) hu (Nat.le_refl _) (.inr (Nat.le_refl _)))
  have hs7 : Hid (w6.heap.size ≤ w7.heap.size) := hide hu.size
  clear hu
  go_wp2_with fail
  refine (toIntS_own ad0 cap0 zs0 w7 hn0 ((unhide hA0).below (unhide hB))).mono ?_
  rintro e w8 ⟨vz0, rfl, ho, hu⟩
  replace r0 := hide ((unhide r0).keep hu)
  replace x0 := hide ((unhide x0).keep hu)
  replace x1 := hide ((unhide x1).keep hu)
  replace r1 := hide ((unhide r1).keep hu)
  replace hT := hide ((unhide hT).keep hu)
  replace hB := hide (below_upd (unhide hB) hu (Nat.le_refl _) (.inr (Nat.le_refl _)))
  have hs8 : Hid (w7.heap.size ≤ w8.heap.size) := hide hu.size
  have z0 := hide ho
  clear hu ho
  go_wp2_with fail
  refine (eqIntS_rd vx0 vz0 zs0 w8 hn0 (OwnI.rd (unhide x0)) (OwnI.rd (unhide z0))).mono ?_
  rintro e w9 ⟨rfl, hu⟩
  replace r0 := hide ((unhide r0).keep hu)
  replace x0 := hide ((unhide x0).keep hu)
  replace x1 := hide ((unhide x1).keep hu)
  replace r1 := hide ((unhide r1).keep hu)
  replace z0 := hide ((unhide z0).keep hu)
  replace hT := hide ((unhide hT).keep hu)
  replace hB := hide (below_upd (unhide hB) hu (Nat.le_refl _) (.inr (Nat.le_refl _)))
  have hs9 : Hid (w8.heap.size ≤ w9.heap.size) := hide hu.size
  clear hu
  clear z0
  go_wp2_with fail
  refine (toIntS_own ad1 cap1 zs1 w9 hn1 ((unhide hA1).below (unhide hB))).mono ?_
  rintro e w10 ⟨vz1, rfl, ho, hu⟩
  replace r0 := hide ((unhide r0).keep hu)
  replace x0 := hide ((unhide x0).keep hu)
  replace x1 := hide ((unhide x1).keep hu)
  replace r1 := hide ((unhide r1).keep hu)
  replace hT := hide ((unhide hT).keep hu)
  replace hB := hide (below_upd (unhide hB) hu (Nat.le_refl _) (.inr (Nat.le_refl _)))
  have hs10 : Hid (w9.heap.size ≤ w10.heap.size) := hide hu.size
  have z1 := hide ho
  clear hu ho
  go_wp2_with fail
  refine (eqIntS_rd vx1 vz1 zs1 w10 hn1 (OwnI.rd (unhide x1)) (OwnI.rd (unhide z1))).mono ?_
  rintro e w11 ⟨rfl, hu⟩
  replace r0 := hide ((unhide r0).keep hu)
  replace x0 := hide ((unhide x0).keep hu)
  replace x1 := hide ((unhide x1).keep hu)
  replace r1 := hide ((unhide r1).keep hu)
  replace z1 := hide ((unhide z1).keep hu)
  replace hT := hide ((unhide hT).keep hu)
  replace hB := hide (below_upd (unhide hB) hu (Nat.le_refl _) (.inr (Nat.le_refl _)))
  have hs11 : Hid (w10.heap.size ≤ w11.heap.size) := hide hu.size
  clear hu
  clear z1
  go_wp2_with fail
  refine (markIntS_own (w3.heap.size) (w4.heap.size) vx0 (1) zs0 w11 hn0 (by omega) (unhide x0)).mono ?_
  rintro e w12 ⟨rfl, ho, hu⟩
  replace r0 := hide ((unhide r0).upd hu (by have := unhide hT0; have := unhide hs1; have := unhide hs2; have := unhide hs3; have := unhide hs4; have := unhide hs5; have := unhide hs6; have := unhide hs7; have := unhide hs8; have := unhide hs9; have := unhide hs10; have := unhide hs11; omega))
  replace x1 := hide ((unhide x1).upd hu (by have := unhide hT0; have := unhide hs1; have := unhide hs2; have := unhide hs3; have := unhide hs4; have := unhide hs5; have := unhide hs6; have := unhide hs7; have := unhide hs8; have := unhide hs9; have := unhide hs10; have := unhide hs11; omega))
  replace r1 := hide ((unhide r1).upd hu (by have := unhide hT0; have := unhide hs1; have := unhide hs2; have := unhide hs3; have := unhide hs4; have := unhide hs5; have := unhide hs6; have := unhide hs7; have := unhide hs8; have := unhide hs9; have := unhide hs10; have := unhide hs11; omega))
  replace hT := hide ((unhide hT).upd hu (by have := unhide hT0; have := unhide hs1; have := unhide hs2; have := unhide hs3; have := unhide hs4; have := unhide hs5; have := unhide hs6; have := unhide hs7; have := unhide hs8; have := unhide hs9; have := unhide hs10; have := unhide hs11; omega))
  replace hB := hide (below_upd (unhide hB) hu (Nat.le_refl _) (by have := unhide hT0; have := unhide hs1; have := unhide hs2; have := unhide hs3; have := unhide hs4; have := unhide hs5; have := unhide hs6; have := unhide hs7; have := unhide hs8; have := unhide hs9; have := unhide hs10; have := unhide hs11; omega))
  replace x0 := hide ho
  have hs12 : Hid (w11.heap.size ≤ w12.heap.size) := hide hu.size
  clear hu ho
  go_wp2_with fail
  refine (markIntS_own (w4.heap.size) (w5.heap.size) vx1 (1 + zs0.length) zs1 w12 hn1 (by omega) (unhide x1)).mono ?_
  rintro e w13 ⟨rfl, ho, hu⟩
  replace r0 := hide ((unhide r0).upd hu (by have := unhide hT0; have := unhide hs1; have := unhide hs2; have := unhide hs3; have := unhide hs4; have := unhide hs5; have := unhide hs6; have := unhide hs7; have := unhide hs8; have := unhide hs9; have := unhide hs10; have := unhide hs11; have := unhide hs12; omega))
  replace x0 := hide ((unhide x0).upd hu (by have := unhide hT0; have := unhide hs1; have := unhide hs2; have := unhide hs3; have := unhide hs4; have := unhide hs5; have := unhide hs6; have := unhide hs7; have := unhide hs8; have := unhide hs9; have := unhide hs10; have := unhide hs11; have := unhide hs12; omega))
  replace r1 := hide ((unhide r1).upd hu (by have := unhide hT0; have := unhide hs1; have := unhide hs2; have := unhide hs3; have := unhide hs4; have := unhide hs5; have := unhide hs6; have := unhide hs7; have := unhide hs8; have := unhide hs9; have := unhide hs10; have := unhide hs11; have := unhide hs12; omega))
  replace hT := hide ((unhide hT).upd hu (by have := unhide hT0; have := unhide hs1; have := unhide hs2; have := unhide hs3; have := unhide hs4; have := unhide hs5; have := unhide hs6; have := unhide hs7; have := unhide hs8; have := unhide hs9; have := unhide hs10; have := unhide hs11; have := unhide hs12; omega))
  replace hB := hide (below_upd (unhide hB) hu (Nat.le_refl _) (by have := unhide hT0; have := unhide hs1; have := unhide hs2; have := unhide hs3; have := unhide hs4; have := unhide hs5; have := unhide hs6; have := unhide hs7; have := unhide hs8; have := unhide hs9; have := unhide hs10; have := unhide hs11; have := unhide hs12; omega))
  replace x1 := hide ho
  have hs13 : Hid (w12.heap.size ≤ w13.heap.size) := hide hu.size
  clear hu ho
  have hk0 : ¬ (((1 + zs0.length + zs1.length : Nat) : Int) < 0) := by omega
  go_wp2_with fail
  refine (eqIntS_rd vr1 vr0 (lapF zs0 zs1) w13 (unhide hL) (OwnI.rd (unhide r1)) (OwnI.rd (unhide r0))).mono ?_
  rintro e w14 ⟨rfl, hu⟩
  replace r0 := hide ((unhide r0).keep hu)
  replace x0 := hide ((unhide x0).keep hu)
  replace x1 := hide ((unhide x1).keep hu)
  replace r1 := hide ((unhide r1).keep hu)
  replace hT := hide ((unhide hT).keep hu)
  replace hB := hide (below_upd (unhide hB) hu (Nat.le_refl _) (.inr (Nat.le_refl _)))
  have hs14 : Hid (w13.heap.size ≤ w14.heap.size) := hide hu.size
  clear hu
  clear x0 x1
  go_wp2_with fail
  refine (markIntS_own (w5.heap.size) (w6.heap.size) vr1 (1) (lapF zs0 zs1) w14 (unhide hL) (by omega) (unhide r1)).mono ?_
  rintro e w15 ⟨rfl, ho, hu⟩
  replace r0 := hide ((unhide r0).upd hu (by have := unhide hT0; have := unhide hs1; have := unhide hs2; have := unhide hs3; have := unhide hs4; have := unhide hs5; have := unhide hs6; have := unhide hs7; have := unhide hs8; have := unhide hs9; have := unhide hs10; have := unhide hs11; have := unhide hs12; have := unhide hs13; have := unhide hs14; omega))
  replace hT := hide ((unhide hT).upd hu (by have := unhide hT0; have := unhide hs1; have := unhide hs2; have := unhide hs3; have := unhide hs4; have := unhide hs5; have := unhide hs6; have := unhide hs7; have := unhide hs8; have := unhide hs9; have := unhide hs10; have := unhide hs11; have := unhide hs12; have := unhide hs13; have := unhide hs14; omega))
  replace hB := hide (below_upd (unhide hB) hu (Nat.le_refl _) (by have := unhide hT0; have := unhide hs1; have := unhide hs2; have := unhide hs3; have := unhide hs4; have := unhide hs5; have := unhide hs6; have := unhide hs7; have := unhide hs8; have := unhide hs9; have := unhide hs10; have := unhide hs11; have := unhide hs12; have := unhide hs13; have := unhide hs14; omega))
  replace r1 := hide ho
  have hs15 : Hid (w14.heap.size ≤ w15.heap.size) := hide hu.size
  clear hu ho
  go_wp2_with fail
  refine (upd_of_same (heldIntS_own (w5.heap.size) (w6.heap.size) vr1 1 (lapF zs0 zs1).length w15 (unhide hL) (by omega) (unhide r1))).mono ?_
  rintro e w16 ⟨rfl, hu⟩
  replace r0 := hide ((unhide r0).keep hu)
  replace r1 := hide ((unhide r1).keep hu)
  replace hT := hide ((unhide hT).keep hu)
  replace hB := hide (below_upd (unhide hB) hu (Nat.le_refl _) (.inr (Nat.le_refl _)))
  have hs16 : Hid (w15.heap.size ≤ w16.heap.size) := hide hu.size
  clear hu
  have hq0 : ¬ (((1 + (lapF zs0 zs1).length : Nat) : Int) < 0) := by omega
  go_wp2_with fail
  refine (toIntS_own ad0 cap0 zs0 w16 hn0 ((unhide hA0).below (unhide hB))).mono ?_
  rintro e w17 ⟨vy0_h0, rfl, ho, hu⟩
  replace r0 := hide ((unhide r0).keep hu)
  replace r1 := hide ((unhide r1).keep hu)
  replace hT := hide ((unhide hT).keep hu)
  replace hB := hide (below_upd (unhide hB) hu (Nat.le_refl _) (.inr (Nat.le_refl _)))
  have hs17 : Hid (w16.heap.size ≤ w17.heap.size) := hide hu.size
  have y0_h0 := hide ho
  clear hu ho
  go_wp2_with fail
  refine (toIntS_own ad1 cap1 zs1 w17 hn1 ((unhide hA1).below (unhide hB))).mono ?_
  rintro e w18 ⟨vy1_h0, rfl, ho, hu⟩
  replace r0 := hide ((unhide r0).keep hu)
  replace r1 := hide ((unhide r1).keep hu)
  replace y0_h0 := hide ((unhide y0_h0).keep hu)
  replace hT := hide ((unhide hT).keep hu)
  replace hB := hide (below_upd (unhide hB) hu (Nat.le_refl _) (.inr (Nat.le_refl _)))
  have hs18 : Hid (w17.heap.size ≤ w18.heap.size) := hide hu.size
  have y1_h0 := hide ho
  clear hu ho
  go_wp2_with fail
  refine (implLap vy0_h0 zs0 vy1_h0 zs1 w18 (unhide hT) hn0 (unhide hR0) (rdX_of_own (unhide y0_h0)) hn1 (unhide hR1) (rdX_of_own (unhide y1_h0))).mono ?_
  rintro e w19 ⟨vr2, rfl, ho, hu⟩
  replace r0 := hide ((unhide r0).keep hu)
  replace r1 := hide ((unhide r1).keep hu)
  replace y0_h0 := hide ((unhide y0_h0).keep hu)
  replace y1_h0 := hide ((unhide y1_h0).keep hu)
  replace hT := hide ((unhide hT).keep hu)
  replace hB := hide (below_upd (unhide hB) hu (Nat.le_refl _) (.inr (Nat.le_refl _)))
  have hs19 : Hid (w18.heap.size ≤ w19.heap.size) := hide hu.size
  have r2 := hide ho
  clear hu ho
  clear y0_h0 y1_h0
  go_wp2_with fail
  refine (eqIntS_rd vr2 vr0 (lapF zs0 zs1) w19 (unhide hL) (OwnI.rd (unhide r2)) (OwnI.rd (unhide r0))).mono ?_
  rintro e w20 ⟨rfl, hu⟩
  replace r0 := hide ((unhide r0).keep hu)
  replace r1 := hide ((unhide r1).keep hu)
  replace r2 := hide ((unhide r2).keep hu)
  replace hT := hide ((unhide hT).keep hu)
  replace hB := hide (below_upd (unhide hB) hu (Nat.le_refl _) (.inr (Nat.le_refl _)))
  have hs20 : Hid (w19.heap.size ≤ w20.heap.size) := hide hu.size
  clear hu
  go_wp2_with fail
  refine (upd_of_same (heldIntS_own (w5.heap.size) (w6.heap.size) vr1 1 (lapF zs0 zs1).length w20 (unhide hL) (by omega) (unhide r1))).mono ?_
  rintro e w21 ⟨rfl, hu⟩
  replace r0 := hide ((unhide r0).keep hu)
  replace r1 := hide ((unhide r1).keep hu)
  replace r2 := hide ((unhide r2).keep hu)
  replace hT := hide ((unhide hT).keep hu)
  replace hB := hide (below_upd (unhide hB) hu (Nat.le_refl _) (.inr (Nat.le_refl _)))
  have hs21 : Hid (w20.heap.size ≤ w21.heap.size) := hide hu.size
  clear hu
  go_wp2_with fail
  go_ret
  exact ⟨rfl, unhide hB⟩

theorem lawLap (ad0 : Option Addr) (cap0 : Nat) (zs0 : List Int) (ad1 : Option Addr) (cap1 : Nat) (zs1 : List Int) (w : World) (hT : Held w 0 cosCells)  (hA0 : ArgI w ad0 zs0) (hR0 : InI zs0) (hA1 : ArgI w ad1 zs1) (hR1 : InI zs1) :
    Calls Tryd.prog 6 #[.slice ad0 zs0.length cap0, .slice ad1 zs1.length cap1] w fun e w' => e = .returned (.bool true) ∧ Below w.heap.size w w' := by
  by_cases h0 : 1048576 < zs0.length
  · exact lawLap_long0 ad0 cap0 zs0 ad1 cap1 zs1 w  h0
  by_cases h1 : 1048576 < zs1.length
  · exact lawLap_long1 ad0 cap0 zs0 ad1 cap1 zs1 w (by omega) h1
  exact lawLap_short ad0 cap0 zs0 ad1 cap1 zs1 w hT (by omega) (by omega) hA0 hR0 hA1 hR1
end Go.Proofs.YtnoojbppfbmbgaaDoor
