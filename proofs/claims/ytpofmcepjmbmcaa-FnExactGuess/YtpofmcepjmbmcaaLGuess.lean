/- The law on Guess, walked: what it calls is told by the walks of the specification and of the program. -/
import Derived.Test.YtpofmcepjmbmcaaWGuC
import Derived.Test.YtpofmcepjmbmcaaWGuQ
namespace Go.Proofs.Ytpofmcepjmbmcaa
open Go.RowKit

set_option maxHeartbeats 1000000 in
theorem lawGuess_long2 (n0 : Int) (n1 : Int) (ad2 : Option Addr) (cap2 : Nat) (zs2 : List Int) (ad3 : Option Addr) (cap3 : Nat) (zs3 : List Int) (n4 : Int) (w : World)  (_hn2 : 1048576 < zs2.length) :
    Calls Try.prog 5 #[.int .i64 n0, .int .i64 n1, .slice ad2 zs2.length cap2, .slice ad3 zs3.length cap3, .int .i64 n4] w fun e w' => e = .returned (.bool true) ∧ Below w.heap.size w w' := by
  go_enter Try.func5, Try.ntmps5
  go_wp2
  go_ret
  exact ⟨rfl, Below.refl _ _⟩

set_option maxHeartbeats 1000000 in
theorem lawGuess_long3 (n0 : Int) (n1 : Int) (ad2 : Option Addr) (cap2 : Nat) (zs2 : List Int) (ad3 : Option Addr) (cap3 : Nat) (zs3 : List Int) (n4 : Int) (w : World) (_hn2 : zs2.length ≤ 1048576) (_hn3 : 1048576 < zs3.length) :
    Calls Try.prog 5 #[.int .i64 n0, .int .i64 n1, .slice ad2 zs2.length cap2, .slice ad3 zs3.length cap3, .int .i64 n4] w fun e w' => e = .returned (.bool true) ∧ Below w.heap.size w w' := by
  go_enter Try.func5, Try.ntmps5
  go_wp2
  go_ret
  exact ⟨rfl, Below.refl _ _⟩

set_option maxHeartbeats 4000000 in
set_option maxRecDepth 100000 in
theorem lawGuess_short (n0 : Int) (n1 : Int) (ad2 : Option Addr) (cap2 : Nat) (zs2 : List Int) (ad3 : Option Addr) (cap3 : Nat) (zs3 : List Int) (n4 : Int) (w : World)   (hn2 : zs2.length ≤ 1048576) (hn3 : zs3.length ≤ 1048576) (hl0 : -9223372036854775808 ≤ n0) (hh0 : n0 ≤ 9223372036854775807) (hl1 : -9223372036854775808 ≤ n1) (hh1 : n1 ≤ 9223372036854775807) (hA2 : ArgI w ad2 zs2) (hR2 : InI zs2) (hA3 : ArgI w ad3 zs3) (hR3 : InI zs3) (hl4 : -9223372036854775808 ≤ n4) (hh4 : n4 ≤ 9223372036854775807) :
    Calls Try.prog 5 #[.int .i64 n0, .int .i64 n1, .slice ad2 zs2.length cap2, .slice ad3 zs3.length cap3, .int .i64 n4] w fun e w' => e = .returned (.bool true) ∧ Below w.heap.size w w' := by
  replace hA2 := hide hA2
  replace hR2 := hide hR2
  replace hA3 := hide hA3
  replace hR3 := hide hR3
  have hL := hide (guF_len n0 n1 zs2 zs3 n4)
  have hB := hide (Below.refl w.heap.size w)
  go_enter Try.func5, Try.ntmps5
  go_wp2_with fail
  refine (toIntS_own ad2 cap2 zs2 w hn2 ((unhide hA2).below (unhide hB))).mono ?_
  rintro e w1 ⟨vy2_w0, rfl, ho, hu⟩
  replace hB := hide (below_upd (unhide hB) hu (Nat.le_refl _) (.inr (Nat.le_refl _)))
  have hs1 : Hid (w.heap.size ≤ w1.heap.size) := hide hu.size
  have y2_w0 := hide ho
  clear hu ho
  go_wp2_with fail
  refine (toIntS_own ad3 cap3 zs3 w1 hn3 ((unhide hA3).below (unhide hB))).mono ?_
  rintro e w2 ⟨vy3_w0, rfl, ho, hu⟩
  replace y2_w0 := hide ((unhide y2_w0).keep hu)
  replace hB := hide (below_upd (unhide hB) hu (Nat.le_refl _) (.inr (Nat.le_refl _)))
  have hs2 : Hid (w1.heap.size ≤ w2.heap.size) := hide hu.size
  have y3_w0 := hide ho
  clear hu ho
  go_wp2_with fail
  refine (specGuess n0 n1 vy2_w0 zs2 vy3_w0 zs3 n4 w2  hl0 hh0 hl1 hh1 hn2 (unhide hR2) (OwnI.rd (unhide y2_w0)) hn3 (unhide hR3) (OwnI.rd (unhide y3_w0)) hl4 hh4).mono ?_
  rintro e w3 ⟨vr0, rfl, ho, hu⟩
  replace y2_w0 := hide ((unhide y2_w0).keep hu)
  replace y3_w0 := hide ((unhide y3_w0).keep hu)
  replace hB := hide (below_upd (unhide hB) hu (Nat.le_refl _) (.inr (Nat.le_refl _)))
  have hs3 : Hid (w2.heap.size ≤ w3.heap.size) := hide hu.size
  have r0 := hide ho
  clear hu ho
  clear y2_w0 y3_w0
  go_wp2_with fail
  refine (toIntS_own ad2 cap2 zs2 w3 hn2 ((unhide hA2).below (unhide hB))).mono ?_
  rintro e w4 ⟨vx2, rfl, ho, hu⟩
  replace r0 := hide ((unhide r0).keep hu)
  replace hB := hide (below_upd (unhide hB) hu (Nat.le_refl _) (.inr (Nat.le_refl _)))
  have hs4 : Hid (w3.heap.size ≤ w4.heap.size) := hide hu.size
  have x2 := hide ho
  clear hu ho
  go_wp2_with fail
  refine (toIntS_own ad3 cap3 zs3 w4 hn3 ((unhide hA3).below (unhide hB))).mono ?_
  rintro e w5 ⟨vx3, rfl, ho, hu⟩
  replace r0 := hide ((unhide r0).keep hu)
  replace x2 := hide ((unhide x2).keep hu)
  replace hB := hide (below_upd (unhide hB) hu (Nat.le_refl _) (.inr (Nat.le_refl _)))
  have hs5 : Hid (w4.heap.size ≤ w5.heap.size) := hide hu.size
  have x3 := hide ho
  clear hu ho
  go_wp2_with fail
  refine (implGuess n0 n1 vx2 zs2 vx3 zs3 n4 w5  hl0 hh0 hl1 hh1 hn2 (unhide hR2) (rdX_of_own (unhide x2)) hn3 (unhide hR3) (rdX_of_own (unhide x3)) hl4 hh4).mono ?_
  rintro e w6 ⟨vr1, rfl, ho, hu⟩
  replace r0 := hide ((unhide r0).keep hu)
  replace x2 := hide ((unhide x2).keep hu)
  replace x3 := hide ((unhide x3).keep hu)
  replace hB := hide (below_upd (unhide hB) hu (Nat.le_refl _) (.inr (Nat.le_refl _)))
  have hs6 : Hid (w5.heap.size ≤ w6.heap.size) := hide hu.size
  have r1 := hide ho
  clear hu ho
  go_wp2_with fail
  refine (eqIntS_rd vr1 vr0 (guF n0 n1 zs2 zs3 n4) w6 (unhide hL) (OwnI.rd (unhide r1)) (OwnI.rd (unhide r0))).mono ?_
  rintro e w7 ⟨rfl, hu⟩
  replace r0 := hide ((unhide r0).keep hu)
  replace x2 := hide ((unhide x2).keep hu)
  replace x3 := hide ((unhide x3).keep hu)
  replace r1 := hide ((unhide r1).keep hu)
  replace hB := hide (below_upd (unhide hB) hu (Nat.le_refl _) (.inr (Nat.le_refl _)))
  have hs7 : Hid (w6.heap.size ≤ w7.heap.size) := hide hu.size
  clear hu
  go_wp2_with fail
  refine (toIntS_own ad2 cap2 zs2 w7 hn2 ((unhide hA2).below (unhide hB))).mono ?_
  rintro e w8 ⟨vz2, rfl, ho, hu⟩
  replace r0 := hide ((unhide r0).keep hu)
  replace x2 := hide ((unhide x2).keep hu)
  replace x3 := hide ((unhide x3).keep hu)
  replace r1 := hide ((unhide r1).keep hu)
  replace hB := hide (below_upd (unhide hB) hu (Nat.le_refl _) (.inr (Nat.le_refl _)))
  have hs8 : Hid (w7.heap.size ≤ w8.heap.size) := hide hu.size
  have z2 := hide ho
  clear hu ho
  go_wp2_with fail
  refine (eqIntS_rd vx2 vz2 zs2 w8 hn2 (OwnI.rd (unhide x2)) (OwnI.rd (unhide z2))).mono ?_
  rintro e w9 ⟨rfl, hu⟩
  replace r0 := hide ((unhide r0).keep hu)
  replace x2 := hide ((unhide x2).keep hu)
  replace x3 := hide ((unhide x3).keep hu)
  replace r1 := hide ((unhide r1).keep hu)
  replace z2 := hide ((unhide z2).keep hu)
  replace hB := hide (below_upd (unhide hB) hu (Nat.le_refl _) (.inr (Nat.le_refl _)))
  have hs9 : Hid (w8.heap.size ≤ w9.heap.size) := hide hu.size
  clear hu
  clear z2
  go_wp2_with fail
  refine (toIntS_own ad3 cap3 zs3 w9 hn3 ((unhide hA3).below (unhide hB))).mono ?_
  rintro e w10 ⟨vz3, rfl, ho, hu⟩
  replace r0 := hide ((unhide r0).keep hu)
  replace x2 := hide ((unhide x2).keep hu)
  replace x3 := hide ((unhide x3).keep hu)
  replace r1 := hide ((unhide r1).keep hu)
  replace hB := hide (below_upd (unhide hB) hu (Nat.le_refl _) (.inr (Nat.le_refl _)))
  have hs10 : Hid (w9.heap.size ≤ w10.heap.size) := hide hu.size
  have z3 := hide ho
  clear hu ho
  go_wp2_with fail
  refine (eqIntS_rd vx3 vz3 zs3 w10 hn3 (OwnI.rd (unhide x3)) (OwnI.rd (unhide z3))).mono ?_
  rintro e w11 ⟨rfl, hu⟩
  replace r0 := hide ((unhide r0).keep hu)
  replace x2 := hide ((unhide x2).keep hu)
  replace x3 := hide ((unhide x3).keep hu)
  replace r1 := hide ((unhide r1).keep hu)
  replace z3 := hide ((unhide z3).keep hu)
  replace hB := hide (below_upd (unhide hB) hu (Nat.le_refl _) (.inr (Nat.le_refl _)))
  have hs11 : Hid (w10.heap.size ≤ w11.heap.size) := hide hu.size
  clear hu
  clear z3
  go_wp2_with fail
  refine (markIntS_own (w3.heap.size) (w4.heap.size) vx2 (1) zs2 w11 hn2 (by omega) (unhide x2)).mono ?_
  rintro e w12 ⟨rfl, ho, hu⟩
  replace r0 := hide ((unhide r0).upd hu (by have := unhide hs1; have := unhide hs2; have := unhide hs3; have := unhide hs4; have := unhide hs5; have := unhide hs6; have := unhide hs7; have := unhide hs8; have := unhide hs9; have := unhide hs10; have := unhide hs11; omega))
  replace x3 := hide ((unhide x3).upd hu (by have := unhide hs1; have := unhide hs2; have := unhide hs3; have := unhide hs4; have := unhide hs5; have := unhide hs6; have := unhide hs7; have := unhide hs8; have := unhide hs9; have := unhide hs10; have := unhide hs11; omega))
  replace r1 := hide ((unhide r1).upd hu (by have := unhide hs1; have := unhide hs2; have := unhide hs3; have := unhide hs4; have := unhide hs5; have := unhide hs6; have := unhide hs7; have := unhide hs8; have := unhide hs9; have := unhide hs10; have := unhide hs11; omega))
  replace hB := hide (below_upd (unhide hB) hu (Nat.le_refl _) (by have := unhide hs1; have := unhide hs2; have := unhide hs3; have := unhide hs4; have := unhide hs5; have := unhide hs6; have := unhide hs7; have := unhide hs8; have := unhide hs9; have := unhide hs10; have := unhide hs11; omega))
  replace x2 := hide ho
  have hs12 : Hid (w11.heap.size ≤ w12.heap.size) := hide hu.size
  clear hu ho
  go_wp2_with fail
  refine (markIntS_own (w4.heap.size) (w5.heap.size) vx3 (1 + zs2.length) zs3 w12 hn3 (by omega) (unhide x3)).mono ?_
  rintro e w13 ⟨rfl, ho, hu⟩
  replace r0 := hide ((unhide r0).upd hu (by have := unhide hs1; have := unhide hs2; have := unhide hs3; have := unhide hs4; have := unhide hs5; have := unhide hs6; have := unhide hs7; have := unhide hs8; have := unhide hs9; have := unhide hs10; have := unhide hs11; have := unhide hs12; omega))
  replace x2 := hide ((unhide x2).upd hu (by have := unhide hs1; have := unhide hs2; have := unhide hs3; have := unhide hs4; have := unhide hs5; have := unhide hs6; have := unhide hs7; have := unhide hs8; have := unhide hs9; have := unhide hs10; have := unhide hs11; have := unhide hs12; omega))
  replace r1 := hide ((unhide r1).upd hu (by have := unhide hs1; have := unhide hs2; have := unhide hs3; have := unhide hs4; have := unhide hs5; have := unhide hs6; have := unhide hs7; have := unhide hs8; have := unhide hs9; have := unhide hs10; have := unhide hs11; have := unhide hs12; omega))
  replace hB := hide (below_upd (unhide hB) hu (Nat.le_refl _) (by have := unhide hs1; have := unhide hs2; have := unhide hs3; have := unhide hs4; have := unhide hs5; have := unhide hs6; have := unhide hs7; have := unhide hs8; have := unhide hs9; have := unhide hs10; have := unhide hs11; have := unhide hs12; omega))
  replace x3 := hide ho
  have hs13 : Hid (w12.heap.size ≤ w13.heap.size) := hide hu.size
  clear hu ho
  have hk0 : ¬ (((1 + zs2.length + zs3.length : Nat) : Int) < 0) := by omega
  go_wp2_with fail
  refine (eqIntS_rd vr1 vr0 (guF n0 n1 zs2 zs3 n4) w13 (unhide hL) (OwnI.rd (unhide r1)) (OwnI.rd (unhide r0))).mono ?_
  rintro e w14 ⟨rfl, hu⟩
  replace r0 := hide ((unhide r0).keep hu)
  replace x2 := hide ((unhide x2).keep hu)
  replace x3 := hide ((unhide x3).keep hu)
  replace r1 := hide ((unhide r1).keep hu)
  replace hB := hide (below_upd (unhide hB) hu (Nat.le_refl _) (.inr (Nat.le_refl _)))
  have hs14 : Hid (w13.heap.size ≤ w14.heap.size) := hide hu.size
  clear hu
  clear x2 x3
  go_wp2_with fail
  refine (markIntS_own (w5.heap.size) (w6.heap.size) vr1 (1) (guF n0 n1 zs2 zs3 n4) w14 (unhide hL) (by omega) (unhide r1)).mono ?_
  rintro e w15 ⟨rfl, ho, hu⟩
  replace r0 := hide ((unhide r0).upd hu (by have := unhide hs1; have := unhide hs2; have := unhide hs3; have := unhide hs4; have := unhide hs5; have := unhide hs6; have := unhide hs7; have := unhide hs8; have := unhide hs9; have := unhide hs10; have := unhide hs11; have := unhide hs12; have := unhide hs13; have := unhide hs14; omega))
  replace hB := hide (below_upd (unhide hB) hu (Nat.le_refl _) (by have := unhide hs1; have := unhide hs2; have := unhide hs3; have := unhide hs4; have := unhide hs5; have := unhide hs6; have := unhide hs7; have := unhide hs8; have := unhide hs9; have := unhide hs10; have := unhide hs11; have := unhide hs12; have := unhide hs13; have := unhide hs14; omega))
  replace r1 := hide ho
  have hs15 : Hid (w14.heap.size ≤ w15.heap.size) := hide hu.size
  clear hu ho
  go_wp2_with fail
  refine (upd_of_same (heldIntS_own (w5.heap.size) (w6.heap.size) vr1 1 (guF n0 n1 zs2 zs3 n4).length w15 (unhide hL) (by omega) (unhide r1))).mono ?_
  rintro e w16 ⟨rfl, hu⟩
  replace r0 := hide ((unhide r0).keep hu)
  replace r1 := hide ((unhide r1).keep hu)
  replace hB := hide (below_upd (unhide hB) hu (Nat.le_refl _) (.inr (Nat.le_refl _)))
  have hs16 : Hid (w15.heap.size ≤ w16.heap.size) := hide hu.size
  clear hu
  have hq0 : ¬ (((1 + (guF n0 n1 zs2 zs3 n4).length : Nat) : Int) < 0) := by omega
  go_wp2_with fail
  refine (toIntS_own ad2 cap2 zs2 w16 hn2 ((unhide hA2).below (unhide hB))).mono ?_
  rintro e w17 ⟨vy2_h0, rfl, ho, hu⟩
  replace r0 := hide ((unhide r0).keep hu)
  replace r1 := hide ((unhide r1).keep hu)
  replace hB := hide (below_upd (unhide hB) hu (Nat.le_refl _) (.inr (Nat.le_refl _)))
  have hs17 : Hid (w16.heap.size ≤ w17.heap.size) := hide hu.size
  have y2_h0 := hide ho
  clear hu ho
  go_wp2_with fail
  refine (toIntS_own ad3 cap3 zs3 w17 hn3 ((unhide hA3).below (unhide hB))).mono ?_
  rintro e w18 ⟨vy3_h0, rfl, ho, hu⟩
  replace r0 := hide ((unhide r0).keep hu)
  replace r1 := hide ((unhide r1).keep hu)
  replace y2_h0 := hide ((unhide y2_h0).keep hu)
  replace hB := hide (below_upd (unhide hB) hu (Nat.le_refl _) (.inr (Nat.le_refl _)))
  have hs18 : Hid (w17.heap.size ≤ w18.heap.size) := hide hu.size
  have y3_h0 := hide ho
  clear hu ho
  go_wp2_with fail
  refine (implGuess n0 n1 vy2_h0 zs2 vy3_h0 zs3 n4 w18  hl0 hh0 hl1 hh1 hn2 (unhide hR2) (rdX_of_own (unhide y2_h0)) hn3 (unhide hR3) (rdX_of_own (unhide y3_h0)) hl4 hh4).mono ?_
  rintro e w19 ⟨vr2, rfl, ho, hu⟩
  replace r0 := hide ((unhide r0).keep hu)
  replace r1 := hide ((unhide r1).keep hu)
  replace y2_h0 := hide ((unhide y2_h0).keep hu)
  replace y3_h0 := hide ((unhide y3_h0).keep hu)
  replace hB := hide (below_upd (unhide hB) hu (Nat.le_refl _) (.inr (Nat.le_refl _)))
  have hs19 : Hid (w18.heap.size ≤ w19.heap.size) := hide hu.size
  have r2 := hide ho
  clear hu ho
  clear y2_h0 y3_h0
  go_wp2_with fail
  refine (eqIntS_rd vr2 vr0 (guF n0 n1 zs2 zs3 n4) w19 (unhide hL) (OwnI.rd (unhide r2)) (OwnI.rd (unhide r0))).mono ?_
  rintro e w20 ⟨rfl, hu⟩
  replace r0 := hide ((unhide r0).keep hu)
  replace r1 := hide ((unhide r1).keep hu)
  replace r2 := hide ((unhide r2).keep hu)
  replace hB := hide (below_upd (unhide hB) hu (Nat.le_refl _) (.inr (Nat.le_refl _)))
  have hs20 : Hid (w19.heap.size ≤ w20.heap.size) := hide hu.size
  clear hu
  go_wp2_with fail
  refine (upd_of_same (heldIntS_own (w5.heap.size) (w6.heap.size) vr1 1 (guF n0 n1 zs2 zs3 n4).length w20 (unhide hL) (by omega) (unhide r1))).mono ?_
  rintro e w21 ⟨rfl, hu⟩
  replace r0 := hide ((unhide r0).keep hu)
  replace r1 := hide ((unhide r1).keep hu)
  replace r2 := hide ((unhide r2).keep hu)
  replace hB := hide (below_upd (unhide hB) hu (Nat.le_refl _) (.inr (Nat.le_refl _)))
  have hs21 : Hid (w20.heap.size ≤ w21.heap.size) := hide hu.size
  clear hu
  go_wp2_with fail
  go_ret
  exact ⟨rfl, unhide hB⟩

theorem lawGuess (n0 : Int) (n1 : Int) (ad2 : Option Addr) (cap2 : Nat) (zs2 : List Int) (ad3 : Option Addr) (cap3 : Nat) (zs3 : List Int) (n4 : Int) (w : World)   (hl0 : -9223372036854775808 ≤ n0) (hh0 : n0 ≤ 9223372036854775807) (hl1 : -9223372036854775808 ≤ n1) (hh1 : n1 ≤ 9223372036854775807) (hA2 : ArgI w ad2 zs2) (hR2 : InI zs2) (hA3 : ArgI w ad3 zs3) (hR3 : InI zs3) (hl4 : -9223372036854775808 ≤ n4) (hh4 : n4 ≤ 9223372036854775807) :
    Calls Try.prog 5 #[.int .i64 n0, .int .i64 n1, .slice ad2 zs2.length cap2, .slice ad3 zs3.length cap3, .int .i64 n4] w fun e w' => e = .returned (.bool true) ∧ Below w.heap.size w w' := by
  by_cases h2 : 1048576 < zs2.length
  · exact lawGuess_long2 n0 n1 ad2 cap2 zs2 ad3 cap3 zs3 n4 w  h2
  by_cases h3 : 1048576 < zs3.length
  · exact lawGuess_long3 n0 n1 ad2 cap2 zs2 ad3 cap3 zs3 n4 w (by omega) h3
  exact lawGuess_short n0 n1 ad2 cap2 zs2 ad3 cap3 zs3 n4 w  (by omega) (by omega) hl0 hh0 hl1 hh1 hA2 hR2 hA3 hR3 hl4 hh4
end Go.Proofs.Ytpofmcepjmbmcaa
