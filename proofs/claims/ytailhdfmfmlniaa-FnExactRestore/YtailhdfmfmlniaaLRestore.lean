/- The law on Restore, walked: what it calls is told by the walks of the specification and of the program. -/
import Derived.Test.YtailhdfmfmlniaaWReE
namespace Go.Proofs.Ytailhdfmfmlniaa
open Go.RowKit

set_option maxHeartbeats 1000000 in
theorem lawRestore_long1 (n0 : Int) (ad1 : Option Addr) (cap1 : Nat) (zs1 : List Int) (w : World)  (_hn1 : 1048576 < zs1.length) :
    Calls Try.prog 6 #[.int .i64 n0, .slice ad1 zs1.length cap1] w fun e w' => e = .returned (.bool true) ∧ Below w.heap.size w w' := by
  go_enter Try.func6, Try.ntmps6
  go_wp2
  go_ret
  exact ⟨rfl, Below.refl _ _⟩

set_option maxHeartbeats 4000000 in
set_option maxRecDepth 100000 in
theorem lawRestore_short (n0 : Int) (ad1 : Option Addr) (cap1 : Nat) (zs1 : List Int) (w : World)   (hn1 : zs1.length ≤ 1048576) (hl0 : -9223372036854775808 ≤ n0) (hh0 : n0 ≤ 9223372036854775807) (hA1 : ArgI w ad1 zs1) (hR1 : InI zs1) :
    Calls Try.prog 6 #[.int .i64 n0, .slice ad1 zs1.length cap1] w fun e w' => e = .returned (.bool true) ∧ Below w.heap.size w w' := by
  replace hA1 := hide hA1
  replace hR1 := hide hR1
  have hL := hide (rstF_lenM n0 zs1)
  have hB := hide (Below.refl w.heap.size w)
  go_enter Try.func6, Try.ntmps6
  go_wp2_with fail
  refine (toIntS_own ad1 cap1 zs1 w hn1 ((unhide hA1).below (unhide hB))).mono ?_
  rintro e w1 ⟨vy1_w0, rfl, ho, hu⟩
  replace hB := hide (below_upd (unhide hB) hu (Nat.le_refl _) (.inr (Nat.le_refl _)))
  have hs1 : Hid (w.heap.size ≤ w1.heap.size) := hide hu.size
  have y1_w0 := hide ho
  clear hu ho
  go_wp2_with fail
  refine (specRestoreX n0 vy1_w0 zs1 w1  hl0 hh0 hn1 (unhide hR1) (rdX_of_own (unhide y1_w0))).mono ?_
  rintro e w2 ⟨vr0, rfl, ho, hu⟩
  replace y1_w0 := hide ((unhide y1_w0).keep hu)
  replace hB := hide (below_upd (unhide hB) hu (Nat.le_refl _) (.inr (Nat.le_refl _)))
  have hs2 : Hid (w1.heap.size ≤ w2.heap.size) := hide hu.size
  have r0 := hide ho
  clear hu ho
  clear y1_w0
  go_wp2_with fail
  refine (toIntS_own ad1 cap1 zs1 w2 hn1 ((unhide hA1).below (unhide hB))).mono ?_
  rintro e w3 ⟨vx1, rfl, ho, hu⟩
  replace r0 := hide ((unhide r0).keep hu)
  replace hB := hide (below_upd (unhide hB) hu (Nat.le_refl _) (.inr (Nat.le_refl _)))
  have hs3 : Hid (w2.heap.size ≤ w3.heap.size) := hide hu.size
  have x1 := hide ho
  clear hu ho
  go_wp2_with fail
  refine (implRestore n0 vx1 zs1 w3  hl0 hh0 hn1 (unhide hR1) (rdX_of_own (unhide x1))).mono ?_
  rintro e w4 ⟨vr1, rfl, ho, hu⟩
  replace r0 := hide ((unhide r0).keep hu)
  replace x1 := hide ((unhide x1).keep hu)
  replace hB := hide (below_upd (unhide hB) hu (Nat.le_refl _) (.inr (Nat.le_refl _)))
  have hs4 : Hid (w3.heap.size ≤ w4.heap.size) := hide hu.size
  have r1 := hide ho
  clear hu ho
  go_wp2_with fail
  refine (eqIntS_rd vr1 vr0 (rstF n0 zs1) w4 (unhide hL) (OwnI.rd (unhide r1)) (OwnI.rd (unhide r0))).mono ?_
  rintro e w5 ⟨rfl, hu⟩
  replace r0 := hide ((unhide r0).keep hu)
  replace x1 := hide ((unhide x1).keep hu)
  replace r1 := hide ((unhide r1).keep hu)
  replace hB := hide (below_upd (unhide hB) hu (Nat.le_refl _) (.inr (Nat.le_refl _)))
  have hs5 : Hid (w4.heap.size ≤ w5.heap.size) := hide hu.size
  clear hu
  go_wp2_with fail
  refine (toIntS_own ad1 cap1 zs1 w5 hn1 ((unhide hA1).below (unhide hB))).mono ?_
  rintro e w6 ⟨vz1, rfl, ho, hu⟩
  replace r0 := hide ((unhide r0).keep hu)
  replace x1 := hide ((unhide x1).keep hu)
  replace r1 := hide ((unhide r1).keep hu)
  replace hB := hide (below_upd (unhide hB) hu (Nat.le_refl _) (.inr (Nat.le_refl _)))
  have hs6 : Hid (w5.heap.size ≤ w6.heap.size) := hide hu.size
  have z1 := hide ho
  clear hu ho
  go_wp2_with fail
  refine (eqIntS_rd vx1 vz1 zs1 w6 hn1 (OwnI.rd (unhide x1)) (OwnI.rd (unhide z1))).mono ?_
  rintro e w7 ⟨rfl, hu⟩
  replace r0 := hide ((unhide r0).keep hu)
  replace x1 := hide ((unhide x1).keep hu)
  replace r1 := hide ((unhide r1).keep hu)
  replace z1 := hide ((unhide z1).keep hu)
  replace hB := hide (below_upd (unhide hB) hu (Nat.le_refl _) (.inr (Nat.le_refl _)))
  have hs7 : Hid (w6.heap.size ≤ w7.heap.size) := hide hu.size
  clear hu
  clear z1
  go_wp2_with fail
  refine (markIntS_own (w2.heap.size) (w3.heap.size) vx1 (1) zs1 w7 hn1 (by omega) (unhide x1)).mono ?_
  rintro e w8 ⟨rfl, ho, hu⟩
  replace r0 := hide ((unhide r0).upd hu (by have := unhide hs1; have := unhide hs2; have := unhide hs3; have := unhide hs4; have := unhide hs5; have := unhide hs6; have := unhide hs7; omega))
  replace r1 := hide ((unhide r1).upd hu (by have := unhide hs1; have := unhide hs2; have := unhide hs3; have := unhide hs4; have := unhide hs5; have := unhide hs6; have := unhide hs7; omega))
  replace hB := hide (below_upd (unhide hB) hu (Nat.le_refl _) (by have := unhide hs1; have := unhide hs2; have := unhide hs3; have := unhide hs4; have := unhide hs5; have := unhide hs6; have := unhide hs7; omega))
  replace x1 := hide ho
  have hs8 : Hid (w7.heap.size ≤ w8.heap.size) := hide hu.size
  clear hu ho
  have hk0 : ¬ (((1 + zs1.length : Nat) : Int) < 0) := by omega
  go_wp2_with fail
  refine (eqIntS_rd vr1 vr0 (rstF n0 zs1) w8 (unhide hL) (OwnI.rd (unhide r1)) (OwnI.rd (unhide r0))).mono ?_
  rintro e w9 ⟨rfl, hu⟩
  replace r0 := hide ((unhide r0).keep hu)
  replace x1 := hide ((unhide x1).keep hu)
  replace r1 := hide ((unhide r1).keep hu)
  replace hB := hide (below_upd (unhide hB) hu (Nat.le_refl _) (.inr (Nat.le_refl _)))
  have hs9 : Hid (w8.heap.size ≤ w9.heap.size) := hide hu.size
  clear hu
  clear x1
  go_wp2_with fail
  refine (markIntS_own (w3.heap.size) (w4.heap.size) vr1 (1) (rstF n0 zs1) w9 (unhide hL) (by omega) (unhide r1)).mono ?_
  rintro e w10 ⟨rfl, ho, hu⟩
  replace r0 := hide ((unhide r0).upd hu (by have := unhide hs1; have := unhide hs2; have := unhide hs3; have := unhide hs4; have := unhide hs5; have := unhide hs6; have := unhide hs7; have := unhide hs8; have := unhide hs9; omega))
  replace hB := hide (below_upd (unhide hB) hu (Nat.le_refl _) (by have := unhide hs1; have := unhide hs2; have := unhide hs3; have := unhide hs4; have := unhide hs5; have := unhide hs6; have := unhide hs7; have := unhide hs8; have := unhide hs9; omega))
  replace r1 := hide ho
  have hs10 : Hid (w9.heap.size ≤ w10.heap.size) := hide hu.size
  clear hu ho
  go_wp2_with fail
  refine (upd_of_same (heldIntS_own (w3.heap.size) (w4.heap.size) vr1 1 (rstF n0 zs1).length w10 (unhide hL) (by omega) (unhide r1))).mono ?_
  rintro e w11 ⟨rfl, hu⟩
  replace r0 := hide ((unhide r0).keep hu)
  replace r1 := hide ((unhide r1).keep hu)
  replace hB := hide (below_upd (unhide hB) hu (Nat.le_refl _) (.inr (Nat.le_refl _)))
  have hs11 : Hid (w10.heap.size ≤ w11.heap.size) := hide hu.size
  clear hu
  have hq0 : ¬ (((1 + (rstF n0 zs1).length : Nat) : Int) < 0) := by omega
  go_wp2_with fail
  refine (toIntS_own ad1 cap1 zs1 w11 hn1 ((unhide hA1).below (unhide hB))).mono ?_
  rintro e w12 ⟨vy1_h0, rfl, ho, hu⟩
  replace r0 := hide ((unhide r0).keep hu)
  replace r1 := hide ((unhide r1).keep hu)
  replace hB := hide (below_upd (unhide hB) hu (Nat.le_refl _) (.inr (Nat.le_refl _)))
  have hs12 : Hid (w11.heap.size ≤ w12.heap.size) := hide hu.size
  have y1_h0 := hide ho
  clear hu ho
  go_wp2_with fail
  refine (implRestore n0 vy1_h0 zs1 w12  hl0 hh0 hn1 (unhide hR1) (rdX_of_own (unhide y1_h0))).mono ?_
  rintro e w13 ⟨vr2, rfl, ho, hu⟩
  replace r0 := hide ((unhide r0).keep hu)
  replace r1 := hide ((unhide r1).keep hu)
  replace y1_h0 := hide ((unhide y1_h0).keep hu)
  replace hB := hide (below_upd (unhide hB) hu (Nat.le_refl _) (.inr (Nat.le_refl _)))
  have hs13 : Hid (w12.heap.size ≤ w13.heap.size) := hide hu.size
  have r2 := hide ho
  clear hu ho
  clear y1_h0
  go_wp2_with fail
  refine (eqIntS_rd vr2 vr0 (rstF n0 zs1) w13 (unhide hL) (OwnI.rd (unhide r2)) (OwnI.rd (unhide r0))).mono ?_
  rintro e w14 ⟨rfl, hu⟩
  replace r0 := hide ((unhide r0).keep hu)
  replace r1 := hide ((unhide r1).keep hu)
  replace r2 := hide ((unhide r2).keep hu)
  replace hB := hide (below_upd (unhide hB) hu (Nat.le_refl _) (.inr (Nat.le_refl _)))
  have hs14 : Hid (w13.heap.size ≤ w14.heap.size) := hide hu.size
  clear hu
  go_wp2_with fail
  refine (upd_of_same (heldIntS_own (w3.heap.size) (w4.heap.size) vr1 1 (rstF n0 zs1).length w14 (unhide hL) (by omega) (unhide r1))).mono ?_
  rintro e w15 ⟨rfl, hu⟩
  replace r0 := hide ((unhide r0).keep hu)
  replace r1 := hide ((unhide r1).keep hu)
  replace r2 := hide ((unhide r2).keep hu)
  replace hB := hide (below_upd (unhide hB) hu (Nat.le_refl _) (.inr (Nat.le_refl _)))
  have hs15 : Hid (w14.heap.size ≤ w15.heap.size) := hide hu.size
  clear hu
  go_wp2_with fail
  go_ret
  exact ⟨rfl, unhide hB⟩

theorem lawRestore (n0 : Int) (ad1 : Option Addr) (cap1 : Nat) (zs1 : List Int) (w : World)   (hl0 : -9223372036854775808 ≤ n0) (hh0 : n0 ≤ 9223372036854775807) (hA1 : ArgI w ad1 zs1) (hR1 : InI zs1) :
    Calls Try.prog 6 #[.int .i64 n0, .slice ad1 zs1.length cap1] w fun e w' => e = .returned (.bool true) ∧ Below w.heap.size w w' := by
  by_cases h1 : 1048576 < zs1.length
  · exact lawRestore_long1 n0 ad1 cap1 zs1 w  h1
  exact lawRestore_short n0 ad1 cap1 zs1 w  (by omega) hl0 hh0 hA1 hR1
end Go.Proofs.Ytailhdfmfmlniaa
