/- The law on Shrink, walked: what it calls is told by the walks of the specification and of the program. -/
import Derived.Test.YtkeplngifceegaaWShF
import Derived.Test.YtkeplngifceegaaWMark
import Derived.Deep.RegionHeld3
namespace Go.Proofs.Ytkeplngifceegaa
open Go.RowKit

set_option maxHeartbeats 1000000 in
theorem lawShrink_long0 (d0 : Pl) (ad0_0 : Option Addr) (cap0_0 : Nat) (n1 : Int) (w : World) (hz0 : (d0.2.2.length ≤ 9223372036854775807))  (_hn0 : 1048576 < d0.2.2.length)  :
    Calls Try.prog 10 #[.agg #[.int .i64 d0.1, .int .i64 d0.2.1, .slice ad0_0 d0.2.2.length cap0_0], .int .i64 n1] w fun e w' => e = .returned (.bool true) ∧ Below w.heap.size w w' := by
  have hB := hide (Below.refl w.heap.size w)
  go_enter Try.func10, Try.ntmps10
  go_wp2_with fail
  have hu := Upd.of_below ((Below.refl w.heap.size w).alloc (Nat.le_refl _) (.cells #[.int .i64 d0.1, .int .i64 d0.2.1, .slice ad0_0 d0.2.2.length cap0_0] 45)) 0 0
  replace hB := hide (below_upd (unhide hB) hu (Nat.le_refl _) (.inr (Nat.le_refl _)))
  have hs1 : Hid (w.heap.size + 1 ≤ (w.alloc (.cells #[.int .i64 d0.1, .int .i64 d0.2.1, .slice ad0_0 d0.2.2.length cap0_0] 45)).heap.size) := hide (by simp)
  have cp0 := hide (held_new w [.int .i64 d0.1, .int .i64 d0.2.1, .slice ad0_0 d0.2.2.length cap0_0] 45)
  clear hu
  generalize w.alloc (.cells #[.int .i64 d0.1, .int .i64 d0.2.1, .slice ad0_0 d0.2.2.length cap0_0] 45) = w1 at  hB hs1 cp0 ⊢
  refine (szPlane_any d0.1 d0.2.1 ad0_0 d0.2.2.length cap0_0 (1048576) w1 (by omega) (by omega) hz0).mono ?_
  rintro e w2 ⟨rfl, hu⟩
  replace cp0 := hide ((unhide cp0).keep hu)
  replace hB := hide (below_upd (unhide hB) hu (Nat.le_refl _) (.inr (Nat.le_refl _)))
  have hs2 : Hid (w1.heap.size ≤ w2.heap.size) := hide hu.size
  clear hu
  rw [if_pos (by omega)]
  go_wp2
  go_ret
  exact ⟨rfl, unhide hB⟩

set_option maxHeartbeats 4000000 in
set_option maxRecDepth 100000 in
theorem lawShrink_short (d0 : Pl) (ad0_0 : Option Addr) (cap0_0 : Nat) (n1 : Int) (w : World)  (hz0 : (d0.2.2.length ≤ 9223372036854775807)) (hn : d0.2.2.length ≤ 1048576) (hA0_0 : ArgI w ad0_0 d0.2.2) (hR0 : InPl d0) (hl1 : -9223372036854775808 ≤ n1) (hh1 : n1 ≤ 9223372036854775807) :
    Calls Try.prog 10 #[.agg #[.int .i64 d0.1, .int .i64 d0.2.1, .slice ad0_0 d0.2.2.length cap0_0], .int .i64 n1] w fun e w' => e = .returned (.bool true) ∧ Below w.heap.size w w' := by
  have hn0 : (d0.2.2.length ≤ 1048576) := by omega
  replace hA0_0 := hide hA0_0
  replace hR0 := hide hR0
  have hL := hide (shrinkF_len d0 n1)
  have hB := hide (Below.refl w.heap.size w)
  go_enter Try.func10, Try.ntmps10
  have hleft0 : (0 : Int) ≤ 1048576 := by omega
  go_wp2_with fail
  have hu := Upd.of_below ((Below.refl w.heap.size w).alloc (Nat.le_refl _) (.cells #[.int .i64 d0.1, .int .i64 d0.2.1, .slice ad0_0 d0.2.2.length cap0_0] 45)) 0 0
  replace hB := hide (below_upd (unhide hB) hu (Nat.le_refl _) (.inr (Nat.le_refl _)))
  have hs1 : Hid (w.heap.size + 1 ≤ (w.alloc (.cells #[.int .i64 d0.1, .int .i64 d0.2.1, .slice ad0_0 d0.2.2.length cap0_0] 45)).heap.size) := hide (by simp)
  have cp0 := hide (held_new w [.int .i64 d0.1, .int .i64 d0.2.1, .slice ad0_0 d0.2.2.length cap0_0] 45)
  clear hu
  generalize w.alloc (.cells #[.int .i64 d0.1, .int .i64 d0.2.1, .slice ad0_0 d0.2.2.length cap0_0] 45) = w1 at  hB hs1 cp0 ⊢
  refine (szPlane_any d0.1 d0.2.1 ad0_0 d0.2.2.length cap0_0 (1048576) w1 (by omega) (by omega) hz0).mono ?_
  rintro e w2 ⟨rfl, hu⟩
  replace cp0 := hide ((unhide cp0).keep hu)
  replace hB := hide (below_upd (unhide hB) hu (Nat.le_refl _) (.inr (Nat.le_refl _)))
  have hs2 : Hid (w1.heap.size ≤ w2.heap.size) := hide hu.size
  clear hu
  rw [if_neg (by omega)]
  have hleft0 : ¬ (1048576 - (d0.2.2.length : Int) < 0) := by omega
  have kcp0_0 := (unhide cp0).2 0 _ rfl
  have kcp0_1 := (unhide cp0).2 1 _ rfl
  have kcp0_2 := (unhide cp0).2 2 _ rfl
  have kcp0_l := (unhide cp0).1
  go_wp2_with fail
  clear kcp0_0 kcp0_1 kcp0_2 kcp0_l
  refine (toPlane_own _ d0 w2 hn0 ⟨_, rfl, ⟨ad0_0, cap0_0, rfl, (unhide hA0_0).below (unhide hB)⟩⟩).mono ?_
  rintro e w3 ⟨vy0_w0, rfl, ho, hu⟩
  replace cp0 := hide ((unhide cp0).keep hu)
  replace hB := hide (below_upd (unhide hB) hu (Nat.le_refl _) (.inr (Nat.le_refl _)))
  have hs3 : Hid (w2.heap.size ≤ w3.heap.size) := hide hu.size
  have y0_w0 := hide ho
  clear hu ho
  go_wp2_with fail
  refine (specShrink _ d0 n1 w3  (by omega) (unhide hR0) (OwnPl.rd (unhide y0_w0)) hl1 hh1).mono ?_
  rintro e w4 ⟨vr0, rfl, ho, hu⟩
  replace y0_w0 := hide ((unhide y0_w0).keep hu)
  replace cp0 := hide ((unhide cp0).keep hu)
  replace hB := hide (below_upd (unhide hB) hu (Nat.le_refl _) (.inr (Nat.le_refl _)))
  have hs4 : Hid (w3.heap.size ≤ w4.heap.size) := hide hu.size
  have r0 := hide ho
  clear hu ho
  obtain ⟨adr0_0, capr0_0, hvr0⟩ := OwnPl.form (unhide r0)
  subst hvr0
  clear y0_w0
  have kcp0_0 := (unhide cp0).2 0 _ rfl
  have kcp0_1 := (unhide cp0).2 1 _ rfl
  have kcp0_2 := (unhide cp0).2 2 _ rfl
  have kcp0_l := (unhide cp0).1
  go_wp2_with fail
  clear kcp0_0 kcp0_1 kcp0_2 kcp0_l
  have hu := Upd.of_below ((Below.refl w4.heap.size w4).alloc (Nat.le_refl _) (.cells #[.int .i64 (shrinkF d0 n1).1, .int .i64 (shrinkF d0 n1).2.1, .slice adr0_0 (shrinkF d0 n1).2.2.length capr0_0] 31)) 0 0
  replace r0 := hide ((unhide r0).keep hu)
  replace cp0 := hide ((unhide cp0).keep hu)
  replace hB := hide (below_upd (unhide hB) hu (Nat.le_refl _) (.inr (Nat.le_refl _)))
  have hs5 : Hid (w4.heap.size + 1 ≤ (w4.alloc (.cells #[.int .i64 (shrinkF d0 n1).1, .int .i64 (shrinkF d0 n1).2.1, .slice adr0_0 (shrinkF d0 n1).2.2.length capr0_0] 31)).heap.size) := hide (by simp)
  have cr0 := hide (held_new w4 [.int .i64 (shrinkF d0 n1).1, .int .i64 (shrinkF d0 n1).2.1, .slice adr0_0 (shrinkF d0 n1).2.2.length capr0_0] 31)
  clear hu
  generalize w4.alloc (.cells #[.int .i64 (shrinkF d0 n1).1, .int .i64 (shrinkF d0 n1).2.1, .slice adr0_0 (shrinkF d0 n1).2.2.length capr0_0] 31) = w5 at r0 cp0 hB hs5 cr0 ⊢
  refine (toPlane_own _ d0 w5 hn0 ⟨_, rfl, ⟨ad0_0, cap0_0, rfl, (unhide hA0_0).below (unhide hB)⟩⟩).mono ?_
  rintro e w6 ⟨vx0, rfl, ho, hu⟩
  replace r0 := hide ((unhide r0).keep hu)
  replace cp0 := hide ((unhide cp0).keep hu)
  replace cr0 := hide ((unhide cr0).keep hu)
  replace hB := hide (below_upd (unhide hB) hu (Nat.le_refl _) (.inr (Nat.le_refl _)))
  have hs6 : Hid (w5.heap.size ≤ w6.heap.size) := hide hu.size
  have x0 := hide ho
  clear hu ho
  obtain ⟨adx0_0, capx0_0, hvx0⟩ := OwnPl.form (unhide x0)
  subst hvx0
  go_wp2_with fail
  have hu := Upd.of_below ((Below.refl w6.heap.size w6).alloc (Nat.le_refl _) (.cells #[.int .i64 d0.1, .int .i64 d0.2.1, .slice adx0_0 d0.2.2.length capx0_0] 31)) 0 0
  replace r0 := hide ((unhide r0).keep hu)
  replace x0 := hide ((unhide x0).keep hu)
  replace cp0 := hide ((unhide cp0).keep hu)
  replace cr0 := hide ((unhide cr0).keep hu)
  replace hB := hide (below_upd (unhide hB) hu (Nat.le_refl _) (.inr (Nat.le_refl _)))
  have hs7 : Hid (w6.heap.size + 1 ≤ (w6.alloc (.cells #[.int .i64 d0.1, .int .i64 d0.2.1, .slice adx0_0 d0.2.2.length capx0_0] 31)).heap.size) := hide (by simp)
  have cx0 := hide (held_new w6 [.int .i64 d0.1, .int .i64 d0.2.1, .slice adx0_0 d0.2.2.length capx0_0] 31)
  clear hu
  generalize w6.alloc (.cells #[.int .i64 d0.1, .int .i64 d0.2.1, .slice adx0_0 d0.2.2.length capx0_0] 31) = w7 at r0 x0 cp0 cr0 hB hs7 cx0 ⊢
  refine (implShrink _ d0 n1 w7  (by omega) (unhide hR0) (OwnPl.rd (unhide x0)) hl1 hh1).mono ?_
  rintro e w8 ⟨vr1, rfl, ho, hu⟩
  replace r0 := hide ((unhide r0).keep hu)
  replace x0 := hide ((unhide x0).keep hu)
  replace cp0 := hide ((unhide cp0).keep hu)
  replace cr0 := hide ((unhide cr0).keep hu)
  replace cx0 := hide ((unhide cx0).keep hu)
  replace hB := hide (below_upd (unhide hB) hu (Nat.le_refl _) (.inr (Nat.le_refl _)))
  have hs8 : Hid (w7.heap.size ≤ w8.heap.size) := hide hu.size
  have r1 := hide ho
  clear hu ho
  obtain ⟨adr1_0, capr1_0, hvr1⟩ := OwnPl.form (unhide r1)
  subst hvr1
  have kcr0_0 := (unhide cr0).2 0 _ rfl
  have kcr0_1 := (unhide cr0).2 1 _ rfl
  have kcr0_2 := (unhide cr0).2 2 _ rfl
  have kcr0_l := (unhide cr0).1
  go_wp2_with fail
  clear kcr0_0 kcr0_1 kcr0_2 kcr0_l
  have hu := Upd.of_below ((Below.refl w8.heap.size w8).alloc (Nat.le_refl _) (.cells #[.int .i64 (shrinkF d0 n1).1, .int .i64 (shrinkF d0 n1).2.1, .slice adr1_0 (shrinkF d0 n1).2.2.length capr1_0] 31)) 0 0
  replace r0 := hide ((unhide r0).keep hu)
  replace x0 := hide ((unhide x0).keep hu)
  replace r1 := hide ((unhide r1).keep hu)
  replace cp0 := hide ((unhide cp0).keep hu)
  replace cr0 := hide ((unhide cr0).keep hu)
  replace cx0 := hide ((unhide cx0).keep hu)
  replace hB := hide (below_upd (unhide hB) hu (Nat.le_refl _) (.inr (Nat.le_refl _)))
  have hs9 : Hid (w8.heap.size + 1 ≤ (w8.alloc (.cells #[.int .i64 (shrinkF d0 n1).1, .int .i64 (shrinkF d0 n1).2.1, .slice adr1_0 (shrinkF d0 n1).2.2.length capr1_0] 31)).heap.size) := hide (by simp)
  have cr1 := hide (held_new w8 [.int .i64 (shrinkF d0 n1).1, .int .i64 (shrinkF d0 n1).2.1, .slice adr1_0 (shrinkF d0 n1).2.2.length capr1_0] 31)
  clear hu
  generalize w8.alloc (.cells #[.int .i64 (shrinkF d0 n1).1, .int .i64 (shrinkF d0 n1).2.1, .slice adr1_0 (shrinkF d0 n1).2.2.length capr1_0] 31) = w9 at r0 x0 r1 cp0 cr0 cx0 hB hs9 cr1 ⊢
  refine (eqPlane_rd _ _ (shrinkF d0 n1) w9 (unhide hL) (OwnPl.rd (unhide r1)) (OwnPl.rd (unhide r0))).mono ?_
  rintro e w10 ⟨rfl, hu⟩
  replace r0 := hide ((unhide r0).keep hu)
  replace x0 := hide ((unhide x0).keep hu)
  replace r1 := hide ((unhide r1).keep hu)
  replace cp0 := hide ((unhide cp0).keep hu)
  replace cr0 := hide ((unhide cr0).keep hu)
  replace cx0 := hide ((unhide cx0).keep hu)
  replace cr1 := hide ((unhide cr1).keep hu)
  replace hB := hide (below_upd (unhide hB) hu (Nat.le_refl _) (.inr (Nat.le_refl _)))
  have hs10 : Hid (w9.heap.size ≤ w10.heap.size) := hide hu.size
  clear hu
  have kcx0_0 := (unhide cx0).2 0 _ rfl
  have kcx0_1 := (unhide cx0).2 1 _ rfl
  have kcx0_2 := (unhide cx0).2 2 _ rfl
  have kcx0_l := (unhide cx0).1
  have kcp0_0 := (unhide cp0).2 0 _ rfl
  have kcp0_1 := (unhide cp0).2 1 _ rfl
  have kcp0_2 := (unhide cp0).2 2 _ rfl
  have kcp0_l := (unhide cp0).1
  have hTo := hide (toPlane_own _ d0 w10.drew hn0 ⟨_, rfl, ⟨ad0_0, cap0_0, rfl, (unhide hA0_0).below (below_drewN (unhide hB) 1)⟩⟩)
  go_wp2_with fail
  go_region_held3 (fun w' => w'.cell? ⟨w6.heap.size, 0, none⟩ = some (.int .i64 d0.1) ∧ w'.cell? ⟨w6.heap.size, 1, none⟩ = some (.int .i64 d0.2.1) ∧ w'.cell? ⟨w6.heap.size, 2, none⟩ = some (.slice adx0_0 d0.2.2.length capx0_0) ∧ w'.cell? ⟨w.heap.size, 0, none⟩ = some (.int .i64 d0.1) ∧ w'.cell? ⟨w.heap.size, 1, none⟩ = some (.int .i64 d0.2.1) ∧ w'.cell? ⟨w.heap.size, 2, none⟩ = some (.slice ad0_0 d0.2.2.length cap0_0)) (first | (exact ⟨((hut.trans huf).none.cell kcx0_l).trans kcx0_0, ((hut.trans huf).none.cell kcx0_l).trans kcx0_1, ((hut.trans huf).none.cell kcx0_l).trans kcx0_2, ((hut.trans huf).none.cell kcp0_l).trans kcp0_0, ((hut.trans huf).none.cell kcp0_l).trans kcp0_1, ((hut.trans huf).none.cell kcp0_l).trans kcp0_2⟩) | (exact ⟨(hut.none.cell kcx0_l).trans kcx0_0, (hut.none.cell kcx0_l).trans kcx0_1, (hut.none.cell kcx0_l).trans kcx0_2, (hut.none.cell kcp0_l).trans kcp0_0, (hut.none.cell kcp0_l).trans kcp0_1, (hut.none.cell kcp0_l).trans kcp0_2⟩) | go_keep) (first | (go_at_call 36; refine (unhide hTo).mono ?_; rintro e wt ⟨vt, rfl, hot, hut⟩) | (go_at_call 38; refine (eqPlane_rd _ _ d0 _ hn0 (OwnPl.rd (OwnPl.keep (unhide x0) (Upd.trans (Upd.drew1 _) hut))) (OwnPl.rd hot)).mono ?_; rintro e wf ⟨rfl, huf⟩))
  clear hTo kcx0_0 kcx0_1 kcx0_2 kcx0_l kcp0_0 kcp0_1 kcp0_2 kcp0_l
  have hu : Upd 0 0 w10 wf := (Upd.drew1 _).trans (hut.trans huf)
  clear hut hot huf
  replace r0 := hide ((unhide r0).keep hu)
  replace x0 := hide ((unhide x0).keep hu)
  replace r1 := hide ((unhide r1).keep hu)
  replace cp0 := hide ((unhide cp0).keep hu)
  replace cr0 := hide ((unhide cr0).keep hu)
  replace cx0 := hide ((unhide cx0).keep hu)
  replace cr1 := hide ((unhide cr1).keep hu)
  replace hB := hide (below_upd (unhide hB) hu (Nat.le_refl _) (.inr (Nat.le_refl _)))
  have hs11 : Hid (w10.heap.size ≤ wf.heap.size) := hide hu.size
  clear hu
  generalize wf = w11 at r0 x0 r1 cp0 cr0 cx0 cr1 hB hs11 ⊢
  have kcx0_0 := (unhide cx0).2 0 _ rfl
  have kcx0_1 := (unhide cx0).2 1 _ rfl
  have kcx0_2 := (unhide cx0).2 2 _ rfl
  have kcx0_l := (unhide cx0).1
  go_wp2_with fail
  clear kcx0_0 kcx0_1 kcx0_2 kcx0_l
  refine (markPlane_own (1) hn0 (by omega) (unhide x0)).mono ?_
  rintro e w12 ⟨rfl, ho, hu⟩
  replace r0 := hide ((unhide r0).upd hu (by have := unhide hs1; have := unhide hs2; have := unhide hs3; have := unhide hs4; have := unhide hs5; have := unhide hs6; have := unhide hs7; have := unhide hs8; have := unhide hs9; have := unhide hs10; have := unhide hs11; omega))
  replace r1 := hide ((unhide r1).upd hu (by have := unhide hs1; have := unhide hs2; have := unhide hs3; have := unhide hs4; have := unhide hs5; have := unhide hs6; have := unhide hs7; have := unhide hs8; have := unhide hs9; have := unhide hs10; have := unhide hs11; omega))
  replace cp0 := hide ((unhide cp0).upd hu (by have := unhide hs1; have := unhide hs2; have := unhide hs3; have := unhide hs4; have := unhide hs5; have := unhide hs6; have := unhide hs7; have := unhide hs8; have := unhide hs9; have := unhide hs10; have := unhide hs11; omega))
  replace cr0 := hide ((unhide cr0).upd hu (by have := unhide hs1; have := unhide hs2; have := unhide hs3; have := unhide hs4; have := unhide hs5; have := unhide hs6; have := unhide hs7; have := unhide hs8; have := unhide hs9; have := unhide hs10; have := unhide hs11; omega))
  replace cx0 := hide ((unhide cx0).upd hu (by have := unhide hs1; have := unhide hs2; have := unhide hs3; have := unhide hs4; have := unhide hs5; have := unhide hs6; have := unhide hs7; have := unhide hs8; have := unhide hs9; have := unhide hs10; have := unhide hs11; omega))
  replace cr1 := hide ((unhide cr1).upd hu (by have := unhide hs1; have := unhide hs2; have := unhide hs3; have := unhide hs4; have := unhide hs5; have := unhide hs6; have := unhide hs7; have := unhide hs8; have := unhide hs9; have := unhide hs10; have := unhide hs11; omega))
  replace hB := hide (below_upd (unhide hB) hu (Nat.le_refl _) (by have := unhide hs1; have := unhide hs2; have := unhide hs3; have := unhide hs4; have := unhide hs5; have := unhide hs6; have := unhide hs7; have := unhide hs8; have := unhide hs9; have := unhide hs10; have := unhide hs11; omega))
  replace x0 := hide ho
  have hs12 : Hid (w11.heap.size ≤ w12.heap.size) := hide hu.size
  clear hu ho
  have hk0 : ¬ (((1 + PlCount d0 : Nat) : Int) < 0) := by omega
  have kcr1_0 := (unhide cr1).2 0 _ rfl
  have kcr1_1 := (unhide cr1).2 1 _ rfl
  have kcr1_2 := (unhide cr1).2 2 _ rfl
  have kcr1_l := (unhide cr1).1
  have kcr0_0 := (unhide cr0).2 0 _ rfl
  have kcr0_1 := (unhide cr0).2 1 _ rfl
  have kcr0_2 := (unhide cr0).2 2 _ rfl
  have kcr0_l := (unhide cr0).1
  go_wp2_with fail
  clear kcr1_0 kcr1_1 kcr1_2 kcr1_l kcr0_0 kcr0_1 kcr0_2 kcr0_l
  refine (eqPlane_rd _ _ (shrinkF d0 n1) w12 (unhide hL) (OwnPl.rd (unhide r1)) (OwnPl.rd (unhide r0))).mono ?_
  rintro e w13 ⟨rfl, hu⟩
  replace r0 := hide ((unhide r0).keep hu)
  replace x0 := hide ((unhide x0).keep hu)
  replace r1 := hide ((unhide r1).keep hu)
  replace cp0 := hide ((unhide cp0).keep hu)
  replace cr0 := hide ((unhide cr0).keep hu)
  replace cx0 := hide ((unhide cx0).keep hu)
  replace cr1 := hide ((unhide cr1).keep hu)
  replace hB := hide (below_upd (unhide hB) hu (Nat.le_refl _) (.inr (Nat.le_refl _)))
  have hs13 : Hid (w12.heap.size ≤ w13.heap.size) := hide hu.size
  clear hu
  clear x0
  have kcr1_0 := (unhide cr1).2 0 _ rfl
  have kcr1_1 := (unhide cr1).2 1 _ rfl
  have kcr1_2 := (unhide cr1).2 2 _ rfl
  have kcr1_l := (unhide cr1).1
  go_wp2_with fail
  clear kcr1_0 kcr1_1 kcr1_2 kcr1_l
  refine (markPlane_own (1) (unhide hL) (by omega) (unhide r1)).mono ?_
  rintro e w14 ⟨rfl, ho, hu⟩
  replace r0 := hide ((unhide r0).upd hu (by have := unhide hs1; have := unhide hs2; have := unhide hs3; have := unhide hs4; have := unhide hs5; have := unhide hs6; have := unhide hs7; have := unhide hs8; have := unhide hs9; have := unhide hs10; have := unhide hs11; have := unhide hs12; have := unhide hs13; omega))
  replace cp0 := hide ((unhide cp0).upd hu (by have := unhide hs1; have := unhide hs2; have := unhide hs3; have := unhide hs4; have := unhide hs5; have := unhide hs6; have := unhide hs7; have := unhide hs8; have := unhide hs9; have := unhide hs10; have := unhide hs11; have := unhide hs12; have := unhide hs13; omega))
  replace cr0 := hide ((unhide cr0).upd hu (by have := unhide hs1; have := unhide hs2; have := unhide hs3; have := unhide hs4; have := unhide hs5; have := unhide hs6; have := unhide hs7; have := unhide hs8; have := unhide hs9; have := unhide hs10; have := unhide hs11; have := unhide hs12; have := unhide hs13; omega))
  replace cx0 := hide ((unhide cx0).upd hu (by have := unhide hs1; have := unhide hs2; have := unhide hs3; have := unhide hs4; have := unhide hs5; have := unhide hs6; have := unhide hs7; have := unhide hs8; have := unhide hs9; have := unhide hs10; have := unhide hs11; have := unhide hs12; have := unhide hs13; omega))
  replace cr1 := hide ((unhide cr1).upd hu (by have := unhide hs1; have := unhide hs2; have := unhide hs3; have := unhide hs4; have := unhide hs5; have := unhide hs6; have := unhide hs7; have := unhide hs8; have := unhide hs9; have := unhide hs10; have := unhide hs11; have := unhide hs12; have := unhide hs13; omega))
  replace hB := hide (below_upd (unhide hB) hu (Nat.le_refl _) (by have := unhide hs1; have := unhide hs2; have := unhide hs3; have := unhide hs4; have := unhide hs5; have := unhide hs6; have := unhide hs7; have := unhide hs8; have := unhide hs9; have := unhide hs10; have := unhide hs11; have := unhide hs12; have := unhide hs13; omega))
  replace r1 := hide ho
  have hs14 : Hid (w13.heap.size ≤ w14.heap.size) := hide hu.size
  clear hu ho
  have kcr1_0 := (unhide cr1).2 0 _ rfl
  have kcr1_1 := (unhide cr1).2 1 _ rfl
  have kcr1_2 := (unhide cr1).2 2 _ rfl
  have kcr1_l := (unhide cr1).1
  go_wp2_with fail
  clear kcr1_0 kcr1_1 kcr1_2 kcr1_l
  refine (heldPlane_own 1 (unhide hL) (by omega) (unhide r1)).mono ?_
  rintro e w15 ⟨rfl, hu⟩
  replace r0 := hide ((unhide r0).keep hu)
  replace r1 := hide ((unhide r1).keep hu)
  replace cp0 := hide ((unhide cp0).keep hu)
  replace cr0 := hide ((unhide cr0).keep hu)
  replace cx0 := hide ((unhide cx0).keep hu)
  replace cr1 := hide ((unhide cr1).keep hu)
  replace hB := hide (below_upd (unhide hB) hu (Nat.le_refl _) (.inr (Nat.le_refl _)))
  have hs15 : Hid (w14.heap.size ≤ w15.heap.size) := hide hu.size
  clear hu
  have hq0 : ¬ (((1 + PlCount (shrinkF d0 n1) : Nat) : Int) < 0) := by omega
  have kcp0_0 := (unhide cp0).2 0 _ rfl
  have kcp0_1 := (unhide cp0).2 1 _ rfl
  have kcp0_2 := (unhide cp0).2 2 _ rfl
  have kcp0_l := (unhide cp0).1
  go_wp2_with fail
  clear kcp0_0 kcp0_1 kcp0_2 kcp0_l
  refine (toPlane_own _ d0 w15 hn0 ⟨_, rfl, ⟨ad0_0, cap0_0, rfl, (unhide hA0_0).below (unhide hB)⟩⟩).mono ?_
  rintro e w16 ⟨vy0_h0, rfl, ho, hu⟩
  replace r0 := hide ((unhide r0).keep hu)
  replace r1 := hide ((unhide r1).keep hu)
  replace cp0 := hide ((unhide cp0).keep hu)
  replace cr0 := hide ((unhide cr0).keep hu)
  replace cx0 := hide ((unhide cx0).keep hu)
  replace cr1 := hide ((unhide cr1).keep hu)
  replace hB := hide (below_upd (unhide hB) hu (Nat.le_refl _) (.inr (Nat.le_refl _)))
  have hs16 : Hid (w15.heap.size ≤ w16.heap.size) := hide hu.size
  have y0_h0 := hide ho
  clear hu ho
  go_wp2_with fail
  refine (implShrink _ d0 n1 w16  (by omega) (unhide hR0) (OwnPl.rd (unhide y0_h0)) hl1 hh1).mono ?_
  rintro e w17 ⟨vr2, rfl, ho, hu⟩
  replace r0 := hide ((unhide r0).keep hu)
  replace r1 := hide ((unhide r1).keep hu)
  replace y0_h0 := hide ((unhide y0_h0).keep hu)
  replace cp0 := hide ((unhide cp0).keep hu)
  replace cr0 := hide ((unhide cr0).keep hu)
  replace cx0 := hide ((unhide cx0).keep hu)
  replace cr1 := hide ((unhide cr1).keep hu)
  replace hB := hide (below_upd (unhide hB) hu (Nat.le_refl _) (.inr (Nat.le_refl _)))
  have hs17 : Hid (w16.heap.size ≤ w17.heap.size) := hide hu.size
  have r2 := hide ho
  clear hu ho
  obtain ⟨adr2_0, capr2_0, hvr2⟩ := OwnPl.form (unhide r2)
  subst hvr2
  clear y0_h0
  have kcr0_0 := (unhide cr0).2 0 _ rfl
  have kcr0_1 := (unhide cr0).2 1 _ rfl
  have kcr0_2 := (unhide cr0).2 2 _ rfl
  have kcr0_l := (unhide cr0).1
  go_wp2_with fail
  clear kcr0_0 kcr0_1 kcr0_2 kcr0_l
  have hu := Upd.of_below ((Below.refl w17.heap.size w17).alloc (Nat.le_refl _) (.cells #[.int .i64 (shrinkF d0 n1).1, .int .i64 (shrinkF d0 n1).2.1, .slice adr2_0 (shrinkF d0 n1).2.2.length capr2_0] 31)) 0 0
  replace r0 := hide ((unhide r0).keep hu)
  replace r1 := hide ((unhide r1).keep hu)
  replace r2 := hide ((unhide r2).keep hu)
  replace cp0 := hide ((unhide cp0).keep hu)
  replace cr0 := hide ((unhide cr0).keep hu)
  replace cx0 := hide ((unhide cx0).keep hu)
  replace cr1 := hide ((unhide cr1).keep hu)
  replace hB := hide (below_upd (unhide hB) hu (Nat.le_refl _) (.inr (Nat.le_refl _)))
  have hs18 : Hid (w17.heap.size + 1 ≤ (w17.alloc (.cells #[.int .i64 (shrinkF d0 n1).1, .int .i64 (shrinkF d0 n1).2.1, .slice adr2_0 (shrinkF d0 n1).2.2.length capr2_0] 31)).heap.size) := hide (by simp)
  have cr2 := hide (held_new w17 [.int .i64 (shrinkF d0 n1).1, .int .i64 (shrinkF d0 n1).2.1, .slice adr2_0 (shrinkF d0 n1).2.2.length capr2_0] 31)
  clear hu
  generalize w17.alloc (.cells #[.int .i64 (shrinkF d0 n1).1, .int .i64 (shrinkF d0 n1).2.1, .slice adr2_0 (shrinkF d0 n1).2.2.length capr2_0] 31) = w18 at r0 r1 r2 cp0 cr0 cx0 cr1 hB hs18 cr2 ⊢
  refine (eqPlane_rd _ _ (shrinkF d0 n1) w18 (unhide hL) (OwnPl.rd (unhide r2)) (OwnPl.rd (unhide r0))).mono ?_
  rintro e w19 ⟨rfl, hu⟩
  replace r0 := hide ((unhide r0).keep hu)
  replace r1 := hide ((unhide r1).keep hu)
  replace r2 := hide ((unhide r2).keep hu)
  replace cp0 := hide ((unhide cp0).keep hu)
  replace cr0 := hide ((unhide cr0).keep hu)
  replace cx0 := hide ((unhide cx0).keep hu)
  replace cr1 := hide ((unhide cr1).keep hu)
  replace cr2 := hide ((unhide cr2).keep hu)
  replace hB := hide (below_upd (unhide hB) hu (Nat.le_refl _) (.inr (Nat.le_refl _)))
  have hs19 : Hid (w18.heap.size ≤ w19.heap.size) := hide hu.size
  clear hu
  have kcr1_0 := (unhide cr1).2 0 _ rfl
  have kcr1_1 := (unhide cr1).2 1 _ rfl
  have kcr1_2 := (unhide cr1).2 2 _ rfl
  have kcr1_l := (unhide cr1).1
  go_wp2_with fail
  clear kcr1_0 kcr1_1 kcr1_2 kcr1_l
  refine (heldPlane_own 1 (unhide hL) (by omega) (unhide r1)).mono ?_
  rintro e w20 ⟨rfl, hu⟩
  replace r0 := hide ((unhide r0).keep hu)
  replace r1 := hide ((unhide r1).keep hu)
  replace r2 := hide ((unhide r2).keep hu)
  replace cp0 := hide ((unhide cp0).keep hu)
  replace cr0 := hide ((unhide cr0).keep hu)
  replace cx0 := hide ((unhide cx0).keep hu)
  replace cr1 := hide ((unhide cr1).keep hu)
  replace cr2 := hide ((unhide cr2).keep hu)
  replace hB := hide (below_upd (unhide hB) hu (Nat.le_refl _) (.inr (Nat.le_refl _)))
  have hs20 : Hid (w19.heap.size ≤ w20.heap.size) := hide hu.size
  clear hu
  go_wp2_with fail
  go_ret
  exact ⟨rfl, unhide hB⟩

theorem lawShrink (d0 : Pl) (ad0_0 : Option Addr) (cap0_0 : Nat) (n1 : Int) (w : World)  (hz0 : (d0.2.2.length ≤ 9223372036854775807)) (hA0_0 : ArgI w ad0_0 d0.2.2) (hR0 : InPl d0) (hl1 : -9223372036854775808 ≤ n1) (hh1 : n1 ≤ 9223372036854775807) :
    Calls Try.prog 10 #[.agg #[.int .i64 d0.1, .int .i64 d0.2.1, .slice ad0_0 d0.2.2.length cap0_0], .int .i64 n1] w fun e w' => e = .returned (.bool true) ∧ Below w.heap.size w w' := by
  by_cases h0 : 1048576 < d0.2.2.length
  · exact lawShrink_long0 d0 ad0_0 cap0_0 n1 w hz0 h0 
  exact lawShrink_short d0 ad0_0 cap0_0 n1 w  hz0 (by omega) hA0_0 hR0 hl1 hh1
end Go.Proofs.Ytkeplngifceegaa
