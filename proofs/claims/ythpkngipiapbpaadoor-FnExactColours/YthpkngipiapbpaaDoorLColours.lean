/- The law on Colours, walked: what it calls is told by the walks of the specification and of the program. -/
import Derived.Test.YthpkngipiapbpaaDoorWCoA
import Derived.Test.YthpkngipiapbpaaDoorWCoB
import Derived.Test.YthpkngipiapbpaaDoorWMSt
import Derived.Deep.RegionHeld3
namespace Go.Proofs.YthpkngipiapbpaaDoor
open Go.RowKit

set_option maxHeartbeats 1000000 in
theorem lawColours_long0 (d0 : St) (ad0_0 : Option Addr) (cap0_0 : Nat) (ad0_1 : Option Addr) (cap0_1 : Nat) (ad0_2 : Option Addr) (cap0_2 : Nat) (w : World) (hz0 : (d0.1.2.2.2.2.length ≤ 9223372036854775807 ∧ d0.2.1.length ≤ 9223372036854775807 ∧ d0.2.2.1.length ≤ 9223372036854775807))  (_hn0 : 1048576 < d0.1.2.2.2.2.length + d0.2.1.length + ntSize d0.2.2.1) (hA0_0 : ArgI w ad0_0 d0.1.2.2.2.2) (hA0_1 : ArgI w ad0_1 d0.2.1) (hA0_2 : ArgNt w ad0_2 d0.2.2.1) (hR0 : InSt d0) :
    Calls Tryd.prog 5 #[.agg #[.int .i64 d0.1.1, .int .i64 d0.1.2.1, .int .i64 d0.1.2.2.1, .int .i64 d0.1.2.2.2.1, .slice ad0_0 d0.1.2.2.2.2.length cap0_0, .slice ad0_1 d0.2.1.length cap0_1, .slice ad0_2 d0.2.2.1.length cap0_2, .bool d0.2.2.2]] w fun e w' => e = .returned (.bool true) ∧ Below w.heap.size w w' := by
  replace hA0_0 := hide hA0_0
  replace hA0_1 := hide hA0_1
  replace hA0_2 := hide hA0_2
  replace hR0 := hide hR0
  have hB := hide (Below.refl w.heap.size w)
  go_enter Tryd.func5, Tryd.ntmps5
  go_wp2_with fail
  have hu := Upd.of_below ((Below.refl w.heap.size w).alloc (Nat.le_refl _) (.cells #[.int .i64 d0.1.1, .int .i64 d0.1.2.1, .int .i64 d0.1.2.2.1, .int .i64 d0.1.2.2.2.1, .slice ad0_0 d0.1.2.2.2.2.length cap0_0, .slice ad0_1 d0.2.1.length cap0_1, .slice ad0_2 d0.2.2.1.length cap0_2, .bool d0.2.2.2] 27)) 0 0
  replace hB := hide (below_upd (unhide hB) hu (Nat.le_refl _) (.inr (Nat.le_refl _)))
  have hs1 : Hid (w.heap.size + 1 ≤ (w.alloc (.cells #[.int .i64 d0.1.1, .int .i64 d0.1.2.1, .int .i64 d0.1.2.2.1, .int .i64 d0.1.2.2.2.1, .slice ad0_0 d0.1.2.2.2.2.length cap0_0, .slice ad0_1 d0.2.1.length cap0_1, .slice ad0_2 d0.2.2.1.length cap0_2, .bool d0.2.2.2] 27)).heap.size) := hide (by simp)
  have cp0 := hide (held_new w [.int .i64 d0.1.1, .int .i64 d0.1.2.1, .int .i64 d0.1.2.2.1, .int .i64 d0.1.2.2.2.1, .slice ad0_0 d0.1.2.2.2.2.length cap0_0, .slice ad0_1 d0.2.1.length cap0_1, .slice ad0_2 d0.2.2.1.length cap0_2, .bool d0.2.2.2] 27)
  clear hu
  generalize w.alloc (.cells #[.int .i64 d0.1.1, .int .i64 d0.1.2.1, .int .i64 d0.1.2.2.1, .int .i64 d0.1.2.2.2.1, .slice ad0_0 d0.1.2.2.2.2.length cap0_0, .slice ad0_1 d0.2.1.length cap0_1, .slice ad0_2 d0.2.2.1.length cap0_2, .bool d0.2.2.2] 27) = w1 at  hB hs1 cp0 ⊢
  refine (szStill_any d0.1.1 d0.1.2.1 d0.1.2.2.1 d0.1.2.2.2.1 d0.1.2.2.2.2 d0.2.1 d0.2.2.1 d0.2.2.2 ad0_0 cap0_0 ad0_1 cap0_1 ad0_2 cap0_2 (1048576) w1 (by omega) (by omega) hz0.1 hz0.2.1 hz0.2.2 (unhide hR0).2.2 ((unhide hA0_2).below (unhide hB))).mono ?_
  rintro e w2 ⟨rfl, hu⟩
  replace cp0 := hide ((unhide cp0).keep hu)
  replace hB := hide (below_upd (unhide hB) hu (Nat.le_refl _) (.inr (Nat.le_refl _)))
  have hs2 : Hid (w1.heap.size ≤ w2.heap.size) := hide hu.size
  clear hu
  rw [if_pos (by omega)]
  go_wp2
  go_ret
  exact ⟨rfl, unhide hB⟩

set_option maxHeartbeats 4000000 in
set_option maxRecDepth 100000 in
theorem lawColours_short (d0 : St) (ad0_0 : Option Addr) (cap0_0 : Nat) (ad0_1 : Option Addr) (cap0_1 : Nat) (ad0_2 : Option Addr) (cap0_2 : Nat) (w : World) (hT : Held w 1 passCells) (hz0 : (d0.1.2.2.2.2.length ≤ 9223372036854775807 ∧ d0.2.1.length ≤ 9223372036854775807 ∧ d0.2.2.1.length ≤ 9223372036854775807)) (hn : d0.1.2.2.2.2.length + d0.2.1.length + ntSize d0.2.2.1 ≤ 1048576) (hA0_0 : ArgI w ad0_0 d0.1.2.2.2.2) (hA0_1 : ArgI w ad0_1 d0.2.1) (hA0_2 : ArgNt w ad0_2 d0.2.2.1) (hR0 : InSt d0) :
    Calls Tryd.prog 5 #[.agg #[.int .i64 d0.1.1, .int .i64 d0.1.2.1, .int .i64 d0.1.2.2.1, .int .i64 d0.1.2.2.2.1, .slice ad0_0 d0.1.2.2.2.2.length cap0_0, .slice ad0_1 d0.2.1.length cap0_1, .slice ad0_2 d0.2.2.1.length cap0_2, .bool d0.2.2.2]] w fun e w' => e = .returned (.bool true) ∧ Below w.heap.size w w' := by
  have hT0 := hide hT.1
  replace hT := hide hT
  have hn0 : (StSize d0 ≤ 1048576) := by unfold StSize; omega
  replace hA0_0 := hide hA0_0
  replace hA0_1 := hide hA0_1
  replace hA0_2 := hide hA0_2
  replace hR0 := hide hR0
  have hL := hide (coloursF_len d0)
  have hB := hide (Below.refl w.heap.size w)
  go_enter Tryd.func5, Tryd.ntmps5
  have hleft0 : (0 : Int) ≤ 1048576 := by omega
  go_wp2_with fail
  have hu := Upd.of_below ((Below.refl w.heap.size w).alloc (Nat.le_refl _) (.cells #[.int .i64 d0.1.1, .int .i64 d0.1.2.1, .int .i64 d0.1.2.2.1, .int .i64 d0.1.2.2.2.1, .slice ad0_0 d0.1.2.2.2.2.length cap0_0, .slice ad0_1 d0.2.1.length cap0_1, .slice ad0_2 d0.2.2.1.length cap0_2, .bool d0.2.2.2] 27)) 0 0
  replace hT := hide ((unhide hT).keep hu)
  replace hB := hide (below_upd (unhide hB) hu (Nat.le_refl _) (.inr (Nat.le_refl _)))
  have hs1 : Hid (w.heap.size + 1 ≤ (w.alloc (.cells #[.int .i64 d0.1.1, .int .i64 d0.1.2.1, .int .i64 d0.1.2.2.1, .int .i64 d0.1.2.2.2.1, .slice ad0_0 d0.1.2.2.2.2.length cap0_0, .slice ad0_1 d0.2.1.length cap0_1, .slice ad0_2 d0.2.2.1.length cap0_2, .bool d0.2.2.2] 27)).heap.size) := hide (by simp)
  have cp0 := hide (held_new w [.int .i64 d0.1.1, .int .i64 d0.1.2.1, .int .i64 d0.1.2.2.1, .int .i64 d0.1.2.2.2.1, .slice ad0_0 d0.1.2.2.2.2.length cap0_0, .slice ad0_1 d0.2.1.length cap0_1, .slice ad0_2 d0.2.2.1.length cap0_2, .bool d0.2.2.2] 27)
  clear hu
  generalize w.alloc (.cells #[.int .i64 d0.1.1, .int .i64 d0.1.2.1, .int .i64 d0.1.2.2.1, .int .i64 d0.1.2.2.2.1, .slice ad0_0 d0.1.2.2.2.2.length cap0_0, .slice ad0_1 d0.2.1.length cap0_1, .slice ad0_2 d0.2.2.1.length cap0_2, .bool d0.2.2.2] 27) = w1 at hT hB hs1 cp0 ⊢
  refine (szStill_any d0.1.1 d0.1.2.1 d0.1.2.2.1 d0.1.2.2.2.1 d0.1.2.2.2.2 d0.2.1 d0.2.2.1 d0.2.2.2 ad0_0 cap0_0 ad0_1 cap0_1 ad0_2 cap0_2 (1048576) w1 (by omega) (by omega) hz0.1 hz0.2.1 hz0.2.2 (unhide hR0).2.2 ((unhide hA0_2).below (unhide hB))).mono ?_
  rintro e w2 ⟨rfl, hu⟩
  replace hT := hide ((unhide hT).keep hu)
  replace cp0 := hide ((unhide cp0).keep hu)
  replace hB := hide (below_upd (unhide hB) hu (Nat.le_refl _) (.inr (Nat.le_refl _)))
  have hs2 : Hid (w1.heap.size ≤ w2.heap.size) := hide hu.size
  clear hu
  rw [if_neg (by omega)]
  have hleft0 : ¬ (1048576 - ((d0.1.2.2.2.2.length + d0.2.1.length + ntSize d0.2.2.1 : Nat) : Int) < 0) := by omega
  have kcp0_0 := (unhide cp0).2 0 _ rfl
  have kcp0_1 := (unhide cp0).2 1 _ rfl
  have kcp0_2 := (unhide cp0).2 2 _ rfl
  have kcp0_3 := (unhide cp0).2 3 _ rfl
  have kcp0_4 := (unhide cp0).2 4 _ rfl
  have kcp0_5 := (unhide cp0).2 5 _ rfl
  have kcp0_6 := (unhide cp0).2 6 _ rfl
  have kcp0_7 := (unhide cp0).2 7 _ rfl
  have kcp0_l := (unhide cp0).1
  go_wp2_with fail
  clear kcp0_0 kcp0_1 kcp0_2 kcp0_3 kcp0_4 kcp0_5 kcp0_6 kcp0_7 kcp0_l
  refine (toStill_own _ d0 w2 hn0 ⟨_, _, _, rfl, ⟨ad0_0, cap0_0, rfl, (unhide hA0_0).below (unhide hB)⟩, ⟨ad0_1, cap0_1, rfl, (unhide hA0_1).below (unhide hB)⟩, ⟨ad0_2, cap0_2, rfl, (unhide hA0_2).below (unhide hB)⟩⟩).mono ?_
  rintro e w3 ⟨vy0_w0, rfl, ho, hu⟩
  replace hT := hide ((unhide hT).keep hu)
  replace cp0 := hide ((unhide cp0).keep hu)
  replace hB := hide (below_upd (unhide hB) hu (Nat.le_refl _) (.inr (Nat.le_refl _)))
  have hs3 : Hid (w2.heap.size ≤ w3.heap.size) := hide hu.size
  have y0_w0 := hide ho
  clear hu ho
  go_wp2_with fail
  refine (specColours _ d0 w3  hn0 (unhide hR0) (OwnSt.rn (unhide y0_w0))).mono ?_
  rintro e w4 ⟨vr0, rfl, ho, hu⟩
  replace y0_w0 := hide ((unhide y0_w0).keep hu)
  replace hT := hide ((unhide hT).keep hu)
  replace cp0 := hide ((unhide cp0).keep hu)
  replace hB := hide (below_upd (unhide hB) hu (Nat.le_refl _) (.inr (Nat.le_refl _)))
  have hs4 : Hid (w3.heap.size ≤ w4.heap.size) := hide hu.size
  have r0 := hide ho
  clear hu ho
  obtain ⟨adr0_0, capr0_0, hvr0⟩ := OwnIm.form (unhide r0)
  subst hvr0
  clear y0_w0
  have kcp0_0 := (unhide cp0).2 0 _ rfl
  have kcp0_1 := (unhide cp0).2 1 _ rfl
  have kcp0_2 := (unhide cp0).2 2 _ rfl
  have kcp0_3 := (unhide cp0).2 3 _ rfl
  have kcp0_4 := (unhide cp0).2 4 _ rfl
  have kcp0_5 := (unhide cp0).2 5 _ rfl
  have kcp0_6 := (unhide cp0).2 6 _ rfl
  have kcp0_7 := (unhide cp0).2 7 _ rfl
  have kcp0_l := (unhide cp0).1
  go_wp2_with fail
  clear kcp0_0 kcp0_1 kcp0_2 kcp0_3 kcp0_4 kcp0_5 kcp0_6 kcp0_7 kcp0_l
  have hu := Upd.of_below ((Below.refl w4.heap.size w4).alloc (Nat.le_refl _) (.cells #[.int .i64 (coloursF d0).1, .int .i64 (coloursF d0).2.1, .int .i64 (coloursF d0).2.2.1, .int .i64 (coloursF d0).2.2.2.1, .slice adr0_0 (coloursF d0).2.2.2.2.length capr0_0] 30)) 0 0
  replace r0 := hide ((unhide r0).keep hu)
  replace hT := hide ((unhide hT).keep hu)
  replace cp0 := hide ((unhide cp0).keep hu)
  replace hB := hide (below_upd (unhide hB) hu (Nat.le_refl _) (.inr (Nat.le_refl _)))
  have hs5 : Hid (w4.heap.size + 1 ≤ (w4.alloc (.cells #[.int .i64 (coloursF d0).1, .int .i64 (coloursF d0).2.1, .int .i64 (coloursF d0).2.2.1, .int .i64 (coloursF d0).2.2.2.1, .slice adr0_0 (coloursF d0).2.2.2.2.length capr0_0] 30)).heap.size) := hide (by simp)
  have cr0 := hide (held_new w4 [.int .i64 (coloursF d0).1, .int .i64 (coloursF d0).2.1, .int .i64 (coloursF d0).2.2.1, .int .i64 (coloursF d0).2.2.2.1, .slice adr0_0 (coloursF d0).2.2.2.2.length capr0_0] 30)
  clear hu
  generalize w4.alloc (.cells #[.int .i64 (coloursF d0).1, .int .i64 (coloursF d0).2.1, .int .i64 (coloursF d0).2.2.1, .int .i64 (coloursF d0).2.2.2.1, .slice adr0_0 (coloursF d0).2.2.2.2.length capr0_0] 30) = w5 at r0 hT cp0 hB hs5 cr0 ⊢
  refine (toStill_own _ d0 w5 hn0 ⟨_, _, _, rfl, ⟨ad0_0, cap0_0, rfl, (unhide hA0_0).below (unhide hB)⟩, ⟨ad0_1, cap0_1, rfl, (unhide hA0_1).below (unhide hB)⟩, ⟨ad0_2, cap0_2, rfl, (unhide hA0_2).below (unhide hB)⟩⟩).mono ?_
  rintro e w6 ⟨vx0, rfl, ho, hu⟩
  replace r0 := hide ((unhide r0).keep hu)
  replace hT := hide ((unhide hT).keep hu)
  replace cp0 := hide ((unhide cp0).keep hu)
  replace cr0 := hide ((unhide cr0).keep hu)
  replace hB := hide (below_upd (unhide hB) hu (Nat.le_refl _) (.inr (Nat.le_refl _)))
  have hs6 : Hid (w5.heap.size ≤ w6.heap.size) := hide hu.size
  have x0 := hide ho
  clear hu ho
  obtain ⟨adx0_0, capx0_0, adx0_1, capx0_1, adx0_2, capx0_2, hvx0⟩ := OwnSt.form (unhide x0)
  subst hvx0
  go_wp2_with fail
  have hu := Upd.of_below ((Below.refl w6.heap.size w6).alloc (Nat.le_refl _) (.cells #[.int .i64 d0.1.1, .int .i64 d0.1.2.1, .int .i64 d0.1.2.2.1, .int .i64 d0.1.2.2.2.1, .slice adx0_0 d0.1.2.2.2.2.length capx0_0, .slice adx0_1 d0.2.1.length capx0_1, .slice adx0_2 d0.2.2.1.length capx0_2, .bool d0.2.2.2] 33)) 0 0
  replace r0 := hide ((unhide r0).keep hu)
  replace x0 := hide ((unhide x0).keep hu)
  replace hT := hide ((unhide hT).keep hu)
  replace cp0 := hide ((unhide cp0).keep hu)
  replace cr0 := hide ((unhide cr0).keep hu)
  replace hB := hide (below_upd (unhide hB) hu (Nat.le_refl _) (.inr (Nat.le_refl _)))
  have hs7 : Hid (w6.heap.size + 1 ≤ (w6.alloc (.cells #[.int .i64 d0.1.1, .int .i64 d0.1.2.1, .int .i64 d0.1.2.2.1, .int .i64 d0.1.2.2.2.1, .slice adx0_0 d0.1.2.2.2.2.length capx0_0, .slice adx0_1 d0.2.1.length capx0_1, .slice adx0_2 d0.2.2.1.length capx0_2, .bool d0.2.2.2] 33)).heap.size) := hide (by simp)
  have cx0 := hide (held_new w6 [.int .i64 d0.1.1, .int .i64 d0.1.2.1, .int .i64 d0.1.2.2.1, .int .i64 d0.1.2.2.2.1, .slice adx0_0 d0.1.2.2.2.2.length capx0_0, .slice adx0_1 d0.2.1.length capx0_1, .slice adx0_2 d0.2.2.1.length capx0_2, .bool d0.2.2.2] 33)
  clear hu
  generalize w6.alloc (.cells #[.int .i64 d0.1.1, .int .i64 d0.1.2.1, .int .i64 d0.1.2.2.1, .int .i64 d0.1.2.2.2.1, .slice adx0_0 d0.1.2.2.2.2.length capx0_0, .slice adx0_1 d0.2.1.length capx0_1, .slice adx0_2 d0.2.2.1.length capx0_2, .bool d0.2.2.2] 33) = w7 at r0 x0 hT cp0 cr0 hB hs7 cx0 ⊢
  refine (implColours _ d0 w7 (unhide hT) hn0 (unhide hR0) (OwnSt.rn (unhide x0))).mono ?_
  rintro e w8 ⟨vr1, rfl, ho, hu⟩
  replace r0 := hide ((unhide r0).keep hu)
  replace x0 := hide ((unhide x0).keep hu)
  replace hT := hide ((unhide hT).keep hu)
  replace cp0 := hide ((unhide cp0).keep hu)
  replace cr0 := hide ((unhide cr0).keep hu)
  replace cx0 := hide ((unhide cx0).keep hu)
  replace hB := hide (below_upd (unhide hB) hu (Nat.le_refl _) (.inr (Nat.le_refl _)))
  have hs8 : Hid (w7.heap.size ≤ w8.heap.size) := hide hu.size
  have r1 := hide ho
  clear hu ho
  obtain ⟨adr1_0, capr1_0, hvr1⟩ := OwnIm.form (unhide r1)
  subst hvr1
  have kcr0_0 := (unhide cr0).2 0 _ rfl
  have kcr0_1 := (unhide cr0).2 1 _ rfl
  have kcr0_2 := (unhide cr0).2 2 _ rfl
  have kcr0_3 := (unhide cr0).2 3 _ rfl
  have kcr0_4 := (unhide cr0).2 4 _ rfl
  have kcr0_l := (unhide cr0).1
  go_wp2_with fail
  clear kcr0_0 kcr0_1 kcr0_2 kcr0_3 kcr0_4 kcr0_l
  have hu := Upd.of_below ((Below.refl w8.heap.size w8).alloc (Nat.le_refl _) (.cells #[.int .i64 (coloursF d0).1, .int .i64 (coloursF d0).2.1, .int .i64 (coloursF d0).2.2.1, .int .i64 (coloursF d0).2.2.2.1, .slice adr1_0 (coloursF d0).2.2.2.2.length capr1_0] 30)) 0 0
  replace r0 := hide ((unhide r0).keep hu)
  replace x0 := hide ((unhide x0).keep hu)
  replace r1 := hide ((unhide r1).keep hu)
  replace hT := hide ((unhide hT).keep hu)
  replace cp0 := hide ((unhide cp0).keep hu)
  replace cr0 := hide ((unhide cr0).keep hu)
  replace cx0 := hide ((unhide cx0).keep hu)
  replace hB := hide (below_upd (unhide hB) hu (Nat.le_refl _) (.inr (Nat.le_refl _)))
  have hs9 : Hid (w8.heap.size + 1 ≤ (w8.alloc (.cells #[.int .i64 (coloursF d0).1, .int .i64 (coloursF d0).2.1, .int .i64 (coloursF d0).2.2.1, .int .i64 (coloursF d0).2.2.2.1, .slice adr1_0 (coloursF d0).2.2.2.2.length capr1_0] 30)).heap.size) := hide (by simp)
  have cr1 := hide (held_new w8 [.int .i64 (coloursF d0).1, .int .i64 (coloursF d0).2.1, .int .i64 (coloursF d0).2.2.1, .int .i64 (coloursF d0).2.2.2.1, .slice adr1_0 (coloursF d0).2.2.2.2.length capr1_0] 30)
  clear hu
  generalize w8.alloc (.cells #[.int .i64 (coloursF d0).1, .int .i64 (coloursF d0).2.1, .int .i64 (coloursF d0).2.2.1, .int .i64 (coloursF d0).2.2.2.1, .slice adr1_0 (coloursF d0).2.2.2.2.length capr1_0] 30) = w9 at r0 x0 r1 hT cp0 cr0 cx0 hB hs9 cr1 ⊢
  refine (eqImage_rd _ _ (coloursF d0) w9 (unhide hL) (OwnIm.rd (unhide r1)) (OwnIm.rd (unhide r0))).mono ?_
  rintro e w10 ⟨rfl, hu⟩
  replace r0 := hide ((unhide r0).keep hu)
  replace x0 := hide ((unhide x0).keep hu)
  replace r1 := hide ((unhide r1).keep hu)
  replace hT := hide ((unhide hT).keep hu)
  replace cp0 := hide ((unhide cp0).keep hu)
  replace cr0 := hide ((unhide cr0).keep hu)
  replace cx0 := hide ((unhide cx0).keep hu)
  replace cr1 := hide ((unhide cr1).keep hu)
  replace hB := hide (below_upd (unhide hB) hu (Nat.le_refl _) (.inr (Nat.le_refl _)))
  have hs10 : Hid (w9.heap.size ≤ w10.heap.size) := hide hu.size
  clear hu
  have kcx0_0 := (unhide cx0).2 0 _ rfl
  have kcx0_1 := (unhide cx0).2 1 _ rfl
  have kcx0_2 := (unhide cx0).2 2 _ rfl
  have kcx0_3 := (unhide cx0).2 3 _ rfl
  have kcx0_4 := (unhide cx0).2 4 _ rfl
  have kcx0_5 := (unhide cx0).2 5 _ rfl
  have kcx0_6 := (unhide cx0).2 6 _ rfl
  have kcx0_7 := (unhide cx0).2 7 _ rfl
  have kcx0_l := (unhide cx0).1
  have kcp0_0 := (unhide cp0).2 0 _ rfl
  have kcp0_1 := (unhide cp0).2 1 _ rfl
  have kcp0_2 := (unhide cp0).2 2 _ rfl
  have kcp0_3 := (unhide cp0).2 3 _ rfl
  have kcp0_4 := (unhide cp0).2 4 _ rfl
  have kcp0_5 := (unhide cp0).2 5 _ rfl
  have kcp0_6 := (unhide cp0).2 6 _ rfl
  have kcp0_7 := (unhide cp0).2 7 _ rfl
  have kcp0_l := (unhide cp0).1
  have hTo := hide (toStill_own _ d0 w10.drew hn0 ⟨_, _, _, rfl, ⟨ad0_0, cap0_0, rfl, (unhide hA0_0).below (below_drewN (unhide hB) 1)⟩, ⟨ad0_1, cap0_1, rfl, (unhide hA0_1).below (below_drewN (unhide hB) 1)⟩, ⟨ad0_2, cap0_2, rfl, (unhide hA0_2).below (below_drewN (unhide hB) 1)⟩⟩)
  go_wp2_with fail
  go_region_held3 (fun w' => w'.cell? ⟨w6.heap.size, 0, none⟩ = some (.int .i64 d0.1.1) ∧ w'.cell? ⟨w6.heap.size, 1, none⟩ = some (.int .i64 d0.1.2.1) ∧ w'.cell? ⟨w6.heap.size, 2, none⟩ = some (.int .i64 d0.1.2.2.1) ∧ w'.cell? ⟨w6.heap.size, 3, none⟩ = some (.int .i64 d0.1.2.2.2.1) ∧ w'.cell? ⟨w6.heap.size, 4, none⟩ = some (.slice adx0_0 d0.1.2.2.2.2.length capx0_0) ∧ w'.cell? ⟨w6.heap.size, 5, none⟩ = some (.slice adx0_1 d0.2.1.length capx0_1) ∧ w'.cell? ⟨w6.heap.size, 6, none⟩ = some (.slice adx0_2 d0.2.2.1.length capx0_2) ∧ w'.cell? ⟨w6.heap.size, 7, none⟩ = some (.bool d0.2.2.2) ∧ w'.cell? ⟨w.heap.size, 0, none⟩ = some (.int .i64 d0.1.1) ∧ w'.cell? ⟨w.heap.size, 1, none⟩ = some (.int .i64 d0.1.2.1) ∧ w'.cell? ⟨w.heap.size, 2, none⟩ = some (.int .i64 d0.1.2.2.1) ∧ w'.cell? ⟨w.heap.size, 3, none⟩ = some (.int .i64 d0.1.2.2.2.1) ∧ w'.cell? ⟨w.heap.size, 4, none⟩ = some (.slice ad0_0 d0.1.2.2.2.2.length cap0_0) ∧ w'.cell? ⟨w.heap.size, 5, none⟩ = some (.slice ad0_1 d0.2.1.length cap0_1) ∧ w'.cell? ⟨w.heap.size, 6, none⟩ = some (.slice ad0_2 d0.2.2.1.length cap0_2) ∧ w'.cell? ⟨w.heap.size, 7, none⟩ = some (.bool d0.2.2.2)) (first | (exact ⟨((hut.trans huf).none.cell kcx0_l).trans kcx0_0, ((hut.trans huf).none.cell kcx0_l).trans kcx0_1, ((hut.trans huf).none.cell kcx0_l).trans kcx0_2, ((hut.trans huf).none.cell kcx0_l).trans kcx0_3, ((hut.trans huf).none.cell kcx0_l).trans kcx0_4, ((hut.trans huf).none.cell kcx0_l).trans kcx0_5, ((hut.trans huf).none.cell kcx0_l).trans kcx0_6, ((hut.trans huf).none.cell kcx0_l).trans kcx0_7, ((hut.trans huf).none.cell kcp0_l).trans kcp0_0, ((hut.trans huf).none.cell kcp0_l).trans kcp0_1, ((hut.trans huf).none.cell kcp0_l).trans kcp0_2, ((hut.trans huf).none.cell kcp0_l).trans kcp0_3, ((hut.trans huf).none.cell kcp0_l).trans kcp0_4, ((hut.trans huf).none.cell kcp0_l).trans kcp0_5, ((hut.trans huf).none.cell kcp0_l).trans kcp0_6, ((hut.trans huf).none.cell kcp0_l).trans kcp0_7⟩) | (exact ⟨(hut.none.cell kcx0_l).trans kcx0_0, (hut.none.cell kcx0_l).trans kcx0_1, (hut.none.cell kcx0_l).trans kcx0_2, (hut.none.cell kcx0_l).trans kcx0_3, (hut.none.cell kcx0_l).trans kcx0_4, (hut.none.cell kcx0_l).trans kcx0_5, (hut.none.cell kcx0_l).trans kcx0_6, (hut.none.cell kcx0_l).trans kcx0_7, (hut.none.cell kcp0_l).trans kcp0_0, (hut.none.cell kcp0_l).trans kcp0_1, (hut.none.cell kcp0_l).trans kcp0_2, (hut.none.cell kcp0_l).trans kcp0_3, (hut.none.cell kcp0_l).trans kcp0_4, (hut.none.cell kcp0_l).trans kcp0_5, (hut.none.cell kcp0_l).trans kcp0_6, (hut.none.cell kcp0_l).trans kcp0_7⟩) | go_keep) (first | (go_at_call 8; refine (unhide hTo).mono ?_; rintro e wt ⟨vt, rfl, hot, hut⟩) | (go_at_call 10; refine (eqStill_rd _ _ d0 _ hn0 (OwnSt.rd (OwnSt.keep (unhide x0) (Upd.trans (Upd.drew1 _) hut))) (OwnSt.rd hot)).mono ?_; rintro e wf ⟨rfl, huf⟩))
  clear hTo kcx0_0 kcx0_1 kcx0_2 kcx0_3 kcx0_4 kcx0_5 kcx0_6 kcx0_7 kcx0_l kcp0_0 kcp0_1 kcp0_2 kcp0_3 kcp0_4 kcp0_5 kcp0_6 kcp0_7 kcp0_l
  have hu : Upd 0 0 w10 wf := (Upd.drew1 _).trans (hut.trans huf)
  clear hut hot huf
  replace r0 := hide ((unhide r0).keep hu)
  replace x0 := hide ((unhide x0).keep hu)
  replace r1 := hide ((unhide r1).keep hu)
  replace hT := hide ((unhide hT).keep hu)
  replace cp0 := hide ((unhide cp0).keep hu)
  replace cr0 := hide ((unhide cr0).keep hu)
  replace cx0 := hide ((unhide cx0).keep hu)
  replace cr1 := hide ((unhide cr1).keep hu)
  replace hB := hide (below_upd (unhide hB) hu (Nat.le_refl _) (.inr (Nat.le_refl _)))
  have hs11 : Hid (w10.heap.size ≤ wf.heap.size) := hide hu.size
  clear hu
  generalize wf = w11 at r0 x0 r1 hT cp0 cr0 cx0 cr1 hB hs11 ⊢
  have kcx0_0 := (unhide cx0).2 0 _ rfl
  have kcx0_1 := (unhide cx0).2 1 _ rfl
  have kcx0_2 := (unhide cx0).2 2 _ rfl
  have kcx0_3 := (unhide cx0).2 3 _ rfl
  have kcx0_4 := (unhide cx0).2 4 _ rfl
  have kcx0_5 := (unhide cx0).2 5 _ rfl
  have kcx0_6 := (unhide cx0).2 6 _ rfl
  have kcx0_7 := (unhide cx0).2 7 _ rfl
  have kcx0_l := (unhide cx0).1
  go_wp2_with fail
  clear kcx0_0 kcx0_1 kcx0_2 kcx0_3 kcx0_4 kcx0_5 kcx0_6 kcx0_7 kcx0_l
  refine (markStill_own (1) hn0 (by omega) (unhide x0)).mono ?_
  rintro e w12 ⟨rfl, ho, hu⟩
  replace r0 := hide ((unhide r0).upd hu (by have := unhide hT0; have := unhide hs1; have := unhide hs2; have := unhide hs3; have := unhide hs4; have := unhide hs5; have := unhide hs6; have := unhide hs7; have := unhide hs8; have := unhide hs9; have := unhide hs10; have := unhide hs11; omega))
  replace r1 := hide ((unhide r1).upd hu (by have := unhide hT0; have := unhide hs1; have := unhide hs2; have := unhide hs3; have := unhide hs4; have := unhide hs5; have := unhide hs6; have := unhide hs7; have := unhide hs8; have := unhide hs9; have := unhide hs10; have := unhide hs11; omega))
  replace hT := hide ((unhide hT).upd hu (by have := unhide hT0; have := unhide hs1; have := unhide hs2; have := unhide hs3; have := unhide hs4; have := unhide hs5; have := unhide hs6; have := unhide hs7; have := unhide hs8; have := unhide hs9; have := unhide hs10; have := unhide hs11; omega))
  replace cp0 := hide ((unhide cp0).upd hu (by have := unhide hT0; have := unhide hs1; have := unhide hs2; have := unhide hs3; have := unhide hs4; have := unhide hs5; have := unhide hs6; have := unhide hs7; have := unhide hs8; have := unhide hs9; have := unhide hs10; have := unhide hs11; omega))
  replace cr0 := hide ((unhide cr0).upd hu (by have := unhide hT0; have := unhide hs1; have := unhide hs2; have := unhide hs3; have := unhide hs4; have := unhide hs5; have := unhide hs6; have := unhide hs7; have := unhide hs8; have := unhide hs9; have := unhide hs10; have := unhide hs11; omega))
  replace cx0 := hide ((unhide cx0).upd hu (by have := unhide hT0; have := unhide hs1; have := unhide hs2; have := unhide hs3; have := unhide hs4; have := unhide hs5; have := unhide hs6; have := unhide hs7; have := unhide hs8; have := unhide hs9; have := unhide hs10; have := unhide hs11; omega))
  replace cr1 := hide ((unhide cr1).upd hu (by have := unhide hT0; have := unhide hs1; have := unhide hs2; have := unhide hs3; have := unhide hs4; have := unhide hs5; have := unhide hs6; have := unhide hs7; have := unhide hs8; have := unhide hs9; have := unhide hs10; have := unhide hs11; omega))
  replace hB := hide (below_upd (unhide hB) hu (Nat.le_refl _) (by have := unhide hT0; have := unhide hs1; have := unhide hs2; have := unhide hs3; have := unhide hs4; have := unhide hs5; have := unhide hs6; have := unhide hs7; have := unhide hs8; have := unhide hs9; have := unhide hs10; have := unhide hs11; omega))
  replace x0 := hide ho
  have hs12 : Hid (w11.heap.size ≤ w12.heap.size) := hide hu.size
  clear hu ho
  have hk0 : ¬ (((1 + StCount d0 : Nat) : Int) < 0) := by omega
  have kcr1_0 := (unhide cr1).2 0 _ rfl
  have kcr1_1 := (unhide cr1).2 1 _ rfl
  have kcr1_2 := (unhide cr1).2 2 _ rfl
  have kcr1_3 := (unhide cr1).2 3 _ rfl
  have kcr1_4 := (unhide cr1).2 4 _ rfl
  have kcr1_l := (unhide cr1).1
  have kcr0_0 := (unhide cr0).2 0 _ rfl
  have kcr0_1 := (unhide cr0).2 1 _ rfl
  have kcr0_2 := (unhide cr0).2 2 _ rfl
  have kcr0_3 := (unhide cr0).2 3 _ rfl
  have kcr0_4 := (unhide cr0).2 4 _ rfl
  have kcr0_l := (unhide cr0).1
  go_wp2_with fail
  clear kcr1_0 kcr1_1 kcr1_2 kcr1_3 kcr1_4 kcr1_l kcr0_0 kcr0_1 kcr0_2 kcr0_3 kcr0_4 kcr0_l
  refine (eqImage_rd _ _ (coloursF d0) w12 (unhide hL) (OwnIm.rd (unhide r1)) (OwnIm.rd (unhide r0))).mono ?_
  rintro e w13 ⟨rfl, hu⟩
  replace r0 := hide ((unhide r0).keep hu)
  replace x0 := hide ((unhide x0).keep hu)
  replace r1 := hide ((unhide r1).keep hu)
  replace hT := hide ((unhide hT).keep hu)
  replace cp0 := hide ((unhide cp0).keep hu)
  replace cr0 := hide ((unhide cr0).keep hu)
  replace cx0 := hide ((unhide cx0).keep hu)
  replace cr1 := hide ((unhide cr1).keep hu)
  replace hB := hide (below_upd (unhide hB) hu (Nat.le_refl _) (.inr (Nat.le_refl _)))
  have hs13 : Hid (w12.heap.size ≤ w13.heap.size) := hide hu.size
  clear hu
  clear x0
  have kcr1_0 := (unhide cr1).2 0 _ rfl
  have kcr1_1 := (unhide cr1).2 1 _ rfl
  have kcr1_2 := (unhide cr1).2 2 _ rfl
  have kcr1_3 := (unhide cr1).2 3 _ rfl
  have kcr1_4 := (unhide cr1).2 4 _ rfl
  have kcr1_l := (unhide cr1).1
  go_wp2_with fail
  clear kcr1_0 kcr1_1 kcr1_2 kcr1_3 kcr1_4 kcr1_l
  refine (markImage_own (1) (unhide hL) (by omega) (unhide r1)).mono ?_
  rintro e w14 ⟨rfl, ho, hu⟩
  replace r0 := hide ((unhide r0).upd hu (by have := unhide hT0; have := unhide hs1; have := unhide hs2; have := unhide hs3; have := unhide hs4; have := unhide hs5; have := unhide hs6; have := unhide hs7; have := unhide hs8; have := unhide hs9; have := unhide hs10; have := unhide hs11; have := unhide hs12; have := unhide hs13; omega))
  replace hT := hide ((unhide hT).upd hu (by have := unhide hT0; have := unhide hs1; have := unhide hs2; have := unhide hs3; have := unhide hs4; have := unhide hs5; have := unhide hs6; have := unhide hs7; have := unhide hs8; have := unhide hs9; have := unhide hs10; have := unhide hs11; have := unhide hs12; have := unhide hs13; omega))
  replace cp0 := hide ((unhide cp0).upd hu (by have := unhide hT0; have := unhide hs1; have := unhide hs2; have := unhide hs3; have := unhide hs4; have := unhide hs5; have := unhide hs6; have := unhide hs7; have := unhide hs8; have := unhide hs9; have := unhide hs10; have := unhide hs11; have := unhide hs12; have := unhide hs13; omega))
  replace cr0 := hide ((unhide cr0).upd hu (by have := unhide hT0; have := unhide hs1; have := unhide hs2; have := unhide hs3; have := unhide hs4; have := unhide hs5; have := unhide hs6; have := unhide hs7; have := unhide hs8; have := unhide hs9; have := unhide hs10; have := unhide hs11; have := unhide hs12; have := unhide hs13; omega))
  replace cx0 := hide ((unhide cx0).upd hu (by have := unhide hT0; have := unhide hs1; have := unhide hs2; have := unhide hs3; have := unhide hs4; have := unhide hs5; have := unhide hs6; have := unhide hs7; have := unhide hs8; have := unhide hs9; have := unhide hs10; have := unhide hs11; have := unhide hs12; have := unhide hs13; omega))
  replace cr1 := hide ((unhide cr1).upd hu (by have := unhide hT0; have := unhide hs1; have := unhide hs2; have := unhide hs3; have := unhide hs4; have := unhide hs5; have := unhide hs6; have := unhide hs7; have := unhide hs8; have := unhide hs9; have := unhide hs10; have := unhide hs11; have := unhide hs12; have := unhide hs13; omega))
  replace hB := hide (below_upd (unhide hB) hu (Nat.le_refl _) (by have := unhide hT0; have := unhide hs1; have := unhide hs2; have := unhide hs3; have := unhide hs4; have := unhide hs5; have := unhide hs6; have := unhide hs7; have := unhide hs8; have := unhide hs9; have := unhide hs10; have := unhide hs11; have := unhide hs12; have := unhide hs13; omega))
  replace r1 := hide ho
  have hs14 : Hid (w13.heap.size ≤ w14.heap.size) := hide hu.size
  clear hu ho
  have kcr1_0 := (unhide cr1).2 0 _ rfl
  have kcr1_1 := (unhide cr1).2 1 _ rfl
  have kcr1_2 := (unhide cr1).2 2 _ rfl
  have kcr1_3 := (unhide cr1).2 3 _ rfl
  have kcr1_4 := (unhide cr1).2 4 _ rfl
  have kcr1_l := (unhide cr1).1
  go_wp2_with fail
  clear kcr1_0 kcr1_1 kcr1_2 kcr1_3 kcr1_4 kcr1_l
  refine (heldImage_own 1 (unhide hL) (by omega) (unhide r1)).mono ?_
  rintro e w15 ⟨rfl, hu⟩
  replace r0 := hide ((unhide r0).keep hu)
  replace r1 := hide ((unhide r1).keep hu)
  replace hT := hide ((unhide hT).keep hu)
  replace cp0 := hide ((unhide cp0).keep hu)
  replace cr0 := hide ((unhide cr0).keep hu)
  replace cx0 := hide ((unhide cx0).keep hu)
  replace cr1 := hide ((unhide cr1).keep hu)
  replace hB := hide (below_upd (unhide hB) hu (Nat.le_refl _) (.inr (Nat.le_refl _)))
  have hs15 : Hid (w14.heap.size ≤ w15.heap.size) := hide hu.size
  clear hu
  have hq0 : ¬ (((1 + imCount (coloursF d0) : Nat) : Int) < 0) := by omega
  have kcp0_0 := (unhide cp0).2 0 _ rfl
  have kcp0_1 := (unhide cp0).2 1 _ rfl
  have kcp0_2 := (unhide cp0).2 2 _ rfl
  have kcp0_3 := (unhide cp0).2 3 _ rfl
  have kcp0_4 := (unhide cp0).2 4 _ rfl
  have kcp0_5 := (unhide cp0).2 5 _ rfl
  have kcp0_6 := (unhide cp0).2 6 _ rfl
  have kcp0_7 := (unhide cp0).2 7 _ rfl
  have kcp0_l := (unhide cp0).1
  go_wp2_with fail
  clear kcp0_0 kcp0_1 kcp0_2 kcp0_3 kcp0_4 kcp0_5 kcp0_6 kcp0_7 kcp0_l
  refine (toStill_own _ d0 w15 hn0 ⟨_, _, _, rfl, ⟨ad0_0, cap0_0, rfl, (unhide hA0_0).below (unhide hB)⟩, ⟨ad0_1, cap0_1, rfl, (unhide hA0_1).below (unhide hB)⟩, ⟨ad0_2, cap0_2, rfl, (unhide hA0_2).below (unhide hB)⟩⟩).mono ?_
  rintro e w16 ⟨vy0_h0, rfl, ho, hu⟩
  replace r0 := hide ((unhide r0).keep hu)
  replace r1 := hide ((unhide r1).keep hu)
  replace hT := hide ((unhide hT).keep hu)
  replace cp0 := hide ((unhide cp0).keep hu)
  replace cr0 := hide ((unhide cr0).keep hu)
  replace cx0 := hide ((unhide cx0).keep hu)
  replace cr1 := hide ((unhide cr1).keep hu)
  replace hB := hide (below_upd (unhide hB) hu (Nat.le_refl _) (.inr (Nat.le_refl _)))
  have hs16 : Hid (w15.heap.size ≤ w16.heap.size) := hide hu.size
  have y0_h0 := hide ho
  clear hu ho
  go_wp2_with fail
  refine (implColours _ d0 w16 (unhide hT) hn0 (unhide hR0) (OwnSt.rn (unhide y0_h0))).mono ?_
  rintro e w17 ⟨vr2, rfl, ho, hu⟩
  replace r0 := hide ((unhide r0).keep hu)
  replace r1 := hide ((unhide r1).keep hu)
  replace y0_h0 := hide ((unhide y0_h0).keep hu)
  replace hT := hide ((unhide hT).keep hu)
  replace cp0 := hide ((unhide cp0).keep hu)
  replace cr0 := hide ((unhide cr0).keep hu)
  replace cx0 := hide ((unhide cx0).keep hu)
  replace cr1 := hide ((unhide cr1).keep hu)
  replace hB := hide (below_upd (unhide hB) hu (Nat.le_refl _) (.inr (Nat.le_refl _)))
  have hs17 : Hid (w16.heap.size ≤ w17.heap.size) := hide hu.size
  have r2 := hide ho
  clear hu ho
  obtain ⟨adr2_0, capr2_0, hvr2⟩ := OwnIm.form (unhide r2)
  subst hvr2
  clear y0_h0
  have kcr0_0 := (unhide cr0).2 0 _ rfl
  have kcr0_1 := (unhide cr0).2 1 _ rfl
  have kcr0_2 := (unhide cr0).2 2 _ rfl
  have kcr0_3 := (unhide cr0).2 3 _ rfl
  have kcr0_4 := (unhide cr0).2 4 _ rfl
  have kcr0_l := (unhide cr0).1
  go_wp2_with fail
  clear kcr0_0 kcr0_1 kcr0_2 kcr0_3 kcr0_4 kcr0_l
  have hu := Upd.of_below ((Below.refl w17.heap.size w17).alloc (Nat.le_refl _) (.cells #[.int .i64 (coloursF d0).1, .int .i64 (coloursF d0).2.1, .int .i64 (coloursF d0).2.2.1, .int .i64 (coloursF d0).2.2.2.1, .slice adr2_0 (coloursF d0).2.2.2.2.length capr2_0] 30)) 0 0
  replace r0 := hide ((unhide r0).keep hu)
  replace r1 := hide ((unhide r1).keep hu)
  replace r2 := hide ((unhide r2).keep hu)
  replace hT := hide ((unhide hT).keep hu)
  replace cp0 := hide ((unhide cp0).keep hu)
  replace cr0 := hide ((unhide cr0).keep hu)
  replace cx0 := hide ((unhide cx0).keep hu)
  replace cr1 := hide ((unhide cr1).keep hu)
  replace hB := hide (below_upd (unhide hB) hu (Nat.le_refl _) (.inr (Nat.le_refl _)))
  have hs18 : Hid (w17.heap.size + 1 ≤ (w17.alloc (.cells #[.int .i64 (coloursF d0).1, .int .i64 (coloursF d0).2.1, .int .i64 (coloursF d0).2.2.1, .int .i64 (coloursF d0).2.2.2.1, .slice adr2_0 (coloursF d0).2.2.2.2.length capr2_0] 30)).heap.size) := hide (by simp)
  have cr2 := hide (held_new w17 [.int .i64 (coloursF d0).1, .int .i64 (coloursF d0).2.1, .int .i64 (coloursF d0).2.2.1, .int .i64 (coloursF d0).2.2.2.1, .slice adr2_0 (coloursF d0).2.2.2.2.length capr2_0] 30)
  clear hu
  generalize w17.alloc (.cells #[.int .i64 (coloursF d0).1, .int .i64 (coloursF d0).2.1, .int .i64 (coloursF d0).2.2.1, .int .i64 (coloursF d0).2.2.2.1, .slice adr2_0 (coloursF d0).2.2.2.2.length capr2_0] 30) = w18 at r0 r1 r2 hT cp0 cr0 cx0 cr1 hB hs18 cr2 ⊢
  refine (eqImage_rd _ _ (coloursF d0) w18 (unhide hL) (OwnIm.rd (unhide r2)) (OwnIm.rd (unhide r0))).mono ?_
  rintro e w19 ⟨rfl, hu⟩
  replace r0 := hide ((unhide r0).keep hu)
  replace r1 := hide ((unhide r1).keep hu)
  replace r2 := hide ((unhide r2).keep hu)
  replace hT := hide ((unhide hT).keep hu)
  replace cp0 := hide ((unhide cp0).keep hu)
  replace cr0 := hide ((unhide cr0).keep hu)
  replace cx0 := hide ((unhide cx0).keep hu)
  replace cr1 := hide ((unhide cr1).keep hu)
  replace cr2 := hide ((unhide cr2).keep hu)
  replace hB := hide (below_upd (unhide hB) hu (Nat.le_refl _) (.inr (Nat.le_refl _)))
  have hs19 : Hid (w18.heap.size ≤ w19.heap.size) := hide hu.size
  clear hu
  have kcr1_0 := (unhide cr1).2 0 _ rfl
  have kcr1_1 := (unhide cr1).2 1 _ rfl
  have kcr1_2 := (unhide cr1).2 2 _ rfl
  have kcr1_3 := (unhide cr1).2 3 _ rfl
  have kcr1_4 := (unhide cr1).2 4 _ rfl
  have kcr1_l := (unhide cr1).1
  go_wp2_with fail
  clear kcr1_0 kcr1_1 kcr1_2 kcr1_3 kcr1_4 kcr1_l
  refine (heldImage_own 1 (unhide hL) (by omega) (unhide r1)).mono ?_
  rintro e w20 ⟨rfl, hu⟩
  replace r0 := hide ((unhide r0).keep hu)
  replace r1 := hide ((unhide r1).keep hu)
  replace r2 := hide ((unhide r2).keep hu)
  replace hT := hide ((unhide hT).keep hu)
  replace cp0 := hide ((unhide cp0).keep hu)
  replace cr0 := hide ((unhide cr0).keep hu)
  replace cx0 := hide ((unhide cx0).keep hu)
  replace cr1 := hide ((unhide cr1).keep hu)
  replace cr2 := hide ((unhide cr2).keep hu)
  replace hB := hide (below_upd (unhide hB) hu (Nat.le_refl _) (.inr (Nat.le_refl _)))
  have hs20 : Hid (w19.heap.size ≤ w20.heap.size) := hide hu.size
  clear hu
  go_wp2_with fail
  go_ret
  exact ⟨rfl, unhide hB⟩

theorem lawColours (d0 : St) (ad0_0 : Option Addr) (cap0_0 : Nat) (ad0_1 : Option Addr) (cap0_1 : Nat) (ad0_2 : Option Addr) (cap0_2 : Nat) (w : World) (hT : Held w 1 passCells) (hz0 : (d0.1.2.2.2.2.length ≤ 9223372036854775807 ∧ d0.2.1.length ≤ 9223372036854775807 ∧ d0.2.2.1.length ≤ 9223372036854775807)) (hA0_0 : ArgI w ad0_0 d0.1.2.2.2.2) (hA0_1 : ArgI w ad0_1 d0.2.1) (hA0_2 : ArgNt w ad0_2 d0.2.2.1) (hR0 : InSt d0) :
    Calls Tryd.prog 5 #[.agg #[.int .i64 d0.1.1, .int .i64 d0.1.2.1, .int .i64 d0.1.2.2.1, .int .i64 d0.1.2.2.2.1, .slice ad0_0 d0.1.2.2.2.2.length cap0_0, .slice ad0_1 d0.2.1.length cap0_1, .slice ad0_2 d0.2.2.1.length cap0_2, .bool d0.2.2.2]] w fun e w' => e = .returned (.bool true) ∧ Below w.heap.size w w' := by
  by_cases h0 : 1048576 < d0.1.2.2.2.2.length + d0.2.1.length + ntSize d0.2.2.1
  · exact lawColours_long0 d0 ad0_0 cap0_0 ad0_1 cap0_1 ad0_2 cap0_2 w hz0 h0 hA0_0 hA0_1 hA0_2 hR0
  exact lawColours_short d0 ad0_0 cap0_0 ad0_1 cap0_1 ad0_2 cap0_2 w hT hz0 (by omega) hA0_0 hA0_1 hA0_2 hR0
end Go.Proofs.YthpkngipiapbpaaDoor
