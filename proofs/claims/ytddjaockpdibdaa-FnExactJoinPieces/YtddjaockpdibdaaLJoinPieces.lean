/- The law on JoinPieces, walked: what it calls is told by the walks of the specification and of the program. -/
import Derived.Test.YtddjaockpdibdaaWJoin
import Derived.Test.YtddjaockpdibdaaWPc2
import Derived.Test.YtddjaockpdibdaaWPlain
namespace Go.Proofs.Ytddjaockpdibdaa
open Go.RowKit

set_option maxHeartbeats 1000000 in
theorem lawJoinPieces_long0 (ad0 : Option Addr) (cap0 : Nat) (zs0 : List Pc) (w : World)  (_hn0 : 1048576 < zs0.length) (hz0 : zs0.length ≤ 9223372036854775807) :
    Calls Try.prog 9 #[.slice ad0 zs0.length cap0] w fun e w' => e = .returned (.bool true) ∧ Below w.heap.size w w' := by
  go_enter Try.func9, Try.ntmps9
  go_wp2_with fail
  refine (szPieceS_any ad0 zs0.length cap0 1048576 w (by omega) (by omega) hz0).mono ?_
  rintro e w1 ⟨rfl, rfl⟩
  rw [if_pos (by omega)]
  go_wp2
  go_ret
  exact ⟨rfl, Below.refl _ _⟩

set_option maxHeartbeats 4000000 in
theorem lawJoinPieces_short  (ad0 : Option Addr) (cap0 : Nat) (zs0 : List Pc) (w : World) (hn0 : zs0.length ≤ 1048576) (hA0 : ArgP w ad0 zs0) (hR0 : InP zs0) (hz0 : zs0.length ≤ 9223372036854775807) :
    Calls Try.prog 9 #[.slice ad0 zs0.length cap0] w fun e w' => e = .returned (.bool true) ∧ Below w.heap.size w w' := by
  replace hA0 := hide hA0
  replace hR0 := hide hR0
  have hL := hide (joinF_len zs0)
  have hB := hide (Below.refl w.heap.size w)
  go_enter Try.func9, Try.ntmps9
  go_wp2_with fail
  refine (szPieceS_any ad0 zs0.length cap0 1048576 w (by omega) (by omega) hz0).mono ?_
  rintro e w00 ⟨rfl, hw⟩
  subst w00
  rw [if_neg (by omega)]
  have hleft : ¬ ((1048576 : Int) - (zs0.length : Int) < 0) := by omega
  go_wp2_with fail
  refine (toPieceS_own ad0 cap0 zs0 w hn0 ((unhide hA0).below (unhide hB))).mono ?_
  rintro e w1 ⟨vy0_w0, rfl, ho, hu⟩
  replace hB := hide (below_upd (unhide hB) hu (Nat.le_refl _) (.inr (Nat.le_refl _)))
  have hs1 : Hid (w.heap.size ≤ w1.heap.size) := hide hu.size
  have y0_w0 := hide ho
  clear hu ho
  go_wp2_with fail
  refine (specJoinPieces vy0_w0 zs0 w1 hn0 (unhide hR0) (OwnP.rd (unhide y0_w0))).mono ?_
  rintro e w2 ⟨vr0, rfl, ho, hu⟩
  replace y0_w0 := hide ((unhide y0_w0).keep hu)
  replace hB := hide (below_upd (unhide hB) hu (Nat.le_refl _) (.inr (Nat.le_refl _)))
  have hs2 : Hid (w1.heap.size ≤ w2.heap.size) := hide hu.size
  have r0 := hide ho
  clear hu ho
  obtain ⟨adr0, capr0, hvr0⟩ := OwnPl.form (unhide r0)
  subst hvr0
  clear y0_w0
  go_wp2_with fail
  have hu := Upd.of_below ((Below.refl w2.heap.size w2).alloc (Nat.le_refl _) (.cells #[.int .i64 (joinF zs0).1, .slice adr0 (joinF zs0).2.1.length capr0, .int .i64 ((joinF zs0).2.2 : Nat)] 54)) 0 0
  replace r0 := hide ((unhide r0).keep hu)
  replace hB := hide (below_upd (unhide hB) hu (Nat.le_refl _) (.inr (Nat.le_refl _)))
  have hs3 : Hid (w2.heap.size + 1 ≤ (w2.alloc (.cells #[.int .i64 (joinF zs0).1, .slice adr0 (joinF zs0).2.1.length capr0, .int .i64 ((joinF zs0).2.2 : Nat)] 54)).heap.size) := hide (by simp)
  have cr0 := hide (held_new w2 [.int .i64 (joinF zs0).1, .slice adr0 (joinF zs0).2.1.length capr0, .int .i64 ((joinF zs0).2.2 : Nat)] 54)
  clear hu
  generalize w2.alloc (.cells #[.int .i64 (joinF zs0).1, .slice adr0 (joinF zs0).2.1.length capr0, .int .i64 ((joinF zs0).2.2 : Nat)] 54) = w3 at r0 hB hs3 cr0 ⊢
  refine (toPieceS_own ad0 cap0 zs0 w3 hn0 ((unhide hA0).below (unhide hB))).mono ?_
  rintro e w4 ⟨vx0, rfl, ho, hu⟩
  replace r0 := hide ((unhide r0).keep hu)
  replace cr0 := hide ((unhide cr0).keep hu)
  replace hB := hide (below_upd (unhide hB) hu (Nat.le_refl _) (.inr (Nat.le_refl _)))
  have hs4 : Hid (w3.heap.size ≤ w4.heap.size) := hide hu.size
  have x0 := hide ho
  clear hu ho
  go_wp2_with fail
  refine (implJoinPieces vx0 zs0 w4 hn0 (unhide hR0) (OwnP.rd (unhide x0))).mono ?_
  rintro e w5 ⟨vr1, rfl, ho, hu⟩
  replace r0 := hide ((unhide r0).keep hu)
  replace x0 := hide ((unhide x0).keep hu)
  replace cr0 := hide ((unhide cr0).keep hu)
  replace hB := hide (below_upd (unhide hB) hu (Nat.le_refl _) (.inr (Nat.le_refl _)))
  have hs5 : Hid (w4.heap.size ≤ w5.heap.size) := hide hu.size
  have r1 := hide ho
  clear hu ho
  obtain ⟨adr1, capr1, hvr1⟩ := OwnPl.form (unhide r1)
  subst hvr1
  have kcr0_0 := (unhide cr0).2 0 _ rfl
  have kcr0_1 := (unhide cr0).2 1 _ rfl
  have kcr0_2 := (unhide cr0).2 2 _ rfl
  have kcr0_l := (unhide cr0).1
  go_wp2_with fail
  clear kcr0_0 kcr0_1 kcr0_2 kcr0_l
  have hu := Upd.of_below ((Below.refl w5.heap.size w5).alloc (Nat.le_refl _) (.cells #[.int .i64 (joinF zs0).1, .slice adr1 (joinF zs0).2.1.length capr1, .int .i64 ((joinF zs0).2.2 : Nat)] 54)) 0 0
  replace r0 := hide ((unhide r0).keep hu)
  replace x0 := hide ((unhide x0).keep hu)
  replace r1 := hide ((unhide r1).keep hu)
  replace cr0 := hide ((unhide cr0).keep hu)
  replace hB := hide (below_upd (unhide hB) hu (Nat.le_refl _) (.inr (Nat.le_refl _)))
  have hs6 : Hid (w5.heap.size + 1 ≤ (w5.alloc (.cells #[.int .i64 (joinF zs0).1, .slice adr1 (joinF zs0).2.1.length capr1, .int .i64 ((joinF zs0).2.2 : Nat)] 54)).heap.size) := hide (by simp)
  have cr1 := hide (held_new w5 [.int .i64 (joinF zs0).1, .slice adr1 (joinF zs0).2.1.length capr1, .int .i64 ((joinF zs0).2.2 : Nat)] 54)
  clear hu
  generalize w5.alloc (.cells #[.int .i64 (joinF zs0).1, .slice adr1 (joinF zs0).2.1.length capr1, .int .i64 ((joinF zs0).2.2 : Nat)] 54) = w6 at r0 x0 r1 cr0 hB hs6 cr1 ⊢
  refine (eqPlain_own (unhide hL) (unhide r1) (unhide r0)).mono ?_
  rintro e w7 ⟨rfl, hu⟩
  replace r0 := hide ((unhide r0).keep hu)
  replace x0 := hide ((unhide x0).keep hu)
  replace r1 := hide ((unhide r1).keep hu)
  replace cr0 := hide ((unhide cr0).keep hu)
  replace cr1 := hide ((unhide cr1).keep hu)
  replace hB := hide (below_upd (unhide hB) hu (Nat.le_refl _) (.inr (Nat.le_refl _)))
  have hs7 : Hid (w6.heap.size ≤ w7.heap.size) := hide hu.size
  clear hu
  go_wp2_with fail
  refine (toPieceS_own ad0 cap0 zs0 w7 hn0 ((unhide hA0).below (unhide hB))).mono ?_
  rintro e w8 ⟨vz0, rfl, ho, hu⟩
  replace r0 := hide ((unhide r0).keep hu)
  replace x0 := hide ((unhide x0).keep hu)
  replace r1 := hide ((unhide r1).keep hu)
  replace cr0 := hide ((unhide cr0).keep hu)
  replace cr1 := hide ((unhide cr1).keep hu)
  replace hB := hide (below_upd (unhide hB) hu (Nat.le_refl _) (.inr (Nat.le_refl _)))
  have hs8 : Hid (w7.heap.size ≤ w8.heap.size) := hide hu.size
  have z0 := hide ho
  clear hu ho
  go_wp2_with fail
  refine (eqPieceS_rd vx0 vz0 zs0 w8 hn0 (OwnP.rd (unhide x0)) (OwnP.rd (unhide z0))).mono ?_
  rintro e w9 ⟨rfl, hu⟩
  replace r0 := hide ((unhide r0).keep hu)
  replace x0 := hide ((unhide x0).keep hu)
  replace r1 := hide ((unhide r1).keep hu)
  replace z0 := hide ((unhide z0).keep hu)
  replace cr0 := hide ((unhide cr0).keep hu)
  replace cr1 := hide ((unhide cr1).keep hu)
  replace hB := hide (below_upd (unhide hB) hu (Nat.le_refl _) (.inr (Nat.le_refl _)))
  have hs9 : Hid (w8.heap.size ≤ w9.heap.size) := hide hu.size
  clear hu
  clear z0
  go_wp2_with fail
  refine (markPieceS_own (w3.heap.size) (w4.heap.size) vx0 (1) zs0 w9 hn0 (by omega) (unhide x0)).mono ?_
  rintro e w10 ⟨rfl, ho, hu⟩
  replace r0 := hide ((unhide r0).upd hu (by have := unhide hs1; have := unhide hs2; have := unhide hs3; have := unhide hs4; have := unhide hs5; have := unhide hs6; have := unhide hs7; have := unhide hs8; have := unhide hs9; omega))
  replace r1 := hide ((unhide r1).upd hu (by have := unhide hs1; have := unhide hs2; have := unhide hs3; have := unhide hs4; have := unhide hs5; have := unhide hs6; have := unhide hs7; have := unhide hs8; have := unhide hs9; omega))
  replace cr0 := hide ((unhide cr0).upd hu (by have := unhide hs1; have := unhide hs2; have := unhide hs3; have := unhide hs4; have := unhide hs5; have := unhide hs6; have := unhide hs7; have := unhide hs8; have := unhide hs9; omega))
  replace cr1 := hide ((unhide cr1).upd hu (by have := unhide hs1; have := unhide hs2; have := unhide hs3; have := unhide hs4; have := unhide hs5; have := unhide hs6; have := unhide hs7; have := unhide hs8; have := unhide hs9; omega))
  replace hB := hide (below_upd (unhide hB) hu (Nat.le_refl _) (by have := unhide hs1; have := unhide hs2; have := unhide hs3; have := unhide hs4; have := unhide hs5; have := unhide hs6; have := unhide hs7; have := unhide hs8; have := unhide hs9; omega))
  replace x0 := hide ho
  have hs10 : Hid (w9.heap.size ≤ w10.heap.size) := hide hu.size
  clear hu ho
  have hk0 : ¬ (((1 + 3 * zs0.length : Nat) : Int) < 0) := by omega
  have kcr1_0 := (unhide cr1).2 0 _ rfl
  have kcr1_1 := (unhide cr1).2 1 _ rfl
  have kcr1_2 := (unhide cr1).2 2 _ rfl
  have kcr1_l := (unhide cr1).1
  have kcr0_0 := (unhide cr0).2 0 _ rfl
  have kcr0_1 := (unhide cr0).2 1 _ rfl
  have kcr0_2 := (unhide cr0).2 2 _ rfl
  have kcr0_l := (unhide cr0).1
  go_wp2_with fail
  clear kcr1_0 kcr1_1 kcr1_2 kcr1_l kcr0_0 kcr0_1 kcr0_2 kcr0_l
  refine (eqPlain_own (unhide hL) (unhide r1) (unhide r0)).mono ?_
  rintro e w11 ⟨rfl, hu⟩
  replace r0 := hide ((unhide r0).keep hu)
  replace x0 := hide ((unhide x0).keep hu)
  replace r1 := hide ((unhide r1).keep hu)
  replace cr0 := hide ((unhide cr0).keep hu)
  replace cr1 := hide ((unhide cr1).keep hu)
  replace hB := hide (below_upd (unhide hB) hu (Nat.le_refl _) (.inr (Nat.le_refl _)))
  have hs11 : Hid (w10.heap.size ≤ w11.heap.size) := hide hu.size
  clear hu
  clear x0
  have kcr1_0 := (unhide cr1).2 0 _ rfl
  have kcr1_1 := (unhide cr1).2 1 _ rfl
  have kcr1_2 := (unhide cr1).2 2 _ rfl
  have kcr1_l := (unhide cr1).1
  go_wp2_with fail
  clear kcr1_0 kcr1_1 kcr1_2 kcr1_l
  refine (markPlain_own 1 (unhide hL) (by omega) (unhide r1)).mono ?_
  rintro e w12 ⟨rfl, ho, hu⟩
  replace r0 := hide ((unhide r0).upd hu (by have := unhide hs1; have := unhide hs2; have := unhide hs3; have := unhide hs4; have := unhide hs5; have := unhide hs6; have := unhide hs7; have := unhide hs8; have := unhide hs9; have := unhide hs10; have := unhide hs11; omega))
  replace cr0 := hide ((unhide cr0).upd hu (by have := unhide hs1; have := unhide hs2; have := unhide hs3; have := unhide hs4; have := unhide hs5; have := unhide hs6; have := unhide hs7; have := unhide hs8; have := unhide hs9; have := unhide hs10; have := unhide hs11; omega))
  replace cr1 := hide ((unhide cr1).upd hu (by have := unhide hs1; have := unhide hs2; have := unhide hs3; have := unhide hs4; have := unhide hs5; have := unhide hs6; have := unhide hs7; have := unhide hs8; have := unhide hs9; have := unhide hs10; have := unhide hs11; omega))
  replace hB := hide (below_upd (unhide hB) hu (Nat.le_refl _) (by have := unhide hs1; have := unhide hs2; have := unhide hs3; have := unhide hs4; have := unhide hs5; have := unhide hs6; have := unhide hs7; have := unhide hs8; have := unhide hs9; have := unhide hs10; have := unhide hs11; omega))
  replace r1 := hide ho
  have hs12 : Hid (w11.heap.size ≤ w12.heap.size) := hide hu.size
  clear hu ho
  have kcr1_0 := (unhide cr1).2 0 _ rfl
  have kcr1_1 := (unhide cr1).2 1 _ rfl
  have kcr1_2 := (unhide cr1).2 2 _ rfl
  have kcr1_l := (unhide cr1).1
  go_wp2_with fail
  clear kcr1_0 kcr1_1 kcr1_2 kcr1_l
  refine (heldPlain_own 1 (unhide hL) (by omega) (unhide r1)).mono ?_
  rintro e w13 ⟨rfl, hu⟩
  replace r0 := hide ((unhide r0).keep hu)
  replace r1 := hide ((unhide r1).keep hu)
  replace cr0 := hide ((unhide cr0).keep hu)
  replace cr1 := hide ((unhide cr1).keep hu)
  replace hB := hide (below_upd (unhide hB) hu (Nat.le_refl _) (.inr (Nat.le_refl _)))
  have hs13 : Hid (w12.heap.size ≤ w13.heap.size) := hide hu.size
  clear hu
  have hq0 : ¬ (((1 + plCount (joinF zs0) : Nat) : Int) < 0) := by omega
  go_wp2_with fail
  refine (toPieceS_own ad0 cap0 zs0 w13 hn0 ((unhide hA0).below (unhide hB))).mono ?_
  rintro e w14 ⟨vy0_h0, rfl, ho, hu⟩
  replace r0 := hide ((unhide r0).keep hu)
  replace r1 := hide ((unhide r1).keep hu)
  replace cr0 := hide ((unhide cr0).keep hu)
  replace cr1 := hide ((unhide cr1).keep hu)
  replace hB := hide (below_upd (unhide hB) hu (Nat.le_refl _) (.inr (Nat.le_refl _)))
  have hs14 : Hid (w13.heap.size ≤ w14.heap.size) := hide hu.size
  have y0_h0 := hide ho
  clear hu ho
  go_wp2_with fail
  refine (implJoinPieces vy0_h0 zs0 w14 hn0 (unhide hR0) (OwnP.rd (unhide y0_h0))).mono ?_
  rintro e w15 ⟨vr2, rfl, ho, hu⟩
  replace r0 := hide ((unhide r0).keep hu)
  replace r1 := hide ((unhide r1).keep hu)
  replace y0_h0 := hide ((unhide y0_h0).keep hu)
  replace cr0 := hide ((unhide cr0).keep hu)
  replace cr1 := hide ((unhide cr1).keep hu)
  replace hB := hide (below_upd (unhide hB) hu (Nat.le_refl _) (.inr (Nat.le_refl _)))
  have hs15 : Hid (w14.heap.size ≤ w15.heap.size) := hide hu.size
  have r2 := hide ho
  clear hu ho
  obtain ⟨adr2, capr2, hvr2⟩ := OwnPl.form (unhide r2)
  subst hvr2
  clear y0_h0
  have kcr0_0 := (unhide cr0).2 0 _ rfl
  have kcr0_1 := (unhide cr0).2 1 _ rfl
  have kcr0_2 := (unhide cr0).2 2 _ rfl
  have kcr0_l := (unhide cr0).1
  go_wp2_with fail
  clear kcr0_0 kcr0_1 kcr0_2 kcr0_l
  have hu := Upd.of_below ((Below.refl w15.heap.size w15).alloc (Nat.le_refl _) (.cells #[.int .i64 (joinF zs0).1, .slice adr2 (joinF zs0).2.1.length capr2, .int .i64 ((joinF zs0).2.2 : Nat)] 54)) 0 0
  replace r0 := hide ((unhide r0).keep hu)
  replace r1 := hide ((unhide r1).keep hu)
  replace r2 := hide ((unhide r2).keep hu)
  replace cr0 := hide ((unhide cr0).keep hu)
  replace cr1 := hide ((unhide cr1).keep hu)
  replace hB := hide (below_upd (unhide hB) hu (Nat.le_refl _) (.inr (Nat.le_refl _)))
  have hs16 : Hid (w15.heap.size + 1 ≤ (w15.alloc (.cells #[.int .i64 (joinF zs0).1, .slice adr2 (joinF zs0).2.1.length capr2, .int .i64 ((joinF zs0).2.2 : Nat)] 54)).heap.size) := hide (by simp)
  have cr2 := hide (held_new w15 [.int .i64 (joinF zs0).1, .slice adr2 (joinF zs0).2.1.length capr2, .int .i64 ((joinF zs0).2.2 : Nat)] 54)
  clear hu
  generalize w15.alloc (.cells #[.int .i64 (joinF zs0).1, .slice adr2 (joinF zs0).2.1.length capr2, .int .i64 ((joinF zs0).2.2 : Nat)] 54) = w16 at r0 r1 r2 cr0 cr1 hB hs16 cr2 ⊢
  refine (eqPlain_own (unhide hL) (unhide r2) (unhide r0)).mono ?_
  rintro e w17 ⟨rfl, hu⟩
  replace r0 := hide ((unhide r0).keep hu)
  replace r1 := hide ((unhide r1).keep hu)
  replace r2 := hide ((unhide r2).keep hu)
  replace cr0 := hide ((unhide cr0).keep hu)
  replace cr1 := hide ((unhide cr1).keep hu)
  replace cr2 := hide ((unhide cr2).keep hu)
  replace hB := hide (below_upd (unhide hB) hu (Nat.le_refl _) (.inr (Nat.le_refl _)))
  have hs17 : Hid (w16.heap.size ≤ w17.heap.size) := hide hu.size
  clear hu
  have kcr1_0 := (unhide cr1).2 0 _ rfl
  have kcr1_1 := (unhide cr1).2 1 _ rfl
  have kcr1_2 := (unhide cr1).2 2 _ rfl
  have kcr1_l := (unhide cr1).1
  go_wp2_with fail
  clear kcr1_0 kcr1_1 kcr1_2 kcr1_l
  refine (heldPlain_own 1 (unhide hL) (by omega) (unhide r1)).mono ?_
  rintro e w18 ⟨rfl, hu⟩
  replace r0 := hide ((unhide r0).keep hu)
  replace r1 := hide ((unhide r1).keep hu)
  replace r2 := hide ((unhide r2).keep hu)
  replace cr0 := hide ((unhide cr0).keep hu)
  replace cr1 := hide ((unhide cr1).keep hu)
  replace cr2 := hide ((unhide cr2).keep hu)
  replace hB := hide (below_upd (unhide hB) hu (Nat.le_refl _) (.inr (Nat.le_refl _)))
  have hs18 : Hid (w17.heap.size ≤ w18.heap.size) := hide hu.size
  clear hu
  go_wp2_with fail
  go_ret
  exact ⟨rfl, unhide hB⟩

theorem lawJoinPieces  (ad0 : Option Addr) (cap0 : Nat) (zs0 : List Pc) (w : World) (hA0 : ArgP w ad0 zs0) (hR0 : InP zs0) (hz0 : zs0.length ≤ 9223372036854775807) :
    Calls Try.prog 9 #[.slice ad0 zs0.length cap0] w fun e w' => e = .returned (.bool true) ∧ Below w.heap.size w w' := by
  by_cases h0 : 1048576 < zs0.length
  · exact lawJoinPieces_long0 ad0 cap0 zs0 w  h0 hz0
  exact lawJoinPieces_short  ad0 cap0 zs0 w (by omega) hA0 hR0 hz0
end Go.Proofs.Ytddjaockpdibdaa
