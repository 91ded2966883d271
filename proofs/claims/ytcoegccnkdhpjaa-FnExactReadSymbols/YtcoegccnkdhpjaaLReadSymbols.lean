/- The law on ReadSymbols, walked: what it calls is told by the walks of the specification and of the program. -/
import Derived.Test.YtcoegccnkdhpjaaWReadK
import Derived.Test.YtcoegccnkdhpjaaWByts
namespace Go.Proofs.Ytcoegccnkdhpjaa
open Go.RowKit

set_option maxHeartbeats 1000000 in
theorem lawReadSymbols_long0 (ad0 : Option Addr) (cap0 : Nat) (zs0 : List Int) (ad1 : Option Addr) (cap1 : Nat) (zs1 : List Int) (n2 : Int) (n3 : Int) (w : World)  (_hn0 : 1048576 < zs0.length) :
    Calls Try.prog 11 #[.slice ad0 zs0.length cap0, .slice ad1 zs1.length cap1, .int .i64 n2, .int .i64 n3] w fun e w' => e = .returned (.bool true) ∧ Below w.heap.size w w' := by
  go_enter Try.func11, Try.ntmps11
  go_wp2
  go_ret
  exact ⟨rfl, Below.refl _ _⟩

set_option maxHeartbeats 1000000 in
theorem lawReadSymbols_long1 (ad0 : Option Addr) (cap0 : Nat) (zs0 : List Int) (ad1 : Option Addr) (cap1 : Nat) (zs1 : List Int) (n2 : Int) (n3 : Int) (w : World) (_hn0 : zs0.length ≤ 1048576) (_hn1 : 1048576 < zs1.length) :
    Calls Try.prog 11 #[.slice ad0 zs0.length cap0, .slice ad1 zs1.length cap1, .int .i64 n2, .int .i64 n3] w fun e w' => e = .returned (.bool true) ∧ Below w.heap.size w w' := by
  go_enter Try.func11, Try.ntmps11
  go_wp2
  go_ret
  exact ⟨rfl, Below.refl _ _⟩

set_option maxHeartbeats 4000000 in
theorem lawReadSymbols_short  (ad0 : Option Addr) (cap0 : Nat) (zs0 : List Int) (ad1 : Option Addr) (cap1 : Nat) (zs1 : List Int) (n2 : Int) (n3 : Int) (w : World) (hn0 : zs0.length ≤ 1048576) (hn1 : zs1.length ≤ 1048576) (hA0 : ArgI w ad0 zs0) (hR0 : InI zs0) (hA1 : ArgY w ad1 zs1) (hR1 : InB zs1) (hl2 : -9223372036854775808 ≤ n2) (hh2 : n2 ≤ 9223372036854775807) (hl3 : -9223372036854775808 ≤ n3) (hh3 : n3 ≤ 9223372036854775807) :
    Calls Try.prog 11 #[.slice ad0 zs0.length cap0, .slice ad1 zs1.length cap1, .int .i64 n2, .int .i64 n3] w fun e w' => e = .returned (.bool true) ∧ Below w.heap.size w w' := by
  replace hA0 := hide hA0
  replace hR0 := hide hR0
  replace hA1 := hide hA1
  replace hR1 := hide hR1
  have hL := hide (readF_len zs0 zs1 n2 n3)
  have hB := hide (Below.refl w.heap.size w)
  go_enter Try.func11, Try.ntmps11
  go_wp2_with fail
  refine (toIntS_own ad0 cap0 zs0 w hn0 ((unhide hA0).below (unhide hB))).mono ?_
  rintro e w1 ⟨vy0_w0, rfl, ho, hu⟩
  replace hB := hide (below_upd (unhide hB) hu (Nat.le_refl _) (.inr (Nat.le_refl _)))
  have hs1 : Hid (w.heap.size ≤ w1.heap.size) := hide hu.size
  have y0_w0 := hide ho
  clear hu ho
  go_wp2_with fail
  refine (toByteY_own ad1 cap1 zs1 w1 hn1 ((unhide hA1).below (unhide hB))).mono ?_
  rintro e w2 ⟨vy1_w0, rfl, ho, hu⟩
  replace y0_w0 := hide ((unhide y0_w0).keep hu)
  replace hB := hide (below_upd (unhide hB) hu (Nat.le_refl _) (.inr (Nat.le_refl _)))
  have hs2 : Hid (w1.heap.size ≤ w2.heap.size) := hide hu.size
  have y1_w0 := hide ho
  clear hu ho
  go_wp2_with fail
  refine (specReadSymbols vy0_w0 zs0 vy1_w0 zs1 n2 n3 w2 hn0 (unhide hR0) (OwnI.rd (unhide y0_w0)) hn1 (unhide hR1) (OwnY.rd (unhide y1_w0)) hl2 hh2 hl3 hh3).mono ?_
  rintro e w3 ⟨vr0, rfl, ho, hu⟩
  replace y0_w0 := hide ((unhide y0_w0).keep hu)
  replace y1_w0 := hide ((unhide y1_w0).keep hu)
  replace hB := hide (below_upd (unhide hB) hu (Nat.le_refl _) (.inr (Nat.le_refl _)))
  have hs3 : Hid (w2.heap.size ≤ w3.heap.size) := hide hu.size
  have r0 := hide ho
  clear hu ho
  obtain ⟨adr0, capr0, hvr0⟩ := OwnSy.form (unhide r0)
  subst hvr0
  clear y0_w0 y1_w0
  go_wp2_with fail
  have hu := Upd.of_below ((Below.refl w3.heap.size w3).alloc (Nat.le_refl _) (.cells #[.int .i64 (readF zs0 zs1 n2 n3).1, .slice adr0 (readF zs0 zs1 n2 n3).2.1.length capr0, .int .i64 ((readF zs0 zs1 n2 n3).2.2 : Nat)] 46)) 0 0
  replace r0 := hide ((unhide r0).keep hu)
  replace hB := hide (below_upd (unhide hB) hu (Nat.le_refl _) (.inr (Nat.le_refl _)))
  have hs4 : Hid (w3.heap.size + 1 ≤ (w3.alloc (.cells #[.int .i64 (readF zs0 zs1 n2 n3).1, .slice adr0 (readF zs0 zs1 n2 n3).2.1.length capr0, .int .i64 ((readF zs0 zs1 n2 n3).2.2 : Nat)] 46)).heap.size) := hide (by simp)
  have cr0 := hide (held_new w3 [.int .i64 (readF zs0 zs1 n2 n3).1, .slice adr0 (readF zs0 zs1 n2 n3).2.1.length capr0, .int .i64 ((readF zs0 zs1 n2 n3).2.2 : Nat)] 46)
  clear hu
  generalize w3.alloc (.cells #[.int .i64 (readF zs0 zs1 n2 n3).1, .slice adr0 (readF zs0 zs1 n2 n3).2.1.length capr0, .int .i64 ((readF zs0 zs1 n2 n3).2.2 : Nat)] 46) = w4 at r0 hB hs4 cr0 ⊢
  refine (toIntS_own ad0 cap0 zs0 w4 hn0 ((unhide hA0).below (unhide hB))).mono ?_
  rintro e w5 ⟨vx0, rfl, ho, hu⟩
  replace r0 := hide ((unhide r0).keep hu)
  replace cr0 := hide ((unhide cr0).keep hu)
  replace hB := hide (below_upd (unhide hB) hu (Nat.le_refl _) (.inr (Nat.le_refl _)))
  have hs5 : Hid (w4.heap.size ≤ w5.heap.size) := hide hu.size
  have x0 := hide ho
  clear hu ho
  go_wp2_with fail
  refine (toByteY_own ad1 cap1 zs1 w5 hn1 ((unhide hA1).below (unhide hB))).mono ?_
  rintro e w6 ⟨vx1, rfl, ho, hu⟩
  replace r0 := hide ((unhide r0).keep hu)
  replace x0 := hide ((unhide x0).keep hu)
  replace cr0 := hide ((unhide cr0).keep hu)
  replace hB := hide (below_upd (unhide hB) hu (Nat.le_refl _) (.inr (Nat.le_refl _)))
  have hs6 : Hid (w5.heap.size ≤ w6.heap.size) := hide hu.size
  have x1 := hide ho
  clear hu ho
  go_wp2_with fail
  refine (implReadSymbols vx0 zs0 vx1 zs1 n2 n3 w6 hn0 (unhide hR0) (OwnI.rd (unhide x0)) hn1 (unhide hR1) (OwnY.rd (unhide x1)) hl2 hh2 hl3 hh3).mono ?_
  rintro e w7 ⟨vr1, rfl, ho, hu⟩
  replace r0 := hide ((unhide r0).keep hu)
  replace x0 := hide ((unhide x0).keep hu)
  replace x1 := hide ((unhide x1).keep hu)
  replace cr0 := hide ((unhide cr0).keep hu)
  replace hB := hide (below_upd (unhide hB) hu (Nat.le_refl _) (.inr (Nat.le_refl _)))
  have hs7 : Hid (w6.heap.size ≤ w7.heap.size) := hide hu.size
  have r1 := hide ho
  clear hu ho
  obtain ⟨adr1, capr1, hvr1⟩ := OwnSy.form (unhide r1)
  subst hvr1
  have kcr0_0 := (unhide cr0).2 0 _ rfl
  have kcr0_1 := (unhide cr0).2 1 _ rfl
  have kcr0_2 := (unhide cr0).2 2 _ rfl
  have kcr0_l := (unhide cr0).1
  go_wp2_with fail
  clear kcr0_0 kcr0_1 kcr0_2 kcr0_l
  have hu := Upd.of_below ((Below.refl w7.heap.size w7).alloc (Nat.le_refl _) (.cells #[.int .i64 (readF zs0 zs1 n2 n3).1, .slice adr1 (readF zs0 zs1 n2 n3).2.1.length capr1, .int .i64 ((readF zs0 zs1 n2 n3).2.2 : Nat)] 46)) 0 0
  replace r0 := hide ((unhide r0).keep hu)
  replace x0 := hide ((unhide x0).keep hu)
  replace x1 := hide ((unhide x1).keep hu)
  replace r1 := hide ((unhide r1).keep hu)
  replace cr0 := hide ((unhide cr0).keep hu)
  replace hB := hide (below_upd (unhide hB) hu (Nat.le_refl _) (.inr (Nat.le_refl _)))
  have hs8 : Hid (w7.heap.size + 1 ≤ (w7.alloc (.cells #[.int .i64 (readF zs0 zs1 n2 n3).1, .slice adr1 (readF zs0 zs1 n2 n3).2.1.length capr1, .int .i64 ((readF zs0 zs1 n2 n3).2.2 : Nat)] 46)).heap.size) := hide (by simp)
  have cr1 := hide (held_new w7 [.int .i64 (readF zs0 zs1 n2 n3).1, .slice adr1 (readF zs0 zs1 n2 n3).2.1.length capr1, .int .i64 ((readF zs0 zs1 n2 n3).2.2 : Nat)] 46)
  clear hu
  generalize w7.alloc (.cells #[.int .i64 (readF zs0 zs1 n2 n3).1, .slice adr1 (readF zs0 zs1 n2 n3).2.1.length capr1, .int .i64 ((readF zs0 zs1 n2 n3).2.2 : Nat)] 46) = w8 at r0 x0 x1 r1 cr0 hB hs8 cr1 ⊢
  refine (eqSymbols_own (unhide hL) (unhide r1) (unhide r0)).mono ?_
  rintro e w9 ⟨rfl, hu⟩
  replace r0 := hide ((unhide r0).keep hu)
  replace x0 := hide ((unhide x0).keep hu)
  replace x1 := hide ((unhide x1).keep hu)
  replace r1 := hide ((unhide r1).keep hu)
  replace cr0 := hide ((unhide cr0).keep hu)
  replace cr1 := hide ((unhide cr1).keep hu)
  replace hB := hide (below_upd (unhide hB) hu (Nat.le_refl _) (.inr (Nat.le_refl _)))
  have hs9 : Hid (w8.heap.size ≤ w9.heap.size) := hide hu.size
  clear hu
  go_wp2_with fail
  refine (toIntS_own ad0 cap0 zs0 w9 hn0 ((unhide hA0).below (unhide hB))).mono ?_
  rintro e w10 ⟨vz0, rfl, ho, hu⟩
  replace r0 := hide ((unhide r0).keep hu)
  replace x0 := hide ((unhide x0).keep hu)
  replace x1 := hide ((unhide x1).keep hu)
  replace r1 := hide ((unhide r1).keep hu)
  replace cr0 := hide ((unhide cr0).keep hu)
  replace cr1 := hide ((unhide cr1).keep hu)
  replace hB := hide (below_upd (unhide hB) hu (Nat.le_refl _) (.inr (Nat.le_refl _)))
  have hs10 : Hid (w9.heap.size ≤ w10.heap.size) := hide hu.size
  have z0 := hide ho
  clear hu ho
  go_wp2_with fail
  refine (eqIntS_rd vx0 vz0 zs0 w10 hn0 (OwnI.rd (unhide x0)) (OwnI.rd (unhide z0))).mono ?_
  rintro e w11 ⟨rfl, hu⟩
  replace r0 := hide ((unhide r0).keep hu)
  replace x0 := hide ((unhide x0).keep hu)
  replace x1 := hide ((unhide x1).keep hu)
  replace r1 := hide ((unhide r1).keep hu)
  replace z0 := hide ((unhide z0).keep hu)
  replace cr0 := hide ((unhide cr0).keep hu)
  replace cr1 := hide ((unhide cr1).keep hu)
  replace hB := hide (below_upd (unhide hB) hu (Nat.le_refl _) (.inr (Nat.le_refl _)))
  have hs11 : Hid (w10.heap.size ≤ w11.heap.size) := hide hu.size
  clear hu
  clear z0
  go_wp2_with fail
  refine (toByteY_own ad1 cap1 zs1 w11 hn1 ((unhide hA1).below (unhide hB))).mono ?_
  rintro e w12 ⟨vz1, rfl, ho, hu⟩
  replace r0 := hide ((unhide r0).keep hu)
  replace x0 := hide ((unhide x0).keep hu)
  replace x1 := hide ((unhide x1).keep hu)
  replace r1 := hide ((unhide r1).keep hu)
  replace cr0 := hide ((unhide cr0).keep hu)
  replace cr1 := hide ((unhide cr1).keep hu)
  replace hB := hide (below_upd (unhide hB) hu (Nat.le_refl _) (.inr (Nat.le_refl _)))
  have hs12 : Hid (w11.heap.size ≤ w12.heap.size) := hide hu.size
  have z1 := hide ho
  clear hu ho
  go_wp2_with fail
  refine (eqByteY_rd vx1 vz1 zs1 w12 hn1 (OwnY.rd (unhide x1)) (OwnY.rd (unhide z1))).mono ?_
  rintro e w13 ⟨rfl, hu⟩
  replace r0 := hide ((unhide r0).keep hu)
  replace x0 := hide ((unhide x0).keep hu)
  replace x1 := hide ((unhide x1).keep hu)
  replace r1 := hide ((unhide r1).keep hu)
  replace z1 := hide ((unhide z1).keep hu)
  replace cr0 := hide ((unhide cr0).keep hu)
  replace cr1 := hide ((unhide cr1).keep hu)
  replace hB := hide (below_upd (unhide hB) hu (Nat.le_refl _) (.inr (Nat.le_refl _)))
  have hs13 : Hid (w12.heap.size ≤ w13.heap.size) := hide hu.size
  clear hu
  clear z1
  go_wp2_with fail
  refine (markIntS_own (w4.heap.size) (w5.heap.size) vx0 (1) zs0 w13 hn0 (by omega) (unhide x0)).mono ?_
  rintro e w14 ⟨rfl, ho, hu⟩
  replace r0 := hide ((unhide r0).upd hu (by have := unhide hs1; have := unhide hs2; have := unhide hs3; have := unhide hs4; have := unhide hs5; have := unhide hs6; have := unhide hs7; have := unhide hs8; have := unhide hs9; have := unhide hs10; have := unhide hs11; have := unhide hs12; have := unhide hs13; omega))
  replace x1 := hide ((unhide x1).upd hu (by have := unhide hs1; have := unhide hs2; have := unhide hs3; have := unhide hs4; have := unhide hs5; have := unhide hs6; have := unhide hs7; have := unhide hs8; have := unhide hs9; have := unhide hs10; have := unhide hs11; have := unhide hs12; have := unhide hs13; omega))
  replace r1 := hide ((unhide r1).upd hu (by have := unhide hs1; have := unhide hs2; have := unhide hs3; have := unhide hs4; have := unhide hs5; have := unhide hs6; have := unhide hs7; have := unhide hs8; have := unhide hs9; have := unhide hs10; have := unhide hs11; have := unhide hs12; have := unhide hs13; omega))
  replace cr0 := hide ((unhide cr0).upd hu (by have := unhide hs1; have := unhide hs2; have := unhide hs3; have := unhide hs4; have := unhide hs5; have := unhide hs6; have := unhide hs7; have := unhide hs8; have := unhide hs9; have := unhide hs10; have := unhide hs11; have := unhide hs12; have := unhide hs13; omega))
  replace cr1 := hide ((unhide cr1).upd hu (by have := unhide hs1; have := unhide hs2; have := unhide hs3; have := unhide hs4; have := unhide hs5; have := unhide hs6; have := unhide hs7; have := unhide hs8; have := unhide hs9; have := unhide hs10; have := unhide hs11; have := unhide hs12; have := unhide hs13; omega))
  replace hB := hide (below_upd (unhide hB) hu (Nat.le_refl _) (by have := unhide hs1; have := unhide hs2; have := unhide hs3; have := unhide hs4; have := unhide hs5; have := unhide hs6; have := unhide hs7; have := unhide hs8; have := unhide hs9; have := unhide hs10; have := unhide hs11; have := unhide hs12; have := unhide hs13; omega))
  replace x0 := hide ho
  have hs14 : Hid (w13.heap.size ≤ w14.heap.size) := hide hu.size
  clear hu ho
  go_wp2_with fail
  refine (markByteY_own (w5.heap.size) (w6.heap.size) vx1 (1 + zs0.length) zs1 w14 hn1 (by omega) (unhide x1)).mono ?_
  rintro e w15 ⟨rfl, ho, hu⟩
  replace r0 := hide ((unhide r0).upd hu (by have := unhide hs1; have := unhide hs2; have := unhide hs3; have := unhide hs4; have := unhide hs5; have := unhide hs6; have := unhide hs7; have := unhide hs8; have := unhide hs9; have := unhide hs10; have := unhide hs11; have := unhide hs12; have := unhide hs13; have := unhide hs14; omega))
  replace x0 := hide ((unhide x0).upd hu (by have := unhide hs1; have := unhide hs2; have := unhide hs3; have := unhide hs4; have := unhide hs5; have := unhide hs6; have := unhide hs7; have := unhide hs8; have := unhide hs9; have := unhide hs10; have := unhide hs11; have := unhide hs12; have := unhide hs13; have := unhide hs14; omega))
  replace r1 := hide ((unhide r1).upd hu (by have := unhide hs1; have := unhide hs2; have := unhide hs3; have := unhide hs4; have := unhide hs5; have := unhide hs6; have := unhide hs7; have := unhide hs8; have := unhide hs9; have := unhide hs10; have := unhide hs11; have := unhide hs12; have := unhide hs13; have := unhide hs14; omega))
  replace cr0 := hide ((unhide cr0).upd hu (by have := unhide hs1; have := unhide hs2; have := unhide hs3; have := unhide hs4; have := unhide hs5; have := unhide hs6; have := unhide hs7; have := unhide hs8; have := unhide hs9; have := unhide hs10; have := unhide hs11; have := unhide hs12; have := unhide hs13; have := unhide hs14; omega))
  replace cr1 := hide ((unhide cr1).upd hu (by have := unhide hs1; have := unhide hs2; have := unhide hs3; have := unhide hs4; have := unhide hs5; have := unhide hs6; have := unhide hs7; have := unhide hs8; have := unhide hs9; have := unhide hs10; have := unhide hs11; have := unhide hs12; have := unhide hs13; have := unhide hs14; omega))
  replace hB := hide (below_upd (unhide hB) hu (Nat.le_refl _) (by have := unhide hs1; have := unhide hs2; have := unhide hs3; have := unhide hs4; have := unhide hs5; have := unhide hs6; have := unhide hs7; have := unhide hs8; have := unhide hs9; have := unhide hs10; have := unhide hs11; have := unhide hs12; have := unhide hs13; have := unhide hs14; omega))
  replace x1 := hide ho
  have hs15 : Hid (w14.heap.size ≤ w15.heap.size) := hide hu.size
  clear hu ho
  have hk0 : ¬ (((1 + zs0.length + zs1.length : Nat) : Int) < 0) := by omega
  have kcr1_0 := (unhide cr1).2 0 _ rfl
  have kcr1_1 := (unhide cr1).2 1 _ rfl
  have kcr1_2 := (unhide cr1).2 2 _ rfl
  have kcr1_l := (unhide cr1).1
  have kcr0_0 := (unhide cr0).2 0 _ rfl
  have kcr0_1 := (unhide cr0).2 1 _ rfl
  have kcr0_2 := (unhide cr0).2 2 _ rfl
  have kcr0_l := (unhide cr0).1
  go_wp2_with fail
  clear kcr1_0 kcr1_1 kcr1_2 kcr1_l kcr0_0 kcr0_1 kcr0_2 kcr0_l
  refine (eqSymbols_own (unhide hL) (unhide r1) (unhide r0)).mono ?_
  rintro e w16 ⟨rfl, hu⟩
  replace r0 := hide ((unhide r0).keep hu)
  replace x0 := hide ((unhide x0).keep hu)
  replace x1 := hide ((unhide x1).keep hu)
  replace r1 := hide ((unhide r1).keep hu)
  replace cr0 := hide ((unhide cr0).keep hu)
  replace cr1 := hide ((unhide cr1).keep hu)
  replace hB := hide (below_upd (unhide hB) hu (Nat.le_refl _) (.inr (Nat.le_refl _)))
  have hs16 : Hid (w15.heap.size ≤ w16.heap.size) := hide hu.size
  clear hu
  clear x0 x1
  have kcr1_0 := (unhide cr1).2 0 _ rfl
  have kcr1_1 := (unhide cr1).2 1 _ rfl
  have kcr1_2 := (unhide cr1).2 2 _ rfl
  have kcr1_l := (unhide cr1).1
  go_wp2_with fail
  clear kcr1_0 kcr1_1 kcr1_2 kcr1_l
  refine (markSymbols_own 1 (unhide hL) (by omega) (unhide r1)).mono ?_
  rintro e w17 ⟨rfl, ho, hu⟩
  replace r0 := hide ((unhide r0).upd hu (by have := unhide hs1; have := unhide hs2; have := unhide hs3; have := unhide hs4; have := unhide hs5; have := unhide hs6; have := unhide hs7; have := unhide hs8; have := unhide hs9; have := unhide hs10; have := unhide hs11; have := unhide hs12; have := unhide hs13; have := unhide hs14; have := unhide hs15; have := unhide hs16; omega))
  replace cr0 := hide ((unhide cr0).upd hu (by have := unhide hs1; have := unhide hs2; have := unhide hs3; have := unhide hs4; have := unhide hs5; have := unhide hs6; have := unhide hs7; have := unhide hs8; have := unhide hs9; have := unhide hs10; have := unhide hs11; have := unhide hs12; have := unhide hs13; have := unhide hs14; have := unhide hs15; have := unhide hs16; omega))
  replace cr1 := hide ((unhide cr1).upd hu (by have := unhide hs1; have := unhide hs2; have := unhide hs3; have := unhide hs4; have := unhide hs5; have := unhide hs6; have := unhide hs7; have := unhide hs8; have := unhide hs9; have := unhide hs10; have := unhide hs11; have := unhide hs12; have := unhide hs13; have := unhide hs14; have := unhide hs15; have := unhide hs16; omega))
  replace hB := hide (below_upd (unhide hB) hu (Nat.le_refl _) (by have := unhide hs1; have := unhide hs2; have := unhide hs3; have := unhide hs4; have := unhide hs5; have := unhide hs6; have := unhide hs7; have := unhide hs8; have := unhide hs9; have := unhide hs10; have := unhide hs11; have := unhide hs12; have := unhide hs13; have := unhide hs14; have := unhide hs15; have := unhide hs16; omega))
  replace r1 := hide ho
  have hs17 : Hid (w16.heap.size ≤ w17.heap.size) := hide hu.size
  clear hu ho
  have kcr1_0 := (unhide cr1).2 0 _ rfl
  have kcr1_1 := (unhide cr1).2 1 _ rfl
  have kcr1_2 := (unhide cr1).2 2 _ rfl
  have kcr1_l := (unhide cr1).1
  go_wp2_with fail
  clear kcr1_0 kcr1_1 kcr1_2 kcr1_l
  refine (heldSymbols_own 1 (unhide hL) (by omega) (unhide r1)).mono ?_
  rintro e w18 ⟨rfl, hu⟩
  replace r0 := hide ((unhide r0).keep hu)
  replace r1 := hide ((unhide r1).keep hu)
  replace cr0 := hide ((unhide cr0).keep hu)
  replace cr1 := hide ((unhide cr1).keep hu)
  replace hB := hide (below_upd (unhide hB) hu (Nat.le_refl _) (.inr (Nat.le_refl _)))
  have hs18 : Hid (w17.heap.size ≤ w18.heap.size) := hide hu.size
  clear hu
  have hq0 : ¬ (((1 + syCount (readF zs0 zs1 n2 n3) : Nat) : Int) < 0) := by omega
  go_wp2_with fail
  refine (toIntS_own ad0 cap0 zs0 w18 hn0 ((unhide hA0).below (unhide hB))).mono ?_
  rintro e w19 ⟨vy0_h0, rfl, ho, hu⟩
  replace r0 := hide ((unhide r0).keep hu)
  replace r1 := hide ((unhide r1).keep hu)
  replace cr0 := hide ((unhide cr0).keep hu)
  replace cr1 := hide ((unhide cr1).keep hu)
  replace hB := hide (below_upd (unhide hB) hu (Nat.le_refl _) (.inr (Nat.le_refl _)))
  have hs19 : Hid (w18.heap.size ≤ w19.heap.size) := hide hu.size
  have y0_h0 := hide ho
  clear hu ho
  go_wp2_with fail
  refine (toByteY_own ad1 cap1 zs1 w19 hn1 ((unhide hA1).below (unhide hB))).mono ?_
  rintro e w20 ⟨vy1_h0, rfl, ho, hu⟩
  replace r0 := hide ((unhide r0).keep hu)
  replace r1 := hide ((unhide r1).keep hu)
  replace y0_h0 := hide ((unhide y0_h0).keep hu)
  replace cr0 := hide ((unhide cr0).keep hu)
  replace cr1 := hide ((unhide cr1).keep hu)
  replace hB := hide (below_upd (unhide hB) hu (Nat.le_refl _) (.inr (Nat.le_refl _)))
  have hs20 : Hid (w19.heap.size ≤ w20.heap.size) := hide hu.size
  have y1_h0 := hide ho
  clear hu ho
  go_wp2_with fail
  refine (implReadSymbols vy0_h0 zs0 vy1_h0 zs1 n2 n3 w20 hn0 (unhide hR0) (OwnI.rd (unhide y0_h0)) hn1 (unhide hR1) (OwnY.rd (unhide y1_h0)) hl2 hh2 hl3 hh3).mono ?_
  rintro e w21 ⟨vr2, rfl, ho, hu⟩
  replace r0 := hide ((unhide r0).keep hu)
  replace r1 := hide ((unhide r1).keep hu)
  replace y0_h0 := hide ((unhide y0_h0).keep hu)
  replace y1_h0 := hide ((unhide y1_h0).keep hu)
  replace cr0 := hide ((unhide cr0).keep hu)
  replace cr1 := hide ((unhide cr1).keep hu)
  replace hB := hide (below_upd (unhide hB) hu (Nat.le_refl _) (.inr (Nat.le_refl _)))
  have hs21 : Hid (w20.heap.size ≤ w21.heap.size) := hide hu.size
  have r2 := hide ho
  clear hu ho
  obtain ⟨adr2, capr2, hvr2⟩ := OwnSy.form (unhide r2)
  subst hvr2
  clear y0_h0 y1_h0
  have kcr0_0 := (unhide cr0).2 0 _ rfl
  have kcr0_1 := (unhide cr0).2 1 _ rfl
  have kcr0_2 := (unhide cr0).2 2 _ rfl
  have kcr0_l := (unhide cr0).1
  go_wp2_with fail
  clear kcr0_0 kcr0_1 kcr0_2 kcr0_l
  have hu := Upd.of_below ((Below.refl w21.heap.size w21).alloc (Nat.le_refl _) (.cells #[.int .i64 (readF zs0 zs1 n2 n3).1, .slice adr2 (readF zs0 zs1 n2 n3).2.1.length capr2, .int .i64 ((readF zs0 zs1 n2 n3).2.2 : Nat)] 46)) 0 0
  replace r0 := hide ((unhide r0).keep hu)
  replace r1 := hide ((unhide r1).keep hu)
  replace r2 := hide ((unhide r2).keep hu)
  replace cr0 := hide ((unhide cr0).keep hu)
  replace cr1 := hide ((unhide cr1).keep hu)
  replace hB := hide (below_upd (unhide hB) hu (Nat.le_refl _) (.inr (Nat.le_refl _)))
  have hs22 : Hid (w21.heap.size + 1 ≤ (w21.alloc (.cells #[.int .i64 (readF zs0 zs1 n2 n3).1, .slice adr2 (readF zs0 zs1 n2 n3).2.1.length capr2, .int .i64 ((readF zs0 zs1 n2 n3).2.2 : Nat)] 46)).heap.size) := hide (by simp)
  have cr2 := hide (held_new w21 [.int .i64 (readF zs0 zs1 n2 n3).1, .slice adr2 (readF zs0 zs1 n2 n3).2.1.length capr2, .int .i64 ((readF zs0 zs1 n2 n3).2.2 : Nat)] 46)
  clear hu
  generalize w21.alloc (.cells #[.int .i64 (readF zs0 zs1 n2 n3).1, .slice adr2 (readF zs0 zs1 n2 n3).2.1.length capr2, .int .i64 ((readF zs0 zs1 n2 n3).2.2 : Nat)] 46) = w22 at r0 r1 r2 cr0 cr1 hB hs22 cr2 ⊢
  refine (eqSymbols_own (unhide hL) (unhide r2) (unhide r0)).mono ?_
  rintro e w23 ⟨rfl, hu⟩
  replace r0 := hide ((unhide r0).keep hu)
  replace r1 := hide ((unhide r1).keep hu)
  replace r2 := hide ((unhide r2).keep hu)
  replace cr0 := hide ((unhide cr0).keep hu)
  replace cr1 := hide ((unhide cr1).keep hu)
  replace cr2 := hide ((unhide cr2).keep hu)
  replace hB := hide (below_upd (unhide hB) hu (Nat.le_refl _) (.inr (Nat.le_refl _)))
  have hs23 : Hid (w22.heap.size ≤ w23.heap.size) := hide hu.size
  clear hu
  have kcr1_0 := (unhide cr1).2 0 _ rfl
  have kcr1_1 := (unhide cr1).2 1 _ rfl
  have kcr1_2 := (unhide cr1).2 2 _ rfl
  have kcr1_l := (unhide cr1).1
  go_wp2_with fail
  clear kcr1_0 kcr1_1 kcr1_2 kcr1_l
  refine (heldSymbols_own 1 (unhide hL) (by omega) (unhide r1)).mono ?_
  rintro e w24 ⟨rfl, hu⟩
  replace r0 := hide ((unhide r0).keep hu)
  replace r1 := hide ((unhide r1).keep hu)
  replace r2 := hide ((unhide r2).keep hu)
  replace cr0 := hide ((unhide cr0).keep hu)
  replace cr1 := hide ((unhide cr1).keep hu)
  replace cr2 := hide ((unhide cr2).keep hu)
  replace hB := hide (below_upd (unhide hB) hu (Nat.le_refl _) (.inr (Nat.le_refl _)))
  have hs24 : Hid (w23.heap.size ≤ w24.heap.size) := hide hu.size
  clear hu
  go_wp2_with fail
  go_ret
  exact ⟨rfl, unhide hB⟩

theorem lawReadSymbols  (ad0 : Option Addr) (cap0 : Nat) (zs0 : List Int) (ad1 : Option Addr) (cap1 : Nat) (zs1 : List Int) (n2 : Int) (n3 : Int) (w : World) (hA0 : ArgI w ad0 zs0) (hR0 : InI zs0) (hA1 : ArgY w ad1 zs1) (hR1 : InB zs1) (hl2 : -9223372036854775808 ≤ n2) (hh2 : n2 ≤ 9223372036854775807) (hl3 : -9223372036854775808 ≤ n3) (hh3 : n3 ≤ 9223372036854775807) :
    Calls Try.prog 11 #[.slice ad0 zs0.length cap0, .slice ad1 zs1.length cap1, .int .i64 n2, .int .i64 n3] w fun e w' => e = .returned (.bool true) ∧ Below w.heap.size w w' := by
  by_cases h0 : 1048576 < zs0.length
  · exact lawReadSymbols_long0 ad0 cap0 zs0 ad1 cap1 zs1 n2 n3 w  h0
  by_cases h1 : 1048576 < zs1.length
  · exact lawReadSymbols_long1 ad0 cap0 zs0 ad1 cap1 zs1 n2 n3 w (by omega) h1
  exact lawReadSymbols_short  ad0 cap0 zs0 ad1 cap1 zs1 n2 n3 w (by omega) (by omega) hA0 hR0 hA1 hR1 hl2 hh2 hl3 hh3
end Go.Proofs.Ytcoegccnkdhpjaa
