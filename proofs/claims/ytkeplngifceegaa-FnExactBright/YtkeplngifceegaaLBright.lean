/- The law on Bright, walked: what it calls is told by the walks of the specification and of the program. -/
import Derived.Test.YtkeplngifceegaaWTrA
import Derived.Test.YtkeplngifceegaaWTrE
import Derived.Test.YtkeplngifceegaaPOpenTr
import Derived.Deep.RegionHeld3
namespace Go.Proofs.Ytkeplngifceegaa
open Go.RowKit

set_option maxHeartbeats 4000000 in
set_option maxRecDepth 100000 in
theorem lawBright_short (d0 : Tr) (w : World)    (hR0 : InTr d0) :
    Calls Try.prog 5 #[.agg #[.int .i64 d0.1, .int .i64 d0.2.1, .int .i64 d0.2.2]] w fun e w' => e = .returned (.bool true) ∧ Below w.heap.size w w' := by
  replace hR0 := hide hR0
  have hn0 : (TrSize d0 ≤ 1048576) := Nat.zero_le _
  have hL := hide (show TrSize (brightF d0) ≤ 1048576 from Nat.zero_le _)
  have hB := hide (Below.refl w.heap.size w)
  go_enter Try.func5, Try.ntmps5
  go_wp2_with fail
  have hu := Upd.of_below ((Below.refl w.heap.size w).alloc (Nat.le_refl _) (.cells #[.int .i64 d0.1, .int .i64 d0.2.1, .int .i64 d0.2.2] 41)) 0 0
  replace hB := hide (below_upd (unhide hB) hu (Nat.le_refl _) (.inr (Nat.le_refl _)))
  have hs1 : Hid (w.heap.size + 1 ≤ (w.alloc (.cells #[.int .i64 d0.1, .int .i64 d0.2.1, .int .i64 d0.2.2] 41)).heap.size) := hide (by simp)
  have cp0 := hide (held_new w [.int .i64 d0.1, .int .i64 d0.2.1, .int .i64 d0.2.2] 41)
  clear hu
  generalize w.alloc (.cells #[.int .i64 d0.1, .int .i64 d0.2.1, .int .i64 d0.2.2] 41) = w1 at  hB hs1 cp0 ⊢
  refine (toTriple_own _ d0 w1 hn0 rfl).mono ?_
  rintro e w2 ⟨vy0_w0, rfl, ho, hu⟩
  replace cp0 := hide ((unhide cp0).keep hu)
  replace hB := hide (below_upd (unhide hB) hu (Nat.le_refl _) (.inr (Nat.le_refl _)))
  have hs2 : Hid (w1.heap.size ≤ w2.heap.size) := hide hu.size
  have y0_w0 := hide ho
  clear hu ho
  go_wp2_with fail
  refine (specBright _ d0 w2  hn0 (unhide hR0) (OwnTr.rd (unhide y0_w0))).mono ?_
  rintro e w3 ⟨vr0, rfl, ho, hu⟩
  replace y0_w0 := hide ((unhide y0_w0).keep hu)
  replace cp0 := hide ((unhide cp0).keep hu)
  replace hB := hide (below_upd (unhide hB) hu (Nat.le_refl _) (.inr (Nat.le_refl _)))
  have hs3 : Hid (w2.heap.size ≤ w3.heap.size) := hide hu.size
  have r0 := hide ho
  clear hu ho
  have hvr0 := OwnTr.form (unhide r0)
  subst hvr0
  clear y0_w0
  have kcp0_0 := (unhide cp0).2 0 _ rfl
  have kcp0_1 := (unhide cp0).2 1 _ rfl
  have kcp0_2 := (unhide cp0).2 2 _ rfl
  have kcp0_l := (unhide cp0).1
  go_wp2_with fail
  clear kcp0_0 kcp0_1 kcp0_2 kcp0_l
  have hu := Upd.of_below ((Below.refl w3.heap.size w3).alloc (Nat.le_refl _) (.cells #[.int .i64 (brightF d0).1, .int .i64 (brightF d0).2.1, .int .i64 (brightF d0).2.2] 24)) 0 0
  replace r0 := hide ((unhide r0).keep hu)
  replace cp0 := hide ((unhide cp0).keep hu)
  replace hB := hide (below_upd (unhide hB) hu (Nat.le_refl _) (.inr (Nat.le_refl _)))
  have hs4 : Hid (w3.heap.size + 1 ≤ (w3.alloc (.cells #[.int .i64 (brightF d0).1, .int .i64 (brightF d0).2.1, .int .i64 (brightF d0).2.2] 24)).heap.size) := hide (by simp)
  have cr0 := hide (held_new w3 [.int .i64 (brightF d0).1, .int .i64 (brightF d0).2.1, .int .i64 (brightF d0).2.2] 24)
  clear hu
  generalize w3.alloc (.cells #[.int .i64 (brightF d0).1, .int .i64 (brightF d0).2.1, .int .i64 (brightF d0).2.2] 24) = w4 at r0 cp0 hB hs4 cr0 ⊢
  refine (toTriple_own _ d0 w4 hn0 rfl).mono ?_
  rintro e w5 ⟨vy0_g0, rfl, ho, hu⟩
  replace r0 := hide ((unhide r0).keep hu)
  replace cp0 := hide ((unhide cp0).keep hu)
  replace cr0 := hide ((unhide cr0).keep hu)
  replace hB := hide (below_upd (unhide hB) hu (Nat.le_refl _) (.inr (Nat.le_refl _)))
  have hs5 : Hid (w4.heap.size ≤ w5.heap.size) := hide hu.size
  have y0_g0 := hide ho
  clear hu ho
  go_wp2_with fail
  refine (implBright _ d0 w5  hn0 (unhide hR0) (OwnTr.rd (unhide y0_g0))).mono ?_
  rintro e w6 ⟨vr1, rfl, ho, hu⟩
  replace r0 := hide ((unhide r0).keep hu)
  replace y0_g0 := hide ((unhide y0_g0).keep hu)
  replace cp0 := hide ((unhide cp0).keep hu)
  replace cr0 := hide ((unhide cr0).keep hu)
  replace hB := hide (below_upd (unhide hB) hu (Nat.le_refl _) (.inr (Nat.le_refl _)))
  have hs6 : Hid (w5.heap.size ≤ w6.heap.size) := hide hu.size
  have r1 := hide ho
  clear hu ho
  have hvr1 := OwnTr.form (unhide r1)
  subst hvr1
  clear y0_g0
  have kcr0_0 := (unhide cr0).2 0 _ rfl
  have kcr0_1 := (unhide cr0).2 1 _ rfl
  have kcr0_2 := (unhide cr0).2 2 _ rfl
  have kcr0_l := (unhide cr0).1
  go_wp2_with fail
  clear kcr0_0 kcr0_1 kcr0_2 kcr0_l
  have hu := Upd.of_below ((Below.refl w6.heap.size w6).alloc (Nat.le_refl _) (.cells #[.int .i64 (brightF d0).1, .int .i64 (brightF d0).2.1, .int .i64 (brightF d0).2.2] 24)) 0 0
  replace r0 := hide ((unhide r0).keep hu)
  replace r1 := hide ((unhide r1).keep hu)
  replace cp0 := hide ((unhide cp0).keep hu)
  replace cr0 := hide ((unhide cr0).keep hu)
  replace hB := hide (below_upd (unhide hB) hu (Nat.le_refl _) (.inr (Nat.le_refl _)))
  have hs7 : Hid (w6.heap.size + 1 ≤ (w6.alloc (.cells #[.int .i64 (brightF d0).1, .int .i64 (brightF d0).2.1, .int .i64 (brightF d0).2.2] 24)).heap.size) := hide (by simp)
  have cr1 := hide (held_new w6 [.int .i64 (brightF d0).1, .int .i64 (brightF d0).2.1, .int .i64 (brightF d0).2.2] 24)
  clear hu
  generalize w6.alloc (.cells #[.int .i64 (brightF d0).1, .int .i64 (brightF d0).2.1, .int .i64 (brightF d0).2.2] 24) = w7 at r0 r1 cp0 cr0 hB hs7 cr1 ⊢
  refine (eqTriple_rd _ _ (brightF d0) w7 (unhide hL) (OwnTr.rd (unhide r1)) (OwnTr.rd (unhide r0))).mono ?_
  rintro e w8 ⟨rfl, hu⟩
  replace r0 := hide ((unhide r0).keep hu)
  replace r1 := hide ((unhide r1).keep hu)
  replace cp0 := hide ((unhide cp0).keep hu)
  replace cr0 := hide ((unhide cr0).keep hu)
  replace cr1 := hide ((unhide cr1).keep hu)
  replace hB := hide (below_upd (unhide hB) hu (Nat.le_refl _) (.inr (Nat.le_refl _)))
  have hs8 : Hid (w7.heap.size ≤ w8.heap.size) := hide hu.size
  clear hu
  go_wp2_with fail
  go_ret
  exact ⟨rfl, unhide hB⟩

theorem lawBright (d0 : Tr) (w : World)   (hR0 : InTr d0) :
    Calls Try.prog 5 #[.agg #[.int .i64 d0.1, .int .i64 d0.2.1, .int .i64 d0.2.2]] w fun e w' => e = .returned (.bool true) ∧ Below w.heap.size w w' := by
  exact lawBright_short d0 w    hR0
end Go.Proofs.Ytkeplngifceegaa
