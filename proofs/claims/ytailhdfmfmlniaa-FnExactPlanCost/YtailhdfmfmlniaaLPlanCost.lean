/- The law on PlanCost, walked: what it calls is told by the walks of the specification and of the program. -/
import Derived.Test.YtailhdfmfmlniaaWPcI
import Derived.Deep.RegionHeld3
namespace Go.Proofs.Ytailhdfmfmlniaa
open Go.RowKit

set_option maxHeartbeats 1000000 in
theorem lawPlanCost_len1 (d0 : Pa) (ad0_0 : Option Addr) (cap0_0 : Nat) (ad1 : Option Addr) (cap1 : Nat) (zs1 : List Int) (w : World) (_hn1 : 1048576 < zs1.length) :
    Calls Try.prog 7 #[.agg #[.int .i64 d0.1, .int .i64 d0.2.1, .slice ad0_0 d0.2.2.length cap0_0], .slice ad1 zs1.length cap1] w fun e w' => e = .returned (.bool true) ∧ Below w.heap.size w w' := by
  go_enter Try.func7, Try.ntmps7
  go_wp2
  go_ret
  exact ⟨rfl, by first | exact Below.refl _ _ | exact (Below.refl _ _).alloc (Nat.le_refl _) _⟩

set_option maxHeartbeats 1000000 in
theorem lawPlanCost_long0 (d0 : Pa) (ad0_0 : Option Addr) (cap0_0 : Nat) (ad1 : Option Addr) (cap1 : Nat) (zs1 : List Int) (w : World) (hn1 : zs1.length ≤ 1048576) (hz0 : (d0.2.2.length ≤ 9223372036854775807))  (_hn0 : 1048576 < d0.2.2.length)  :
    Calls Try.prog 7 #[.agg #[.int .i64 d0.1, .int .i64 d0.2.1, .slice ad0_0 d0.2.2.length cap0_0], .slice ad1 zs1.length cap1] w fun e w' => e = .returned (.bool true) ∧ Below w.heap.size w w' := by
  have hB := hide (Below.refl w.heap.size w)
  go_enter Try.func7, Try.ntmps7
  go_wp2_with fail
  have hu := Upd.of_below ((Below.refl w.heap.size w).alloc (Nat.le_refl _) (.cells #[.int .i64 d0.1, .int .i64 d0.2.1, .slice ad0_0 d0.2.2.length cap0_0] 42)) 0 0
  replace hB := hide (below_upd (unhide hB) hu (Nat.le_refl _) (.inr (Nat.le_refl _)))
  have hs1 : Hid (w.heap.size + 1 ≤ (w.alloc (.cells #[.int .i64 d0.1, .int .i64 d0.2.1, .slice ad0_0 d0.2.2.length cap0_0] 42)).heap.size) := hide (by simp)
  have cp0 := hide (held_new w [.int .i64 d0.1, .int .i64 d0.2.1, .slice ad0_0 d0.2.2.length cap0_0] 42)
  clear hu
  generalize w.alloc (.cells #[.int .i64 d0.1, .int .i64 d0.2.1, .slice ad0_0 d0.2.2.length cap0_0] 42) = w1 at  hB hs1 cp0 ⊢
  refine (szPlan_any d0.1 d0.2.1 d0.2.2 ad0_0 cap0_0 (1048576) w1 (by omega) (by omega) hz0).mono ?_
  rintro e w2 ⟨rfl, hu⟩
  replace cp0 := hide ((unhide cp0).keep hu)
  replace hB := hide (below_upd (unhide hB) hu (Nat.le_refl _) (.inr (Nat.le_refl _)))
  have hs2 : Hid (w1.heap.size ≤ w2.heap.size) := hide hu.size
  clear hu
  rw [if_pos (by omega)]
  go_wp2
  go_ret
  exact ⟨rfl, unhide hB⟩

set_option maxHeartbeats 4000000 in
set_option maxRecDepth 100000 in
theorem lawPlanCost_short (d0 : Pa) (ad0_0 : Option Addr) (cap0_0 : Nat) (ad1 : Option Addr) (cap1 : Nat) (zs1 : List Int) (w : World)  (hn1 : zs1.length ≤ 1048576) (hz0 : (d0.2.2.length ≤ 9223372036854775807)) (hn : d0.2.2.length ≤ 1048576) (hA0_0 : ArgI w ad0_0 d0.2.2) (hR0 : InPa d0) (hA1 : ArgI w ad1 zs1) (hR1 : InI zs1) :
    Calls Try.prog 7 #[.agg #[.int .i64 d0.1, .int .i64 d0.2.1, .slice ad0_0 d0.2.2.length cap0_0], .slice ad1 zs1.length cap1] w fun e w' => e = .returned (.bool true) ∧ Below w.heap.size w w' := by
  have hn0 : (PaSize d0 ≤ 1048576) := by unfold PaSize; omega
  replace hA0_0 := hide hA0_0
  replace hR0 := hide hR0
  replace hA1 := hide hA1
  replace hR1 := hide hR1
  have hB := hide (Below.refl w.heap.size w)
  go_enter Try.func7, Try.ntmps7
  have hleft0 : (0 : Int) ≤ 1048576 := by omega
  go_wp2_with fail
  have hu := Upd.of_below ((Below.refl w.heap.size w).alloc (Nat.le_refl _) (.cells #[.int .i64 d0.1, .int .i64 d0.2.1, .slice ad0_0 d0.2.2.length cap0_0] 42)) 0 0
  replace hB := hide (below_upd (unhide hB) hu (Nat.le_refl _) (.inr (Nat.le_refl _)))
  have hs1 : Hid (w.heap.size + 1 ≤ (w.alloc (.cells #[.int .i64 d0.1, .int .i64 d0.2.1, .slice ad0_0 d0.2.2.length cap0_0] 42)).heap.size) := hide (by simp)
  have cp0 := hide (held_new w [.int .i64 d0.1, .int .i64 d0.2.1, .slice ad0_0 d0.2.2.length cap0_0] 42)
  clear hu
  generalize w.alloc (.cells #[.int .i64 d0.1, .int .i64 d0.2.1, .slice ad0_0 d0.2.2.length cap0_0] 42) = w1 at  hB hs1 cp0 ⊢
  refine (szPlan_any d0.1 d0.2.1 d0.2.2 ad0_0 cap0_0 (1048576) w1 (by omega) (by omega) hz0).mono ?_
  rintro e w2 ⟨rfl, hu⟩
  replace cp0 := hide ((unhide cp0).keep hu)
  replace hB := hide (below_upd (unhide hB) hu (Nat.le_refl _) (.inr (Nat.le_refl _)))
  have hs2 : Hid (w1.heap.size ≤ w2.heap.size) := hide hu.size
  clear hu
  rw [if_neg (by omega)]
  have hleft0 : ¬ (1048576 - (d0.2.2.length : Int) < 0) := by omega
  have kcp0_0 := (unhide cp0).2 0 _ rfl
  have kcp0_1 := (unhide cp0).2 1 _ rfl
  have kcp0_2 := (unhide cp0).2 2 _ rfl
  have kcp0_l := (unhide cp0).1
  go_wp2_with fail
  clear kcp0_0 kcp0_1 kcp0_2 kcp0_l
  refine (toPlan_own _ d0 w2 hn0 ⟨_, rfl, ⟨ad0_0, cap0_0, rfl, (unhide hA0_0).below (unhide hB)⟩⟩).mono ?_
  rintro e w3 ⟨vy0_w0, rfl, ho, hu⟩
  replace cp0 := hide ((unhide cp0).keep hu)
  replace hB := hide (below_upd (unhide hB) hu (Nat.le_refl _) (.inr (Nat.le_refl _)))
  have hs3 : Hid (w2.heap.size ≤ w3.heap.size) := hide hu.size
  have y0_w0 := hide ho
  clear hu ho
  go_wp2_with fail
  refine (toIntS_own ad1 cap1 zs1 w3 hn1 ((unhide hA1).below (unhide hB))).mono ?_
  rintro e w4 ⟨vy1_w0, rfl, ho, hu⟩
  replace y0_w0 := hide ((unhide y0_w0).keep hu)
  replace cp0 := hide ((unhide cp0).keep hu)
  replace hB := hide (below_upd (unhide hB) hu (Nat.le_refl _) (.inr (Nat.le_refl _)))
  have hs4 : Hid (w3.heap.size ≤ w4.heap.size) := hide hu.size
  have y1_w0 := hide ho
  clear hu ho
  go_wp2_with fail
  refine (specPlanCost _ d0 vy1_w0 zs1 w4  hn0 (unhide hR0) (OwnPa.rd (unhide y0_w0)) hn1 (unhide hR1) (rdX_of_own (unhide y1_w0))).mono ?_
  rintro e w5 ⟨rfl, hu⟩
  replace y0_w0 := hide ((unhide y0_w0).keep hu)
  replace y1_w0 := hide ((unhide y1_w0).keep hu)
  replace cp0 := hide ((unhide cp0).keep hu)
  replace hB := hide (below_upd (unhide hB) hu (Nat.le_refl _) (.inr (Nat.le_refl _)))
  have hs5 : Hid (w4.heap.size ≤ w5.heap.size) := hide hu.size
  clear hu
  clear y0_w0 y1_w0
  have kcp0_0 := (unhide cp0).2 0 _ rfl
  have kcp0_1 := (unhide cp0).2 1 _ rfl
  have kcp0_2 := (unhide cp0).2 2 _ rfl
  have kcp0_l := (unhide cp0).1
  go_wp2_with fail
  clear kcp0_0 kcp0_1 kcp0_2 kcp0_l
  refine (toPlan_own _ d0 w5 hn0 ⟨_, rfl, ⟨ad0_0, cap0_0, rfl, (unhide hA0_0).below (unhide hB)⟩⟩).mono ?_
  rintro e w6 ⟨vx0, rfl, ho, hu⟩
  replace cp0 := hide ((unhide cp0).keep hu)
  replace hB := hide (below_upd (unhide hB) hu (Nat.le_refl _) (.inr (Nat.le_refl _)))
  have hs6 : Hid (w5.heap.size ≤ w6.heap.size) := hide hu.size
  have x0 := hide ho
  clear hu ho
  obtain ⟨adx0_0, capx0_0, hvx0⟩ := OwnPa.form (unhide x0)
  subst hvx0
  go_wp2_with fail
  have hu := Upd.of_below ((Below.refl w6.heap.size w6).alloc (Nat.le_refl _) (.cells #[.int .i64 d0.1, .int .i64 d0.2.1, .slice adx0_0 d0.2.2.length capx0_0] 45)) 0 0
  replace x0 := hide ((unhide x0).keep hu)
  replace cp0 := hide ((unhide cp0).keep hu)
  replace hB := hide (below_upd (unhide hB) hu (Nat.le_refl _) (.inr (Nat.le_refl _)))
  have hs7 : Hid (w6.heap.size + 1 ≤ (w6.alloc (.cells #[.int .i64 d0.1, .int .i64 d0.2.1, .slice adx0_0 d0.2.2.length capx0_0] 45)).heap.size) := hide (by simp)
  have cx0 := hide (held_new w6 [.int .i64 d0.1, .int .i64 d0.2.1, .slice adx0_0 d0.2.2.length capx0_0] 45)
  clear hu
  generalize w6.alloc (.cells #[.int .i64 d0.1, .int .i64 d0.2.1, .slice adx0_0 d0.2.2.length capx0_0] 45) = w7 at x0 cp0 hB hs7 cx0 ⊢
  refine (toIntS_own ad1 cap1 zs1 w7 hn1 ((unhide hA1).below (unhide hB))).mono ?_
  rintro e w8 ⟨vx1, rfl, ho, hu⟩
  replace x0 := hide ((unhide x0).keep hu)
  replace cp0 := hide ((unhide cp0).keep hu)
  replace cx0 := hide ((unhide cx0).keep hu)
  replace hB := hide (below_upd (unhide hB) hu (Nat.le_refl _) (.inr (Nat.le_refl _)))
  have hs8 : Hid (w7.heap.size ≤ w8.heap.size) := hide hu.size
  have x1 := hide ho
  clear hu ho
  have kcx0_0 := (unhide cx0).2 0 _ rfl
  have kcx0_1 := (unhide cx0).2 1 _ rfl
  have kcx0_2 := (unhide cx0).2 2 _ rfl
  have kcx0_l := (unhide cx0).1
  go_wp2_with fail
  clear kcx0_0 kcx0_1 kcx0_2 kcx0_l
  refine (implPlanCost _ d0 vx1 zs1 w8  hn0 (unhide hR0) (OwnPa.rd (unhide x0)) hn1 (unhide hR1) (rdX_of_own (unhide x1))).mono ?_
  rintro e w9 ⟨rfl, hu⟩
  replace x0 := hide ((unhide x0).keep hu)
  replace x1 := hide ((unhide x1).keep hu)
  replace cp0 := hide ((unhide cp0).keep hu)
  replace cx0 := hide ((unhide cx0).keep hu)
  replace hB := hide (below_upd (unhide hB) hu (Nat.le_refl _) (.inr (Nat.le_refl _)))
  have hs9 : Hid (w8.heap.size ≤ w9.heap.size) := hide hu.size
  clear hu
  have kcx0_0 := (unhide cx0).2 0 _ rfl
  have kcx0_1 := (unhide cx0).2 1 _ rfl
  have kcx0_2 := (unhide cx0).2 2 _ rfl
  have kcx0_l := (unhide cx0).1
  have kcp0_0 := (unhide cp0).2 0 _ rfl
  have kcp0_1 := (unhide cp0).2 1 _ rfl
  have kcp0_2 := (unhide cp0).2 2 _ rfl
  have kcp0_l := (unhide cp0).1
  have hTo := hide (toPlan_own _ d0 w9.drew hn0 ⟨_, rfl, ⟨ad0_0, cap0_0, rfl, (unhide hA0_0).below (below_drewN (unhide hB) 1)⟩⟩)
  go_wp2_with fail
  go_region_held3 (fun w' => w'.cell? ⟨w6.heap.size, 0, none⟩ = some (.int .i64 d0.1) ∧ w'.cell? ⟨w6.heap.size, 1, none⟩ = some (.int .i64 d0.2.1) ∧ w'.cell? ⟨w6.heap.size, 2, none⟩ = some (.slice adx0_0 d0.2.2.length capx0_0) ∧ w'.cell? ⟨w.heap.size, 0, none⟩ = some (.int .i64 d0.1) ∧ w'.cell? ⟨w.heap.size, 1, none⟩ = some (.int .i64 d0.2.1) ∧ w'.cell? ⟨w.heap.size, 2, none⟩ = some (.slice ad0_0 d0.2.2.length cap0_0)) (first | (exact ⟨((hut.trans huf).none.cell kcx0_l).trans kcx0_0, ((hut.trans huf).none.cell kcx0_l).trans kcx0_1, ((hut.trans huf).none.cell kcx0_l).trans kcx0_2, ((hut.trans huf).none.cell kcp0_l).trans kcp0_0, ((hut.trans huf).none.cell kcp0_l).trans kcp0_1, ((hut.trans huf).none.cell kcp0_l).trans kcp0_2⟩) | (exact ⟨(hut.none.cell kcx0_l).trans kcx0_0, (hut.none.cell kcx0_l).trans kcx0_1, (hut.none.cell kcx0_l).trans kcx0_2, (hut.none.cell kcp0_l).trans kcp0_0, (hut.none.cell kcp0_l).trans kcp0_1, (hut.none.cell kcp0_l).trans kcp0_2⟩) | go_keep) (first | (go_at_call 32; refine (unhide hTo).mono ?_; rintro e wt ⟨vt, rfl, hot, hut⟩) | (go_at_call 34; refine (eqPlan_rd _ _ d0 _ hn0 (OwnPa.rd (OwnPa.keep (unhide x0) (Upd.trans (Upd.drew1 _) hut))) (OwnPa.rd hot)).mono ?_; rintro e wf ⟨rfl, huf⟩))
  clear hTo kcx0_0 kcx0_1 kcx0_2 kcx0_l kcp0_0 kcp0_1 kcp0_2 kcp0_l
  have hu : Upd 0 0 w9 wf := (Upd.drew1 _).trans (hut.trans huf)
  clear hut hot huf
  replace x0 := hide ((unhide x0).keep hu)
  replace x1 := hide ((unhide x1).keep hu)
  replace cp0 := hide ((unhide cp0).keep hu)
  replace cx0 := hide ((unhide cx0).keep hu)
  replace hB := hide (below_upd (unhide hB) hu (Nat.le_refl _) (.inr (Nat.le_refl _)))
  have hs10 : Hid (w9.heap.size ≤ wf.heap.size) := hide hu.size
  clear hu
  generalize wf = w10 at x0 x1 cp0 cx0 hB hs10 ⊢
  go_wp2_with fail
  refine (toIntS_own ad1 cap1 zs1 w10 hn1 ((unhide hA1).below (unhide hB))).mono ?_
  rintro e w11 ⟨vz1, rfl, ho, hu⟩
  replace x0 := hide ((unhide x0).keep hu)
  replace x1 := hide ((unhide x1).keep hu)
  replace cp0 := hide ((unhide cp0).keep hu)
  replace cx0 := hide ((unhide cx0).keep hu)
  replace hB := hide (below_upd (unhide hB) hu (Nat.le_refl _) (.inr (Nat.le_refl _)))
  have hs11 : Hid (w10.heap.size ≤ w11.heap.size) := hide hu.size
  have z1 := hide ho
  clear hu ho
  go_wp2_with fail
  refine (eqIntS_rd vx1 vz1 zs1 w11 hn1 (OwnI.rd (unhide x1)) (OwnI.rd (unhide z1))).mono ?_
  rintro e w12 ⟨rfl, hu⟩
  replace x0 := hide ((unhide x0).keep hu)
  replace x1 := hide ((unhide x1).keep hu)
  replace z1 := hide ((unhide z1).keep hu)
  replace cp0 := hide ((unhide cp0).keep hu)
  replace cx0 := hide ((unhide cx0).keep hu)
  replace hB := hide (below_upd (unhide hB) hu (Nat.le_refl _) (.inr (Nat.le_refl _)))
  have hs12 : Hid (w11.heap.size ≤ w12.heap.size) := hide hu.size
  clear hu
  clear z1
  go_wp2_with fail
  go_ret
  exact ⟨rfl, unhide hB⟩

theorem lawPlanCost (d0 : Pa) (ad0_0 : Option Addr) (cap0_0 : Nat) (ad1 : Option Addr) (cap1 : Nat) (zs1 : List Int) (w : World)  (hz0 : (d0.2.2.length ≤ 9223372036854775807)) (hA0_0 : ArgI w ad0_0 d0.2.2) (hR0 : InPa d0) (hA1 : ArgI w ad1 zs1) (hR1 : InI zs1) :
    Calls Try.prog 7 #[.agg #[.int .i64 d0.1, .int .i64 d0.2.1, .slice ad0_0 d0.2.2.length cap0_0], .slice ad1 zs1.length cap1] w fun e w' => e = .returned (.bool true) ∧ Below w.heap.size w w' := by
  by_cases hl1 : 1048576 < zs1.length
  · exact lawPlanCost_len1 d0 ad0_0 cap0_0 ad1 cap1 zs1 w hl1
  have hn1 : zs1.length ≤ 1048576 := by omega
  by_cases h0 : 1048576 < d0.2.2.length
  · exact lawPlanCost_long0 d0 ad0_0 cap0_0 ad1 cap1 zs1 w hn1 hz0 h0 
  exact lawPlanCost_short d0 ad0_0 cap0_0 ad1 cap1 zs1 w  hn1 hz0 (by omega) hA0_0 hR0 hA1 hR1
end Go.Proofs.Ytailhdfmfmlniaa
