/- The law on GoodSound, walked: what it calls is told by the walks of the specification and of the program. -/
import Derived.Test.YtocoeodoihdkgaaWSoC
import Derived.Test.YtocoeodoihdkgaaWSoD
import Derived.Deep.RegionHeld3
namespace Go.Proofs.Ytocoeodoihdkgaa
open Go.RowKit

set_option maxHeartbeats 1000000 in
theorem lawGoodSound_long0 (d0 : So) (ad0_0 : Option Addr) (cap0_0 : Nat) (w : World) (hz0 : (d0.2.2.2.length ≤ 9223372036854775807))  (_hn0 : 1048576 < sizeLl d0.2.2.2) (hA0_0 : ArgLl w ad0_0 d0.2.2.2) (hR0 : InSo d0) :
    Calls Try.prog 6 #[.agg #[.int .i64 d0.1, .int .i64 d0.2.1, .int .i64 d0.2.2.1, .slice ad0_0 d0.2.2.2.length cap0_0]] w fun e w' => e = .returned (.bool true) ∧ Below w.heap.size w w' := by
  replace hA0_0 := hide hA0_0
  replace hR0 := hide hR0
  have hB := hide (Below.refl w.heap.size w)
  go_enter Try.func6, Try.ntmps6
  go_wp2_with fail
  have hu := Upd.of_below ((Below.refl w.heap.size w).alloc (Nat.le_refl _) (.cells #[.int .i64 d0.1, .int .i64 d0.2.1, .int .i64 d0.2.2.1, .slice ad0_0 d0.2.2.2.length cap0_0] 48)) 0 0
  replace hB := hide (below_upd (unhide hB) hu (Nat.le_refl _) (.inr (Nat.le_refl _)))
  have hs1 : Hid (w.heap.size + 1 ≤ (w.alloc (.cells #[.int .i64 d0.1, .int .i64 d0.2.1, .int .i64 d0.2.2.1, .slice ad0_0 d0.2.2.2.length cap0_0] 48)).heap.size) := hide (by simp)
  have cp0 := hide (held_new w [.int .i64 d0.1, .int .i64 d0.2.1, .int .i64 d0.2.2.1, .slice ad0_0 d0.2.2.2.length cap0_0] 48)
  clear hu
  generalize w.alloc (.cells #[.int .i64 d0.1, .int .i64 d0.2.1, .int .i64 d0.2.2.1, .slice ad0_0 d0.2.2.2.length cap0_0] 48) = w1 at  hB hs1 cp0 ⊢
  refine (szSound_any d0.1 d0.2.1 d0.2.2.1 d0.2.2.2 ad0_0 cap0_0 (1048576) w1 (by omega) (by omega) hz0 (unhide hR0).2.2.2 ((unhide hA0_0).below (unhide hB))).mono ?_
  rintro e w2 ⟨rfl, hu⟩
  replace cp0 := hide ((unhide cp0).keep hu)
  replace hB := hide (below_upd (unhide hB) hu (Nat.le_refl _) (.inr (Nat.le_refl _)))
  have hs2 : Hid (w1.heap.size ≤ w2.heap.size) := hide hu.size
  clear hu
  rw [if_pos (by omega)]
  go_wp2
  go_ret
  exact ⟨rfl, unhide hB⟩

set_option maxHeartbeats 4000000 in
set_option maxRecDepth 100000 in
theorem lawGoodSound_short (d0 : So) (ad0_0 : Option Addr) (cap0_0 : Nat) (w : World)  (hz0 : (d0.2.2.2.length ≤ 9223372036854775807)) (hn : sizeLl d0.2.2.2 ≤ 1048576) (hA0_0 : ArgLl w ad0_0 d0.2.2.2) (hR0 : InSo d0) :
    Calls Try.prog 6 #[.agg #[.int .i64 d0.1, .int .i64 d0.2.1, .int .i64 d0.2.2.1, .slice ad0_0 d0.2.2.2.length cap0_0]] w fun e w' => e = .returned (.bool true) ∧ Below w.heap.size w w' := by
  have hn0 : (SoSize d0 ≤ 1048576) := by unfold SoSize; omega
  replace hA0_0 := hide hA0_0
  replace hR0 := hide hR0
  have hB := hide (Below.refl w.heap.size w)
  go_enter Try.func6, Try.ntmps6
  have hleft0 : (0 : Int) ≤ 1048576 := by omega
  go_wp2_with fail
  have hu := Upd.of_below ((Below.refl w.heap.size w).alloc (Nat.le_refl _) (.cells #[.int .i64 d0.1, .int .i64 d0.2.1, .int .i64 d0.2.2.1, .slice ad0_0 d0.2.2.2.length cap0_0] 48)) 0 0
  replace hB := hide (below_upd (unhide hB) hu (Nat.le_refl _) (.inr (Nat.le_refl _)))
  have hs1 : Hid (w.heap.size + 1 ≤ (w.alloc (.cells #[.int .i64 d0.1, .int .i64 d0.2.1, .int .i64 d0.2.2.1, .slice ad0_0 d0.2.2.2.length cap0_0] 48)).heap.size) := hide (by simp)
  have cp0 := hide (held_new w [.int .i64 d0.1, .int .i64 d0.2.1, .int .i64 d0.2.2.1, .slice ad0_0 d0.2.2.2.length cap0_0] 48)
  clear hu
  generalize w.alloc (.cells #[.int .i64 d0.1, .int .i64 d0.2.1, .int .i64 d0.2.2.1, .slice ad0_0 d0.2.2.2.length cap0_0] 48) = w1 at  hB hs1 cp0 ⊢
  refine (szSound_any d0.1 d0.2.1 d0.2.2.1 d0.2.2.2 ad0_0 cap0_0 (1048576) w1 (by omega) (by omega) hz0 (unhide hR0).2.2.2 ((unhide hA0_0).below (unhide hB))).mono ?_
  rintro e w2 ⟨rfl, hu⟩
  replace cp0 := hide ((unhide cp0).keep hu)
  replace hB := hide (below_upd (unhide hB) hu (Nat.le_refl _) (.inr (Nat.le_refl _)))
  have hs2 : Hid (w1.heap.size ≤ w2.heap.size) := hide hu.size
  clear hu
  rw [if_neg (by omega)]
  have hleft0 : ¬ (1048576 - (sizeLl d0.2.2.2 : Int) < 0) := by omega
  have kcp0_0 := (unhide cp0).2 0 _ rfl
  have kcp0_1 := (unhide cp0).2 1 _ rfl
  have kcp0_2 := (unhide cp0).2 2 _ rfl
  have kcp0_3 := (unhide cp0).2 3 _ rfl
  have kcp0_l := (unhide cp0).1
  go_wp2_with fail
  clear kcp0_0 kcp0_1 kcp0_2 kcp0_3 kcp0_l
  refine (toSound_own _ d0 w2 hn0 ⟨_, rfl, ⟨ad0_0, cap0_0, rfl, (unhide hA0_0).below (unhide hB)⟩⟩).mono ?_
  rintro e w3 ⟨vy0_w0, rfl, ho, hu⟩
  replace cp0 := hide ((unhide cp0).keep hu)
  replace hB := hide (below_upd (unhide hB) hu (Nat.le_refl _) (.inr (Nat.le_refl _)))
  have hs3 : Hid (w2.heap.size ≤ w3.heap.size) := hide hu.size
  have y0_w0 := hide ho
  clear hu ho
  go_wp2_with fail
  refine (specGoodSound _ d0 w3  hn0 (unhide hR0) (OwnSo.rd (unhide y0_w0))).mono ?_
  rintro e w4 ⟨rfl, hu⟩
  replace y0_w0 := hide ((unhide y0_w0).keep hu)
  replace cp0 := hide ((unhide cp0).keep hu)
  replace hB := hide (below_upd (unhide hB) hu (Nat.le_refl _) (.inr (Nat.le_refl _)))
  have hs4 : Hid (w3.heap.size ≤ w4.heap.size) := hide hu.size
  clear hu
  clear y0_w0
  have kcp0_0 := (unhide cp0).2 0 _ rfl
  have kcp0_1 := (unhide cp0).2 1 _ rfl
  have kcp0_2 := (unhide cp0).2 2 _ rfl
  have kcp0_3 := (unhide cp0).2 3 _ rfl
  have kcp0_l := (unhide cp0).1
  go_wp2_with fail
  clear kcp0_0 kcp0_1 kcp0_2 kcp0_3 kcp0_l
  refine (toSound_own _ d0 w4 hn0 ⟨_, rfl, ⟨ad0_0, cap0_0, rfl, (unhide hA0_0).below (unhide hB)⟩⟩).mono ?_
  rintro e w5 ⟨vx0, rfl, ho, hu⟩
  replace cp0 := hide ((unhide cp0).keep hu)
  replace hB := hide (below_upd (unhide hB) hu (Nat.le_refl _) (.inr (Nat.le_refl _)))
  have hs5 : Hid (w4.heap.size ≤ w5.heap.size) := hide hu.size
  have x0 := hide ho
  clear hu ho
  obtain ⟨adx0_0, capx0_0, hvx0⟩ := OwnSo.form (unhide x0)
  subst hvx0
  go_wp2_with fail
  have hu := Upd.of_below ((Below.refl w5.heap.size w5).alloc (Nat.le_refl _) (.cells #[.int .i64 d0.1, .int .i64 d0.2.1, .int .i64 d0.2.2.1, .slice adx0_0 d0.2.2.2.length capx0_0] 51)) 0 0
  replace x0 := hide ((unhide x0).keep hu)
  replace cp0 := hide ((unhide cp0).keep hu)
  replace hB := hide (below_upd (unhide hB) hu (Nat.le_refl _) (.inr (Nat.le_refl _)))
  have hs6 : Hid (w5.heap.size + 1 ≤ (w5.alloc (.cells #[.int .i64 d0.1, .int .i64 d0.2.1, .int .i64 d0.2.2.1, .slice adx0_0 d0.2.2.2.length capx0_0] 51)).heap.size) := hide (by simp)
  have cx0 := hide (held_new w5 [.int .i64 d0.1, .int .i64 d0.2.1, .int .i64 d0.2.2.1, .slice adx0_0 d0.2.2.2.length capx0_0] 51)
  clear hu
  generalize w5.alloc (.cells #[.int .i64 d0.1, .int .i64 d0.2.1, .int .i64 d0.2.2.1, .slice adx0_0 d0.2.2.2.length capx0_0] 51) = w6 at x0 cp0 hB hs6 cx0 ⊢
  refine (implGoodSound _ d0 w6  hn0 (unhide hR0) (OwnSo.rd (unhide x0))).mono ?_
  rintro e w7 ⟨rfl, hu⟩
  replace x0 := hide ((unhide x0).keep hu)
  replace cp0 := hide ((unhide cp0).keep hu)
  replace cx0 := hide ((unhide cx0).keep hu)
  replace hB := hide (below_upd (unhide hB) hu (Nat.le_refl _) (.inr (Nat.le_refl _)))
  have hs7 : Hid (w6.heap.size ≤ w7.heap.size) := hide hu.size
  clear hu
  have kcx0_0 := (unhide cx0).2 0 _ rfl
  have kcx0_1 := (unhide cx0).2 1 _ rfl
  have kcx0_2 := (unhide cx0).2 2 _ rfl
  have kcx0_3 := (unhide cx0).2 3 _ rfl
  have kcx0_l := (unhide cx0).1
  have kcp0_0 := (unhide cp0).2 0 _ rfl
  have kcp0_1 := (unhide cp0).2 1 _ rfl
  have kcp0_2 := (unhide cp0).2 2 _ rfl
  have kcp0_3 := (unhide cp0).2 3 _ rfl
  have kcp0_l := (unhide cp0).1
  have hTo := hide (toSound_own _ d0 w7.drew hn0 ⟨_, rfl, ⟨ad0_0, cap0_0, rfl, (unhide hA0_0).below (below_drewN (unhide hB) 1)⟩⟩)
  go_wp2_with fail
  go_region_held3 (fun w' => w'.cell? ⟨w5.heap.size, 0, none⟩ = some (.int .i64 d0.1) ∧ w'.cell? ⟨w5.heap.size, 1, none⟩ = some (.int .i64 d0.2.1) ∧ w'.cell? ⟨w5.heap.size, 2, none⟩ = some (.int .i64 d0.2.2.1) ∧ w'.cell? ⟨w5.heap.size, 3, none⟩ = some (.slice adx0_0 d0.2.2.2.length capx0_0) ∧ w'.cell? ⟨w.heap.size, 0, none⟩ = some (.int .i64 d0.1) ∧ w'.cell? ⟨w.heap.size, 1, none⟩ = some (.int .i64 d0.2.1) ∧ w'.cell? ⟨w.heap.size, 2, none⟩ = some (.int .i64 d0.2.2.1) ∧ w'.cell? ⟨w.heap.size, 3, none⟩ = some (.slice ad0_0 d0.2.2.2.length cap0_0)) (first | (exact ⟨((hut.trans huf).none.cell kcx0_l).trans kcx0_0, ((hut.trans huf).none.cell kcx0_l).trans kcx0_1, ((hut.trans huf).none.cell kcx0_l).trans kcx0_2, ((hut.trans huf).none.cell kcx0_l).trans kcx0_3, ((hut.trans huf).none.cell kcp0_l).trans kcp0_0, ((hut.trans huf).none.cell kcp0_l).trans kcp0_1, ((hut.trans huf).none.cell kcp0_l).trans kcp0_2, ((hut.trans huf).none.cell kcp0_l).trans kcp0_3⟩) | (exact ⟨(hut.none.cell kcx0_l).trans kcx0_0, (hut.none.cell kcx0_l).trans kcx0_1, (hut.none.cell kcx0_l).trans kcx0_2, (hut.none.cell kcx0_l).trans kcx0_3, (hut.none.cell kcp0_l).trans kcp0_0, (hut.none.cell kcp0_l).trans kcp0_1, (hut.none.cell kcp0_l).trans kcp0_2, (hut.none.cell kcp0_l).trans kcp0_3⟩) | go_keep) (first | (go_at_call 27; refine (unhide hTo).mono ?_; rintro e wt ⟨vt, rfl, hot, hut⟩) | (go_at_call 29; refine (eqSound_rd _ _ d0 _ hn0 (OwnSo.rd (OwnSo.keep (unhide x0) (Upd.trans (Upd.drew1 _) hut))) (OwnSo.rd hot)).mono ?_; rintro e wf ⟨rfl, huf⟩))
  clear hTo kcx0_0 kcx0_1 kcx0_2 kcx0_3 kcx0_l kcp0_0 kcp0_1 kcp0_2 kcp0_3 kcp0_l
  have hu : Upd 0 0 w7 wf := (Upd.drew1 _).trans (hut.trans huf)
  clear hut hot huf
  replace x0 := hide ((unhide x0).keep hu)
  replace cp0 := hide ((unhide cp0).keep hu)
  replace cx0 := hide ((unhide cx0).keep hu)
  replace hB := hide (below_upd (unhide hB) hu (Nat.le_refl _) (.inr (Nat.le_refl _)))
  have hs8 : Hid (w7.heap.size ≤ wf.heap.size) := hide hu.size
  clear hu
  generalize wf = w8 at x0 cp0 cx0 hB hs8 ⊢
  go_wp2_with fail
  go_ret
  exact ⟨rfl, unhide hB⟩

theorem lawGoodSound (d0 : So) (ad0_0 : Option Addr) (cap0_0 : Nat) (w : World)  (hz0 : (d0.2.2.2.length ≤ 9223372036854775807)) (hA0_0 : ArgLl w ad0_0 d0.2.2.2) (hR0 : InSo d0) :
    Calls Try.prog 6 #[.agg #[.int .i64 d0.1, .int .i64 d0.2.1, .int .i64 d0.2.2.1, .slice ad0_0 d0.2.2.2.length cap0_0]] w fun e w' => e = .returned (.bool true) ∧ Below w.heap.size w w' := by
  by_cases h0 : 1048576 < sizeLl d0.2.2.2
  · exact lawGoodSound_long0 d0 ad0_0 cap0_0 w hz0 h0 hA0_0 hR0
  exact lawGoodSound_short d0 ad0_0 cap0_0 w  hz0 (by omega) hA0_0 hR0
end Go.Proofs.Ytocoeodoihdkgaa
