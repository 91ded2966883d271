/- The law on MakeChunk, walked: what it calls is told by the walks of the specification and of the program. -/
import Derived.Test.YthpkngipiapbpaaWChE
import Derived.Test.YthpkngipiapbpaaWByts
import Derived.Deep.RegionHeld3
namespace Go.Proofs.Ythpkngipiapbpaa
open Go.RowKit

set_option maxHeartbeats 1000000 in
theorem lawMakeChunk_long0 (d0 : Ck) (ad0_0 : Option Addr) (cap0_0 : Nat) (w : World) (hz0 : (d0.1.size ≤ 9223372036854775807 ∧ d0.2.length ≤ 9223372036854775807))  (_hn0 : 1048576 < d0.1.size + d0.2.length) :
    Calls Try.prog 3 #[.agg #[.string d0.1, .slice ad0_0 d0.2.length cap0_0]] w fun e w' => e = .returned (.bool true) ∧ Below w.heap.size w w' := by
  have hB := hide (Below.refl w.heap.size w)
  go_enter Try.func3, Try.ntmps3
  go_wp2_with fail
  have hu := Upd.of_below ((Below.refl w.heap.size w).alloc (Nat.le_refl _) (.cells #[.string d0.1, .slice ad0_0 d0.2.length cap0_0] 24)) 0 0
  replace hB := hide (below_upd (unhide hB) hu (Nat.le_refl _) (.inr (Nat.le_refl _)))
  have hs1 : Hid (w.heap.size + 1 ≤ (w.alloc (.cells #[.string d0.1, .slice ad0_0 d0.2.length cap0_0] 24)).heap.size) := hide (by simp)
  have cp0 := hide (held_new w [.string d0.1, .slice ad0_0 d0.2.length cap0_0] 24)
  clear hu
  generalize w.alloc (.cells #[.string d0.1, .slice ad0_0 d0.2.length cap0_0] 24) = w1 at  hB hs1 cp0 ⊢
  refine (szChunk_any d0.1 ad0_0 d0.2.length cap0_0 (1048576) w1 (by omega) (by omega) hz0.1 hz0.2).mono ?_
  rintro e w2 ⟨rfl, hu⟩
  replace cp0 := hide ((unhide cp0).keep hu)
  replace hB := hide (below_upd (unhide hB) hu (Nat.le_refl _) (.inr (Nat.le_refl _)))
  have hs2 : Hid (w1.heap.size ≤ w2.heap.size) := hide hu.size
  clear hu
  rw [if_pos (by omega)]
  go_wp2
  go_ret
  exact ⟨rfl, unhide hB⟩

set_option maxHeartbeats 4000000 in
set_option maxRecDepth 100000 in
theorem lawMakeChunk_short (d0 : Ck) (ad0_0 : Option Addr) (cap0_0 : Nat) (w : World)  (hz0 : (d0.1.size ≤ 9223372036854775807 ∧ d0.2.length ≤ 9223372036854775807)) (hn : d0.1.size + d0.2.length ≤ 1048576) (hA0_0 : ArgY w ad0_0 d0.2) (hR0 : InCk d0) :
    Calls Try.prog 3 #[.agg #[.string d0.1, .slice ad0_0 d0.2.length cap0_0]] w fun e w' => e = .returned (.bool true) ∧ Below w.heap.size w w' := by
  have hn0 : (d0.2.length ≤ 1048576) := by omega
  replace hA0_0 := hide hA0_0
  replace hR0 := hide hR0
  have hL := hide (chunkF_len d0.1 d0.2)
  have hB := hide (Below.refl w.heap.size w)
  go_enter Try.func3, Try.ntmps3
  have hleft0 : (0 : Int) ≤ 1048576 := by omega
  go_wp2_with fail
  have hu := Upd.of_below ((Below.refl w.heap.size w).alloc (Nat.le_refl _) (.cells #[.string d0.1, .slice ad0_0 d0.2.length cap0_0] 24)) 0 0
  replace hB := hide (below_upd (unhide hB) hu (Nat.le_refl _) (.inr (Nat.le_refl _)))
  have hs1 : Hid (w.heap.size + 1 ≤ (w.alloc (.cells #[.string d0.1, .slice ad0_0 d0.2.length cap0_0] 24)).heap.size) := hide (by simp)
  have cp0 := hide (held_new w [.string d0.1, .slice ad0_0 d0.2.length cap0_0] 24)
  clear hu
  generalize w.alloc (.cells #[.string d0.1, .slice ad0_0 d0.2.length cap0_0] 24) = w1 at  hB hs1 cp0 ⊢
  refine (szChunk_any d0.1 ad0_0 d0.2.length cap0_0 (1048576) w1 (by omega) (by omega) hz0.1 hz0.2).mono ?_
  rintro e w2 ⟨rfl, hu⟩
  replace cp0 := hide ((unhide cp0).keep hu)
  replace hB := hide (below_upd (unhide hB) hu (Nat.le_refl _) (.inr (Nat.le_refl _)))
  have hs2 : Hid (w1.heap.size ≤ w2.heap.size) := hide hu.size
  clear hu
  rw [if_neg (by omega)]
  have hleft0 : ¬ (1048576 - ((d0.1.size + d0.2.length : Nat) : Int) < 0) := by omega
  have kcp0_0 := (unhide cp0).2 0 _ rfl
  have kcp0_1 := (unhide cp0).2 1 _ rfl
  have kcp0_l := (unhide cp0).1
  go_wp2_with fail
  clear kcp0_0 kcp0_1 kcp0_l
  refine (toChunk_own _ d0 w2 hn0 ⟨_, rfl, ⟨ad0_0, cap0_0, rfl, (unhide hA0_0).below (unhide hB)⟩⟩).mono ?_
  rintro e w3 ⟨vy0_w0, rfl, ho, hu⟩
  replace cp0 := hide ((unhide cp0).keep hu)
  replace hB := hide (below_upd (unhide hB) hu (Nat.le_refl _) (.inr (Nat.le_refl _)))
  have hs3 : Hid (w2.heap.size ≤ w3.heap.size) := hide hu.size
  have y0_w0 := hide ho
  clear hu ho
  go_wp2_with fail
  refine (specMakeChunkD _ d0 w3  (by omega) (unhide hR0) (OwnCk.rn (unhide y0_w0))).mono ?_
  rintro e w4 ⟨vr0, rfl, ho, hu⟩
  replace y0_w0 := hide ((unhide y0_w0).keep hu)
  replace cp0 := hide ((unhide cp0).keep hu)
  replace hB := hide (below_upd (unhide hB) hu (Nat.le_refl _) (.inr (Nat.le_refl _)))
  have hs4 : Hid (w3.heap.size ≤ w4.heap.size) := hide hu.size
  have r0 := hide ho
  clear hu ho
  clear y0_w0
  have kcp0_0 := (unhide cp0).2 0 _ rfl
  have kcp0_1 := (unhide cp0).2 1 _ rfl
  have kcp0_l := (unhide cp0).1
  go_wp2_with fail
  clear kcp0_0 kcp0_1 kcp0_l
  refine (toChunk_own _ d0 w4 hn0 ⟨_, rfl, ⟨ad0_0, cap0_0, rfl, (unhide hA0_0).below (unhide hB)⟩⟩).mono ?_
  rintro e w5 ⟨vx0, rfl, ho, hu⟩
  replace r0 := hide ((unhide r0).keep hu)
  replace cp0 := hide ((unhide cp0).keep hu)
  replace hB := hide (below_upd (unhide hB) hu (Nat.le_refl _) (.inr (Nat.le_refl _)))
  have hs5 : Hid (w4.heap.size ≤ w5.heap.size) := hide hu.size
  have x0 := hide ho
  clear hu ho
  obtain ⟨adx0_0, capx0_0, hvx0⟩ := OwnCk.form (unhide x0)
  subst hvx0
  go_wp2_with fail
  have hu := Upd.of_below ((Below.refl w5.heap.size w5).alloc (Nat.le_refl _) (.cells #[.string d0.1, .slice adx0_0 d0.2.length capx0_0] 27)) 0 0
  replace r0 := hide ((unhide r0).keep hu)
  replace x0 := hide ((unhide x0).keep hu)
  replace cp0 := hide ((unhide cp0).keep hu)
  replace hB := hide (below_upd (unhide hB) hu (Nat.le_refl _) (.inr (Nat.le_refl _)))
  have hs6 : Hid (w5.heap.size + 1 ≤ (w5.alloc (.cells #[.string d0.1, .slice adx0_0 d0.2.length capx0_0] 27)).heap.size) := hide (by simp)
  have cx0 := hide (held_new w5 [.string d0.1, .slice adx0_0 d0.2.length capx0_0] 27)
  clear hu
  generalize w5.alloc (.cells #[.string d0.1, .slice adx0_0 d0.2.length capx0_0] 27) = w6 at r0 x0 cp0 hB hs6 cx0 ⊢
  refine (implMakeChunkD _ d0 w6  (by omega) (unhide hR0) (OwnCk.rn (unhide x0))).mono ?_
  rintro e w7 ⟨vr1, rfl, ho, hu⟩
  replace r0 := hide ((unhide r0).keep hu)
  replace x0 := hide ((unhide x0).keep hu)
  replace cp0 := hide ((unhide cp0).keep hu)
  replace cx0 := hide ((unhide cx0).keep hu)
  replace hB := hide (below_upd (unhide hB) hu (Nat.le_refl _) (.inr (Nat.le_refl _)))
  have hs7 : Hid (w6.heap.size ≤ w7.heap.size) := hide hu.size
  have r1 := hide ho
  clear hu ho
  go_wp2_with fail
  refine (eqByteY_rd vr1 vr0 (chunkF d0.1 d0.2) w7 (unhide hL) (OwnY.rd (unhide r1)) (OwnY.rd (unhide r0))).mono ?_
  rintro e w8 ⟨rfl, hu⟩
  replace r0 := hide ((unhide r0).keep hu)
  replace x0 := hide ((unhide x0).keep hu)
  replace r1 := hide ((unhide r1).keep hu)
  replace cp0 := hide ((unhide cp0).keep hu)
  replace cx0 := hide ((unhide cx0).keep hu)
  replace hB := hide (below_upd (unhide hB) hu (Nat.le_refl _) (.inr (Nat.le_refl _)))
  have hs8 : Hid (w7.heap.size ≤ w8.heap.size) := hide hu.size
  clear hu
  have kcx0_0 := (unhide cx0).2 0 _ rfl
  have kcx0_1 := (unhide cx0).2 1 _ rfl
  have kcx0_l := (unhide cx0).1
  have kcp0_0 := (unhide cp0).2 0 _ rfl
  have kcp0_1 := (unhide cp0).2 1 _ rfl
  have kcp0_l := (unhide cp0).1
  have hTo := hide (toChunk_own _ d0 w8.drew hn0 ⟨_, rfl, ⟨ad0_0, cap0_0, rfl, (unhide hA0_0).below (below_drewN (unhide hB) 1)⟩⟩)
  go_wp2_with fail
  go_region_held3 (fun w' => w'.cell? ⟨w5.heap.size, 0, none⟩ = some (.string d0.1) ∧ w'.cell? ⟨w5.heap.size, 1, none⟩ = some (.slice adx0_0 d0.2.length capx0_0) ∧ w'.cell? ⟨w.heap.size, 0, none⟩ = some (.string d0.1) ∧ w'.cell? ⟨w.heap.size, 1, none⟩ = some (.slice ad0_0 d0.2.length cap0_0)) (first | (exact ⟨((hut.trans huf).none.cell kcx0_l).trans kcx0_0, ((hut.trans huf).none.cell kcx0_l).trans kcx0_1, ((hut.trans huf).none.cell kcp0_l).trans kcp0_0, ((hut.trans huf).none.cell kcp0_l).trans kcp0_1⟩) | (exact ⟨(hut.none.cell kcx0_l).trans kcx0_0, (hut.none.cell kcx0_l).trans kcx0_1, (hut.none.cell kcp0_l).trans kcp0_0, (hut.none.cell kcp0_l).trans kcp0_1⟩) | go_keep) (first | (go_at_call 6; refine (unhide hTo).mono ?_; rintro e wt ⟨vt, rfl, hot, hut⟩) | (go_at_call 9; refine (eqChunk_rd _ _ d0 _ hn0 (OwnCk.rd (OwnCk.keep (unhide x0) (Upd.trans (Upd.drew1 _) hut))) (OwnCk.rd hot)).mono ?_; rintro e wf ⟨rfl, huf⟩))
  clear hTo kcx0_0 kcx0_1 kcx0_l kcp0_0 kcp0_1 kcp0_l
  have hu : Upd 0 0 w8 wf := (Upd.drew1 _).trans (hut.trans huf)
  clear hut hot huf
  replace r0 := hide ((unhide r0).keep hu)
  replace x0 := hide ((unhide x0).keep hu)
  replace r1 := hide ((unhide r1).keep hu)
  replace cp0 := hide ((unhide cp0).keep hu)
  replace cx0 := hide ((unhide cx0).keep hu)
  replace hB := hide (below_upd (unhide hB) hu (Nat.le_refl _) (.inr (Nat.le_refl _)))
  have hs9 : Hid (w8.heap.size ≤ wf.heap.size) := hide hu.size
  clear hu
  generalize wf = w9 at r0 x0 r1 cp0 cx0 hB hs9 ⊢
  have kcx0_0 := (unhide cx0).2 0 _ rfl
  have kcx0_1 := (unhide cx0).2 1 _ rfl
  have kcx0_l := (unhide cx0).1
  go_wp2_with fail
  clear kcx0_0 kcx0_1 kcx0_l
  refine (markChunk_own (1) hn0 (by omega) (unhide x0)).mono ?_
  rintro e w10 ⟨rfl, ho, hu⟩
  replace r0 := hide ((unhide r0).upd hu (by have := unhide hs1; have := unhide hs2; have := unhide hs3; have := unhide hs4; have := unhide hs5; have := unhide hs6; have := unhide hs7; have := unhide hs8; have := unhide hs9; omega))
  replace r1 := hide ((unhide r1).upd hu (by have := unhide hs1; have := unhide hs2; have := unhide hs3; have := unhide hs4; have := unhide hs5; have := unhide hs6; have := unhide hs7; have := unhide hs8; have := unhide hs9; omega))
  replace cp0 := hide ((unhide cp0).upd hu (by have := unhide hs1; have := unhide hs2; have := unhide hs3; have := unhide hs4; have := unhide hs5; have := unhide hs6; have := unhide hs7; have := unhide hs8; have := unhide hs9; omega))
  replace cx0 := hide ((unhide cx0).upd hu (by have := unhide hs1; have := unhide hs2; have := unhide hs3; have := unhide hs4; have := unhide hs5; have := unhide hs6; have := unhide hs7; have := unhide hs8; have := unhide hs9; omega))
  replace hB := hide (below_upd (unhide hB) hu (Nat.le_refl _) (by have := unhide hs1; have := unhide hs2; have := unhide hs3; have := unhide hs4; have := unhide hs5; have := unhide hs6; have := unhide hs7; have := unhide hs8; have := unhide hs9; omega))
  replace x0 := hide ho
  have hs10 : Hid (w9.heap.size ≤ w10.heap.size) := hide hu.size
  clear hu ho
  have hk0 : ¬ (((1 + CkCount d0 : Nat) : Int) < 0) := by omega
  go_wp2_with fail
  refine (eqByteY_rd vr1 vr0 (chunkF d0.1 d0.2) w10 (unhide hL) (OwnY.rd (unhide r1)) (OwnY.rd (unhide r0))).mono ?_
  rintro e w11 ⟨rfl, hu⟩
  replace r0 := hide ((unhide r0).keep hu)
  replace x0 := hide ((unhide x0).keep hu)
  replace r1 := hide ((unhide r1).keep hu)
  replace cp0 := hide ((unhide cp0).keep hu)
  replace cx0 := hide ((unhide cx0).keep hu)
  replace hB := hide (below_upd (unhide hB) hu (Nat.le_refl _) (.inr (Nat.le_refl _)))
  have hs11 : Hid (w10.heap.size ≤ w11.heap.size) := hide hu.size
  clear hu
  clear x0
  go_wp2_with fail
  refine (markByteY_own (w6.heap.size) (w7.heap.size) vr1 (1) (chunkF d0.1 d0.2) w11 (unhide hL) (by omega) (unhide r1)).mono ?_
  rintro e w12 ⟨rfl, ho, hu⟩
  replace r0 := hide ((unhide r0).upd hu (by have := unhide hs1; have := unhide hs2; have := unhide hs3; have := unhide hs4; have := unhide hs5; have := unhide hs6; have := unhide hs7; have := unhide hs8; have := unhide hs9; have := unhide hs10; have := unhide hs11; omega))
  replace cp0 := hide ((unhide cp0).upd hu (by have := unhide hs1; have := unhide hs2; have := unhide hs3; have := unhide hs4; have := unhide hs5; have := unhide hs6; have := unhide hs7; have := unhide hs8; have := unhide hs9; have := unhide hs10; have := unhide hs11; omega))
  replace cx0 := hide ((unhide cx0).upd hu (by have := unhide hs1; have := unhide hs2; have := unhide hs3; have := unhide hs4; have := unhide hs5; have := unhide hs6; have := unhide hs7; have := unhide hs8; have := unhide hs9; have := unhide hs10; have := unhide hs11; omega))
  replace hB := hide (below_upd (unhide hB) hu (Nat.le_refl _) (by have := unhide hs1; have := unhide hs2; have := unhide hs3; have := unhide hs4; have := unhide hs5; have := unhide hs6; have := unhide hs7; have := unhide hs8; have := unhide hs9; have := unhide hs10; have := unhide hs11; omega))
  replace r1 := hide ho
  have hs12 : Hid (w11.heap.size ≤ w12.heap.size) := hide hu.size
  clear hu ho
  go_wp2_with fail
  refine (upd_of_same (heldByteY_own (w6.heap.size) (w7.heap.size) vr1 1 (chunkF d0.1 d0.2).length w12 (unhide hL) (by omega) (unhide r1))).mono ?_
  rintro e w13 ⟨rfl, hu⟩
  replace r0 := hide ((unhide r0).keep hu)
  replace r1 := hide ((unhide r1).keep hu)
  replace cp0 := hide ((unhide cp0).keep hu)
  replace cx0 := hide ((unhide cx0).keep hu)
  replace hB := hide (below_upd (unhide hB) hu (Nat.le_refl _) (.inr (Nat.le_refl _)))
  have hs13 : Hid (w12.heap.size ≤ w13.heap.size) := hide hu.size
  clear hu
  have hq0 : ¬ (((1 + (chunkF d0.1 d0.2).length : Nat) : Int) < 0) := by omega
  have kcp0_0 := (unhide cp0).2 0 _ rfl
  have kcp0_1 := (unhide cp0).2 1 _ rfl
  have kcp0_l := (unhide cp0).1
  go_wp2_with fail
  clear kcp0_0 kcp0_1 kcp0_l
  refine (toChunk_own _ d0 w13 hn0 ⟨_, rfl, ⟨ad0_0, cap0_0, rfl, (unhide hA0_0).below (unhide hB)⟩⟩).mono ?_
  rintro e w14 ⟨vy0_h0, rfl, ho, hu⟩
  replace r0 := hide ((unhide r0).keep hu)
  replace r1 := hide ((unhide r1).keep hu)
  replace cp0 := hide ((unhide cp0).keep hu)
  replace cx0 := hide ((unhide cx0).keep hu)
  replace hB := hide (below_upd (unhide hB) hu (Nat.le_refl _) (.inr (Nat.le_refl _)))
  have hs14 : Hid (w13.heap.size ≤ w14.heap.size) := hide hu.size
  have y0_h0 := hide ho
  clear hu ho
  go_wp2_with fail
  refine (implMakeChunkD _ d0 w14  (by omega) (unhide hR0) (OwnCk.rn (unhide y0_h0))).mono ?_
  rintro e w15 ⟨vr2, rfl, ho, hu⟩
  replace r0 := hide ((unhide r0).keep hu)
  replace r1 := hide ((unhide r1).keep hu)
  replace y0_h0 := hide ((unhide y0_h0).keep hu)
  replace cp0 := hide ((unhide cp0).keep hu)
  replace cx0 := hide ((unhide cx0).keep hu)
  replace hB := hide (below_upd (unhide hB) hu (Nat.le_refl _) (.inr (Nat.le_refl _)))
  have hs15 : Hid (w14.heap.size ≤ w15.heap.size) := hide hu.size
  have r2 := hide ho
  clear hu ho
  clear y0_h0
  go_wp2_with fail
  refine (eqByteY_rd vr2 vr0 (chunkF d0.1 d0.2) w15 (unhide hL) (OwnY.rd (unhide r2)) (OwnY.rd (unhide r0))).mono ?_
  rintro e w16 ⟨rfl, hu⟩
  replace r0 := hide ((unhide r0).keep hu)
  replace r1 := hide ((unhide r1).keep hu)
  replace r2 := hide ((unhide r2).keep hu)
  replace cp0 := hide ((unhide cp0).keep hu)
  replace cx0 := hide ((unhide cx0).keep hu)
  replace hB := hide (below_upd (unhide hB) hu (Nat.le_refl _) (.inr (Nat.le_refl _)))
  have hs16 : Hid (w15.heap.size ≤ w16.heap.size) := hide hu.size
  clear hu
  go_wp2_with fail
  refine (upd_of_same (heldByteY_own (w6.heap.size) (w7.heap.size) vr1 1 (chunkF d0.1 d0.2).length w16 (unhide hL) (by omega) (unhide r1))).mono ?_
  rintro e w17 ⟨rfl, hu⟩
  replace r0 := hide ((unhide r0).keep hu)
  replace r1 := hide ((unhide r1).keep hu)
  replace r2 := hide ((unhide r2).keep hu)
  replace cp0 := hide ((unhide cp0).keep hu)
  replace cx0 := hide ((unhide cx0).keep hu)
  replace hB := hide (below_upd (unhide hB) hu (Nat.le_refl _) (.inr (Nat.le_refl _)))
  have hs17 : Hid (w16.heap.size ≤ w17.heap.size) := hide hu.size
  clear hu
  go_wp2_with fail
  go_ret
  exact ⟨rfl, unhide hB⟩

theorem lawMakeChunk (d0 : Ck) (ad0_0 : Option Addr) (cap0_0 : Nat) (w : World)  (hz0 : (d0.1.size ≤ 9223372036854775807 ∧ d0.2.length ≤ 9223372036854775807)) (hA0_0 : ArgY w ad0_0 d0.2) (hR0 : InCk d0) :
    Calls Try.prog 3 #[.agg #[.string d0.1, .slice ad0_0 d0.2.length cap0_0]] w fun e w' => e = .returned (.bool true) ∧ Below w.heap.size w w' := by
  by_cases h0 : 1048576 < d0.1.size + d0.2.length
  · exact lawMakeChunk_long0 d0 ad0_0 cap0_0 w hz0 h0
  exact lawMakeChunk_short d0 ad0_0 cap0_0 w  hz0 (by omega) hA0_0 hR0
end Go.Proofs.Ythpkngipiapbpaa
