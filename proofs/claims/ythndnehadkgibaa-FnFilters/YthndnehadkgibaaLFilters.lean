/- The law of filters, walked: a drawn row filtered in each way by the program and by the specification, and unfiltered again. -/
import Derived.Test.YthndnehadkgibaaWDraF
import Derived.Test.YthndnehadkgibaaWFiB
import Derived.Test.YthndnehadkgibaaWFiC
import Derived.Test.YthndnehadkgibaaWFiG
import Derived.Test.YthndnehadkgibaaWFiH
import Derived.Test.YthndnehadkgibaaWBeA
import Derived.Test.YthndnehadkgibaaWBeB
import Derived.Test.YthndnehadkgibaaWDw
import Derived.Test.YthndnehadkgibaaLRows
namespace Go.Proofs.Ythndnehadkgibaa
open Go.RowKit

set_option maxHeartbeats 4000000 in
theorem drawFilterRow (ad : Option Addr) (cap : Nat) (zs : List Int) (w : World) (h : ArgB w ad zs) (hl : zs.length ≤ 1048576) :
    Calls Try.prog 11 #[.slice ad zs.length cap] w fun e w' => ∃ (q s : Int) (u : Value) (ab : List Int) (v : Value) (row : List Int), e = .returned (.tuple #[.int .i64 q, .int .i64 s, u, v]) ∧ (-2 ≤ q ∧ q ≤ 10) ∧ (-1 ≤ s ∧ s ≤ 10) ∧ ab.length ≤ 30 ∧ row.length ≤ 30 ∧ InB ab ∧ InB row ∧
      OwnY w' (w.heap.size + 1) w'.heap.size u ab ∧ OwnY w' (w.heap.size + 1) w'.heap.size v row ∧ Below w.heap.size w w' := by
  have hL := hide (specL4Rows ad cap zs w h hl)
  have hpick := hide (fun (m' : Nat) (n : Int) (W : World) (hc : CurIn W w.heap.size ad cap zs m') (h1 : m' ≤ 1099511627000) (h2 : n ≤ 1000000) => curPickAny w.heap.size ad cap zs m' n W hc h1 hl h2)
  have hone := hide (fun (m' : Nat) (n : Int) (W : World) (hc : CurIn W w.heap.size ad cap zs m') (h1 : m' ≤ 1099511627000) (h2 : 1 < n ∧ n ≤ 200) => curOne w.heap.size ad cap zs m' n W hc (by omega) hl h2.1 h2.2)
  clear h
  go_enter Try.func11, Try.ntmps11
  go_wp2_with fail
  refine (unhide hL).mono ?_
  rintro e W1 ⟨s, u, ab, v, row, rfl, hs, hal, hrl, haB, hrB, hao, hro, hcx, hb⟩
  clear hL
  obtain ⟨hs0, hs1⟩ := hs
  replace haB := hide haB
  replace hrB := hide hrB
  have hb1 := hide hb
  have hc1 := hide hcx
  have hr1 := hide hro
  have ha1 := hide hao
  clear hb hcx hro hao
  go_wp2_with fail
  refine (unhide hpick 1000 5 W1 (unhide hc1) (by omega) (by omega)).mono ?_
  rintro e W2 ⟨q, rfl, q0, q1, hcx, hox⟩
  replace q1 := q1 (by omega)
  have hb2 := hide ((unhide hb1).trans (hox.below (Nat.le_refl _) (unhide hb1).size))
  have hc2 := hide hcx
  have hr2 := hide (own_mono ((unhide hr1).only (by omega) hox) (Nat.le_refl _) hox.size)
  have ha2 := hide (own_mono ((unhide ha1).only (by omega) hox) (Nat.le_refl _) hox.size)
  clear hcx hox hc1 hb1 hr1 ha1
  go_wp2_with fail
  refine (unhide hone (1000 + 3) 12 W2 (unhide hc2) (by omega) (by omega)).mono ?_
  rintro e W3 ⟨b, rfl, hcx, hox⟩
  have hb3 := hide ((unhide hb2).trans (hox.below (Nat.le_refl _) (unhide hb2).size))
  have hc3 := hide hcx
  have hr3 := hide (own_mono ((unhide hr2).only (by omega) hox) (Nat.le_refl _) hox.size)
  have ha3 := hide (own_mono ((unhide ha2).only (by omega) hox) (Nat.le_refl _) hox.size)
  clear hcx hox hc2 hb2 hr2 ha2
  cases b
  · clear hc3
    go_wp2
    (try simp only [Exit.inBlock, Exit.then])
    refine bodyPost_ret (results_tmp4 rfl _ _ _) rfl ?_
    exact ⟨q, s, u, ab, v, row, rfl, by omega, by omega, hal, hrl, unhide haB, unhide hrB, unhide ha3, unhide hr3, unhide hb3⟩
  · go_wp2_with fail
    refine (unhide hpick (1000 + 3 + 1) 8 W3 (unhide hc3) (by omega) (by omega)).mono ?_
    rintro e W4 ⟨q2, rfl, q20, q21, hcx, hox⟩
    replace q21 := q21 (by omega)
    have hb4 := hide ((unhide hb3).trans (hox.below (Nat.le_refl _) (unhide hb3).size))
    have hr4 := hide (own_mono ((unhide hr3).only (by omega) hox) (Nat.le_refl _) hox.size)
    have ha4 := hide (own_mono ((unhide ha3).only (by omega) hox) (Nat.le_refl _) hox.size)
    clear hcx hox hc3 hb3 hr3 ha3
    go_wp2
    (try simp only [Exit.inBlock, Exit.then])
    refine bodyPost_ret (results_tmp4 rfl _ _ _) rfl ?_
    exact ⟨q2 - 2, s, u, ab, v, row, rfl, by omega, by omega, hal, hrl, unhide haB, unhide hrB, unhide ha4, unhide hr4, unhide hb4⟩

theorem filt_kind {step : Int} {ab row : List Int} (h : filtOk 0 step ab row) {k : Nat} (hk : k ≤ 4) : filtOk k step ab row := ⟨by omega, by omega, h.2.2⟩
theorem filt_len {kind step : Int} {ab row : List Int} (h : filtOk kind step ab row) : (filtF kind step ab row).length = row.length := by rw [filtF_yes h]; unfold filtL; simp
theorem unf_back {kind step : Int} {ab row : List Int} (h : filtOk kind step ab row) (hr : InB row) : unfF kind step ab (filtF kind step ab row) = row := by
  have hl := filt_len h
  have hok : filtOk kind step ab (filtF kind step ab row) := by
    obtain ⟨a1, a2, a3, a4, a5, a6⟩ := h
    exact ⟨a1, a2, a3, a4, by rw [hl]; exact a5, by rw [hl]; exact a6⟩
  rw [unfF_yes hok, hl, filtF_yes h, unf_filt _ _ _ _ h.2.2.1 hr _ (Nat.le_refl _)]
  exact List.take_of_length_le (Nat.le_refl _)

set_option maxHeartbeats 1000000 in
theorem lawFilters_long (ad : Option Addr) (cap : Nat) (zs : List Int) (w : World) (hn : 1048576 < zs.length) :
    Calls Try.prog 3 #[.slice ad zs.length cap] w fun e w' => e = .returned (.bool true) ∧ Below w.heap.size w w' := by
  go_enter Try.func3, Try.ntmps3
  go_wp2
  go_ret
  exact ⟨rfl, Below.refl _ _⟩

set_option maxHeartbeats 8000000 in
theorem lawFilters_short (ad : Option Addr) (cap : Nat) (zs : List Int) (w : World) (hA : ArgY w ad zs) (hR : InB zs) (hn : zs.length ≤ 1048576) :
    Calls Try.prog 3 #[.slice ad zs.length cap] w fun e w' => e = .returned (.bool true) ∧ Below w.heap.size w w' := by
  have hK := hide (drawFilterRow ad cap zs w (argB_of_Y hA hR) hn)
  clear hA hR
  go_enter Try.func3, Try.ntmps3
  go_wp2_with fail
  refine (unhide hK).mono ?_
  rintro e w1 ⟨q, s, u, ab, v, row, rfl, hq, hs, hal, hrl, haB, hrB, hao, hro, hB⟩
  obtain ⟨hs0, hs1⟩ := hs
  clear hK hq
  replace haB := hide haB
  replace hrB := hide hrB
  replace hB := hide hB
  have a0 := hide hao
  have r0 := hide hro
  clear hao hro
  have hal2 : ab.length ≤ 1048576 := by omega
  have hrl2 : row.length ≤ 1048576 := by omega
  go_wp2_with fail
  refine (implBestKind s u ab v row w1 (by omega) (by omega) hal2 (unhide haB) (OwnY.rd (unhide a0)) hrl2 (unhide hrB) (OwnY.rd (unhide r0))).mono ?_
  rintro e w2 ⟨rfl, hu⟩
  replace a0 := hide ((unhide a0).keep hu)
  replace r0 := hide ((unhide r0).keep hu)
  replace hB := hide (below_upd (unhide hB) hu (Nat.le_refl _) (.inr (Nat.le_refl _)))
  clear hu
  go_wp2_with fail
  refine (specBestKind s u ab v row w2 (by omega) (by omega) hal2 (unhide haB) (OwnY.rd (unhide a0)) hrl2 (unhide hrB) (OwnY.rd (unhide r0))).mono ?_
  rintro e w3 ⟨rfl, hu⟩
  replace a0 := hide ((unhide a0).keep hu)
  replace r0 := hide ((unhide r0).keep hu)
  replace hB := hide (below_upd (unhide hB) hu (Nat.le_refl _) (.inr (Nat.le_refl _)))
  clear hu
  by_cases hok : filtOk 0 s ab row
  · have hbf : 0 ≤ bestF s ab row ∧ bestF s ab row ≤ 1005 := by rw [bestF_yes hok]; have := (bestTo_bd s ab row 5).1; omega
    generalize bestF s ab row = bf at hbf ⊢
    obtain ⟨hbf0, hbf1⟩ := hbf
    have qbf : decide (bf < 0) = false := decide_eq_false (by omega)
    replace hok := hide hok
    go_wp2_with fail
    go_loopw [8] (fun i wr => ∃ k : Nat, k ≤ 5 ∧ i = .int .i64 k ∧ Hid (OwnY wr (w.heap.size + 1) w1.heap.size u ab) ∧ Hid (OwnY wr (w.heap.size + 1) w1.heap.size v row) ∧ Hid (Below w.heap.size w wr)) (fun i _ => 5 - (intOf i).toNat)
    case atStart => exact ⟨0, by omega, rfl, a0, r0, hB⟩
    case round =>
      clear a0 r0 hB
      obtain ⟨k, hk, rfl, a0, r0, hB⟩ := hrel
      by_cases hlt : k ≤ 4
      · have hkI : (k : Int) ≤ 4 := by omega
        have hF := hide (filtF_len k s ab row)
        go_wp2_with fail
        refine (implFilterRow k s u ab v row wr (by omega) (by omega) (by omega) (by omega) hal2 (unhide haB) (OwnY.rd (unhide a0)) hrl2 (unhide hrB) (OwnY.rd (unhide r0))).mono ?_
        rintro e w4 ⟨x1, rfl, ho, hu⟩
        replace a0 := hide ((unhide a0).keep hu)
        replace r0 := hide ((unhide r0).keep hu)
        replace hB := hide (below_upd (unhide hB) hu (Nat.le_refl _) (.inr (Nat.le_refl _)))
        have x0 := hide ho
        clear hu ho
        go_wp2_with fail
        refine (specFilterRow k s u ab v row w4 (by omega) (by omega) (by omega) (by omega) hal2 (unhide haB) (OwnY.rd (unhide a0)) hrl2 (unhide hrB) (OwnY.rd (unhide r0))).mono ?_
        rintro e w5 ⟨x2, rfl, ho, hu⟩
        replace a0 := hide ((unhide a0).keep hu)
        replace r0 := hide ((unhide r0).keep hu)
        replace x0 := hide ((unhide x0).keep hu)
        replace hB := hide (below_upd (unhide hB) hu (Nat.le_refl _) (.inr (Nat.le_refl _)))
        have y0 := hide ho
        clear hu ho
        go_wp2_with fail
        refine (wBytes_rd x1 x2 (filtF k s ab row) w5 (unhide hF) (OwnY.rd (unhide x0)) (OwnY.rd (unhide y0))).mono ?_
        rintro e w6 ⟨rfl, hu⟩
        replace a0 := hide ((unhide a0).keep hu)
        replace r0 := hide ((unhide r0).keep hu)
        replace x0 := hide ((unhide x0).keep hu)
        replace hB := hide (below_upd (unhide hB) hu (Nat.le_refl _) (.inr (Nat.le_refl _)))
        clear hu y0
        go_wp2_with fail
        refine (implUnfilterRow k s u ab x1 (filtF k s ab row) w6 (by omega) (by omega) (by omega) (by omega) hal2 (unhide haB) (OwnY.rd (unhide a0)) (unhide hF) (filtF_inB _ _ _ _) (OwnY.rd (unhide x0))).mono ?_
        rintro e w7 ⟨x3, rfl, ho, hu⟩
        rw [unf_back (filt_kind (unhide hok) hlt) (unhide hrB)] at ho
        replace a0 := hide ((unhide a0).keep hu)
        replace r0 := hide ((unhide r0).keep hu)
        replace hB := hide (below_upd (unhide hB) hu (Nat.le_refl _) (.inr (Nat.le_refl _)))
        have z0 := hide ho
        clear hu ho x0
        go_wp2_with fail
        refine (wBytes_rd x3 v row w7 hrl2 (OwnY.rd (unhide z0)) (OwnY.rd (unhide r0))).mono ?_
        rintro e w8 ⟨rfl, hu⟩
        replace a0 := hide ((unhide a0).keep hu)
        replace r0 := hide ((unhide r0).keep hu)
        replace hB := hide (below_upd (unhide hB) hu (Nat.le_refl _) (.inr (Nat.le_refl _)))
        clear hu z0
        go_wp2_with fail
        go_roundw
        case rel => exact ⟨k + 1, by omega, by go_num, a0, r0, hB⟩
        case measure => simp [intOf]; omega
      · have hk5 : k = 5 := by omega
        subst hk5
        go_wp2
        go_ret
        exact ⟨rfl, unhide hB⟩
  · have hno := hide (filtF_no hok)
    rw [bestF_no hok]
    go_wp2_with fail
    refine (implFilterRow 0 s u ab v row w3 (by omega) (by omega) (by omega) (by omega) hal2 (unhide haB) (OwnY.rd (unhide a0)) hrl2 (unhide hrB) (OwnY.rd (unhide r0))).mono ?_
    rintro e w4 ⟨x1, rfl, ho, hu⟩
    rw [unhide hno] at ho
    replace hB := hide (below_upd (unhide hB) hu (Nat.le_refl _) (.inr (Nat.le_refl _)))
    obtain ⟨ad1, cap1, rfl, _⟩ := OwnY.rd ho
    clear ho hu
    go_wp2
    go_ret
    exact ⟨rfl, unhide hB⟩

theorem lawFilters (ad0 : Option Addr) (cap0 : Nat) (zs0 : List Int) (w : World) (hA0 : ArgY w ad0 zs0) (hR0 : InB zs0) :
    Calls Try.prog 3 #[.slice ad0 zs0.length cap0] w fun e w' => e = .returned (.bool true) ∧ Below w.heap.size w w' := by
  by_cases h0 : 1048576 < zs0.length
  · exact lawFilters_long ad0 cap0 zs0 w h0
  exact lawFilters_short ad0 cap0 zs0 w hA0 hR0 (by omega)
end Go.Proofs.Ythndnehadkgibaa
