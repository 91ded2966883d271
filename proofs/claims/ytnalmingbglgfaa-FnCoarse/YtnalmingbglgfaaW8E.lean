/- Fine numbers, and both for any lists: the specification's walks. -/
import Derived.Test.YtnalmingbglgfaaW8D
namespace Go.Proofs.Ytnalmingbglgfaa
open Go.RowKit

set_option maxHeartbeats 16000000 in
set_option maxRecDepth 100000 in
theorem specL8Fine (ad ad' : Option Addr) (cap cap' : Nat) (zs ts : List Int) (w : World) (hb : BlOk zs) (ht : ScOk ts) (hA : ArgI w ad zs) (hA' : ArgI w ad' ts) :
    Calls Try.prog 79 #[.slice ad zs.length cap, .slice ad' ts.length cap'] w fun e w' => ∃ v, e = .returned v ∧ OwnI w' w.heap.size w'.heap.size v (twoF fineZ zs ts) ∧ Upd 0 0 w w' := by
  obtain ⟨i0, hi, hz0, hz1, hz2⟩ := info_parts infoI
  have hF := hide (twoF_yes (g := fineZ) hb ht)
  obtain ⟨hl, hbd⟩ := hb
  obtain ⟨hl', hbd'⟩ := ht
  replace hbd := hide hbd
  replace hbd' := hide hbd'
  replace hA := hide hA
  replace hA' := hide hA'
  rw [hl, hl']
  go_enter Try.func79, Try.ntmps79
  go_wp2_with (at_make; refine wpList_make_full _ rfl _ _ 23 rfl w.heap.size 3 i0 (.int .i64 0) 1 Try.underlying23 hi hz0 hz1 .i64 .i64 _ _ 64 rfl rfl (by omega) (by omega) (by rw [hz2]; omega) (by unfold maxLen; omega) (Nat.le_refl _) ?_; intro w1 hown hgrow)
  have hbel := (Below.refl w.heap.size w).grown hgrow (Nat.le_refl _) (by simp)
  generalize hG : (fun i => fineZ (zs.getD i 0) (ts.getD i 0)) = G at hF
  have hG2 : Hid (∀ k, G k = fineZ (zs.getD k 0) (ts.getD k 0)) := hide (fun k => by rw [← hG])
  clear hG
  have hown0 : w1.ownsRow w.heap.size 3 1 (.slice (some ⟨w.heap.size, 0, none⟩) 64 64) 64 (partI (tab G) 0) := by
    rw [partI_zero]; simpa [toList_madeCells_one, Value.cells] using hown
  have hbel := hide hbel
  clear hown hgrow
  go_loopw [12] (fun i wr => ∃ k : Nat, k ≤ 64 ∧ i = .int .i64 k ∧ wr.ownsRow w.heap.size 3 1 (.slice (some ⟨w.heap.size, 0, none⟩) 64 64) 64 (partI (tab G) k) ∧ Hid (Below w.heap.size w wr)) (fun i _ => 64 - (intOf i).toNat)
  case atStart => exact ⟨0, Nat.zero_le _, rfl, hown0, hbel⟩
  case round =>
    clear hown0 hbel
    obtain ⟨k, hk, rfl, hown, hbel⟩ := hrel
    by_cases hlt : k < 64
    · obtain ⟨b, off, rfl, hbl, hc⟩ := (unhide hA) (ne_of_lt_length (k := k) (by omega))
      obtain ⟨b', off', rfl, hbl', hc'⟩ := (unhide hA') (ne_of_lt_length (k := k) (by omega))
      have hck : wr.cell? ⟨b, off + k, none⟩ = some (.int .i64 (zs.getD k 0)) := ((unhide hbel).cell (by simpa using hbl)).trans (hc k (by omega))
      have hck' : wr.cell? ⟨b', off' + k, none⟩ = some (.int .i64 (ts.getD k 0)) := ((unhide hbel).cell (by simpa using hbl')).trans (hc' k (by omega))
      have hx := (unhide hbd) k (by omega)
      have ht := (unhide hbd') k (by omega)
      have hps := partI_set (tab G) k (by simpa using hlt)
      rw [tab_getD _ k hlt, unhide hG2 k] at hps
      generalize zs.getD k 0 = x at hck hps hx
      generalize ts.getD k 0 = t at hck' hps ht
      obtain ⟨x0, x1⟩ := hx
      obtain ⟨t0, t1⟩ := ht
      have hX : Hid (fineZ x t = if x * t < -32768 then -32768 else if 32767 < x * t then 32767 else x * t) := hide rfl
      generalize fineZ x t = y at hps hX
      obtain ⟨P, hP⟩ : ∃ P, x * t = P := ⟨_, rfl⟩
      have hP0 : -8355840 ≤ P := by
        have h1 : -32768 * t ≤ x * t := Int.mul_le_mul_of_nonneg_right x0 (by omega)
        rw [hP] at h1; omega
      have hP1 : P ≤ 8355840 := by
        have h1 : x * t ≤ 32768 * t := Int.mul_le_mul_of_nonneg_right (by omega) (by omega)
        rw [hP] at h1; omega
      rw [hP] at hX
      have hdst : ∃ u, wr.cell? ⟨w.heap.size, k, none⟩ = some u := by
        rw [hown.cellAt k (by omega)]; exact ⟨_, List.getElem?_eq_getElem (by have := hown.1; omega)⟩
      obtain ⟨u, hdst⟩ := hdst
      have hfz := hown.frozenAt k
      have hst := (hown.stored k (.int .i64 y)).1
      rw [hps] at hst
      have hb2 := hide ((unhide hbel).setCell (p := ⟨w.heap.size, k, none⟩) (Nat.le_refl _) (.int .i64 y))
      replace hst := hide hst
      clear hown hps hc hc' hbl hbl'
      have kI : (0 : Int) ≤ (k : Int) := by omega
      have kL : (k : Int) < 64 := by omega
      have hXX := unhide hX
      by_cases p1 : P < -32768
      · rw [if_pos p1] at hXX
        subst hXX
        clear hX
        go_wp2
        go_roundw
        case rel => exact ⟨k + 1, by omega, by go_num, unhide hst, hb2⟩
        case measure => simp [intOf]; omega
      · rw [if_neg p1] at hXX
        by_cases p2 : 32767 < P
        · rw [if_pos p2] at hXX
          subst hXX
          clear hX
          go_wp2
          go_roundw
          case rel => exact ⟨k + 1, by omega, by go_num, unhide hst, hb2⟩
          case measure => simp [intOf]; omega
        · rw [if_neg p2] at hXX
          subst hXX
          clear hX
          go_wp2
          go_roundw
          case rel => exact ⟨k + 1, by omega, by go_num, unhide hst, hb2⟩
          case measure => simp [intOf]; omega
    · have hkl : k = 64 := by omega
      subst hkl
      have hl : (tab G).length = 64 := by simp
      have ha := partI_all (tab G)
      rw [hl] at ha
      rw [ha] at hown
      have hown2 : OwnI wr w.heap.size wr.heap.size (.slice (some ⟨w.heap.size, 0, none⟩) 64 64) (tab G) := by
        unfold OwnI; rw [hl]; exact Own.of hown
      replace hown2 := hide hown2
      clear hown ha hl
      go_wp2
      go_ret
      exact ⟨_, rfl, by rw [unhide hF]; exact unhide hown2, Upd.of_below (unhide hbel) 0 0⟩
set_option maxHeartbeats 4000000 in
theorem specCoarse (v0 : Value) (zs : List Int) (v1 : Value) (ts : List Int) (w : World) (hn : zs.length ≤ 1048576) (_hR : InI zs) (hv : RdI w v0 zs) (hn' : ts.length ≤ 1048576) (_hR' : InI ts) (hv' : RdI w v1 ts) :
    Calls Try.prog 24 #[v0, v1] w fun e w' => ∃ v, e = .returned v ∧ OwnI w' w.heap.size w'.heap.size v (twoF coarseZ zs ts) ∧ Upd 0 0 w w' := by
  obtain ⟨ad, cap, rfl, hA⟩ := hv
  obtain ⟨ad', cap', rfl, hA'⟩ := hv'
  have hB := hide (specL8Block ad cap zs w hn hA)
  have hS := hide (fun X (h : ArgI X ad' ts) => specL8Scales ad' cap' ts X hn' h)
  by_cases h1 : BlOk zs
  case neg =>
    rw [blB_no h1] at hB
    rw [twoF_no (fun h => h1 h.1)]
    clear hS h1
    go_enter Try.func24, Try.ntmps24
    go_wp2_with fail
    refine (unhide hB).mono ?_
    rintro e w1 ⟨rfl, hu⟩
    replace hu := hide hu
    clear hB
    go_wp2
    go_ret
    exact ⟨_, rfl, own_nilI _ _ _, unhide hu⟩
  rw [blB_yes h1] at hB
  by_cases h2 : ScOk ts
  case neg =>
    rw [scB_no h2] at hS
    rw [twoF_no (fun h => h2 h.2)]
    clear h1 h2
    go_enter Try.func24, Try.ntmps24
    go_wp2_with fail
    refine (unhide hB).mono ?_
    rintro e w1 ⟨rfl, hu⟩
    have hS1 := hide (unhide hS w1 (hA'.below hu.none))
    replace hu := hide hu
    clear hB hS
    go_wp2_with fail
    refine (unhide hS1).mono ?_
    rintro e w2 ⟨rfl, hu2⟩
    replace hu := hide ((unhide hu).trans hu2)
    clear hS1 hu2
    go_wp2
    go_ret
    exact ⟨_, rfl, own_nilI _ _ _, unhide hu⟩
  rw [scB_yes h2] at hS
  have hC := hide (fun X (h : ArgI X ad zs) (h' : ArgI X ad' ts) => specL8Coarse ad ad' cap cap' zs ts X h1 h2 h h')
  clear h1 h2
  go_enter Try.func24, Try.ntmps24
  go_wp2_with fail
  refine (unhide hB).mono ?_
  rintro e w1 ⟨rfl, hu⟩
  have hS1 := hide (unhide hS w1 (hA'.below hu.none))
  replace hu := hide hu
  clear hB hS
  go_wp2_with fail
  refine (unhide hS1).mono ?_
  rintro e w2 ⟨rfl, hu2⟩
  replace hu := hide ((unhide hu).trans hu2)
  have hC1 := hide (unhide hC w2 (hA.below (unhide hu).none) (hA'.below (unhide hu).none))
  clear hS1 hu2 hC
  go_wp2_with fail
  refine (unhide hC1).mono ?_
  rintro e w3 ⟨v, rfl, ho, hu3⟩
  have ho' := hide (own_mono ho (unhide hu).size (Nat.le_refl _))
  replace hu := hide ((unhide hu).trans hu3)
  clear hC1 hu3 ho
  obtain ⟨a, c, rfl, _⟩ := readK_of_own (unhide ho')
  go_wp2
  go_ret
  exact ⟨_, rfl, unhide ho', unhide hu⟩
set_option maxHeartbeats 4000000 in
theorem specFine (v0 : Value) (zs : List Int) (v1 : Value) (ts : List Int) (w : World) (hn : zs.length ≤ 1048576) (_hR : InI zs) (hv : RdI w v0 zs) (hn' : ts.length ≤ 1048576) (_hR' : InI ts) (hv' : RdI w v1 ts) :
    Calls Try.prog 38 #[v0, v1] w fun e w' => ∃ v, e = .returned v ∧ OwnI w' w.heap.size w'.heap.size v (twoF fineZ zs ts) ∧ Upd 0 0 w w' := by
  obtain ⟨ad, cap, rfl, hA⟩ := hv
  obtain ⟨ad', cap', rfl, hA'⟩ := hv'
  have hB := hide (specL8Block ad cap zs w hn hA)
  have hS := hide (fun X (h : ArgI X ad' ts) => specL8Scales ad' cap' ts X hn' h)
  by_cases h1 : BlOk zs
  case neg =>
    rw [blB_no h1] at hB
    rw [twoF_no (fun h => h1 h.1)]
    clear hS h1
    go_enter Try.func38, Try.ntmps38
    go_wp2_with fail
    refine (unhide hB).mono ?_
    rintro e w1 ⟨rfl, hu⟩
    replace hu := hide hu
    clear hB
    go_wp2
    go_ret
    exact ⟨_, rfl, own_nilI _ _ _, unhide hu⟩
  rw [blB_yes h1] at hB
  by_cases h2 : ScOk ts
  case neg =>
    rw [scB_no h2] at hS
    rw [twoF_no (fun h => h2 h.2)]
    clear h1 h2
    go_enter Try.func38, Try.ntmps38
    go_wp2_with fail
    refine (unhide hB).mono ?_
    rintro e w1 ⟨rfl, hu⟩
    have hS1 := hide (unhide hS w1 (hA'.below hu.none))
    replace hu := hide hu
    clear hB hS
    go_wp2_with fail
    refine (unhide hS1).mono ?_
    rintro e w2 ⟨rfl, hu2⟩
    replace hu := hide ((unhide hu).trans hu2)
    clear hS1 hu2
    go_wp2
    go_ret
    exact ⟨_, rfl, own_nilI _ _ _, unhide hu⟩
  rw [scB_yes h2] at hS
  have hC := hide (fun X (h : ArgI X ad zs) (h' : ArgI X ad' ts) => specL8Fine ad ad' cap cap' zs ts X h1 h2 h h')
  clear h1 h2
  go_enter Try.func38, Try.ntmps38
  go_wp2_with fail
  refine (unhide hB).mono ?_
  rintro e w1 ⟨rfl, hu⟩
  have hS1 := hide (unhide hS w1 (hA'.below hu.none))
  replace hu := hide hu
  clear hB hS
  go_wp2_with fail
  refine (unhide hS1).mono ?_
  rintro e w2 ⟨rfl, hu2⟩
  replace hu := hide ((unhide hu).trans hu2)
  have hC1 := hide (unhide hC w2 (hA.below (unhide hu).none) (hA'.below (unhide hu).none))
  clear hS1 hu2 hC
  go_wp2_with fail
  refine (unhide hC1).mono ?_
  rintro e w3 ⟨v, rfl, ho, hu3⟩
  have ho' := hide (own_mono ho (unhide hu).size (Nat.le_refl _))
  replace hu := hide ((unhide hu).trans hu3)
  clear hC1 hu3 ho
  obtain ⟨a, c, rfl, _⟩ := readK_of_own (unhide ho')
  go_wp2
  go_ret
  exact ⟨_, rfl, unhide ho', unhide hu⟩
end Go.Proofs.Ytnalmingbglgfaa
