/- Coarse and fine numbers: the program's walks. -/
import Derived.Test.YtnalmingbglgfaaW8A
import Derived.Test.YtnalmingbglgfaaWTrC
import Derived.Test.YtnalmingbglgfaaWAppI
import Derived.Laws.EntriesVeiled
namespace Go.Proofs.Ytnalmingbglgfaa
open Go.RowKit

theorem implDist0 (a : Int) (w : World) (h0 : -32768 ≤ a) (h1 : a ≤ 32767) : Calls Try.prog 94 #[.int .i64 a, .int .i64 0] w fun e w' => e = .returned (.int .i64 (if a < 0 then -a else a)) ∧ w' = w := by
  by_cases h : a < 0
  · rw [if_pos h]
    have e1 : ¬ a > 0 - a := by omega
    go_enter Try.func94, Try.ntmps94
    go_wp2
    all_goals
      go_ret
      exact ⟨ret_int (by omega), rfl⟩
  · rw [if_neg h]
    go_enter Try.func94, Try.ntmps94
    go_wp2
    all_goals
      go_ret
      exact ⟨ret_int (by omega), rfl⟩
set_option maxHeartbeats 4000000 in
theorem implCoarseZ (x t : Int) (w : World) (hx : -32768 ≤ x ∧ x ≤ 32767) (ht : 1 ≤ t ∧ t ≤ 255) : Calls Try.prog 64 #[.int .i64 x, .int .i64 t] w fun e w' => e = .returned (.int .i64 (coarseZ x t)) ∧ w' = w := by
  obtain ⟨x0, x1⟩ := hx
  obtain ⟨t0, t1⟩ := ht
  have hD := hide (fun W => implDist0 x W x0 x1)
  have hX : coarseZ x t = if x < 0 then -((-x + t / 2) / t) else (x + t / 2) / t := rfl
  by_cases hneg : x < 0
  · rw [if_pos hneg] at hX hD
    have hq := quot_bd (-x) t (by omega) t0
    have q1 : (-x + t / 2).tdiv t = (-x + t / 2) / t := Int.tdiv_eq_ediv_of_nonneg (by omega)
    rw [hX]
    clear hX
    generalize (-x + t / 2) / t = q at hq q1
    obtain ⟨q2, q3⟩ := hq
    have nt : ¬ t = 0 := by omega
    go_enter Try.func64, Try.ntmps64
    go_wp2_with (go_at_call 94; refine (unhide hD _).mono ?_; rintro e wz ⟨rfl, hwz⟩; subst wz)
    go_ret
    exact ⟨rfl, rfl⟩
  · rw [if_neg hneg] at hX hD
    have hq := quot_bd x t (by omega) t0
    have q1 : (x + t / 2).tdiv t = (x + t / 2) / t := Int.tdiv_eq_ediv_of_nonneg (by omega)
    rw [hX]
    clear hX
    generalize (x + t / 2) / t = q at hq q1
    obtain ⟨q2, q3⟩ := hq
    have nt : ¬ t = 0 := by omega
    go_enter Try.func64, Try.ntmps64
    go_wp2_with (go_at_call 94; refine (unhide hD _).mono ?_; rintro e wz ⟨rfl, hwz⟩; subst wz)
    go_ret
    exact ⟨rfl, rfl⟩
theorem implFineZ (x t : Int) (w : World) (hx : -32768 ≤ x ∧ x ≤ 32767) (ht : 1 ≤ t ∧ t ≤ 255) : Calls Try.prog 68 #[.int .i64 x, .int .i64 t] w fun e w' => e = .returned (.int .i64 (fineZ x t)) ∧ w' = w := by
  obtain ⟨x0, x1⟩ := hx
  obtain ⟨t0, t1⟩ := ht
  have hE : fineZ x t = max (-32768) (min 32767 (x * t)) := (cutZ_max _ _ _ (by omega)).symm
  rw [hE]
  clear hE
  obtain ⟨P, hP⟩ : ∃ P, x * t = P := ⟨_, rfl⟩
  have hP0 : -8355840 ≤ P := by
    have h1 : -32768 * t ≤ x * t := Int.mul_le_mul_of_nonneg_right x0 (by omega)
    rw [hP] at h1; omega
  have hP1 : P ≤ 8355840 := by
    have h1 : x * t ≤ 32768 * t := Int.mul_le_mul_of_nonneg_right (by omega) (by omega)
    rw [hP] at h1; omega
  rw [hP]
  have hC := hide (fun W => implClipInt P (-32768) 32767 W)
  generalize max (-32768) (min 32767 P) = y at hC ⊢
  go_enter Try.func68, Try.ntmps68
  go_wp2_with (go_at_call 78; refine (unhide hC _).mono ?_; rintro e wz ⟨rfl, hwz⟩; subst wz)
  go_ret
  exact ⟨rfl, rfl⟩
set_option maxHeartbeats 16000000 in
set_option maxRecDepth 100000 in
theorem implScaledCoarse (ad ad' : Option Addr) (cap cap' : Nat) (zs ts : List Int) (w : World) (hn : zs.length ≤ 1048576) (hn' : ts.length ≤ 1048576) (hA : ArgI w ad zs) (hA' : ArgI w ad' ts) :
    Calls Try.prog 63 #[.slice ad zs.length cap, .slice ad' ts.length cap', .func (.func 64) #[] #[]] w fun e w' => ∃ v, e = .returned v ∧ OwnI w' w.heap.size w'.heap.size v (twoF coarseZ zs ts) ∧ Upd 0 0 w w' := by
  have hB := hide (implGoodBlock ad cap zs w hn hA)
  have hS := hide (fun X (h : ArgI X ad' ts) => implGoodScales ad' cap' ts X hn' h)
  by_cases h1 : BlOk zs
  case neg =>
    rw [blB_no h1] at hB
    rw [twoF_no (fun h => h1 h.1)]
    clear hS h1
    go_enter Try.func63, Try.ntmps63
    go_wp2_with fail
    refine (unhide hB).mono ?_
    rintro e w1 ⟨rfl, hu⟩
    replace hu := hide hu
    clear hB
    go_wp2
    go_ret
    exact ⟨_, rfl, own_nilI _ _ _, unhide hu⟩
  rw [blB_yes h1] at hB
  by_cases h2 : ScOk ts
  case neg =>
    rw [scB_no h2] at hS
    rw [twoF_no (fun h => h2 h.2)]
    clear h1 h2
    go_enter Try.func63, Try.ntmps63
    go_wp2_with fail
    refine (unhide hB).mono ?_
    rintro e w1 ⟨rfl, hu⟩
    have hS1 := hide (unhide hS w1 (hA'.below hu.none))
    replace hu := hide hu
    clear hB hS
    go_wp2_with fail
    refine (unhide hS1).mono ?_
    rintro e w2 ⟨rfl, hu2⟩
    replace hu := hide ((unhide hu).trans hu2)
    clear hS1 hu2
    go_wp2
    go_ret
    exact ⟨_, rfl, own_nilI _ _ _, unhide hu⟩
  rw [scB_yes h2] at hS
  obtain ⟨i0, hi, hz0, hz1, hz2⟩ := info_parts infoI
  have hF := hide (twoF_yes (g := coarseZ) h1 h2)
  obtain ⟨hl, hbd⟩ := h1
  obtain ⟨hl', hbd'⟩ := h2
  replace hbd := hide hbd
  replace hbd' := hide hbd'
  replace hA := hide hA
  replace hA' := hide hA'
  rw [hl] at hB
  rw [hl'] at hS
  rw [hl, hl']
  clear hn hn'
  go_enter Try.func63, Try.ntmps63
  go_wp2_with fail
  refine (unhide hB).mono ?_
  rintro e w1 ⟨rfl, hu⟩
  have hS1 := hide (unhide hS w1 ((unhide hA').below hu.none))
  replace hu := hide hu
  clear hB hS
  go_wp2_with fail
  refine (unhide hS1).mono ?_
  rintro e w2 ⟨rfl, hu2⟩
  replace hA := hide ((unhide hA).below ((unhide hu).trans hu2).none)
  replace hA' := hide ((unhide hA').below ((unhide hu).trans hu2).none)
  replace hu := hide ((unhide hu).trans hu2)
  clear hS1 hu2
  go_wp2_with (at_make; refine wpList_make_full _ rfl _ _ 23 rfl w2.heap.size 3 i0 (.int .i64 0) 1 Try.underlying23 hi hz0 hz1 .i64 .i64 _ _ 64 rfl rfl (by omega) (by omega) (by rw [hz2]; omega) (by unfold maxLen; omega) (Nat.le_refl _) ?_; intro w3 hown hgrow)
  have hbel := (Below.refl w2.heap.size w2).grown hgrow (Nat.le_refl _) (by simp)
  generalize hG : (fun i => coarseZ (zs.getD i 0) (ts.getD i 0)) = G at hF
  have hG2 : Hid (∀ k, G k = coarseZ (zs.getD k 0) (ts.getD k 0)) := hide (fun k => by rw [← hG])
  clear hG
  have hown0 : w3.ownsRow w2.heap.size 3 1 (.slice (some ⟨w2.heap.size, 0, none⟩) 64 64) 64 (partI (tab G) 0) := by
    rw [partI_zero]; simpa [toList_madeCells_one, Value.cells] using hown
  have hbel := hide hbel
  clear hown hgrow
  go_loopw [21] (fun i wr => ∃ k : Nat, k ≤ 64 ∧ i = .int .i64 k ∧ wr.ownsRow w2.heap.size 3 1 (.slice (some ⟨w2.heap.size, 0, none⟩) 64 64) 64 (partI (tab G) k) ∧ Hid (Below w2.heap.size w2 wr)) (fun i _ => 64 - (intOf i).toNat)
  case atStart => exact ⟨0, Nat.zero_le _, rfl, hown0, hbel⟩
  case round =>
    clear hown0 hbel
    obtain ⟨k, hk, rfl, hown, hbel⟩ := hrel
    by_cases hlt : k < 64
    · obtain ⟨b, off, rfl, hbl, hc⟩ := (unhide hA) (ne_of_lt_length (k := k) (by omega))
      obtain ⟨b', off', rfl, hbl', hc'⟩ := (unhide hA') (ne_of_lt_length (k := k) (by omega))
      have hck : wr.cell? ⟨b, off + k, none⟩ = some (.int .i64 (zs.getD k 0)) := ((unhide hbel).cell (by simpa using hbl)).trans (hc k (by omega))
      have hck' : wr.cell? ⟨b', off' + k, none⟩ = some (.int .i64 (ts.getD k 0)) := ((unhide hbel).cell (by simpa using hbl')).trans (hc' k (by omega))
      have hx := (unhide hbd) k (by omega)
      have ht := (unhide hbd') k (by omega)
      have hps := partI_set (tab G) k (by simpa using hlt)
      rw [tab_getD _ k hlt, unhide hG2 k] at hps
      generalize zs.getD k 0 = x at hck hps hx
      generalize ts.getD k 0 = t at hck' hps ht
      have hC := hide (fun X => implCoarseZ x t X hx ht)
      generalize coarseZ x t = y at hps hC
      have hdst : ∃ u, wr.cell? ⟨w2.heap.size, k, none⟩ = some u := by
        rw [hown.cellAt k (by omega)]; exact ⟨_, List.getElem?_eq_getElem (by have := hown.1; omega)⟩
      obtain ⟨u, hdst⟩ := hdst
      have hfz := hown.frozenAt k
      have hst := (hown.stored k (.int .i64 y)).1
      rw [hps] at hst
      have hb2 := hide ((unhide hbel).setCell (p := ⟨w2.heap.size, k, none⟩) (Nat.le_refl _) (.int .i64 y))
      replace hst := hide hst
      clear hown hps hc hc' hbl hbl'
      have kI : (0 : Int) ≤ (k : Int) := by omega
      have kL : (k : Int) < 64 := by omega
      go_wp2_with (go_at_call 64; refine (unhide hC _).mono ?_; rintro e wz ⟨rfl, hwz⟩; subst wz)
      go_roundw
      case rel => exact ⟨k + 1, by omega, by go_num, unhide hst, hb2⟩
      case measure => simp [intOf]; omega
    · have hkl : k = 64 := by omega
      subst hkl
      have hl : (tab G).length = 64 := by simp
      have ha := partI_all (tab G)
      rw [hl] at ha
      rw [ha] at hown
      have hown2 : OwnI wr w2.heap.size wr.heap.size (.slice (some ⟨w2.heap.size, 0, none⟩) 64 64) (tab G) := by
        unfold OwnI; rw [hl]; exact Own.of hown
      replace hown2 := hide (own_mono hown2 (unhide hu).size (Nat.le_refl _))
      clear hown ha hl
      go_wp2
      go_ret
      exact ⟨_, rfl, by rw [unhide hF]; exact unhide hown2, (unhide hu).trans (Upd.of_below (unhide hbel) 0 0)⟩
set_option maxHeartbeats 4000000 in
theorem implCoarse (v0 : Value) (zs : List Int) (v1 : Value) (ts : List Int) (w : World) (hn : zs.length ≤ 1048576) (_hR : InI zs) (hv : RdI w v0 zs) (hn' : ts.length ≤ 1048576) (_hR' : InI ts) (hv' : RdI w v1 ts) :
    Calls Try.prog 23 #[v0, v1] w fun e w' => ∃ v, e = .returned v ∧ OwnI w' w.heap.size w'.heap.size v (twoF coarseZ zs ts) ∧ Upd 0 0 w w' := by
  obtain ⟨ad, cap, rfl, hA⟩ := hv
  obtain ⟨ad', cap', rfl, hA'⟩ := hv'
  have hS := hide (implScaledCoarse ad ad' cap cap' zs ts w hn hn' hA hA')
  clear hA hA'
  go_enter Try.func23, Try.ntmps23
  go_wp2_with fail
  refine (unhide hS).mono ?_
  rintro e w3 ⟨v, rfl, ho, hu⟩
  clear hS
  obtain ⟨a, c, rfl, _⟩ := readK_of_own ho
  replace ho := hide ho
  replace hu := hide hu
  go_wp2
  go_ret
  exact ⟨_, rfl, unhide ho, unhide hu⟩
set_option maxHeartbeats 16000000 in
set_option maxRecDepth 100000 in
theorem implScaledFine (ad ad' : Option Addr) (cap cap' : Nat) (zs ts : List Int) (w : World) (hn : zs.length ≤ 1048576) (hn' : ts.length ≤ 1048576) (hA : ArgI w ad zs) (hA' : ArgI w ad' ts) :
    Calls Try.prog 63 #[.slice ad zs.length cap, .slice ad' ts.length cap', .func (.func 68) #[] #[]] w fun e w' => ∃ v, e = .returned v ∧ OwnI w' w.heap.size w'.heap.size v (twoF fineZ zs ts) ∧ Upd 0 0 w w' := by
  have hB := hide (implGoodBlock ad cap zs w hn hA)
  have hS := hide (fun X (h : ArgI X ad' ts) => implGoodScales ad' cap' ts X hn' h)
  by_cases h1 : BlOk zs
  case neg =>
    rw [blB_no h1] at hB
    rw [twoF_no (fun h => h1 h.1)]
    clear hS h1
    go_enter Try.func63, Try.ntmps63
    go_wp2_with fail
    refine (unhide hB).mono ?_
    rintro e w1 ⟨rfl, hu⟩
    replace hu := hide hu
    clear hB
    go_wp2
    go_ret
    exact ⟨_, rfl, own_nilI _ _ _, unhide hu⟩
  rw [blB_yes h1] at hB
  by_cases h2 : ScOk ts
  case neg =>
    rw [scB_no h2] at hS
    rw [twoF_no (fun h => h2 h.2)]
    clear h1 h2
    go_enter Try.func63, Try.ntmps63
    go_wp2_with fail
    refine (unhide hB).mono ?_
    rintro e w1 ⟨rfl, hu⟩
    have hS1 := hide (unhide hS w1 (hA'.below hu.none))
    replace hu := hide hu
    clear hB hS
    go_wp2_with fail
    refine (unhide hS1).mono ?_
    rintro e w2 ⟨rfl, hu2⟩
    replace hu := hide ((unhide hu).trans hu2)
    clear hS1 hu2
    go_wp2
    go_ret
    exact ⟨_, rfl, own_nilI _ _ _, unhide hu⟩
  rw [scB_yes h2] at hS
  obtain ⟨i0, hi, hz0, hz1, hz2⟩ := info_parts infoI
  have hF := hide (twoF_yes (g := fineZ) h1 h2)
  obtain ⟨hl, hbd⟩ := h1
  obtain ⟨hl', hbd'⟩ := h2
  replace hbd := hide hbd
  replace hbd' := hide hbd'
  replace hA := hide hA
  replace hA' := hide hA'
  rw [hl] at hB
  rw [hl'] at hS
  rw [hl, hl']
  clear hn hn'
  go_enter Try.func63, Try.ntmps63
  go_wp2_with fail
  refine (unhide hB).mono ?_
  rintro e w1 ⟨rfl, hu⟩
  have hS1 := hide (unhide hS w1 ((unhide hA').below hu.none))
  replace hu := hide hu
  clear hB hS
  go_wp2_with fail
  refine (unhide hS1).mono ?_
  rintro e w2 ⟨rfl, hu2⟩
  replace hA := hide ((unhide hA).below ((unhide hu).trans hu2).none)
  replace hA' := hide ((unhide hA').below ((unhide hu).trans hu2).none)
  replace hu := hide ((unhide hu).trans hu2)
  clear hS1 hu2
  go_wp2_with (at_make; refine wpList_make_full _ rfl _ _ 23 rfl w2.heap.size 3 i0 (.int .i64 0) 1 Try.underlying23 hi hz0 hz1 .i64 .i64 _ _ 64 rfl rfl (by omega) (by omega) (by rw [hz2]; omega) (by unfold maxLen; omega) (Nat.le_refl _) ?_; intro w3 hown hgrow)
  have hbel := (Below.refl w2.heap.size w2).grown hgrow (Nat.le_refl _) (by simp)
  generalize hG : (fun i => fineZ (zs.getD i 0) (ts.getD i 0)) = G at hF
  have hG2 : Hid (∀ k, G k = fineZ (zs.getD k 0) (ts.getD k 0)) := hide (fun k => by rw [← hG])
  clear hG
  have hown0 : w3.ownsRow w2.heap.size 3 1 (.slice (some ⟨w2.heap.size, 0, none⟩) 64 64) 64 (partI (tab G) 0) := by
    rw [partI_zero]; simpa [toList_madeCells_one, Value.cells] using hown
  have hbel := hide hbel
  clear hown hgrow
  go_loopw [21] (fun i wr => ∃ k : Nat, k ≤ 64 ∧ i = .int .i64 k ∧ wr.ownsRow w2.heap.size 3 1 (.slice (some ⟨w2.heap.size, 0, none⟩) 64 64) 64 (partI (tab G) k) ∧ Hid (Below w2.heap.size w2 wr)) (fun i _ => 64 - (intOf i).toNat)
  case atStart => exact ⟨0, Nat.zero_le _, rfl, hown0, hbel⟩
  case round =>
    clear hown0 hbel
    obtain ⟨k, hk, rfl, hown, hbel⟩ := hrel
    by_cases hlt : k < 64
    · obtain ⟨b, off, rfl, hbl, hc⟩ := (unhide hA) (ne_of_lt_length (k := k) (by omega))
      obtain ⟨b', off', rfl, hbl', hc'⟩ := (unhide hA') (ne_of_lt_length (k := k) (by omega))
      have hck : wr.cell? ⟨b, off + k, none⟩ = some (.int .i64 (zs.getD k 0)) := ((unhide hbel).cell (by simpa using hbl)).trans (hc k (by omega))
      have hck' : wr.cell? ⟨b', off' + k, none⟩ = some (.int .i64 (ts.getD k 0)) := ((unhide hbel).cell (by simpa using hbl')).trans (hc' k (by omega))
      have hx := (unhide hbd) k (by omega)
      have ht := (unhide hbd') k (by omega)
      have hps := partI_set (tab G) k (by simpa using hlt)
      rw [tab_getD _ k hlt, unhide hG2 k] at hps
      generalize zs.getD k 0 = x at hck hps hx
      generalize ts.getD k 0 = t at hck' hps ht
      have hC := hide (fun X => implFineZ x t X hx ht)
      generalize fineZ x t = y at hps hC
      have hdst : ∃ u, wr.cell? ⟨w2.heap.size, k, none⟩ = some u := by
        rw [hown.cellAt k (by omega)]; exact ⟨_, List.getElem?_eq_getElem (by have := hown.1; omega)⟩
      obtain ⟨u, hdst⟩ := hdst
      have hfz := hown.frozenAt k
      have hst := (hown.stored k (.int .i64 y)).1
      rw [hps] at hst
      have hb2 := hide ((unhide hbel).setCell (p := ⟨w2.heap.size, k, none⟩) (Nat.le_refl _) (.int .i64 y))
      replace hst := hide hst
      clear hown hps hc hc' hbl hbl'
      have kI : (0 : Int) ≤ (k : Int) := by omega
      have kL : (k : Int) < 64 := by omega
      go_wp2_with (go_at_call 68; refine (unhide hC _).mono ?_; rintro e wz ⟨rfl, hwz⟩; subst wz)
      go_roundw
      case rel => exact ⟨k + 1, by omega, by go_num, unhide hst, hb2⟩
      case measure => simp [intOf]; omega
    · have hkl : k = 64 := by omega
      subst hkl
      have hl : (tab G).length = 64 := by simp
      have ha := partI_all (tab G)
      rw [hl] at ha
      rw [ha] at hown
      have hown2 : OwnI wr w2.heap.size wr.heap.size (.slice (some ⟨w2.heap.size, 0, none⟩) 64 64) (tab G) := by
        unfold OwnI; rw [hl]; exact Own.of hown
      replace hown2 := hide (own_mono hown2 (unhide hu).size (Nat.le_refl _))
      clear hown ha hl
      go_wp2
      go_ret
      exact ⟨_, rfl, by rw [unhide hF]; exact unhide hown2, (unhide hu).trans (Upd.of_below (unhide hbel) 0 0)⟩
set_option maxHeartbeats 4000000 in
theorem implFine (v0 : Value) (zs : List Int) (v1 : Value) (ts : List Int) (w : World) (hn : zs.length ≤ 1048576) (_hR : InI zs) (hv : RdI w v0 zs) (hn' : ts.length ≤ 1048576) (_hR' : InI ts) (hv' : RdI w v1 ts) :
    Calls Try.prog 25 #[v0, v1] w fun e w' => ∃ v, e = .returned v ∧ OwnI w' w.heap.size w'.heap.size v (twoF fineZ zs ts) ∧ Upd 0 0 w w' := by
  obtain ⟨ad, cap, rfl, hA⟩ := hv
  obtain ⟨ad', cap', rfl, hA'⟩ := hv'
  have hS := hide (implScaledFine ad ad' cap cap' zs ts w hn hn' hA hA')
  clear hA hA'
  go_enter Try.func25, Try.ntmps25
  go_wp2_with fail
  refine (unhide hS).mono ?_
  rintro e w3 ⟨v, rfl, ho, hu⟩
  clear hS
  obtain ⟨a, c, rfl, _⟩ := readK_of_own ho
  replace ho := hide ho
  replace hu := hide hu
  go_wp2
  go_ret
  exact ⟨_, rfl, unhide ho, unhide hu⟩
end Go.Proofs.Ytnalmingbglgfaa
