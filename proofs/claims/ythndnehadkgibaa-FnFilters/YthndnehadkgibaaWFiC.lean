/- The walks of UnfilterRow: the specification's. -/
import Derived.Test.YthndnehadkgibaaWFiB
import Derived.StillTailTactics
namespace Go.Proofs.Ythndnehadkgibaa
open Go.RowKit

set_option maxHeartbeats 4000000 in
set_option maxRecDepth 1000000 in
theorem specUnfilterGood (kind step : Int) (u v : Value) (ab row : List Int) (w : World) (hk : filtOk kind step ab row) (ha : InB ab) (hr : InB row) (hu : RdY w u ab) (hv : RdY w v row) :
    Calls Try.prog 37 #[.int .i64 kind, .int .i64 step, u, v] w fun e w' => ∃ x, e = .returned x ∧ OwnY w' w.heap.size w'.heap.size x (unfTo kind step ab row row.length) ∧ Upd 0 0 w w' := by
  have hn : row.length ≤ 4096 := hk.2.2.2.2.1
  have hna : ab.length ≤ 4096 := by have := hk.2.2.2.2.2; omega
  have hOk := hide (specL4FilterOk kind step u v ab row w (by omega) (by omega) hu hv)
  rw [filtB_yes hk] at hOk
  obtain ⟨k1, k2, k3, k4, _, _⟩ := hk
  have hu0 := hide hu
  have hv0 := hide hv
  obtain ⟨ad, cap, rfl, hA⟩ := hu
  obtain ⟨ad', cap', rfl, hA'⟩ := hv
  obtain ⟨i0, hi0, hz0, hz1, hz2⟩ := info_parts infoB
  clear hA
  replace hA' := hide hA'
  replace ha := hide ha
  replace hr := hide hr
  go_enter Try.func37, Try.ntmps37
  go_wp2_with fail
  refine (unhide hOk).mono ?_
  rintro e w0 ⟨rfl, rfl⟩
  clear hOk
  go_wp2_with (at_make; refine wpList_make_full _ rfl _ _ 22 rfl w0.heap.size 5 i0 (.int .u8 0) 1 Try.underlying22 hi0 hz0 hz1 .i64 .i64 _ _ row.length rfl rfl (by omega) (by omega) (by rw [hz2]; omega) (by unfold maxLen; omega) (Nat.le_refl _) ?_; intro w1 hown hgrow)
  have hbel := (Below.refl w0.heap.size w0).grown hgrow (Nat.le_refl _) (by simp)
  have hown0 : w1.ownsRow w0.heap.size 5 1 (.slice (some ⟨w0.heap.size, 0, none⟩) row.length row.length) row.length (partY (unfTo kind step ab row row.length) 0) := by
    rw [partY_zero, unfTo_length]; simpa [toList_madeCells_one, Value.cells] using hown
  clear hown hgrow
  go_loopw [22] (fun i wr => ∃ k : Nat, k ≤ row.length ∧ i = .int .i64 k ∧ wr.ownsRow w0.heap.size 5 1 (.slice (some ⟨w0.heap.size, 0, none⟩) row.length row.length) row.length (partY (unfTo kind step ab row row.length) k) ∧ Below w0.heap.size w0 wr) (fun i _ => row.length - (intOf i).toNat)
  case atStart => exact ⟨0, Nat.zero_le _, rfl, hown0, hbel⟩
  case round =>
    clear hown0 hbel
    obtain ⟨k, hk, rfl, hown, hbel⟩ := hrel
    by_cases hlt : k < row.length
    · obtain ⟨b, off, rfl, hbl, hc⟩ := (unhide hA') (ne_of_lt_length hlt)
      have hck : wr.cell? ⟨b, off + k, none⟩ = some (.int .u8 (row.getD k 0)) := (hbel.cell (by simpa using hbl)).trans (hc k hlt)
      have hps := partY_set (unfTo kind step ab row row.length) k (by simpa using hlt)
      rw [unfTo_at _ _ _ _ _ k hlt] at hps
      have hg := gAt_bd (kind := kind) (step := step) (unhide ha) (unfPart_inB kind step ab row k row.length) k
      have hb := (unhide hr) k
      have hrow : RdY wr (.slice (some ⟨w0.heap.size, 0, none⟩) row.length row.length) (unfPart kind step ab row k row.length) := by
        rw [unfPart_part _ _ _ _ _ _ hk] at hown
        refine ⟨some ⟨w0.heap.size, 0, none⟩, row.length, by rw [unfPart_length _ _ _ _ _ _ hk], fun _ => ⟨w0.heap.size, 0, rfl, (hown.lt _ rfl).2, fun j hj => ?_⟩⟩
        rw [unfPart_length _ _ _ _ _ _ hk] at hj
        rw [Nat.zero_add, hown.cellAt j (by omega)]
        exact getD_map_int _ .u8 j (by rw [unfPart_length _ _ _ _ _ _ hk]; exact hj)
      have hC1 := hide (specL4At _ (unfPart kind step ab row k row.length) ((k : Int) - step) wr.drew (by rw [unfPart_length _ _ _ _ _ _ hk]; omega) (unfPart_inB _ _ _ _ _ _) hrow.drew (by omega))
      have hC2 := hide (specL4At _ ab (k : Int) wr.drew (by omega) (unhide ha) ((unhide hu0).below hbel).drew (by omega))
      have hC3 := hide (specL4At _ ab ((k : Int) - step) wr.drew (by omega) (unhide ha) ((unhide hu0).below hbel).drew (by omega))
      have hC4 := hide (fun W => specL4Guess kind _ _ _ W ⟨k1, k2⟩ (atB_bd (unfPart_inB kind step ab row k row.length) ((k : Int) - step)) (atB_bd (unhide ha) (k : Int)) (atB_bd (unhide ha) ((k : Int) - step)))
      have hgd : guessF kind (atB (unfPart kind step ab row k row.length) ((k : Int) - step)) (atB ab (k : Int)) (atB ab ((k : Int) - step)) = gAt kind step ab (unfPart kind step ab row k row.length) k := rfl
      rw [hgd] at hC4
      rw [unfPart_g _ _ _ _ _ _ k3] at hC4 hg
      clear hgd hrow
      generalize row.getD k 0 = x at hck hps hb
      generalize gAt kind step ab (unfTo kind step ab row k) k = g at hps hg hC4
      generalize atB (unfPart kind step ab row k row.length) ((k : Int) - step) = a1 at hC1 hC4
      generalize atB ab (k : Int) = a2 at hC2 hC4
      generalize atB ab ((k : Int) - step) = a3 at hC3 hC4
      obtain ⟨g1, g2⟩ := hg
      obtain ⟨b1, b2⟩ := hb
      have hwk : IntKind.i64.wrap ((k : Int) - step) = (k : Int) - step := wrap_i64_inF _ (by omega)
      have hg8 : IntKind.u8.wrap g = g := by rw [IntKind.wrap_u8']; omega
      replace hps := hide hps
      have hkI : (0 : Int) ≤ (k : Int) := by omega
      have hkL : (k : Int) < (row.length : Int) := by omega
      have hdst : ∃ u, wr.cell? ⟨w0.heap.size, k, none⟩ = some u := by
        rw [hown.cellAt k (by omega)]; exact ⟨_, List.getElem?_eq_getElem (by have := hown.1; omega)⟩
      obtain ⟨y, hdst⟩ := hdst
      have hfz := hown.frozenAt k
      have hst := (hown.stored k (.int .u8 ((x + g) % 256))).1
      rw [unhide hps] at hst
      have hb3 := hide (hbel.setCell (p := ⟨w0.heap.size, k, none⟩) (Nat.le_refl _) (.int .u8 ((x + g) % 256)))
      replace hst := hide hst
      clear hc hbl hown hbel
      go_wp2_with fail
      refine wp_region_still_tail 24 (by kernel_rfl) (by kernel_rfl) ?_
      simp only [List.take_succ_cons, List.take_zero, List.drop_succ_cons, List.drop_zero]
      iterate 11 still_step
      still_call (unhide hC1)
      iterate 2 still_step
      still_call (unhide hC2)
      iterate 4 still_step
      still_call (unhide hC3)
      still_call (unhide hC4 _)
      iterate 3 still_step
      refine wpStill_nil ?_
      go_wp2
      go_roundw
      case rel => exact ⟨k + 1, by omega, by go_num, (unhide hst).drew, below_drewB (unhide hb3)⟩
      case measure => simp [intOf]; omega
    · have hkl : k = row.length := by omega
      subst hkl
      have hpa := partY_all (unfTo kind step ab row row.length)
      rw [unfTo_length] at hpa
      rw [hpa] at hown
      have ho : OwnY wr w0.heap.size wr.heap.size (.slice (some ⟨w0.heap.size, 0, none⟩) row.length row.length) (unfTo kind step ab row row.length) := by
        unfold OwnY; rw [unfTo_length]; exact Own.of hown
      replace ho := hide ho
      clear hown hpa
      go_wp2
      go_ret
      exact ⟨_, rfl, unhide ho, Upd.of_below hbel 0 0⟩

set_option maxHeartbeats 4000000 in
theorem specUnfilterBad (kind step : Int) (u v : Value) (ab row : List Int) (w : World) (hna : ab.length ≤ 1048576) (hn : row.length ≤ 1048576) (hk : ¬ filtOk kind step ab row) (hu : RdY w u ab) (hv : RdY w v row) :
    Calls Try.prog 37 #[.int .i64 kind, .int .i64 step, u, v] w fun e w' => ∃ x, e = .returned x ∧ OwnY w' w.heap.size w'.heap.size x [] ∧ Upd 0 0 w w' := by
  have hOk := hide (specL4FilterOk kind step u v ab row w (by omega) (by omega) hu hv)
  rw [filtB_no hk] at hOk
  obtain ⟨ad, cap, rfl, hA⟩ := hu
  obtain ⟨ad', cap', rfl, hA'⟩ := hv
  clear hA hA' hk
  go_enter Try.func37, Try.ntmps37
  go_wp2_with fail
  refine (unhide hOk).mono ?_
  rintro e w0 ⟨rfl, rfl⟩
  clear hOk
  go_wp2
  go_ret
  exact ⟨_, rfl, own_nilYF _ _ _, Upd.refl _ _ _⟩

theorem specUnfilterRow (kind step : Int) (u : Value) (ab : List Int) (v : Value) (row : List Int) (w : World) (_hl : -9223372036854775808 ≤ kind) (_hh : kind ≤ 9223372036854775807) (_hl2 : -9223372036854775808 ≤ step) (_hh2 : step ≤ 9223372036854775807)
    (hna : ab.length ≤ 1048576) (ha : InB ab) (hu : RdY w u ab) (hn : row.length ≤ 1048576) (hr : InB row) (hv : RdY w v row) :
    Calls Try.prog 37 #[.int .i64 kind, .int .i64 step, u, v] w fun e w' => ∃ x, e = .returned x ∧ OwnY w' w.heap.size w'.heap.size x (unfF kind step ab row) ∧ Upd 0 0 w w' := by
  by_cases hk : filtOk kind step ab row
  · rw [unfF_yes hk]; exact specUnfilterGood kind step u v ab row w hk ha hr hu hv
  · rw [unfF_no hk]; exact specUnfilterBad kind step u v ab row w hna hn hk hu hv
end Go.Proofs.Ythndnehadkgibaa
