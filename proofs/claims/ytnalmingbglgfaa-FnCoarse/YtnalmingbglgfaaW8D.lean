/- Coarse numbers: the specification's walk. -/
import Derived.Test.YtnalmingbglgfaaW8A
import Derived.Test.YtnalmingbglgfaaWAppI
import Derived.StillTailTactics
namespace Go.Proofs.Ytnalmingbglgfaa
open Go.RowKit

theorem wrapB {n : Int} (h : -9223372036854775808 ≤ n ∧ n ≤ 9223372036854775807) : IntKind.i64.wrap n = n := by
  simp [IntKind.wrap, IntKind.bits, IntKind.signed]; omega
set_option maxHeartbeats 16000000 in
set_option maxRecDepth 100000 in
theorem specL8Coarse (ad ad' : Option Addr) (cap cap' : Nat) (zs ts : List Int) (w : World) (hb : BlOk zs) (ht : ScOk ts) (hA : ArgI w ad zs) (hA' : ArgI w ad' ts) :
    Calls Try.prog 67 #[.slice ad zs.length cap, .slice ad' ts.length cap'] w fun e w' => ∃ v, e = .returned v ∧ OwnI w' w.heap.size w'.heap.size v (twoF coarseZ zs ts) ∧ Upd 0 0 w w' := by
  obtain ⟨i0, hi, hz0, hz1, hz2⟩ := info_parts infoI
  have hF := hide (twoF_yes (g := coarseZ) hb ht)
  obtain ⟨hl, hbd⟩ := hb
  obtain ⟨hl', hbd'⟩ := ht
  replace hbd := hide hbd
  replace hbd' := hide hbd'
  replace hA := hide hA
  replace hA' := hide hA'
  rw [hl, hl']
  go_enter Try.func67, Try.ntmps67
  go_wp2_with (at_make; refine wpList_make_full _ rfl _ _ 23 rfl w.heap.size 3 i0 (.int .i64 0) 1 Try.underlying23 hi hz0 hz1 .i64 .i64 _ _ 64 rfl rfl (by omega) (by omega) (by rw [hz2]; omega) (by unfold maxLen; omega) (Nat.le_refl _) ?_; intro w1 hown hgrow)
  have hbel := (Below.refl w.heap.size w).grown hgrow (Nat.le_refl _) (by simp)
  generalize hG : (fun i => coarseZ (zs.getD i 0) (ts.getD i 0)) = G at hF
  have hG2 : Hid (∀ k, G k = coarseZ (zs.getD k 0) (ts.getD k 0)) := hide (fun k => by rw [← hG])
  clear hG
  have hown0 : w1.ownsRow w.heap.size 3 1 (.slice (some ⟨w.heap.size, 0, none⟩) 64 64) 64 (partI (tab G) 0) := by
    rw [partI_zero]; simpa [toList_madeCells_one, Value.cells] using hown
  have hbel := hide hbel
  clear hown hgrow
  go_loopw [11] (fun i wr => ∃ k : Nat, k ≤ 64 ∧ i = .int .i64 k ∧ wr.ownsRow w.heap.size 3 1 (.slice (some ⟨w.heap.size, 0, none⟩) 64 64) 64 (partI (tab G) k) ∧ Hid (Below w.heap.size w wr)) (fun i _ => 64 - (intOf i).toNat)
  case atStart => exact ⟨0, Nat.zero_le _, rfl, hown0, hbel⟩
  case round =>
    clear hown0 hbel
    obtain ⟨k, hk, rfl, hown, hbel⟩ := hrel
    by_cases hlt : k < 64
    · obtain ⟨b, off, rfl, hbl, hc⟩ := (unhide hA) (ne_of_lt_length (k := k) (by omega))
      obtain ⟨b', off', rfl, hbl', hc'⟩ := (unhide hA') (ne_of_lt_length (k := k) (by omega))
      have hck : wr.cell? ⟨b, off + k, none⟩ = some (.int .i64 (zs.getD k 0)) := ((unhide hbel).cell (by simpa using hbl)).trans (hc k (by omega))
      have hck' : wr.cell? ⟨b', off' + k, none⟩ = some (.int .i64 (ts.getD k 0)) := ((unhide hbel).cell (by simpa using hbl')).trans (hc' k (by omega))
      have hx := (unhide hbd) k (by omega)
      have ht := (unhide hbd') k (by omega)
      have hps := partI_set (tab G) k (by simpa using hlt)
      rw [tab_getD _ k hlt, unhide hG2 k] at hps
      generalize zs.getD k 0 = x at hck hps hx
      generalize ts.getD k 0 = t at hck' hps ht
      obtain ⟨x0, x1⟩ := hx
      obtain ⟨t0, t1⟩ := ht
      have hX : Hid (coarseZ x t = if x < 0 then -((-x + t / 2) / t) else (x + t / 2) / t) := hide rfl
      generalize coarseZ x t = y at hps hX
      have hdst : ∃ u, wr.cell? ⟨w.heap.size, k, none⟩ = some u := by
        rw [hown.cellAt k (by omega)]; exact ⟨_, List.getElem?_eq_getElem (by have := hown.1; omega)⟩
      obtain ⟨u, hdst⟩ := hdst
      have hfz := hown.frozenAt k
      have hst := (hown.stored k (.int .i64 y)).1
      rw [hps] at hst
      have hb2 := hide ((unhide hbel).setCell (p := ⟨w.heap.size, k, none⟩) (Nat.le_refl _) (.int .i64 y))
      replace hst := hide hst
      have hbe := hbel
      clear hown hps hc hc' hbl hbl'
      have kI : (0 : Int) ≤ (k : Int) := by omega
      have kL : (k : Int) < 64 := by omega
      obtain ⟨h, hh⟩ : ∃ h, t / 2 = h := ⟨_, rfl⟩
      have ht2 : t.tdiv 2 = h := by rw [Int.tdiv_eq_ediv_of_nonneg (by omega)]; exact hh
      have h0 : 0 ≤ h ∧ h ≤ 127 := by omega
      by_cases hneg : x < 0
      · have hX' := unhide hX
        rw [if_pos hneg, hh] at hX'
        have hq := quot_bd (-x) t (by omega) t0
        rw [hh] at hq
        have q1 : (-x + h).tdiv t = (-x + h) / t := Int.tdiv_eq_ediv_of_nonneg (by omega)
        generalize (-x + h) / t = q at hX' hq q1
        subst hX'
        obtain ⟨q2, q3⟩ := hq
        have w1 : IntKind.i64.wrap (-x) = -x := wrapB (by omega)
        have w2 : IntKind.i64.wrap (-x + h) = -x + h := wrapB (by omega)
        have w3 : IntKind.i64.wrap q = q := wrapB (by omega)
        have w4 : IntKind.i64.wrap (-q) = -q := wrapB (by omega)
        have w5 : IntKind.i64.wrap h = h := wrapB (by omega)
        have nt : ¬ t = 0 := by omega
        clear hX
        go_wp2_with fail
        refine wp_region_still_tail 17 (by kernel_rfl) (by kernel_rfl) ?_
        simp only [List.take_succ_cons, List.take_zero, List.drop_succ_cons, List.drop_zero]
        iterate 17 still_step
        refine wpStill_nil ?_
        go_wp2
        go_roundw
        case rel => exact ⟨k + 1, by omega, by go_num, (unhide hst).drew, below_drewN (unhide hb2) 1⟩
        case measure => simp [intOf]; omega
      · have hX' := unhide hX
        rw [if_neg hneg, hh] at hX'
        have hq := quot_bd x t (by omega) t0
        rw [hh] at hq
        have q1 : (x + h).tdiv t = (x + h) / t := Int.tdiv_eq_ediv_of_nonneg (by omega)
        generalize (x + h) / t = q at hX' hq q1
        subst hX'
        obtain ⟨q2, q3⟩ := hq
        have w2 : IntKind.i64.wrap (x + h) = x + h := wrapB (by omega)
        have w3 : IntKind.i64.wrap y = y := wrapB (by omega)
        have w5 : IntKind.i64.wrap h = h := wrapB (by omega)
        have nt : ¬ t = 0 := by omega
        clear hX
        go_wp2_with fail
        refine wp_region_still_tail 15 (by kernel_rfl) (by kernel_rfl) ?_
        simp only [List.take_succ_cons, List.take_zero, List.drop_succ_cons, List.drop_zero]
        iterate 15 still_step
        refine wpStill_nil ?_
        go_wp2
        go_roundw
        case rel => exact ⟨k + 1, by omega, by go_num, (unhide hst).drew, below_drewN (unhide hb2) 1⟩
        case measure => simp [intOf]; omega
    · have hkl : k = 64 := by omega
      subst hkl
      have hl : (tab G).length = 64 := by simp
      have ha := partI_all (tab G)
      rw [hl] at ha
      rw [ha] at hown
      have hown2 : OwnI wr w.heap.size wr.heap.size (.slice (some ⟨w.heap.size, 0, none⟩) 64 64) (tab G) := by
        unfold OwnI; rw [hl]; exact Own.of hown
      replace hown2 := hide hown2
      clear hown ha hl
      go_wp2
      go_ret
      exact ⟨_, rfl, by rw [unhide hF]; exact unhide hown2, Upd.of_below (unhide hbel) 0 0⟩
end Go.Proofs.Ytnalmingbglgfaa
