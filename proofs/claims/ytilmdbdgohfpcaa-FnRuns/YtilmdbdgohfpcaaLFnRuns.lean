/- The law on runs of drawn blocks, walked. -/
import Derived.Test.YtilmdbdgohfpcaaWDbR
import Derived.Test.YtilmdbdgohfpcaaWClp
import Derived.Test.YtilmdbdgohfpcaaWBoI
import Derived.Test.YtilmdbdgohfpcaaWRnT
import Derived.Test.YtilmdbdgohfpcaaWQT
namespace Go.Proofs.Ytilmdbdgohfpcaa
open Go.RowKit

theorem argB_ofYR {w : World} {ad : Option Addr} {zs : List Int} (h : ArgY w ad zs) (hR : InB zs) : ArgB w ad zs :=
  ⟨hR, fun hne => by
    obtain ⟨b, off, e, hl, hc⟩ := h hne
    exact ⟨b, off, e, hl, hc⟩⟩
theorem runsOfF_none (xs : List Int) (h : runsOfF xs ≠ []) : BlOk xs := by
  by_cases hb : BlOk xs
  · exact hb
  · exfalso; apply h; unfold runsOfF; rw [blB_no hb]; rfl
theorem back_of (xs : List Int) (h : BlOk xs) : (blockOfF (runsOfF xs)).length = 64 ∧ (blockOfF (runsOfF xs)).getD 0 0 = 0 ∧ (blockOfF (runsOfF xs)).drop 1 = xs.drop 1 := by
  have e : runsOfF xs = runsL xs := by unfold runsOfF; rw [blB_yes h]; rfl
  obtain ⟨out, h1, h2, h3, h4⟩ := blockOf_runs xs h
  rw [e, (blockOf_yes h1).2.2.2]
  refine ⟨h2, h3, ?_⟩
  apply List.ext_getElem
  · rw [List.length_drop, List.length_drop, h2, h.1]
  · intro j a b
    rw [List.getElem_drop, List.getElem_drop]
    have hj : 1 + j < 64 := by rw [List.length_drop] at a; omega
    have := h4 (1 + j) (by omega) hj
    rwa [List.getD_eq_getElem?_getD, List.getD_eq_getElem?_getD, List.getElem?_eq_getElem (by omega), List.getElem?_eq_getElem (by rw [h.1]; omega)] at this
/-- What has been seen behind the first k places. -/
def seenTo (k : Nat) : List Bool := (List.range 64).map fun p => (List.range k).any fun j => scP j == p
def bools (bs : List Bool) : List Value := bs.map Value.bool
theorem seen_zero : seenTo 0 = List.replicate 64 false := by decide +kernel
theorem seen_step : ∀ k, k < 64 → (seenTo k).set (scP k) true = seenTo (k + 1) := by decide +kernel
theorem seen_new : ∀ k, k < 64 → (seenTo k).getD (scP k) true = false := by decide +kernel
theorem seen_len (k : Nat) : (seenTo k).length = 64 := by simp [seenTo]
theorem bools_set (bs : List Bool) (p : Nat) (b : Bool) : (bools bs).set p (.bool b) = bools (bs.set p b) := by unfold bools; rw [List.map_set]
theorem bools_at (bs : List Bool) (p : Nat) (h : p < bs.length) : (bools bs)[p]? = some (.bool (bs.getD p true)) := by
  unfold bools
  rw [List.getElem?_map, List.getElem?_eq_getElem h, List.getD_eq_getElem?_getD, List.getElem?_eq_getElem h]; rfl
theorem infoB1 : (Try.prog.info? 4).map (fun i => (i.zero, i.size, i.bytes)) = some (some (.bool false), 1, 1) := by kernel_rfl
theorem rdB_cell {w : World} {b o n cap : Nat} {zs : List Int} (h : RdB w (.slice (some ⟨b, o, none⟩) n cap) zs) (j : Nat) (hj : j < zs.length) : w.cell? ⟨b, o + j, none⟩ = some (.int .i64 (zs.getD j 0)) := by
  obtain ⟨ad', cap', e, _, _, hA⟩ := h
  simp only [Value.slice.injEq] at e
  obtain ⟨rfl, _⟩ := e
  obtain ⟨b', o', e', _, hc⟩ := hA (ne_of_lt_length hj)
  cases e'
  exact hc j hj
theorem rdB_drop {w : World} {b o n cap : Nat} {zs : List Int} (h : RdB w (.slice (some ⟨b, o, none⟩) n cap) zs) (hn : zs.length = 64) : RdI w (.slice (some ⟨b, o + 1, none⟩) 63 (cap - 1)) (zs.drop 1) := by
  have hl : (zs.drop 1).length = 63 := by rw [List.length_drop]; omega
  obtain ⟨ad', cap', e, _, _, hA⟩ := h
  simp only [Value.slice.injEq] at e
  obtain ⟨rfl, _⟩ := e
  obtain ⟨b', o', e', hb, hc⟩ := hA (ne_of_lt_length (k := 0) (by omega))
  cases e'
  refine ⟨_, _, by rw [hl], fun _ => ⟨b, o + 1, rfl, hb, fun j hj => ?_⟩⟩
  rw [hl] at hj
  have e2 : (zs.drop 1).getD j 0 = zs.getD (1 + j) 0 := by
    rw [List.getD_eq_getElem?_getD, List.getElem?_drop, ← List.getD_eq_getElem?_getD]
  rw [e2, Nat.add_assoc]
  exact hc (1 + j) (by omega)

set_option maxHeartbeats 32000000 in
set_option maxRecDepth 100000 in
theorem lawFnRunsB (ad : Option Addr) (cap : Nat) (zs : List Int) (w : World) (hA : ArgB w ad zs) :
    Calls Try.prog 3 #[.slice ad zs.length cap] w fun e w' => e = .returned (.bool true) ∧ Below w.heap.size w w' := by
  by_cases hl : 1048576 < zs.length
  · clear hA
    go_enter Try.func3, Try.ntmps3
    go_wp2
    go_ret
    exact ⟨rfl, Below.refl _ _⟩
  have hl' : zs.length ≤ 1048576 := by omega
  have hD : Calls Try.prog 7 #[.slice ad zs.length cap] w fun e w' => ∃ v xs, e = .returned v ∧ (xs.length = 64 ∨ xs.length = 63) ∧ InR (-32769) 32768 xs ∧ RdB w' v xs ∧ Below w.heap.size w w' := by
    have h := hide (specL8DrawnC ad cap zs w hA hl')
    clear hA hl hl'
    go_enter Try.func7, Try.ntmps7
    go_wp2_with fail
    refine (unhide h).mono ?_
    rintro e w1 ⟨v, xs, rfl, h1, h2, h3, h4⟩
    replace h1 := hide h1
    replace h2 := hide h2
    replace h3 := hide h3
    replace h4 := hide h4
    clear h
    go_wp2
    go_ret
    exact ⟨v, xs, rfl, unhide h1, unhide h2, unhide h3, unhide h4⟩
  clear hA
  replace hD := hide hD
  go_enter Try.func3, Try.ntmps3
  go_wp2_with fail
  refine (unhide hD).mono ?_
  rintro e w1 ⟨v, xs, rfl, hxl, hxr, hxv, hB⟩
  have hxn : xs.length ≤ 1048576 := by omega
  have hR1 := hide (implRunsOfZ v xs w1 hxn hxv.rd)
  have hxI := hide (hxr.inI (by omega) (by omega))
  replace hxv := hide hxv
  replace hB := hide hB
  replace hxr := hide hxr
  replace hxl := hide hxl
  clear hD
  go_wp2_with fail
  refine (unhide hR1).mono ?_
  rintro e w2 ⟨u, rfl, hO, hu⟩
  replace hxv := hide ((unhide hxv).below hu.none)
  replace hB := hide (below_upd (unhide hB) hu (Nat.le_refl _) (.inr (Nat.le_refl _)))
  obtain ⟨adr, capr, rfl, hr⟩ := OwnRn.rd hO
  have hr := hide hr
  have hR2 := hide (specRunsOf v xs w2 hxn (unhide hxI) (unhide hxv).rd)
  clear hO hu hR1
  go_wp2_with fail
  refine (unhide hR2).mono ?_
  rintro e w3 ⟨u, rfl, hO, hu⟩
  replace hxv := hide ((unhide hxv).below hu.none)
  replace hB := hide (below_upd (unhide hB) hu (Nat.le_refl _) (.inr (Nat.le_refl _)))
  replace hr := hide ((unhide hr).below hu.none)
  obtain ⟨adr', capr', rfl, _⟩ := OwnRn.rd hO
  clear hO hu hR2
  by_cases h0 : runsOfF xs = []
  · have h00 : (runsOfF xs).length = 0 := by rw [h0]; rfl
    rw [h00]
    clear h0 h00
    go_wp2
    go_ret
    exact ⟨rfl, unhide hB⟩
  have hbl := runsOfF_none xs h0
  obtain ⟨b1, b2, b3⟩ := back_of xs hbl
  have hx64 : xs.length = 64 := hbl.1
  have hlr : 0 < (runsOfF xs).length := by
    rcases Nat.eq_zero_or_pos (runsOfF xs).length with h | h
    · exact absurd (List.length_eq_zero_iff.1 h) h0
    · exact h
  have hlr2 : ¬ ((runsOfF xs).length : Int) = 0 := by omega
  have hBk := hide (implBlockOfZ _ (runsOfF xs) w3 (runsOfF_len xs) ⟨adr, capr, rfl, unhide hr⟩)
  generalize blockOfF (runsOfF xs) = out at b1 b2 b3 hBk
  replace b3 := hide b3
  replace b2 := hide b2
  replace hx64 := hide hx64
  clear hbl h0 hlr
  go_wp2_with fail
  refine (unhide hBk).mono ?_
  rintro e w4 ⟨u, rfl, hO, hu⟩
  replace hxv := hide ((unhide hxv).below hu.none)
  replace hB := hide (below_upd (unhide hB) hu (Nat.le_refl _) (.inr (Nat.le_refl _)))
  have hO := hide (rd_of_ownB hO)
  clear hu hBk hr
  obtain ⟨ado, capo, rfl, ho1, ho2, hAo⟩ := unhide hO
  obtain ⟨bo, oo, rfl, hbo, _⟩ := hAo (ne_of_lt_length (k := 0) (by omega))
  have c0 := rdB_cell (unhide hO) 0 (by omega)
  rw [unhide b2, Nat.add_zero] at c0
  obtain ⟨adx, capx, rfl, hx1, hx2, hAx⟩ := unhide hxv
  obtain ⟨bx, ox, rfl, hbx, _⟩ := hAx (ne_of_lt_length (k := 0) (by rw [unhide hx64]; omega))
  rw [unhide hx64] at hxv hx1 ⊢
  rw [b1] at hO ho1 ⊢
  clear hAo hAx b2
  obtain ⟨i0, hi, hz0, hz1, hz2⟩ := info_parts infoB1
  have hzero : ((0 : Int) == 0) = true := rfl
  go_upto_region 12 with fail
  go_wp2_with (at_make; refine wpList_make_full _ rfl _ _ 28 rfl w4.heap.size 4 i0 (.bool false) 1 Try.underlying28 hi hz0 hz1 .i64 .i64 _ _ 64 rfl rfl (by omega) (by omega) (by rw [hz2]; omega) (by unfold maxLen; omega) (Nat.le_refl _) ?_; intro w5 hown hgrow)
  have hb5 := (Below.refl w4.heap.size w4).grown hgrow (Nat.le_refl _) (by simp)
  have hown0 : w5.ownsRow w4.heap.size 4 1 (.slice (some ⟨w4.heap.size, 0, none⟩) 64 64) 64 (bools (seenTo 0)) := by
    rw [seen_zero]; unfold bools; simpa [toList_madeCells_one, Value.cells] using hown
  have hs5 : w4.heap.size + 1 ≤ w5.heap.size := by have := hown0.lt w4.heap.size rfl; omega
  clear hown hgrow c0
  refine (implScanOrder w5).mono ?_
  rintro e w6 ⟨us, rfl, ho, hu⟩
  have hown2 := hide ((Own.of hown0).upd hu (.inr (Nat.zero_le _))).1
  have hb6 := hide (below_upd hb5 hu (Nat.le_refl _) (.inr (Nat.le_refl _)))
  obtain ⟨ads, caps, rfl, hAs⟩ := OwnI.rd ho
  obtain ⟨bs, os, rfl, _, _⟩ := hAs (ne_of_lt_length (k := 0) (by rw [scanL_length]; omega))
  have hord := hide (own_mono ho hs5 (Nat.le_refl _))
  rw [scanL_length]
  clear hown0 hb5 ho hu hAs
  go_wp2
  go_loopw [8, 39] (fun _ i wr => ∃ k : Nat, k ≤ 64 ∧ i = .int .i64 k ∧ Hid (wr.ownsRow w4.heap.size 4 1 (.slice (some ⟨w4.heap.size, 0, none⟩) 64 64) 64 (bools (seenTo k))) ∧ Hid (OwnI wr (w4.heap.size + 1) wr.heap.size (.slice (some ⟨bs, os, none⟩) scanL.length caps) scanL) ∧ Hid (Below w4.heap.size w4 wr)) (fun _ i _ => 64 - (intOf i).toNat)
  case atStart => exact ⟨0, Nat.zero_le _, rfl, hown2, by rw [scanL_length] at hord ⊢; exact hord, hb6⟩
  case round =>
    clear hown2 hord hb6
    obtain ⟨k, hk, rfl, hown, hord, hbel⟩ := hrel
    by_cases hlt : k < 64
    · have kI : (0 : Int) ≤ (k : Int) := by omega
      have kL : (k : Int) < 64 := by omega
      have hko : wr.cell? ⟨bs, os + k, none⟩ = some (.int .i64 ((scP k : Nat) : Int)) := order_cell (unhide hord) k hlt
      have hpl := scP_lt _ hlt
      have hnew := seen_new k hlt
      have hstp := seen_step k hlt
      have hcell : wr.cell? ⟨w4.heap.size, scP k, none⟩ = some (.bool false) := by
        rw [(unhide hown).cellAt _ (by omega), bools_at _ _ (by rw [seen_len]; exact hpl), hnew]
      have hfz := (unhide hown).frozenAt (scP k)
      have hst := ((unhide hown).stored (scP k) (.bool true)).1
      rw [bools_set, hstp] at hst
      replace hst := hide hst
      have hb3 := hide ((unhide hbel).setCell (p := ⟨w4.heap.size, scP k, none⟩) (Nat.le_refl _) (.bool true))
      have ho3 := hide (Own.set' (unhide hord) (Nat.lt_succ_self w4.heap.size) (scP k) (.bool true))
      generalize scP k = p at hko hpl hcell hfz hst hb3 ho3
      have pI : (0 : Int) ≤ (p : Int) := by omega
      have pN : ¬ (p : Int) < 0 := by omega
      have pL : (p : Int) < 64 := by omega
      have pM : ¬ 63 < (p : Int) := by omega
      clear hown hord hbel hnew hstp
      go_wp2
      go_roundw
      case rel => exact ⟨k + 1, by omega, by go_num, hst, hide (own_mono (unhide ho3) (Nat.le_refl _) (by simp)), hb3⟩
      case measure => simp [intOf]; omega
    · have hk64 : k = 64 := by omega
      subst hk64
      clear hown hord hk hlt
      have hOr := rdB_drop ((unhide hO).below (unhide hbel)) b1
      have hXr := rdB_drop ((unhide hxv).below (unhide hbel)) (unhide hx64)
      rw [unhide b3] at hOr
      have hln : (xs.drop 1).length ≤ 1048576 := by rw [List.length_drop]; omega
      have hW := hide (fun X : UpdT wr => wInts_rd (.slice (some ⟨bo, oo + 1, none⟩) 63 (capo - 1)) (.slice (some ⟨bx, ox + 1, none⟩) 63 (capx - 1)) (xs.drop 1) X.to hln (hOr.below X.upd.none) (hXr.below X.upd.none))
      clear hOr hXr hln
      have hn1 : ¬ capo = 1 := by omega
      have hn2 : ¬ capx = 1 := by omega
      have hn3 : ¬ (capo : Int) - 1 = 0 := by omega
      go_upto_region 20 with fail
      refine wq_region_tail 5 (by kernel_rfl) (by kernel_rfl) ?_
      simp only [List.take_succ_cons, List.take_zero, List.drop_succ_cons, List.drop_zero]
      iterate 4
        refine WQ.step (fun K hK => ?_)
        go_simp
        refine hK _ ?_
        clear hK K
      refine WQ.step (fun K hK => ?_)
      go_simp
      refine ⟨.bool true, fun X => Calls.updT X (unhide hW X), hK _ ?_⟩
      clear hK K
      refine WQ.nil ?_
      rintro _ ⟨X, rfl⟩
      have hX := X.upd
      generalize X.to = wt at hX ⊢
      have hfin := hide ((unhide hB).trans (((unhide hbel).trans (hX.none.mono (unhide hbel).size)).mono (unhide hB).size))
      clear hX hW
      go_wp2
      go_ret
      exact ⟨rfl, unhide hfin⟩
theorem lawFnRuns (ad : Option Addr) (cap : Nat) (zs : List Int) (w : World) (hA : ArgY w ad zs) (hR : InB zs) :
    Calls Try.prog 3 #[.slice ad zs.length cap] w fun e w' => e = .returned (.bool true) ∧ Below w.heap.size w w' := lawFnRunsB ad cap zs w (argB_ofYR hA hR)
end Go.Proofs.Ytilmdbdgohfpcaa
