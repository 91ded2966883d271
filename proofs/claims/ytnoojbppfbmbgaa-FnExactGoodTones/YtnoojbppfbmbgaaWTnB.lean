/- What tones are good: both sides. -/
import Derived.Test.YtnoojbppfbmbgaaWTnA
import Derived.Test.YtnoojbppfbmbgaaWUpd2
namespace Go.Proofs.Ytnoojbppfbmbgaa
open Go.RowKit

def tonesB (d : Tn) : Bool := headTn d.1 d.2.1 d.2.2.1 && (decide (d.2.2.2.1.length = cntTn d.2.2.1) && (decide (d.2.2.2.2.length = cntTn d.2.2.1) && (List.range d.2.2.2.1.length).all (fun k => slotB (d.2.2.2.1.getD k Ln0) && grdB (d.2.2.2.2.getD k Ln0))))
theorem tonesB_iff {d : Tn} : tonesB d = true ↔ (headTn d.1 d.2.1 d.2.2.1 = true ∧ d.2.2.2.1.length = cntTn d.2.2.1 ∧ d.2.2.2.2.length = cntTn d.2.2.1 ∧ ∀ k, k < d.2.2.2.1.length → slotB (d.2.2.2.1.getD k Ln0) = true ∧ grdB (d.2.2.2.2.getD k Ln0) = true) := by
  unfold tonesB
  rw [Bool.and_eq_true, Bool.and_eq_true, Bool.and_eq_true, decide_eq_true_iff, decide_eq_true_iff, List.all_eq_true]
  refine ⟨fun h => ⟨h.1, h.2.1, h.2.2.1, fun k hk => ?_⟩, fun h => ⟨h.1, h.2.1, h.2.2.1, fun k hk => ?_⟩⟩
  · have := h.2.2.2 k (List.mem_range.2 hk)
    rwa [Bool.and_eq_true] at this
  · rw [Bool.and_eq_true]
    exact h.2.2.2 k (List.mem_range.1 hk)
theorem tonesB_no {d : Tn} (h : ¬ (headTn d.1 d.2.1 d.2.2.1 = true ∧ d.2.2.2.1.length = cntTn d.2.2.1 ∧ d.2.2.2.2.length = cntTn d.2.2.1 ∧ ∀ k, k < d.2.2.2.1.length → slotB (d.2.2.2.1.getD k Ln0) = true ∧ grdB (d.2.2.2.2.getD k Ln0) = true)) : tonesB d = false := Bool.eq_false_iff.2 (fun h' => h (tonesB_iff.1 h'))
abbrev tnc (r q l : Int) (v v2 : Value) : List Value := [.int .i64 r, .int .i64 q, .int .i64 l, v, v2]

set_option maxHeartbeats 8000000 in
set_option maxRecDepth 100000 in
theorem implGoodTones (v : Value) (d : Tn) (w : World) (hn : TnSize d ≤ 1048576) (_hR : InTn d) (hv : RdTn w v d) :
    Calls Try.prog 28 #[v] w fun e w' => e = .returned (.bool (tonesB d)) ∧ Upd 0 0 w w' := by
  obtain ⟨vl, vl2, rfl, ⟨ad, cap, rfl, hA⟩, ad2, cap2, rfl, hA2⟩ := hv
  obtain ⟨r, q, l, ds, gs⟩ := d
  simp only [Tnv, TnSize] at hn hA hA2 ⊢
  have hnl : ds.length ≤ 1048576 := by unfold sizeLl at hn; omega
  have hng : gs.length ≤ 1048576 := by unfold sizeLl at hn; omega
  have hEach : Hid (∀ k, k < ds.length → (Lls (ds.getD k Ln0)).length ≤ 1048576) := hide (fun k hk => by have := size1Ll_le ds k hk; unfold sizeLl at hn; unfold size1Ll at this; omega)
  have hEach2 : Hid (∀ k, k < gs.length → (Lls (gs.getD k Ln0)).length ≤ 1048576) := hide (fun k hk => by have := size1Ll_le gs k hk; unfold sizeLl at hn; unfold size1Ll at this; omega)
  have hbx := hide (heldF_new w (tnc r q l (.slice ad ds.length cap) (.slice ad2 gs.length cap2)) 45)
  have hU := hide (Upd.of_below ((Below.refl w.heap.size w).alloc (Nat.le_refl _) (.cells #[.int .i64 r, .int .i64 q, .int .i64 l, .slice ad ds.length cap, .slice ad2 gs.length cap2] 45)) 0 0)
  have hS := hide (fun X => implTnHead r q l (.slice ad ds.length cap) (.slice ad2 gs.length cap2) X ⟨_, _, _, rfl⟩ ⟨_, _, _, rfl⟩)
  replace hA := hide hA
  replace hA2 := hide hA2
  have hN0 : Hid (headTn r q l = false → tonesB (r, q, l, ds, gs) = false) := hide (fun h => by unfold tonesB; rw [h]; rfl)
  have hN1 : Hid (ds.length ≠ cntTn l → tonesB (r, q, l, ds, gs) = false) := hide (fun h => tonesB_no (fun h' => h h'.2.1))
  have hN2 : Hid (gs.length ≠ cntTn l → tonesB (r, q, l, ds, gs) = false) := hide (fun h => tonesB_no (fun h' => h h'.2.2.1))
  have hY : Hid (headTn r q l = true → ds.length = cntTn l → gs.length = cntTn l → (∀ k, k < ds.length → slotB (ds.getD k Ln0) = true ∧ grdB (gs.getD k Ln0) = true) → tonesB (r, q, l, ds, gs) = true) := hide (fun h1 h2 h3 h4 => tonesB_iff.2 ⟨h1, h2, h3, h4⟩)
  have hN3 : Hid (∀ k, k < ds.length → slotB (ds.getD k Ln0) = false → tonesB (r, q, l, ds, gs) = false) := hide (fun k hk h => tonesB_no (fun h' => by rw [(h'.2.2.2 k hk).1] at h; cases h))
  have hN4 : Hid (∀ k, k < ds.length → grdB (gs.getD k Ln0) = false → tonesB (r, q, l, ds, gs) = false) := hide (fun k hk h => tonesB_no (fun h' => by rw [(h'.2.2.2 k hk).2] at h; cases h))
  generalize tonesB (r, q, l, ds, gs) = R at hN0 hN1 hN2 hY hN3 hN4 ⊢
  go_enter Try.func28, Try.ntmps28
  go_upto_region 1 with fail
  change Hid (HeldF (w.alloc (.cells #[.int .i64 r, .int .i64 q, .int .i64 l, .slice ad ds.length cap, .slice ad2 gs.length cap2] 45)) w.heap.size (tnc r q l (.slice ad ds.length cap) (.slice ad2 gs.length cap2))) at hbx
  generalize w.alloc (.cells #[.int .i64 r, .int .i64 q, .int .i64 l, .slice ad ds.length cap, .slice ad2 gs.length cap2] 45) = w0 at hbx hU ⊢
  have c0 := fun x : UpdT w0 => ((unhide hbx).1.updT x).2 0 _ rfl
  have c1 := fun x : UpdT w0 => ((unhide hbx).1.updT x).2 1 _ rfl
  have c2 := fun x : UpdT w0 => ((unhide hbx).1.updT x).2 2 _ rfl
  have c3 := fun x : UpdT w0 => ((unhide hbx).1.updT x).2 3 _ rfl
  have c4 := fun x : UpdT w0 => ((unhide hbx).1.updT x).2 4 _ rfl
  have cl := fun x : UpdT w0 => ((unhide hbx).1.updT x).1
  cases hh : headTn r q l
  · have hF := hide (unhide hN0 hh)
    rw [hh] at hS
    clear hN0 hN1 hN2 hN3 hN4 hY hh
    refine wq_region_upd (by kernel_rfl) (by kernel_rfl) ?_
    iterate 1
      refine WQ.step (fun K hK => ?_)
      go_simp
      refine hK _ ?_
      clear hK K
    refine WQ.step (fun K hK => ?_)
    go_simp
    refine ⟨.bool false, fun X => Calls.updT X (unhide hS X.to), hK _ ?_⟩
    clear hK K
    iterate 17
      refine WQ.step (fun K hK => ?_)
      go_simp
      refine hK _ ?_
      clear hK K
    refine WQ.nil ?_
    rintro _ ⟨x, rfl⟩
    have hx := x.upd
    clear c0 c1 c2 c3 c4 cl
    generalize x.to = w3 at hx ⊢
    replace hU := hide ((unhide hU).trans hx)
    clear hx
    go_wp2
    go_ret
    exact ⟨by rw [unhide hF]; rfl, unhide hU⟩
  rw [hh] at hS
  obtain ⟨⟨h0, h1⟩⟩ : ∃ _ : (0 ≤ l ∧ l ≤ 4000), True := ⟨(headTn_iff.1 hh).2.2, trivial⟩
  have hC := hide (fun X => implTnCount r q l (.slice ad ds.length cap) (.slice ad2 gs.length cap2) X h0 h1 ⟨_, _, _, rfl⟩ ⟨_, _, _, rfl⟩)
  replace hh := hide hh
  generalize cntTn l = C at hC hN1 hN2 hY
  by_cases e1 : ds.length = C
  case neg =>
    have hF := hide (unhide hN1 e1)
    have z1 : ((ds.length : Int) != (C : Int)) = true := by rw [bne_iff_ne]; omega
    clear hN0 hN1 hN2 hN3 hN4 hY e1 h0 h1
    refine wq_region_upd (by kernel_rfl) (by kernel_rfl) ?_
    iterate 1
      refine WQ.step (fun K hK => ?_)
      go_simp
      refine hK _ ?_
      clear hK K
    refine WQ.step (fun K hK => ?_)
    go_simp
    refine ⟨.bool true, fun X => Calls.updT X (unhide hS X.to), hK _ ?_⟩
    clear hK K
    iterate 6
      refine WQ.step (fun K hK => ?_)
      go_simp
      refine hK _ ?_
      clear hK K
    refine WQ.step (fun K hK => ?_)
    go_simp
    refine ⟨.int .i64 C, fun X => Calls.updT X (unhide hC X.to), hK _ ?_⟩
    clear hK K
    iterate 10
      refine WQ.step (fun K hK => ?_)
      go_simp
      refine hK _ ?_
      clear hK K
    refine WQ.nil ?_
    rintro _ ⟨x, rfl⟩
    have hx := x.upd
    clear c0 c1 c2 c3 c4 cl
    generalize x.to = w3 at hx ⊢
    replace hU := hide ((unhide hU).trans hx)
    clear hx
    go_wp2
    go_ret
    exact ⟨by rw [unhide hF]; rfl, unhide hU⟩
  have z1 : ((ds.length : Int) != (C : Int)) = false := by rw [bne_eq_false_iff_eq]; omega
  by_cases e2 : gs.length = C
  case neg =>
    have hF := hide (unhide hN2 e2)
    have z2 : ((gs.length : Int) != (C : Int)) = true := by rw [bne_iff_ne]; omega
    have z3 : ((gs.length : Int) != (ds.length : Int)) = true := by rw [bne_iff_ne]; omega
    clear hN0 hN1 hN2 hN3 hN4 hY e1 e2 h0 h1
    refine wq_region_upd (by kernel_rfl) (by kernel_rfl) ?_
    iterate 1
      refine WQ.step (fun K hK => ?_)
      go_simp
      refine hK _ ?_
      clear hK K
    refine WQ.step (fun K hK => ?_)
    go_simp
    refine ⟨.bool true, fun X => Calls.updT X (unhide hS X.to), hK _ ?_⟩
    clear hK K
    iterate 6
      refine WQ.step (fun K hK => ?_)
      go_simp
      refine hK _ ?_
      clear hK K
    refine WQ.step (fun K hK => ?_)
    go_simp
    refine ⟨.int .i64 C, fun X => Calls.updT X (unhide hC X.to), hK _ ?_⟩
    clear hK K
    iterate 7
      refine WQ.step (fun K hK => ?_)
      go_simp
      refine hK _ ?_
      clear hK K
    refine WQ.step (fun K hK => ?_)
    go_simp
    refine ⟨.int .i64 C, fun X => Calls.updT X (unhide hC X.to), hK _ ?_⟩
    clear hK K
    iterate 2
      refine WQ.step (fun K hK => ?_)
      go_simp
      refine hK _ ?_
      clear hK K
    refine WQ.nil ?_
    rintro _ ⟨x, rfl⟩
    have hx := x.upd
    clear c0 c1 c2 c3 c4 cl
    generalize x.to = w3 at hx ⊢
    replace hU := hide ((unhide hU).trans hx)
    clear hx
    go_wp2
    go_ret
    exact ⟨by rw [unhide hF]; rfl, unhide hU⟩
  have z2 : ((gs.length : Int) != (C : Int)) = false := by rw [bne_eq_false_iff_eq]; omega
  have z3 : ((gs.length : Int) != (ds.length : Int)) = false := by rw [bne_eq_false_iff_eq]; omega
  have hYY := hide (unhide hY (unhide hh) e1 e2)
  have hge : ds.length ≤ gs.length := by omega
  clear hN0 hN1 hN2 hY e1 e2 h0 h1 hh
  refine wq_region_upd (by kernel_rfl) (by kernel_rfl) ?_
  iterate 1
    refine WQ.step (fun K hK => ?_)
    go_simp
    refine hK _ ?_
    clear hK K
  refine WQ.step (fun K hK => ?_)
  go_simp
  refine ⟨.bool true, fun X => Calls.updT X (unhide hS X.to), hK _ ?_⟩
  clear hK K
  iterate 6
    refine WQ.step (fun K hK => ?_)
    go_simp
    refine hK _ ?_
    clear hK K
  refine WQ.step (fun K hK => ?_)
  go_simp
  refine ⟨.int .i64 C, fun X => Calls.updT X (unhide hC X.to), hK _ ?_⟩
  clear hK K
  iterate 7
    refine WQ.step (fun K hK => ?_)
    go_simp
    refine hK _ ?_
    clear hK K
  refine WQ.step (fun K hK => ?_)
  go_simp
  refine ⟨.int .i64 C, fun X => Calls.updT X (unhide hC X.to), hK _ ?_⟩
  clear hK K
  iterate 2
    refine WQ.step (fun K hK => ?_)
    go_simp
    refine hK _ ?_
    clear hK K
  refine WQ.nil ?_
  rintro _ ⟨x, rfl⟩
  have hx := x.upd
  clear c0 c1 c2 c3 c4 cl
  generalize x.to = w1 at hx ⊢
  replace hU := hide ((unhide hU).trans hx)
  replace hbx := hide ((unhide hbx).keep hx)
  clear hx hS hC z1 z2 z3
  have p3 := (unhide hbx).1.2 3 _ rfl
  have p4 := (unhide hbx).1.2 4 _ rfl
  go_wp2
  go_loopw [3, 4, 27] (fun _ _ i wr => ∃ k : Nat, k ≤ ds.length ∧ i = .int .i64 k ∧ Hid (∀ j, j < k → slotB (ds.getD j Ln0) = true ∧ grdB (gs.getD j Ln0) = true) ∧ Hid (Upd 0 0 w wr) ∧ Hid (HeldF wr w.heap.size (tnc r q l (.slice ad ds.length cap) (.slice ad2 gs.length cap2)))) (fun _ _ i _ => ds.length - (intOf i).toNat)
  case atStart => exact ⟨0, Nat.zero_le _, rfl, hide (fun j hj => by omega), hU, hbx⟩
  case round =>
    clear hU hbx p3 p4
    obtain ⟨k, hk, rfl, hgd, hU, hbx⟩ := hrel
    by_cases hlt : k < ds.length
    · obtain ⟨bb, off, us, ebb, hbl, hc, hru⟩ := ((unhide hA).below (unhide hU).none) (ne_of_lt_length hlt)
      obtain ⟨bb2, off2, us2, ebb2, hbl2, hc2, hru2⟩ := ((unhide hA2).below (unhide hU).none) (ne_of_lt_length (k := k) (by omega))
      subst ebb
      subst ebb2
      have hck := hc k hlt
      have hrk := hru k hlt
      have hck2 := hc2 k (by omega)
      have hrk2 := hru2 k (by omega)
      have hG1 : Hid (slotB (ds.getD k Ln0) = true → grdB (gs.getD k Ln0) = true → ∀ j, j < k + 1 → slotB (ds.getD j Ln0) = true ∧ grdB (gs.getD j Ln0) = true) := hide (fun h1 h2 j hj => by
        rcases Nat.lt_or_eq_of_le (Nat.le_of_lt_succ hj) with h' | h'
        · exact unhide hgd j h'
        · subst h'; exact ⟨h1, h2⟩)
      have hF1 : Hid (slotB (ds.getD k Ln0) = false → R = false) := hide (unhide hN3 k hlt)
      have hF2 : Hid (grdB (gs.getD k Ln0) = false → R = false) := hide (unhide hN4 k hlt)
      generalize us k = uk at hck hrk
      generalize us2 k = uk2 at hck2 hrk2
      obtain ⟨adk, capk, rfl, hAk⟩ := hrk
      obtain ⟨adk2, capk2, rfl, hAk2⟩ := hrk2
      have hnk := unhide hEach k hlt
      have hnk2 := unhide hEach2 k (by omega)
      have hP := hide (implGoodSlot adk capk (ds.getD k Ln0) wr hnk hAk)
      have hP2 := hide (fun X (hX : Upd 0 0 wr X) => implGoodGrades adk2 capk2 (gs.getD k Ln0) X hnk2 (hAk2.below hX.none))
      have p3 := (unhide hbx).1.2 3 _ rfl
      have p4 := (unhide hbx).1.2 4 _ rfl
      clear hc hru hc2 hru2 hAk hAk2
      have kI : (0 : Int) ≤ (k : Int) := by omega
      have kL : (k : Int) < (ds.length : Int) := by omega
      have kL2 : (k : Int) < (gs.length : Int) := by omega
      change wr.cell? ⟨bb, off + k, none⟩ = some (.slice adk (ds.getD k Ln0).length capk) at hck
      change wr.cell? ⟨bb2, off2 + k, none⟩ = some (.slice adk2 (gs.getD k Ln0).length capk2) at hck2
      change Hid (Calls Try.prog _ _ wr fun e w' => e = .returned (.bool (slotB (ds.getD k Ln0))) ∧ Upd 0 0 wr w') at hP
      change Hid (∀ X, Upd 0 0 wr X → Calls Try.prog _ _ X fun e w' => e = .returned (.bool (grdB (gs.getD k Ln0))) ∧ Upd 0 0 X w') at hP2
      generalize (ds.getD k Ln0).length = mk at hck hP hnk
      generalize (gs.getD k Ln0).length = mk2 at hck2 hP2 hnk2
      generalize slotB (ds.getD k Ln0) = s1 at hP hG1 hF1
      generalize grdB (gs.getD k Ln0) = s2 at hP2 hG1 hF2
      cases s1
      · have hF := hide (unhide hF1 rfl)
        clear hG1 hF1 hF2 hgd hP2
        go_wp2_with fail
        refine (unhide hP).mono ?_
        rintro e w2 ⟨rfl, hu2⟩
        have hU2 := hide ((unhide hU).trans hu2)
        clear hu2 hU hbx p3 p4 hP hck hck2
        go_wp2
        go_ret
        exact ⟨by rw [unhide hF]; rfl, unhide hU2⟩
      go_wp2_with fail
      refine (unhide hP).mono ?_
      rintro e w2 ⟨rfl, hu2⟩
      have hU2 := hide ((unhide hU).trans hu2)
      have hbx2 := hide ((unhide hbx).keep hu2)
      have p4' := (unhide hbx2).1.2 4 _ rfl
      have hck2' : w2.cell? ⟨bb2, off2 + k, none⟩ = some (.slice adk2 mk2 capk2) := (hu2.none.cell (p := ⟨bb2, off2 + k, none⟩) (by simpa using hbl2)).trans hck2
      have hP3 := hide (unhide hP2 w2 hu2)
      clear hu2 hU hbx p3 p4 hP hP2 hck hck2
      cases s2
      · have hF := hide (unhide hF2 rfl)
        clear hG1 hF1 hF2 hgd
        go_wp2_with fail
        refine (unhide hP3).mono ?_
        rintro e w3 ⟨rfl, hu3⟩
        have hU3 := hide ((unhide hU2).trans hu3)
        clear hu3 hU2 hbx2 p4' hP3 hck2'
        go_wp2
        go_ret
        exact ⟨by rw [unhide hF]; rfl, unhide hU3⟩
      · have hgd2 := hide (unhide hG1 (by trivial) (by trivial))
        clear hG1 hF1 hF2 hgd
        go_wp2_with fail
        refine (unhide hP3).mono ?_
        rintro e w3 ⟨rfl, hu3⟩
        have hU3 := hide ((unhide hU2).trans hu3)
        have hbx3 := hide ((unhide hbx2).keep hu3)
        clear hu3 hU2 hbx2 p4' hP3 hck2'
        go_wp2
        go_roundw
        case rel => exact ⟨k + 1, by omega, by go_num, hgd2, hU3, hbx3⟩
        case measure => simp [intOf]; omega
    · have hkl : k = ds.length := by omega
      subst hkl
      have hT : Hid (R = true) := hide (unhide hYY (unhide hgd))
      clear hgd hbx
      go_wp2
      go_ret
      exact ⟨by rw [unhide hT]; rfl, unhide hU⟩
end Go.Proofs.Ytnoojbppfbmbgaa
