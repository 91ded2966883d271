/- What sound is good: the specification's walk. -/
import Derived.Test.YtocoeodoihdkgaaWSoC
import Derived.Test.YtocoeodoihdkgaaWUpd2
namespace Go.Proofs.Ytocoeodoihdkgaa
open Go.RowKit

theorem inRB_iff {lo hi : Int} {zs : List Int} : inRB lo hi zs = true ↔ InR lo hi zs := inRB_iff0
set_option maxHeartbeats 8000000 in
set_option maxRecDepth 100000 in
theorem specGoodSound (v : Value) (d : So) (w : World) (hn : SoSize d ≤ 1048576) (_hR : InSo d) (hv : RdSo w v d) :
    Calls Try.prog 26 #[v] w fun e w' => e = .returned (.bool (soundB d)) ∧ Upd 0 0 w w' := by
  obtain ⟨vl, rfl, ad, cap, rfl, hA⟩ := hv
  obtain ⟨r, b, f, ds⟩ := d
  simp only [Sov, SoSize] at hn hA ⊢
  have hnl : ds.length ≤ 1048576 := by unfold sizeLl at hn; omega
  have hEach : Hid (∀ k, k < ds.length → (Lls (ds.getD k Ln0)).length ≤ 1048576) := hide (fun k hk => by have := size1Ll_le ds k hk; unfold sizeLl at hn; unfold size1Ll at this; omega)
  have hbx := hide (heldF_new w (soc r b f (.slice ad ds.length cap)) 51)
  have hU := hide (Upd.of_below ((Below.refl w.heap.size w).alloc (Nat.le_refl _) (.cells #[.int .i64 r, .int .i64 b, .int .i64 f, .slice ad ds.length cap] 51)) 0 0)
  have hS := hide (fun m X => specL10Head r b f (ds.length : Int) m (.slice ad ds.length cap) X ⟨_, _, _, rfl⟩)
  replace hA := hide hA
  have hR0 : Hid (¬ (HeadSo r b f ∧ (1 ≤ (ds.length : Int) ∧ (ds.length : Int) ≤ 2) ∧ ((ds.getD 0 Ln0).length : Int) ≤ 4000) → soundB (r, b, f, ds) = false) := hide (fun hh => soundB_no (fun h => hh ⟨h.1, by have := h.2.1; simp only at this; omega, by have := h.2.2.1; simp only at this; omega⟩))
  have hY0 : Hid ((HeadSo r b f ∧ (1 ≤ (ds.length : Int) ∧ (ds.length : Int) ≤ 2) ∧ ((ds.getD 0 Ln0).length : Int) ≤ 4000) → (∀ k, k < ds.length → (ds.getD k Ln0).length = (ds.getD 0 Ln0).length ∧ inRB (loB b.toNat) (hiB b.toNat) (ds.getD k Ln0) = true) → soundB (r, b, f, ds) = true) := hide (fun hh h => soundB_yes ⟨hh.1, by simp only; omega, by simp only; omega, fun j hj => ⟨(h j hj).1, inRB_iff.1 (h j hj).2⟩⟩)
  have hN0 : Hid (∀ k, k < ds.length → ¬ ((ds.getD k Ln0).length = (ds.getD 0 Ln0).length ∧ inRB (loB b.toNat) (hiB b.toNat) (ds.getD k Ln0) = true) → soundB (r, b, f, ds) = false) := hide (fun k hk h => soundB_no (fun h' => h ⟨(h'.2.2.2 k hk).1, inRB_iff.2 (h'.2.2.2 k hk).2⟩))
  generalize soundB (r, b, f, ds) = R at hR0 hY0 hN0 ⊢
  go_enter Try.func26, Try.ntmps26
  go_upto_region 1 with fail
  change Hid (HeldF (w.alloc (.cells #[.int .i64 r, .int .i64 b, .int .i64 f, .slice ad ds.length cap] 51)) w.heap.size (soc r b f (.slice ad ds.length cap))) at hbx
  generalize w.alloc (.cells #[.int .i64 r, .int .i64 b, .int .i64 f, .slice ad ds.length cap] 51) = w0 at hbx hU ⊢
  have c0 := fun x : UpdT w0 => ((unhide hbx).1.updT x).2 0 _ rfl
  have c1 := fun x : UpdT w0 => ((unhide hbx).1.updT x).2 1 _ rfl
  have c2 := fun x : UpdT w0 => ((unhide hbx).1.updT x).2 2 _ rfl
  have c3 := fun x : UpdT w0 => ((unhide hbx).1.updT x).2 3 _ rfl
  have cl := fun x : UpdT w0 => ((unhide hbx).1.updT x).1
  by_cases hl1 : ds.length < 1
  · have q : decide ((ds.length : Int) < 1) = true := decide_eq_true (by omega)
    have q' : decide (ds.length < 1) = true := decide_eq_true hl1
    have hF := hide (unhide hR0 (fun h => by omega))
    clear hl1 hR0 hY0 hN0
    refine wq_region_upd (by kernel_rfl) (by kernel_rfl) ?_
    repeat
      refine WQ.step (fun K hK => ?_)
      go_simp
      refine hK _ ?_
      clear hK K
    refine WQ.nil ?_
    rintro _ ⟨x, rfl⟩
    have hx := x.upd
    clear c0 c1 c2 c3 cl
    generalize x.to = w3 at hx ⊢
    replace hU := hide ((unhide hU).trans hx)
    clear hx
    go_wp2
    go_ret
    exact ⟨by rw [unhide hF]; rfl, unhide hU⟩
  have q : decide ((ds.length : Int) < 1) = false := decide_eq_false (by omega)
  have q' : decide (ds.length < 1) = false := decide_eq_false hl1
  obtain ⟨bb, off, us, rfl, hbl, hc, hru⟩ := ((unhide hA).below (unhide hU).none) (ne_of_lt_length (k := 0) (by omega))
  have hc0 := hc 0 (by omega)
  have hr0 := hru 0 (by omega)
  generalize us 0 = u0 at hc0 hr0
  obtain ⟨ad0, cap0, rfl, _⟩ := hr0
  rw [Nat.add_zero] at hc0
  change w0.cell? ⟨bb, off, none⟩ = some (.slice ad0 (ds.getD 0 Ln0).length cap0) at hc0
  obtain ⟨m0, hm0⟩ : ∃ m0, (ds.getD 0 Ln0).length = m0 := ⟨_, rfl⟩
  rw [hm0] at hc0
  have d0 := fun x : UpdT w0 => (x.upd.none.cell (p := ⟨bb, off, none⟩) (by simpa using hbl)).trans hc0
  have zL : (0 : Int) < (ds.length : Int) := by omega
  have zN : 0 < ds.length := by omega
  have hS0 := hide (unhide hS (m0 : Int))
  clear hc hru hc0 hS
  by_cases hh : HeadSo r b f ∧ (1 ≤ (ds.length : Int) ∧ (ds.length : Int) ≤ 2) ∧ (m0 : Int) ≤ 4000
  case neg =>
    rw [hm0] at hR0
    have hF := hide (unhide hR0 hh)
    clear hR0 hY0 hN0
    rw [decide_eq_false hh] at hS0
    clear hh hm0
    refine wq_region_upd (by kernel_rfl) (by kernel_rfl) ?_
    iterate 14
      refine WQ.step (fun K hK => ?_)
      go_simp
      refine hK _ ?_
      clear hK K
    refine WQ.step (fun K hK => ?_)
    go_simp
    refine ⟨.bool false, fun X => Calls.updT X (unhide hS0 X.to), hK _ ?_⟩
    clear hK K
    iterate 2
      refine WQ.step (fun K hK => ?_)
      go_simp
      refine hK _ ?_
      clear hK K
    refine WQ.nil ?_
    rintro _ ⟨x, rfl⟩
    have hx := x.upd
    clear c0 c1 c2 c3 cl d0
    generalize x.to = w3 at hx ⊢
    replace hU := hide ((unhide hU).trans hx)
    clear hx
    go_wp2
    go_ret
    exact ⟨by rw [unhide hF]; rfl, unhide hU⟩
  rw [decide_eq_true hh] at hS0
  obtain ⟨B, rfl⟩ := Int.eq_ofNat_of_zero_le (show 0 ≤ b by have := hh.1.2.1.1; omega)
  have hB1 : 1 ≤ B := by have := hh.1.2.1.1; omega
  have hB2 : B ≤ 62 := by have := hh.1.2.1.2; omega
  have hY := hide (unhide hY0 (by rw [hm0]; exact hh))
  have hN := hN0
  rw [hm0, Int.toNat_natCast] at hY
  rw [hm0, Int.toNat_natCast] at hN
  clear hh hR0 hY0 hN0
  replace hm0 := hide hm0
  refine wq_region_upd (by kernel_rfl) (by kernel_rfl) ?_
  iterate 14
    refine WQ.step (fun K hK => ?_)
    go_simp
    refine hK _ ?_
    clear hK K
  refine WQ.step (fun K hK => ?_)
  go_simp
  refine ⟨.bool true, fun X => Calls.updT X (unhide hS0 X.to), hK _ ?_⟩
  clear hK K
  iterate 2
    refine WQ.step (fun K hK => ?_)
    go_simp
    refine hK _ ?_
    clear hK K
  refine WQ.nil ?_
  rintro _ ⟨x, rfl⟩
  have hx := x.upd
  clear c0 c1 c2 c3 cl d0
  generalize x.to = w1 at hx ⊢
  replace hU := hide ((unhide hU).trans hx)
  replace hbx := hide ((unhide hbx).keep hx)
  clear hx hS0
  have p3 := (unhide hbx).1.2 3 _ rfl
  go_wp2
  go_loopw [4, 25] (fun _ i wr => ∃ k : Nat, k ≤ ds.length ∧ i = .int .i64 k ∧ Hid (∀ j, j < k → (ds.getD j Ln0).length = m0 ∧ inRB (loB B) (hiB B) (ds.getD j Ln0) = true) ∧ Hid (Upd 0 0 w wr) ∧ Hid (HeldF wr w.heap.size (soc r (B : Int) f (.slice (some ⟨bb, off, none⟩) ds.length cap)))) (fun _ i _ => ds.length - (intOf i).toNat)
  case atStart => exact ⟨0, Nat.zero_le _, rfl, hide (fun j hj => by omega), hU, hbx⟩
  case round =>
    clear hU hbx p3
    obtain ⟨k, hk, rfl, hgd, hU, hbx⟩ := hrel
    by_cases hlt : k < ds.length
    · obtain ⟨bb', off', us, ebb, hbl', hc, hru⟩ := ((unhide hA).below (unhide hU).none) (ne_of_lt_length hlt)
      simp only [Option.some.injEq, Addr.mk.injEq] at ebb
      obtain ⟨rfl, rfl, _⟩ := ebb
      have hck := hc k hlt
      have hrk := hru k hlt
      have hc0 := hc 0 (by omega)
      have hr0 := hru 0 (by omega)
      have hG1 : Hid ((ds.getD k Ln0).length = m0 → inRB (loB B) (hiB B) (ds.getD k Ln0) = true → ∀ j, j < k + 1 → (ds.getD j Ln0).length = m0 ∧ inRB (loB B) (hiB B) (ds.getD j Ln0) = true) := hide (fun h1 h2 j hj => by
        rcases Nat.lt_or_eq_of_le (Nat.le_of_lt_succ hj) with h' | h'
        · exact unhide hgd j h'
        · subst h'; exact ⟨h1, h2⟩)
      have hN1 : Hid ((ds.getD k Ln0).length ≠ m0 → R = false) := hide (fun h => unhide hN k hlt (fun h' => h h'.1))
      have hN2 : Hid (inRB (loB B) (hiB B) (ds.getD k Ln0) = false → R = false) := hide (fun h => unhide hN k hlt (fun h' => by rw [h'.2] at h; cases h))
      generalize us k = uk at hck hrk
      generalize us 0 = u00 at hc0 hr0
      obtain ⟨adk, capk, rfl, hAk⟩ := hrk
      obtain ⟨ad00, cap00, rfl, _⟩ := hr0
      have hnk := unhide hEach k hlt
      have hP := hide (specL10In B adk capk (Lls (ds.getD k Ln0)) wr hB1 hB2 hnk hAk)
      have p1 := (unhide hbx).1.2 1 _ rfl
      have p3 := (unhide hbx).1.2 3 _ rfl
      rw [Nat.add_zero] at hc0
      clear hc hru hAk
      have kI : (0 : Int) ≤ (k : Int) := by omega
      have kL : (k : Int) < (ds.length : Int) := by omega
      have zL : (0 : Int) < (ds.length : Int) := by omega
      change wr.cell? ⟨bb, off + k, none⟩ = some (.slice adk (ds.getD k Ln0).length capk) at hck
      change wr.cell? ⟨bb, off, none⟩ = some (.slice ad00 (ds.getD 0 Ln0).length cap00) at hc0
      rw [unhide hm0] at hc0
      change Hid (Calls Try.prog _ #[.int .i64 (B : Int), .slice adk (ds.getD k Ln0).length capk] wr fun e w' => e = .returned (.bool (inRB (loB B) (hiB B) (ds.getD k Ln0))) ∧ Upd 0 0 wr w') at hP
      generalize (ds.getD k Ln0).length = mk at hck hP hG1 hN1 hnk
      generalize inRB (loB B) (hiB B) (ds.getD k Ln0) = q at hP hG1 hN2
      by_cases hm : mk = m0
      case neg =>
        have hF := hide (unhide hN1 hm)
        have qm : ((mk : Int) != (m0 : Int)) = true := by rw [bne_iff_ne]; omega
        clear hG1 hN1 hN2 hP hm hgd
        go_wp2
        go_ret
        exact ⟨by rw [unhide hF]; rfl, unhide hU⟩
      have qm : ((mk : Int) != (m0 : Int)) = false := by rw [bne_eq_false_iff_eq]; omega
      replace hG1 := hide (unhide hG1 hm)
      clear hm hN1
      cases q
      · have hF := hide (unhide hN2 rfl)
        clear hG1 hN2 hgd
        go_wp2_with fail
        refine (unhide hP).mono ?_
        rintro e w2 ⟨rfl, hu2⟩
        have hU2 := hide ((unhide hU).trans hu2)
        clear hu2 hU hbx p1 p3 hP
        go_wp2
        go_ret
        exact ⟨by rw [unhide hF]; rfl, unhide hU2⟩
      · have hgd2 := hide (unhide hG1 rfl)
        clear hG1 hN2 hgd
        go_wp2_with fail
        refine (unhide hP).mono ?_
        rintro e w2 ⟨rfl, hu2⟩
        have hU2 := hide ((unhide hU).trans hu2)
        have hbx2 := hide ((unhide hbx).keep hu2)
        clear hu2 hU hbx p1 p3 hP hck hc0
        go_wp2
        go_roundw
        case rel => exact ⟨k + 1, by omega, by go_num, hgd2, hU2, hbx2⟩
        case measure => simp [intOf]; omega
    · have hkl : k = ds.length := by omega
      subst hkl
      have hT : Hid (R = true) := hide (unhide hY (unhide hgd))
      clear hgd hbx
      go_wp2
      go_ret
      exact ⟨by rw [unhide hT]; rfl, unhide hU⟩
end Go.Proofs.Ytocoeodoihdkgaa
