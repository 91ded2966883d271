/- The walk of the drawing of two rows to be filtered. -/
import Derived.Test.YthndnehadkgibaaWCurC
import Derived.Test.YthndnehadkgibaaWDraR
import Derived.Test.YthndnehadkgibaaPlainI3
import Derived.Test.YthndnehadkgibaaWRowA
import Derived.Deep.DeepCutAuto
namespace Go.Proofs.Ythndnehadkgibaa
open Go.RowKit

theorem results_tmp4 {fn : Func} {t u v x : Tmp} (h : fn.results = #[.tmp t, .tmp u, .tmp v, .tmp x]) (tmps : Array Value) (P : Program) (w : World) :
    (results fn tmps).run P w = .ok (.tuple #[tmps.getD t undef, tmps.getD u undef, tmps.getD v undef, tmps.getD x undef]) w := by
  simp [results, h]
theorem u8_wrap_bdD (n : Int) : 0 ≤ IntKind.u8.wrap n ∧ IntKind.u8.wrap n < 256 := by rw [IntKind.wrap_u8]; omega
theorem own_nilYD (w : World) (a b : Nat) : OwnY w a b (.slice none 0 0) [] := ⟨World.ownsRow_nil _ _ _ _, fun k hk => by simp [Value.ownBlock] at hk⟩
theorem samples_row {N : Nat} {xs : List Int} (hl : xs.length = N) (hN : N ≤ 4096) (hT : InT (2 ^ 8) xs) : RowOk xs (8 : Nat) ∧ (rowF xs (8 : Nat)).length = N := by
  have h : RowOk xs (8 : Nat) := ⟨rfl, by omega, fun j hj => hT j hj⟩
  exact ⟨h, by rw [row_len h]; omega⟩
theorem OnlyAt.refl' (c : Nat) (w : World) : OnlyAt c w w := ⟨rfl, rfl, rfl, Nat.le_refl _, fun _ _ _ => rfl⟩

set_option maxHeartbeats 16000000 in
set_option maxRecDepth 1000000 in
theorem specL4Rows (ad : Option Addr) (cap : Nat) (zs : List Int) (w : World) (h : ArgB w ad zs) (hl : zs.length ≤ 1048576) :
    Calls Try.prog 38 #[.slice ad zs.length cap] w fun e w' => ∃ (s : Int) (u : Value) (ab : List Int) (v : Value) (row : List Int), e = .returned (.tuple #[.int .i64 s, u, v, .pointer (some ⟨w.heap.size, 0, none⟩)]) ∧ (-1 ≤ s ∧ s ≤ 10) ∧ ab.length ≤ 30 ∧ row.length ≤ 30 ∧ InB ab ∧ InB row ∧
      OwnY w' (w.heap.size + 1) w'.heap.size u ab ∧ OwnY w' (w.heap.size + 1) w'.heap.size v row ∧ CurIn w' w.heap.size ad cap zs 1000 ∧ Below w.heap.size w w' := by
  have hc := hide (curIn_new w ad cap zs h)
  have hadl : ∀ b' off, ad = some ⟨b', off, none⟩ → zs ≠ [] → b' < w.heap.size := fun b' off e hne => by
    obtain ⟨b2, off2, e2, hl2, _⟩ := h.2 hne
    rw [e] at e2
    simp only [Option.some.injEq, Addr.mk.injEq, and_true] at e2
    omega
  replace hadl := hide hadl
  clear h
  have hbC := (Below.refl w.heap.size w).alloc (Nat.le_refl _) (.cells #[.slice ad zs.length cap, .int .i64 0, .int .u64 0] 67)
  have hszC : (w.alloc (.cells #[.slice ad zs.length cap, .int .i64 0, .int .u64 0] 67)).heap.size = w.heap.size + 1 := by simp
  have hpick := hide (fun (m' : Nat) (n : Int) (W : World) (hc : CurIn W w.heap.size ad cap zs m') (h1 : m' ≤ 1099511627000) (h2 : n ≤ 1000000) => curPickAny w.heap.size ad cap zs m' n W hc h1 hl h2)
  have hone := hide (fun (m' : Nat) (n : Int) (W : World) (hc : CurIn W w.heap.size ad cap zs m') (h1 : m' ≤ 1099511627000) (h2 : 1 < n ∧ n ≤ 200) => curOne w.heap.size ad cap zs m' n W hc (by omega) hl h2.1 h2.2)
  go_enter Try.func38, Try.ntmps38
  go_wp2_with fail
  have hs0 : w.heap.size + 1 ≤ (w.alloc (.cells #[.slice ad zs.length cap, .int .i64 0, .int .u64 0] 67)).heap.size := by simp
  generalize w.alloc (.cells #[.slice ad zs.length cap, .int .i64 0, .int .u64 0] 67) = W0 at hc hbC hs0 ⊢
  clear hszC
  refine (unhide hpick 0 4 W0 (unhide hc) (by omega) (by omega)).mono ?_
  rintro e W1 ⟨X, rfl, X0, X1, hcx, hox⟩
  replace X1 := X1 (by omega)
  have hb1 := hide (hbC.trans (hox.below (Nat.le_refl _) hbC.size))
  have hs1 := Nat.le_trans hs0 hox.size
  have hc1 := hide hcx
  clear hcx hox hc hbC hs0
  go_wp2_with fail
  refine (unhide hpick (0 + 3) 24 W1 (unhide hc1) (by omega) (by omega)).mono ?_
  rintro e W2 ⟨nn, rfl, n0, n1, hcx, hox⟩
  replace n1 := n1 (by omega)
  obtain ⟨N, rfl⟩ := Int.eq_ofNat_of_zero_le n0
  have hb2 := hide ((unhide hb1).trans (hox.below (Nat.le_refl _) (unhide hb1).size))
  have hs2 := Nat.le_trans hs1 hox.size
  have hc2 := hide hcx
  have hN30 : N ≤ 30 := by omega
  clear hcx hox hc1 hb1 hs1 W1
  go_wp2_with fail
  refine (curBytes w.heap.size ad cap zs (0 + 3 + 3) N W2 (unhide hc2) (by omega) hl (by omega)).mono ?_
  rintro e W3 ⟨v, row0, rfl, hvv, hrl, hrB, hov, hcx, hox⟩
  clear hvv
  have hb3 := hide ((unhide hb2).trans (hox.below (Nat.le_refl _) (unhide hb2).size))
  have hs3 := Nat.le_trans hs2 hox.size
  have hc3 := hide (hcx.more (show 0 + 3 + 3 + N ≤ 100 by omega))
  have hr3 := hide (own_mono hov hs2 (Nat.le_refl _))
  replace hrB := hide hrB
  clear hcx hox hov hc2 hb2 hs2 W2
  go_wp2_with fail
  refine (unhide hone 100 2 W3 (unhide hc3) (by omega) (by omega)).mono ?_
  rintro e W4 ⟨b0, rfl, hcx, hox⟩
  have hb4 := hide ((unhide hb3).trans (hox.below (Nat.le_refl _) (unhide hb3).size))
  have hs4 := Nat.le_trans hs3 hox.size
  have hc4 := hide hcx
  have hr4 := hide (own_mono ((unhide hr3).only (by omega) hox) (Nat.le_refl _) hox.size)
  clear hcx hox hc3 hb3 hr3 hs3 W3
  go_upto_if 24 with fail
  go_cut [9] (fun s9 wx => ∃ (vr : Value) (row : List Int), vr = s9 ∧ row.length = N ∧ w.heap.size + 1 ≤ wx.heap.size ∧ Hid (InB row) ∧ Hid (OwnY wx (w.heap.size + 1) wx.heap.size vr row) ∧ Hid (CurIn wx w.heap.size ad cap zs 300) ∧ Hid (Below w.heap.size w wx))
  case first =>
    cases b0
    · have hc5 := hide ((unhide hc4).more (show 100 + 1 ≤ 300 by omega))
      go_wp2
      go_meet
      exact ⟨_, row0, rfl, hrl, hs4, hrB, hr4, hc5, hb4⟩
    · clear hr4 hrB
      go_wp2_with fail
      refine (curSamples w.heap.size ad cap zs (100 + 1) N 1 1 N 8 W4 (unhide hc4) (by omega) hl (by omega) (by omega) (by omega) (by omega) (by omega) (by omega)).mono ?_
      rintro e W5 ⟨v5, xs, rfl, hxl, hxT, hov, hcx, hox⟩
      have hb5 := hide ((unhide hb4).trans (hox.below (Nat.le_refl _) (unhide hb4).size))
      have hs5 := Nat.le_trans hs4 hox.size
      have hc5 := hide (hcx.more (show 100 + 1 + 12 + 3 * N ≤ 300 by omega))
      have hR := hide (samples_row hxl (by omega) hxT)
      have hxT2 := hide hxT
      have hrd := hide (OwnI.rd hov)
      clear hcx hox hov hc4 hb4 hxT
      go_wp2_with fail
      refine (specL4Pack v5 xs 8 W5 rfl (by omega) (fun j hj => unhide hxT2 j hj) (unhide hrd)).mono ?_
      rintro e W6 ⟨u6, rfl, hown, hbel⟩
      have hb6 := hide ((unhide hb5).trans (hbel.mono (by omega)))
      have hs6 := Nat.le_trans hs5 hbel.size
      have hc6 := hide ((unhide hc5).grown hbel)
      have ho6 : OwnY W6 W5.heap.size W6.heap.size u6 (rowF xs (8 : Nat)) := by
        unfold OwnY; rw [rowF_byts, rowF_length, rowB_yes (unhide hR).1]; exact Own.of hown
      replace ho6 := hide (own_mono ho6 hs5 (Nat.le_refl _))
      clear hown hbel hc5 hb5
      go_wp2_with fail
      go_meet
      exact ⟨_, rowF xs (8 : Nat), rfl, (unhide hR).2, hs6, hide rowF_inB, ho6, hc6, hb6⟩
  case rest =>
    clear hr4 hrB hc4 hb4 hs4
    obtain ⟨vr, row, rfl, hrl2, hsc, hrB, hrO, hcc, hbb⟩ := hcut
    clear hrl row0
    go_wp2_with fail
    refine (unhide hone 300 4 wc (unhide hcc) (by omega) (by omega)).mono ?_
    rintro e W5 ⟨b1, rfl, hcx, hox⟩
    have hb5 := hide ((unhide hbb).trans (hox.below (Nat.le_refl _) (unhide hbb).size))
    have hs5 := Nat.le_trans hsc hox.size
    have hc5 := hide hcx
    have hr5 := hide (own_mono ((unhide hrO).only (by omega) hox) (Nat.le_refl _) hox.size)
    clear hcx hox hcc hbb hrO hsc
    go_upto_if 31 with fail
    go_cut [10] (fun s10 wx => ∃ (va : Value) (ab : List Int) (mid : Nat), va = s10 ∧ ab.length ≤ N ∧ (w.heap.size + 1 ≤ mid ∧ mid ≤ wx.heap.size) ∧ Hid (InB ab) ∧ Hid (OwnY wx mid wx.heap.size va ab) ∧ Hid (OwnY wx (w.heap.size + 1) mid vr row) ∧ Hid (CurIn wx w.heap.size ad cap zs 600) ∧ Hid (Below w.heap.size w wx))
    case first =>
      cases b1
      · go_wp2_with fail
        refine (curBytes w.heap.size ad cap zs (300 + 1) N W5 (unhide hc5) (by omega) hl (by omega)).mono ?_
        rintro e W6 ⟨u, ab, rfl, hvv, hal, haB, hov, hcx, hox⟩
        have hs56 := hox.size
        have hb6 := hide ((unhide hb5).trans (hox.below (Nat.le_refl _) (unhide hb5).size))
        have hs6 := Nat.le_trans hs5 hox.size
        have hc6 := hide hcx
        have hr6 := hide ((unhide hr5).only (by omega) hox)
        have ha6 := hide hov
        replace haB := hide haB
        clear hcx hox hov hc5 hr5 hb5
        go_wp2_with fail
        refine (unhide hone (300 + 1 + N) 2 W6 (unhide hc6) (by omega) (by omega)).mono ?_
        rintro e W7 ⟨b2, rfl, hcx, hox⟩
        have hs67 := hox.size
        have hb7 := hide ((unhide hb6).trans (hox.below (Nat.le_refl _) (unhide hb6).size))
        have hs7 := Nat.le_trans hs6 hox.size
        have hc7 := hide (hcx.more (show 300 + 1 + N + 1 ≤ 400 by omega))
        have hr7 := hide ((unhide hr6).only (by omega) hox)
        have ha7 := hide ((unhide ha6).only (by omega) hox)
        clear hcx hox hc6 hr6 ha6 hb6
        subst hvv
        cases b2
        · go_wp2
          go_meet
          exact ⟨_, ab, W5.heap.size, rfl, by omega, ⟨hs5, by omega⟩, haB, hide (own_mono (unhide ha7) (by omega) (by omega)), hr7, hide ((unhide hc7).more (by omega)), hb7⟩
        · go_wp2_with fail
          go_loopw [39] (fun i wx => ∃ (k : Nat) (xs : List Int), k ≤ N ∧ i = .int .i64 k ∧ xs.length = N ∧ W7.heap.size ≤ wx.heap.size ∧ Hid (InB xs) ∧ Hid (Own 5 1 wx W5.heap.size W6.heap.size (.slice (some ⟨W5.heap.size, 0, none⟩) N N) N (byts xs)) ∧ Hid (Own 5 1 wx (w.heap.size + 1) W5.heap.size vr N (byts row)) ∧ Hid (CurIn wx w.heap.size ad cap zs (400 + 3 * k)) ∧ Hid (Below w.heap.size w wx)) (fun i _ => N - (intOf i).toNat)
          case atStart => exact ⟨0, ab, Nat.zero_le _, rfl, hal, Nat.le_refl _, haB, hide (by have := unhide ha7; unfold OwnY at this; rw [hal] at this; exact this), hide (by have := unhide hr7; unfold OwnY at this; rw [hrl2] at this; exact this), hc7, hb7⟩
          case round =>
            clear ha7 hr7 hc7 hb7 haB
            obtain ⟨k, xs, hk, rfl, hxl, hsx, hxB, hxO, hrO, hcx, hbx⟩ := hrel
            by_cases hlt : k < N
            · obtain ⟨gr, cpr, hvr, hg0, hg1⟩ := own_at (unhide hrO) (by omega)
              subst hvr
              have hck : wr.cell? ⟨gr, k, none⟩ = some (.int .u8 (row.getD k 0)) := by
                rw [(unhide hrO).1.cellAt k (by omega)]
                unfold byts
                rw [List.getElem?_map, List.getElem?_eq_getElem (by omega), List.getD_eq_getElem?_getD, List.getElem?_eq_getElem (by omega)]; rfl
              generalize row.getD k 0 = x at hck
              have hdst : ∃ y, wr.cell? ⟨W5.heap.size, k, none⟩ = some y := by
                rw [(unhide hxO).1.cellAt k (by omega)]; exact ⟨_, List.getElem?_eq_getElem (by have := (unhide hxO).1.1; omega)⟩
              obtain ⟨y, hdst⟩ := hdst
              have hfz := (unhide hxO).1.frozenAt k
              have hp := hide (fun (W : World) (hW : CurIn W w.heap.size ad cap zs (400 + 3 * k)) => unhide hpick (400 + 3 * k) 5 W hW (by omega) (by omega))
              have hcd := hide (show CurIn wr.drew w.heap.size ad cap zs (400 + 3 * k) from unhide hcx)
              have hlow0 : W5.heap.size < W6.heap.size := (unhide hxO).2 W5.heap.size rfl
              have hgw : gr < wr.drew.heap.size := by show gr < wr.heap.size; omega
              have hgv : W5.heap.size < wr.drew.heap.size := by show W5.heap.size < wr.heap.size; omega
              have hgn : gr ≠ w.heap.size := by omega
              have hgm : W5.heap.size ≠ w.heap.size := by omega
              have hgw2 := hide hgw
              have hgv2 := hide hgv
              have hgn2 := hide hgn
              have hgm2 := hide hgm
              clear hgw hgv hgn hgm
              go_wp2_with fail
              go_region_with (go_at_call 39; refine (unhide hp _ ?_).mono ?_; exact unhide hcd; rintro e wq ⟨pk, rfl, pk0, pk1, hcq, hoq⟩; have hck2 := (hoq.cell (p := ⟨gr, k, none⟩) (unhide hgw2) (unhide hgn2)).trans hck; have hdst2 := (hoq.cell (p := ⟨W5.heap.size, k, none⟩) (unhide hgv2) (unhide hgm2)).trans hdst; have hfz2 := (hoq.frozen (p := ⟨W5.heap.size, k, none⟩) (unhide hgv2) (unhide hgm2)).trans hfz)
              all_goals
                have hoq3 : OnlyAt w.heap.size wr wq := (show OnlyAt w.heap.size wr wr.drew from ⟨rfl, rfl, rfl, Nat.le_refl _, fun _ _ _ => rfl⟩).trans hoq
                have hlow : W5.heap.size < W6.heap.size := (unhide hxO).2 W5.heap.size rfl
                have hxO2 := (unhide hxO).only (by omega) hoq3
                have hrO2 := (unhide hrO).only (by omega) hoq3
                have hst := hide (fun z : Int => show Own 5 1 (wq.setCell ⟨W5.heap.size, k, none⟩ (.int .u8 z)) W5.heap.size W6.heap.size (.slice (some ⟨W5.heap.size, 0, none⟩) N N) N (byts (xs.set k z)) from ⟨by have := (hxO2.1.stored k (.int .u8 z)).1; rw [byts_set] at this; exact this, hxO2.2⟩)
                have hup := fun z : Int => (Upd.refl W5.heap.size W6.heap.size wq).setCell (r := W5.heap.size) ⟨Nat.le_refl _, hlow⟩ k (.int .u8 z)
                have hrr := hide (fun z : Int => hrO2.upd (hup z) (.inl (Nat.le_refl _)))
                have hcc2 := hide (fun z : Int => (hcq.upd (hup z) (by omega) (fun b' off e hne => by have := unhide hadl b' off e hne; omega)).more (show 400 + 3 * k + 3 ≤ 400 + 3 * (k + 1) by omega))
                have hbb2 := hide (fun z : Int => ((unhide hbx).trans (hoq3.below (Nat.le_refl _) (unhide hbx).size)).setCell (p := ⟨W5.heap.size, k, none⟩) (by simp; omega) (.int .u8 z))
                have hsz2 := hoq3.size
                clear hxO2 hrO2 hup hcq hoq hoq3 hp hcd hxO hrO hcx hbx hck hck2 hdst hdst2 hfz hfz2
                go_wp2
                go_roundw
                case rel => exact ⟨k + 1, xs.set k _, by omega, by go_num, by simp [hxl], by simp; omega, hide (inB_set (unhide hxB) k (u8_wrap_bdD _)), hide (unhide hst _), hide (unhide hrr _), hide (unhide hcc2 _), hide (unhide hbb2 _)⟩
                case measure => simp [intOf]; omega
            · have hkN : k = N := by omega
              subst hkN
              have hxO2 := hide (show OwnY wr W5.heap.size wr.heap.size (.slice (some ⟨W5.heap.size, 0, none⟩) k k) xs by unfold OwnY; rw [hxl]; exact own_mono (unhide hxO) (Nat.le_refl _) (by omega))
              have hrO2 := hide (show OwnY wr (w.heap.size + 1) W5.heap.size vr row by unfold OwnY; rw [hrl2]; exact unhide hrO)
              have hcc2 := hide ((unhide hcx).more (show 400 + 3 * k ≤ 600 by omega))
              clear hxO hrO hcx
              go_wp2
              go_meet
              exact ⟨_, xs, W5.heap.size, rfl, by omega, ⟨hs5, by omega⟩, hxB, hxO2, hrO2, hcc2, hbx⟩
      · go_wp2
        go_meet
        exact ⟨_, [], W5.heap.size, rfl, by simp, ⟨hs5, Nat.le_refl _⟩, hide (fun j => by simp), hide (own_nilYD _ _ _), hr5, hide ((unhide hc5).more (by omega)), hb5⟩
    case rest =>
      clear hr5 hc5 hb5 hs5
      obtain ⟨va, ab, mid, rfl, hal, ⟨hm0, hm1⟩, haB, haO, hrO, hcc, hbb⟩ := hcut
      go_wp2_with fail
      refine (unhide hpick 600 14 wc (unhide hcc) (by omega) (by omega)).mono ?_
      rintro e W6 ⟨q, rfl, q0, q1, hcx, hox⟩
      replace q1 := q1 (by omega)
      have hs6 := hox.size
      have hb6 := hide ((unhide hbb).trans (hox.below (Nat.le_refl _) (unhide hbb).size))
      have hc6 := hide hcx
      have hr6 := hide ((unhide hrO).only (by omega) hox)
      have ha6 := hide (own_mono ((unhide haO).only (by omega) hox) (Nat.le_refl _) hox.size)
      clear hcx hox hcc hrO haO hbb
      have hXI : -1 ≤ (1 : Int) + X ∧ (1 : Int) + X ≤ 10 := by omega
      by_cases e0 : q = 0
      · subst e0
        go_wp2_with fail
        refine (unhide hpick (600 + 3) 11 W6 (unhide hc6) (by omega) (by omega)).mono ?_
        rintro e W7 ⟨y, rfl, y0, y1, hcx, hox⟩
        replace y1 := y1 (by omega)
        have hs7 := hox.size
        have hb7 := hide ((unhide hb6).trans (hox.below (Nat.le_refl _) (unhide hb6).size))
        have hc7 := hide (hcx.more (show 600 + 3 + 3 ≤ 1000 by omega))
        have hr7 := hide (own_mono ((unhide hr6).only (by omega) hox) (Nat.le_refl _) (show mid ≤ W7.heap.size by omega))
        have ha7 := hide (own_mono ((unhide ha6).only (by omega) hox) (show w.heap.size + 1 ≤ mid by omega) hox.size)
        clear hcx hox hc6 hr6 ha6 hb6
        go_wp2
        (try simp only [Exit.inBlock, Exit.then])
        refine bodyPost_ret (results_tmp4 rfl _ _ _) rfl ?_
        exact ⟨y - 1, va, ab, vr, row, rfl, by omega, by omega, by omega, unhide haB, unhide hrB, unhide ha7, unhide hr7, unhide hc7, unhide hb7⟩
      · have n0 : (q == 0) = false := beq_eq_false_iff_ne.2 e0
        by_cases e1 : q = 1
        · subst e1
          obtain ⟨i0, hi0, hz0, hz1, hz2⟩ := info_parts infoB
          have hown := (unhide ha6).1
          go_wp2_with (at_builtin; refine wpList_append_own _ rfl (.tmp 63) (.tmp 64) 22 rfl mid 5 i0 (.int .u8 0) 1 1 Try.underlying22 hi0 hz0 hz1 hz2 rfl (by decide) _ _ _ rfl (hown.alloc _) ⟨W6.heap.size, 0, none⟩ 1 1 [.int .u8 1] rfl rfl (one_new W6 _) (by intro u hu; simp at hu; subst hu; rfl) (by unfold maxLen; omega) (by omega) (by simp; omega) ?_)
          intro v' W7 hown' hgrow _
          have hU : Upd mid W6.heap.size W6 W7 := (Upd.of_below ((Below.refl W6.heap.size W6).alloc (Nat.le_refl _) (.cells #[.int .u8 1] 5)) mid W6.heap.size).trans ⟨hgrow.os, hgrow.tape, hgrow.output, hgrow.size, fun k hk hn => hgrow.block k hk (fun e => by have h1 := (hown.lt k e.symm).1; have h2 := (unhide ha6).2 k e.symm; omega)⟩
          have hs7 := hU.size
          have ha7 : OwnY W7 (w.heap.size + 1) W7.heap.size v' (ab ++ [1]) := by
            have e : byts ab ++ [.int .u8 1] = byts (ab ++ [1]) := by unfold byts; simp
            rw [e] at hown'
            unfold OwnY; rw [List.length_append]; exact own_mono (Own.of hown') (by omega) (Nat.le_refl _)
          replace ha7 := hide ha7
          have hr7 := hide (own_mono ((unhide hr6).upd hU (.inl (Nat.le_refl _))) (Nat.le_refl _) (show mid ≤ W7.heap.size by omega))
          have hc7 := hide (((unhide hc6).upd hU (by omega) (fun b' off e hne => by have := unhide hadl b' off e hne; omega)).more (show 600 + 3 ≤ 1000 by omega))
          have hb7 := hide (below_upd (unhide hb6) hU (by have := (unhide hb6).size; omega) (.inl (by omega)))
          have haB2 : Hid (InB (ab ++ [1])) := hide (fun j => by
            rw [List.getD_eq_getElem?_getD, List.getElem?_append]
            split
            · rw [← List.getD_eq_getElem?_getD]; exact unhide haB j
            · rcases Nat.lt_or_ge (j - ab.length) 1 with h1 | h1
              · rw [show j - ab.length = 0 by omega]; simp
              · rw [List.getElem?_eq_none (by simpa using h1)]; simp)
          clear hown hown' hgrow hU hr6 hc6 hb6 ha6 hi0 hz0 hz1 hz2
          go_wp2
          (try simp only [Exit.inBlock, Exit.then])
          refine bodyPost_ret (results_tmp4 rfl _ _ _) rfl ?_
          exact ⟨1 + X, v', ab ++ [1], vr, row, rfl, hXI, by simp; omega, by omega, unhide haB2, unhide hrB, unhide ha7, unhide hr7, unhide hc7, unhide hb7⟩
        · have n1 : (q == 1) = false := beq_eq_false_iff_ne.2 e1
          have hr7 := hide (own_mono (unhide hr6) (Nat.le_refl _) (show mid ≤ W6.heap.size by omega))
          have ha7 := hide (own_mono (unhide ha6) (show w.heap.size + 1 ≤ mid by omega) (Nat.le_refl _))
          have hc7 := hide ((unhide hc6).more (show 600 + 3 ≤ 1000 by omega))
          clear hc6 hr6 ha6
          go_wp2
          (try simp only [Exit.inBlock, Exit.then])
          refine bodyPost_ret (results_tmp4 rfl _ _ _) rfl ?_
          exact ⟨1 + X, va, ab, vr, row, rfl, hXI, by omega, by omega, unhide haB, unhide hrB, unhide ha7, unhide hr7, unhide hc7, unhide hb6⟩
end Go.Proofs.Ythndnehadkgibaa
