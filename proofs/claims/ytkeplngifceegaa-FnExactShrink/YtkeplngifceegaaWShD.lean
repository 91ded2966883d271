/- The program's Shrink. -/
import Derived.Test.YtkeplngifceegaaWShC
import Derived.Test.YtkeplngifceegaaWGpB
import Derived.Test.YtkeplngifceegaaWQT
import Derived.Deep.RegionHeld3
import Derived.Deep.DeepCutAuto
namespace Go.Proofs.Ytkeplngifceegaa
open Go.RowKit

theorem part_set {A : List Int} {k N : Nat} (hA : A.length = k) (hk : k < N) (v : Int) : (A ++ List.replicate (N - k) 0).set k v = (A ++ [v]) ++ List.replicate (N - (k + 1)) 0 := by
  rw [List.set_append, if_neg (by omega), show k - A.length = 0 by omega, show N - k = (N - (k + 1)) + 1 by omega, List.replicate_succ]
  simp
theorem byB {b : Int} : ((b != 2) && (b != 4)) = !decide (b = 2 ∨ b = 4) := by
  by_cases h : b = 2 ∨ b = 4
  · rcases h with rfl | rfl <;> rfl
  · simp [h]; omega
set_option maxHeartbeats 8000000 in
set_option maxRecDepth 100000 in
theorem implShrink (v : Value) (d : Pl) (b : Int) (w : World) (hn : d.2.2.length ≤ 1048576) (hR : InPl d) (hv : RdPl w v d) (_hl : -9223372036854775808 ≤ b) (_hh : b ≤ 9223372036854775807) :
    Calls Try.prog 24 #[v, .int .i64 b] w fun e w' => ∃ u, e = .returned u ∧ OwnPl w' w.heap.size w'.heap.size u (shrinkF d b) ∧ Upd 0 0 w w' := by
  obtain ⟨vl, rfl, h⟩ := hv
  obtain ⟨ad, cap, rfl, hA⟩ := h
  obtain ⟨a1, b1, zs⟩ := d
  simp only [Plv, Pls] at hn hA ⊢
  have hG := hide (fun (W : World) (h : ArgI W ad zs) => implGoodPlane _ (a1, b1, zs) W hn hR ⟨_, rfl, ad, cap, rfl, h⟩)
  have hB0 := (((Below.refl w.heap.size w).alloc (Nat.le_refl _) (.cells #[.int .i64 a1, .int .i64 b1, .slice ad zs.length cap] 31)).alloc (by simp) (.cells #[.int .i64 0, .int .i64 0, .slice none 0 0] 31))
  have hs0 : ((w.alloc (.cells #[.int .i64 a1, .int .i64 b1, .slice ad zs.length cap] 31)).alloc (.cells #[.int .i64 0, .int .i64 0, .slice none 0 0] 31)).heap.size = w.heap.size + 2 := by simp
  have hbx := (heldF_new w [.int .i64 a1, .int .i64 b1, .slice ad zs.length cap] 31).keep (Upd.of_below ((Below.refl _ _).alloc (Nat.le_refl _) (.cells #[.int .i64 0, .int .i64 0, .slice none 0 0] 31)) 0 0)
  have hrs := heldF_new (w.alloc (.cells #[.int .i64 a1, .int .i64 b1, .slice ad zs.length cap] 31)) [.int .i64 0, .int .i64 0, .slice none 0 0] 31
  have e1 : (w.alloc (.cells #[.int .i64 a1, .int .i64 b1, .slice ad zs.length cap] 31)).heap.size = w.heap.size + 1 := by simp
  rw [e1] at hrs
  clear e1
  have hA0 := hide (hA.below hB0)
  have hAw := hide hA
  replace hB0 := hide hB0
  replace hbx := hide hbx
  replace hrs := hide hrs
  clear hA
  go_enter Try.func24, Try.ntmps24
  go_upto_region 1 with fail
  generalize (w.alloc (.cells #[.int .i64 a1, .int .i64 b1, .slice ad zs.length cap] 31)).alloc (.cells #[.int .i64 0, .int .i64 0, .slice none 0 0] 31) = w0 at hB0 hs0 hbx hrs hA0 ⊢
  obtain ⟨okB, hok⟩ : ∃ okB, okB = (goodPlB (a1, b1, zs) && decide (b = 2 ∨ b = 4)) := ⟨_, rfl⟩
  replace hok := hide hok
  go_cut [17] (fun s17 wx => s17 = .bool (!okB) ∧ Hid (Upd 0 0 w0 wx))
  case first =>
    have c0 := (unhide hbx).1.2 0 _ rfl
    have c1 := (unhide hbx).1.2 1 _ rfl
    have c2 := (unhide hbx).1.2 2 _ rfl
    go_wp2_with fail
    refine (unhide hG w0 (unhide hA0)).mono ?_
    rintro e w1 ⟨rfl, hu⟩
    clear c0 c1 c2
    cases hgb : goodPlB (a1, b1, zs)
    · have e : okB = false := by rw [unhide hok, hgb]; rfl
      subst e
      replace hu := hide hu
      clear hok hgb
      go_wp2
      go_meet
      exact ⟨rfl, hu⟩
    · have e : okB = decide (b = 2 ∨ b = 4) := by rw [unhide hok, hgb]; rfl
      replace hu := hide hu
      clear hok hgb
      by_cases h2 : b = 2
      · have e2 : okB = true := by rw [e, h2]; rfl
        subst e2 h2
        clear e
        go_wp2
        go_meet
        exact ⟨rfl, hu⟩
      · have q2 : (b != 2) = true := by simpa using h2
        by_cases h4 : b = 4
        · have e2 : okB = true := by rw [e, h4]; rfl
          subst e2 h4
          clear e
          go_wp2
          go_meet
          exact ⟨rfl, hu⟩
        · have q4 : (b != 4) = true := by simpa using h4
          have e2 : okB = false := by rw [e]; simp; omega
          subst e2
          clear h2 h4 e
          go_wp2
          go_meet
          exact ⟨rfl, hu⟩
  case rest =>
  obtain ⟨rfl, hu0⟩ := hcut
  replace hbx := hide ((unhide hbx).keep (unhide hu0))
  replace hrs := hide ((unhide hrs).keep (unhide hu0))
  replace hA0 := hide ((unhide hA0).below ((unhide hu0).below (Nat.le_refl _) (.inr (Nat.zero_le _))))
  replace hB0 := hide (below_upd (unhide hB0) (unhide hu0) (Nat.le_refl _) (.inr (Nat.le_refl _)))
  have hs1 : w.heap.size + 2 ≤ wc.heap.size := by have := (unhide hu0).size; omega
  clear hG hu0 hs0
  by_cases hg : GoodPl (a1, b1, zs) ∧ (b = 2 ∨ b = 4)
  case neg =>
    have hF := hide (shrinkF_no hg)
    have e : okB = false := by
      rw [unhide hok]
      by_cases hg1 : GoodPl (a1, b1, zs)
      · rw [goodPlB_yes hg1, decide_eq_false (fun h => hg ⟨hg1, h⟩)]; rfl
      · rw [goodPlB_no hg1]; rfl
    subst e
    have z0 := (unhide hrs).1.2 0 _ rfl
    have z1 := (unhide hrs).1.2 1 _ rfl
    have z2 := (unhide hrs).1.2 2 _ rfl
    have f0 := (unhide hrs).2 0
    have f1 := (unhide hrs).2 1
    have f2 := (unhide hrs).2 2
    clear hbx hA0 hR hok hg
    go_wp2
    refine bodyPost_ret (v := .agg #[.int .i64 0, .int .i64 0, .slice none 0 0]) (by simp [results, Try.results24, go_sem, z0, z1, z2]) rfl ⟨_, rfl, ?_, Upd.of_below ((((unhide hB0).setCell (by simp) _).setCell (by simp) _).setCell (by simp) _) 0 0⟩
    rw [unhide hF]
    exact ⟨_, rfl, World.ownsRow_nil _ _ _ _, fun k hk => by simp [Value.ownBlock] at hk⟩
  obtain ⟨hg1, hb⟩ := hg
  have e : okB = true := by rw [unhide hok, goodPlB_yes hg1, decide_eq_true hb]; rfl
  subst e
  clear hok
  have hF := hide (shrinkF_yes hg1 hb)
  obtain ⟨W, H, rfl, rfl, hp⟩ := hg1.nat
  obtain ⟨b, rfl⟩ := Int.eq_ofNat_of_zero_le (show 0 ≤ b by omega)
  have hb' : b = 2 ∨ b = 4 := by omega
  have hb2 := hb'
  simp only [Int.toNat_natCast] at hF
  have hp2 := hide hp
  obtain ⟨⟨W1, W2⟩, ⟨H1, H2⟩, hl, hm, hs⟩ := hp
  obtain ⟨sw1, sw2⟩ := stepsF_bd hb' W1
  obtain ⟨sh1, sh2⟩ := stepsF_bd hb' H1
  have hSt := hide (fun (n : Nat) (X : World) (h1 : 1 ≤ n) (h2 : n ≤ 512) => implStepsN n b X ⟨h1, h2⟩ hb')
  have hlt1 := hide (fun i (h : i < stepsF W b) => stepsF_lt hb' h)
  have hlt2 := hide (fun i (h : i < stepsF H b) => stepsF_lt hb' h)
  have hL : Hid (∀ k, shrinkL zs W H b (k + 1) = shrinkL zs W H b k ++ [meanF zs W H b (k % stepsF W b * b) (k / stepsF W b * b)]) := hide (fun k => shrinkL_succ zs W H b k)
  obtain ⟨sw, hsw⟩ : ∃ sw, stepsF W b = sw := ⟨_, rfl⟩
  obtain ⟨sh, hsh⟩ : ∃ sh, stepsF H b = sh := ⟨_, rfl⟩
  rw [hsw] at sw1 sw2 hlt1 hL hF
  rw [hsh] at sh1 sh2 hlt2 hF
  have hSt2 : Hid (∀ (n : Nat) (X : World), 1 ≤ n → n ≤ 512 → Calls Try.prog 53 #[.int .i64 (n : Int), .int .i64 0, .int .i64 (b : Int)] X fun e w' => (∃ k : Nat, e = .returned (.int .i64 (k : Int)) ∧ k = stepsF n b) ∧ w' = X) := hide (fun n X h1 h2 => (unhide hSt n X h1 h2).mono fun e w' ⟨he, hw⟩ => ⟨⟨_, he, rfl⟩, hw⟩)
  clear hSt
  obtain ⟨N, hN⟩ : ∃ N, sw * sh = N := ⟨_, rfl⟩
  have hN1 : 1 ≤ N := by rw [← hN]; exact Nat.mul_le_mul sw1 sh1
  have hN2 : N ≤ 4096 := by rw [← hN]; exact Nat.le_trans (Nat.mul_le_mul sw2 sh2) hm
  have hE := hide (implEmptyPlane sw sh N · hN hN1 (by omega))
  rw [hN] at hF
  replace hN := hide hN
  replace hl := hide hl
  clear hb hb' hg1 hR hm _hl _hh
  have hb4 : b ≤ 4 := by omega
  replace hb2 := hide hb2
  go_upto_region 3 with fail
  generalize wc = w1 at hrs hA0 hB0 hs1 hbx ⊢
  have hlen : zs.length ≤ 4096 := by have := (unhide hp2).m; have := (unhide hp2).l; omega
  go_cut [5] (fun s5 wx => ∃ c g, s5 = .pointer (some ⟨c, 0, none⟩) ∧ w1.heap.size ≤ c ∧ w1.heap.size ≤ g ∧ c ≠ g ∧ Hid (HeldF wx c [.int .i64 (sw : Int), .int .i64 (sh : Int), .slice (some ⟨g, 0, none⟩) N N]) ∧ Hid (wx.ownsRow g 3 1 (.slice (some ⟨g, 0, none⟩) N N) N (ints (List.replicate N 0))) ∧ Hid (Upd 0 0 w1 wx))
  case first =>
    have c0 := (unhide hbx).1.2 0 _ rfl
    have c1 := (unhide hbx).1.2 1 _ rfl
    have cl := (unhide hbx).1.1
    have hS : ∀ X : World, Below w1.heap.size w1 X → X.cell? ⟨w.heap.size, 0, none⟩ = some (.int .i64 (W : Int)) ∧ X.cell? ⟨w.heap.size, 1, none⟩ = some (.int .i64 (H : Int)) := fun X hX => ⟨(hX.cell (by simp; omega)).trans c0, (hX.cell (by simp; omega)).trans c1⟩
    replace hS := hide hS
    have hot0 := hide (heldF_new w1 [.int .i64 0, .int .i64 0, .slice none 0 0] 31)
    go_region_held3 (fun w' => w'.cell? ⟨w.heap.size, 0, none⟩ = some (.int .i64 (W : Int)) ∧ w'.cell? ⟨w.heap.size, 1, none⟩ = some (.int .i64 (H : Int))) ((refine unhide hS _ ?_; (repeat (first | exact Below.refl _ _ | refine below_drewN ?_ 1 | refine Below.setCell ?_ (by first | (simp; done) | (simp; omega) | (simp at hg0 hg1 ⊢; omega)) _ | refine Below.alloc ?_ (by first | (simp; done) | (simp; omega) | (simp at hg0 hg1 ⊢; omega)) _ | refine below_upd ?_ hue (by first | (simp; done) | (simp; omega)) (.inr (Nat.le_refl _)))))) (first | (go_at_call 52; refine (unhide hE _).mono ?_; rintro e we ⟨g, rfl, hg0, hg1, hrow, hue⟩; first | (have hot2 := hide ((unhide hot0).keep ((Upd.drew1 _).trans hue)); have x0 := (unhide hot2).1.2 0 _ rfl; have x1 := (unhide hot2).1.2 1 _ rfl; have x2 := (unhide hot2).1.2 2 _ rfl; have y0 := (unhide hot2).2 0; have y1 := (unhide hot2).2 1; have y2 := (unhide hot2).2 2) | skip) | (go_at_call 53; refine (unhide hSt2 _ _ ?_ ?_).mono ?_; omega; omega; rintro e wa ⟨⟨k, rfl, hk⟩, rfl⟩; first | (have hkw := hsw.symm.trans hk.symm; clear hk; subst hkw) | (have hkh := hsh.symm.trans hk.symm; clear hk; subst hkh)))
    all_goals
      go_wp2
      go_meet
    · exact ⟨we.heap.size, g, rfl, by have := hue.size; simp at this; omega, by simp at hg0; omega, by omega, hide (heldF_new we _ _), hide ((Own.of hrow).keep (Upd.of_below ((Below.refl we.heap.size we).alloc (Nat.le_refl _) _) 0 0)).1, hide (((Upd.drew1 w1).trans hue).trans (Upd.of_below ((Below.refl we.heap.size we).alloc (Nat.le_refl _) _) 0 0))⟩
    all_goals
      have hgb : w1.heap.size < g := by simp at hg0; omega
      have hbe := below_upd ((Below.refl w1.heap.size w1).alloc (Nat.le_refl _) (.cells #[.int .i64 0, .int .i64 0, .slice none 0 0] 31)) ((Upd.drew1 _).trans hue) (Nat.le_refl _) (.inr (Nat.le_refl _))
      have hst := (((unhide hot2).set 0 (.int .i64 (sw : Int)) (by simp)).set 1 (.int .i64 (sh : Int)) (by simp)).set 2 (.slice (some ⟨g, 0, none⟩) N N) (by simp)
      simp only [List.set_cons_zero, List.set_cons_succ] at hst
      exact ⟨w1.heap.size, g, rfl, Nat.le_refl _, by omega, by omega, hide hst, hide (ownsRow_setCell_below (ownsRow_setCell_below (ownsRow_setCell_below hrow (by simpa using hgb) _) (by simpa using hgb) _) (by simpa using hgb) _), hide (Upd.of_below (((hbe.setCell (Nat.le_refl _) _).setCell (Nat.le_refl _) _).setCell (Nat.le_refl _) _) 0 0)⟩
  case rest =>
    obtain ⟨c, g, rfl, hc0, hg0, hcg, hot, hrow, hu⟩ := hcut
    replace hbx := hide ((unhide hbx).keep (unhide hu))
    replace hrs := hide ((unhide hrs).keep (unhide hu))
    replace hA0 := hide ((unhide hA0).below ((unhide hu).below (Nat.le_refl _) (.inr (Nat.zero_le _))))
    replace hB0 := hide (below_upd (unhide hB0) (unhide hu) (Nat.le_refl _) (.inr (Nat.le_refl _)))
    clear hu hE hSt2
    have c2 : w.heap.size + 2 ≤ c := by omega
    have g2 : w.heap.size + 2 ≤ g := by omega
    clear hc0 hg0 hs1
    have k0 := (unhide hot).1.2 2 _ rfl
    go_wp2_with fail
    clear k0
    have hM := hide (fun (x y : Nat) (X : World) (h : ArgI X ad zs) (hx : x < W) (hy : y < H) => implMeanFrom W H x y b ad cap zs X (unhide hp2) hx hy (unhide hb2) h)
    go_loopw [31] (fun i wr => ∃ k : Nat, i = .int .i64 (k : Int) ∧ k ≤ N ∧ Hid (HeldF wr c [.int .i64 (sw : Int), .int .i64 (sh : Int), .slice (some ⟨g, 0, none⟩) N N]) ∧ Hid (wr.ownsRow g 3 1 (.slice (some ⟨g, 0, none⟩) N N) N (ints (shrinkL zs W H b k ++ List.replicate (N - k) 0))) ∧ Hid (HeldF wr w.heap.size [.int .i64 (W : Int), .int .i64 (H : Int), .slice ad zs.length cap]) ∧ Hid (HeldF wr (w.heap.size + 1) [.int .i64 0, .int .i64 0, .slice none 0 0]) ∧ Hid (Below w.heap.size w wr)) (fun i _ => N - (intOf i).toNat)
    case atStart => exact ⟨0, rfl, Nat.zero_le _, hot, hrow, hbx, hrs, hB0⟩
    case round =>
      clear hot hrow hbx hrs hB0 hA0
      obtain ⟨k, rfl, hkN, hot, hrow, hbx, hrs, hB0⟩ := hrel
      by_cases hlt : k < N
      · have hp : k % sw < sw := Nat.mod_lt _ (by omega)
        have hq : k / sw < sh := Nat.div_lt_of_lt_mul (by have := unhide hN; rw [this]; exact hlt)
        have hx := unhide hlt1 _ hp
        have hy := unhide hlt2 _ hq
        have hnew := hide (unhide hL k)
        obtain ⟨p, hpe⟩ : ∃ p, k % sw = p := ⟨_, rfl⟩
        obtain ⟨q, hqe⟩ : ∃ q, k / sw = q := ⟨_, rfl⟩
        have e1 : (k : Int).tmod (sw : Int) = (p : Int) := by rw [← hpe, Int.tmod_eq_emod_of_nonneg (by omega)]; simp
        have e2 : (k : Int).tdiv (sw : Int) = (q : Int) := by rw [← hqe, Int.tdiv_eq_ediv_of_nonneg (by omega)]; simp
        rw [hpe] at hx hp hnew
        rw [hqe] at hy hq hnew
        obtain ⟨x, hxe⟩ : ∃ x, p * b = x := ⟨_, rfl⟩
        obtain ⟨y, hye⟩ : ∃ y, q * b = y := ⟨_, rfl⟩
        have e3 : (p : Int) * (b : Int) = (x : Int) := by rw [← hxe]; simp
        have e4 : (q : Int) * (b : Int) = (y : Int) := by rw [← hye]; simp
        rw [hxe] at hx hnew
        rw [hye] at hy hnew
        clear hpe hqe hxe hye
        have hAr : ArgI wr ad zs := (unhide hAw).below (unhide hB0)
        have hM2 := hide (fun X : UpdT wr => unhide hM x y X.to (hAr.below (X.upd.below (Nat.le_refl _) (.inr (Nat.zero_le _)))) hx hy)
        generalize meanF zs W H b x y = v at hM2 hnew
        have c0 := fun X : UpdT wr => (((unhide hbx).1.updT X).2 0 _ rfl)
        have c1 := fun X : UpdT wr => (((unhide hbx).1.updT X).2 1 _ rfl)
        have c2 := fun X : UpdT wr => (((unhide hbx).1.updT X).2 2 _ rfl)
        have d0 := fun X : UpdT wr => (((unhide hot).1.updT X).2 0 _ rfl)
        have d2 := fun X : UpdT wr => (((unhide hot).1.updT X).2 2 _ rfl)
        have w1b : IntKind.i64.wrap (x : Int) = (x : Int) := by simp [IntKind.wrap, IntKind.bits, IntKind.signed]; omega
        have w2b : IntKind.i64.wrap (y : Int) = (y : Int) := by simp [IntKind.wrap, IntKind.bits, IntKind.signed]; omega
        have w3b : IntKind.i64.wrap (p : Int) = (p : Int) := by simp [IntKind.wrap, IntKind.bits, IntKind.signed]; omega
        have w4b : IntKind.i64.wrap (q : Int) = (q : Int) := by simp [IntKind.wrap, IntKind.bits, IntKind.signed]; omega
        have hsw0 : ¬ sw = 0 := by omega
        have kI : (0 : Int) ≤ (k : Int) := by omega
        have kL : (k : Int) < (N : Int) := by omega
        go_wp2_with fail
        refine wq_region_tail 19 (by kernel_rfl) (by kernel_rfl) ?_
        simp only [List.take_succ_cons, List.take_zero, List.drop_succ_cons, List.drop_zero]
        iterate 17
          refine WQ.step (fun K hK => ?_)
          go_simp
          refine hK _ ?_
          clear hK K
        refine WQ.step (fun K hK => ?_)
        go_simp
        refine ⟨_, fun X => Calls.updT X (unhide hM2 X), hK _ ?_⟩
        clear hK K
        refine WQ.step (fun K hK => ?_)
        go_simp
        refine hK _ ?_
        clear hK K
        refine WQ.nil ?_
        rintro _ ⟨X, rfl⟩
        clear c0 c1 c2 d0 d2 e1 e2 e3 e4 w1b w2b w3b w4b hsw0 hAr hM2
        have hX := X.upd
        generalize X.to = wt at hX ⊢
        replace hot := hide ((unhide hot).keep hX)
        replace hbx := hide ((unhide hbx).keep hX)
        replace hrs := hide ((unhide hrs).keep hX)
        replace hB0 := hide (below_upd (unhide hB0) hX (Nat.le_refl _) (.inr (Nat.le_refl _)))
        have hrow2 := ((Own.of (unhide hrow)).keep hX).1
        clear hX hrow
        have hps := part_set (shrinkL_length zs W H b k) hlt v
        rw [← unhide hnew] at hps
        have hdst : ∃ u, wt.cell? ⟨g, k, none⟩ = some u := by
          rw [hrow2.cellAt k (by omega)]; exact ⟨_, List.getElem?_eq_getElem (by have := hrow2.1; omega)⟩
        obtain ⟨u, hdst⟩ := hdst
        have hfz := hrow2.frozenAt k
        have hst := (hrow2.stored k (.int .i64 v)).1
        rw [ints_set, hps] at hst
        have hb2 := hide ((unhide hB0).setCell (p := ⟨g, k, none⟩) (by simp; omega) (.int .i64 v))
        have hot3 := hide ((unhide hot).other (g' := g) (by omega) k (.int .i64 v))
        have hbx3 := hide ((unhide hbx).other (g' := g) (by omega) k (.int .i64 v))
        have hrs3 := hide ((unhide hrs).other (g' := g) (by omega) k (.int .i64 v))
        replace hst := hide hst
        clear hps hrow2 hot hbx hrs hB0
        go_wp2
        go_roundw
        case rel => exact ⟨k + 1, by go_num, by omega, hot3, hst, hbx3, hrs3, hb2⟩
        case measure => simp [intOf]; omega
      · have hke : k = N := by omega
        subst hke
        rw [Nat.sub_self, List.replicate_zero, List.append_nil] at hrow
        have d0 := (unhide hot).1.2 0 _ rfl
        have d1 := (unhide hot).1.2 1 _ rfl
        have d2 := (unhide hot).1.2 2 _ rfl
        have z0 := (unhide hrs).1.2 0 _ rfl
        have z1 := (unhide hrs).1.2 1 _ rfl
        have z2 := (unhide hrs).1.2 2 _ rfl
        have f0 := (unhide hrs).2 0
        have f1 := (unhide hrs).2 1
        have f2 := (unhide hrs).2 2
        have hgl := (unhide hrow).lt g rfl
        replace hgl := hide hgl
        clear hot hbx hrs
        go_wp2
        refine bodyPost_ret (v := .agg #[.int .i64 (sw : Int), .int .i64 (sh : Int), .slice (some ⟨g, 0, none⟩) k k]) (by simp [results, Try.results24, go_sem, z0, z1, z2]) rfl ⟨_, rfl, ?_, Upd.of_below ((((unhide hB0).setCell (by simp) _).setCell (by simp) _).setCell (by simp) _) 0 0⟩
        rw [unhide hF]
        refine ⟨_, rfl, ?_⟩
        show Own 3 1 _ _ _ _ (shrinkL zs W H b k).length (ints (shrinkL zs W H b k))
        rw [shrinkL_length]
        have ho := Own.of (unhide hrow)
        refine own_mono (a := g) (b := wr.heap.size) ⟨?_, ho.2⟩ (by omega) (by simp)
        exact ownsRow_setCell_below (ownsRow_setCell_below (ownsRow_setCell_below ho.1 (show w.heap.size + 1 < g by omega) _) (show w.heap.size + 1 < g by omega) _) (show w.heap.size + 1 < g by omega) _
end Go.Proofs.Ytkeplngifceegaa
