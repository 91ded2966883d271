/- The texts behind FnExactColours, part 2: what each of them says stands at its head. -/
import Derived.Test.YthkppcncajmniaaDoorGColours1
import Derived.Deep.RegionWith
import Derived.Lib.SliceRun
import Derived.Laws.IdiomStrings
import Derived.Deep.RegionHeld3
import Derived.ProofKit
import Derived.Deep.SlicePairs
import Derived.ChangeMaps5
import Derived.OpenShut
import Derived.Test.YthkppcncajmniaaDoorRows
import Derived.Stop.Joined
import Derived.LaidMore
/- GoodStill, as the program has it. -/
namespace Go.Proofs.YthkppcncajmniaaDoor
open Go.RowKit

theorem depth_bdI {dp : Int} (h : depthOk dp = true) : 1 ≤ dp ∧ dp ≤ 16 := by
  rcases depthOk_cases h with e | e | e | e | e <;> subst e <;> omega

set_option maxHeartbeats 4000000 in
set_option maxRecDepth 1000000 in
theorem implGoodStill (v : Value) (d : St) (w : World) (hT : Held w 0 passCells) (hn : StSize d ≤ 1048576) (hR : InSt d) (hv : RdSt w v d) :
    Calls Tryd.prog 8 #[v] w fun e w' => e = .returned (.bool (pB (GoodSt d))) ∧ Upd 0 0 w w' := by
  obtain ⟨l0, l1, l2, rfl, hr0, hr1, hr2⟩ := hv
  obtain ⟨⟨a, b, p, dp, zs⟩, zp, ps, wv⟩ := d
  simp only [Stv, StSize] at hn ⊢
  obtain ⟨hRi, _, _⟩ := hR
  change RdI w l0 zs at hr0
  change RdI w l1 zp at hr1
  change RdNt w l2 ps at hr2
  change InIm (a, b, p, dp, zs) at hRi
  have hn0 : zs.length ≤ 1048576 := by omega
  have hn1 : zp.length ≤ 1048576 := by omega
  have hn2 : ntSize ps ≤ 1048576 := by omega
  have hr0' := hide hr0
  have hr1' := hide hr1
  have hr2' := hide hr2
  obtain ⟨ad, cap, rfl, _⟩ := hr0
  obtain ⟨ad1, cap1, rfl, _⟩ := hr1
  obtain ⟨ad2, cap2, rfl, _⟩ := hr2
  clear hn
  have hB0 := (Below.refl w.heap.size w).alloc (Nat.le_refl _) (.cells #[.int .i64 a, .int .i64 b, .int .i64 p, .int .i64 dp, .slice ad zs.length cap, .slice ad1 zp.length cap1, .slice ad2 ps.length cap2, .bool wv] 33)
  have hbx := hide (held_new w [.int .i64 a, .int .i64 b, .int .i64 p, .int .i64 dp, .slice ad zs.length cap, .slice ad1 zp.length cap1, .slice ad2 ps.length cap2, .bool wv] 33)
  have hGI := hide (implGoodImage _ (a, b, p, dp, zs) _ hn0 hRi ⟨_, rfl, (unhide hr0').below hB0⟩)
  have hPl := palAll_iff ((a, b, p, dp, zs), zp, ps, wv)
  replace hPl := hide hPl
  replace hB0 := hide hB0
  replace hRi := hide hRi
  replace hT := hide hT
  by_cases hg : GoodIm (a, b, p, dp, zs)
  · rw [goodImB_yes hg] at hGI
    by_cases hp1 : PalAll (a, b, p, dp, zs) zp
    · by_cases hnt : NotesOk ps
      · obtain ⟨⟨ha, hb, hab, hp, hdp, hpd⟩, hl, hsmp⟩ := id hg
        replace hdp := depth_bdI hdp
        replace hl := hide hl
        replace hab := hide hab
        replace hsmp := hide hsmp
        obtain ⟨T, hTt⟩ : ∃ T, totTo (sidesOf a b wv) p dp (sidesOf a b wv).length = T := ⟨_, rfl⟩
        have hTT : Hid (totOf (a, b, p, dp, zs) wv = T) := hide hTt
        have hTot := hide (fun W (hW : Below w.heap.size w W) => implCountRows a b p dp ad ad1 ad2 zs.length zp.length ps.length cap cap1 cap2 wv W ((unhide hT).upd (Upd.of_below hW 0 0) (.inr (Nat.zero_le _))) ha hb hp hdp T hTt)
        replace hTt := hide hTt
        replace hg := hide hg
        by_cases h6 : T ≤ 6000
        · have hE : Hid (pB (GoodSt ((a, b, p, dp, zs), zp, ps, wv)) = true) := hide (pB_yes ⟨unhide hg, ((unhide hPl).1 hp1).1, ((unhide hPl).1 hp1).2, hnt, by rw [unhide hTT]; exact h6⟩)
          go_enter Tryd.func8, Tryd.ntmps8
          go_wp2_with fail
          change Hid (Held (w.alloc (.cells #[.int .i64 a, .int .i64 b, .int .i64 p, .int .i64 dp, .slice ad zs.length cap, .slice ad1 zp.length cap1, .slice ad2 ps.length cap2, .bool wv] 33)) _ _) at hbx
          generalize w.alloc (.cells #[.int .i64 a, .int .i64 b, .int .i64 p, .int .i64 dp, .slice ad zs.length cap, .slice ad1 zp.length cap1, .slice ad2 ps.length cap2, .bool wv] 33) = w0 at hB0 hbx hGI ⊢
          refine (unhide hGI).mono ?_
          rintro e w1 ⟨rfl, hu⟩
          replace hbx := hide ((unhide hbx).keep hu)
          replace hB0 := hide (below_upd (unhide hB0) hu (Nat.le_refl _) (.inr (Nat.le_refl _)))
          clear hu
          have hC := implGoodPalette _ zp _ (a, b, p, dp, zs) w1 hn0 hn1 ((unhide hr1').below (unhide hB0)) ⟨_, rfl, (unhide hr0').below (unhide hB0)⟩
          rw [pB_yes hp1] at hC
          replace hC := hide hC
          replace hp1 := hide hp1
          have c0 := (unhide hbx).2 0 _ rfl
          have c1 := (unhide hbx).2 1 _ rfl
          have c2 := (unhide hbx).2 2 _ rfl
          have c3 := (unhide hbx).2 3 _ rfl
          have c4 := (unhide hbx).2 4 _ rfl
          have c5 := (unhide hbx).2 5 _ rfl
          have c6 := (unhide hbx).2 6 _ rfl
          have c7 := (unhide hbx).2 7 _ rfl
          have cl := (unhide hbx).1
          go_wp2_with fail
          clear c0 c1 c2 c3 c4 c5 c6 c7 cl
          refine (unhide hC).mono ?_
          rintro e w2 ⟨rfl, hu⟩
          replace hbx := hide ((unhide hbx).keep hu)
          replace hB0 := hide (below_upd (unhide hB0) hu (Nat.le_refl _) (.inr (Nat.le_refl _)))
          clear hu
          clear hC
          have hC := implGoodNotes _ ps w2 hn2 ((unhide hr2').below (unhide hB0))
          rw [pB_yes hnt] at hC
          replace hC := hide hC
          replace hnt := hide hnt
          have c0 := (unhide hbx).2 0 _ rfl
          have c1 := (unhide hbx).2 1 _ rfl
          have c2 := (unhide hbx).2 2 _ rfl
          have c3 := (unhide hbx).2 3 _ rfl
          have c4 := (unhide hbx).2 4 _ rfl
          have c5 := (unhide hbx).2 5 _ rfl
          have c6 := (unhide hbx).2 6 _ rfl
          have c7 := (unhide hbx).2 7 _ rfl
          have cl := (unhide hbx).1
          go_wp2_with fail
          clear c0 c1 c2 c3 c4 c5 c6 c7 cl
          refine (unhide hC).mono ?_
          rintro e w3 ⟨rfl, hu⟩
          replace hbx := hide ((unhide hbx).keep hu)
          replace hB0 := hide (below_upd (unhide hB0) hu (Nat.le_refl _) (.inr (Nat.le_refl _)))
          clear hu
          clear hC
          have hC := hide (unhide hTot w3 (unhide hB0))
          have c0 := (unhide hbx).2 0 _ rfl
          have c1 := (unhide hbx).2 1 _ rfl
          have c2 := (unhide hbx).2 2 _ rfl
          have c3 := (unhide hbx).2 3 _ rfl
          have c4 := (unhide hbx).2 4 _ rfl
          have c5 := (unhide hbx).2 5 _ rfl
          have c6 := (unhide hbx).2 6 _ rfl
          have c7 := (unhide hbx).2 7 _ rfl
          have cl := (unhide hbx).1
          go_wp2_with fail
          clear c0 c1 c2 c3 c4 c5 c6 c7 cl
          refine (unhide hC).mono ?_
          rintro e w4 ⟨rfl, hu⟩
          replace hbx := hide ((unhide hbx).keep hu)
          replace hB0 := hide (below_upd (unhide hB0) hu (Nat.le_refl _) (.inr (Nat.le_refl _)))
          clear hu
          clear hC hTot
          have c0 := (unhide hbx).2 0 _ rfl
          have c1 := (unhide hbx).2 1 _ rfl
          have c2 := (unhide hbx).2 2 _ rfl
          have c3 := (unhide hbx).2 3 _ rfl
          have c4 := (unhide hbx).2 4 _ rfl
          have c5 := (unhide hbx).2 5 _ rfl
          have c6 := (unhide hbx).2 6 _ rfl
          have c7 := (unhide hbx).2 7 _ rfl
          have cl := (unhide hbx).1
          go_wp2
          go_ret
          exact ⟨by rw [unhide hE]; first | rfl | (simp; done) | (simp; omega), Upd.of_below (unhide hB0) 0 0⟩
        · have hE : Hid (pB (GoodSt ((a, b, p, dp, zs), zp, ps, wv)) = false) := hide (pB_no (fun h => h6 (by rw [← unhide hTT]; exact h.2.2.2.2)))
          go_enter Tryd.func8, Tryd.ntmps8
          go_wp2_with fail
          change Hid (Held (w.alloc (.cells #[.int .i64 a, .int .i64 b, .int .i64 p, .int .i64 dp, .slice ad zs.length cap, .slice ad1 zp.length cap1, .slice ad2 ps.length cap2, .bool wv] 33)) _ _) at hbx
          generalize w.alloc (.cells #[.int .i64 a, .int .i64 b, .int .i64 p, .int .i64 dp, .slice ad zs.length cap, .slice ad1 zp.length cap1, .slice ad2 ps.length cap2, .bool wv] 33) = w0 at hB0 hbx hGI ⊢
          refine (unhide hGI).mono ?_
          rintro e w1 ⟨rfl, hu⟩
          replace hbx := hide ((unhide hbx).keep hu)
          replace hB0 := hide (below_upd (unhide hB0) hu (Nat.le_refl _) (.inr (Nat.le_refl _)))
          clear hu
          have hC := implGoodPalette _ zp _ (a, b, p, dp, zs) w1 hn0 hn1 ((unhide hr1').below (unhide hB0)) ⟨_, rfl, (unhide hr0').below (unhide hB0)⟩
          rw [pB_yes hp1] at hC
          replace hC := hide hC
          replace hp1 := hide hp1
          have c0 := (unhide hbx).2 0 _ rfl
          have c1 := (unhide hbx).2 1 _ rfl
          have c2 := (unhide hbx).2 2 _ rfl
          have c3 := (unhide hbx).2 3 _ rfl
          have c4 := (unhide hbx).2 4 _ rfl
          have c5 := (unhide hbx).2 5 _ rfl
          have c6 := (unhide hbx).2 6 _ rfl
          have c7 := (unhide hbx).2 7 _ rfl
          have cl := (unhide hbx).1
          go_wp2_with fail
          clear c0 c1 c2 c3 c4 c5 c6 c7 cl
          refine (unhide hC).mono ?_
          rintro e w2 ⟨rfl, hu⟩
          replace hbx := hide ((unhide hbx).keep hu)
          replace hB0 := hide (below_upd (unhide hB0) hu (Nat.le_refl _) (.inr (Nat.le_refl _)))
          clear hu
          clear hC
          have hC := implGoodNotes _ ps w2 hn2 ((unhide hr2').below (unhide hB0))
          rw [pB_yes hnt] at hC
          replace hC := hide hC
          replace hnt := hide hnt
          have c0 := (unhide hbx).2 0 _ rfl
          have c1 := (unhide hbx).2 1 _ rfl
          have c2 := (unhide hbx).2 2 _ rfl
          have c3 := (unhide hbx).2 3 _ rfl
          have c4 := (unhide hbx).2 4 _ rfl
          have c5 := (unhide hbx).2 5 _ rfl
          have c6 := (unhide hbx).2 6 _ rfl
          have c7 := (unhide hbx).2 7 _ rfl
          have cl := (unhide hbx).1
          go_wp2_with fail
          clear c0 c1 c2 c3 c4 c5 c6 c7 cl
          refine (unhide hC).mono ?_
          rintro e w3 ⟨rfl, hu⟩
          replace hbx := hide ((unhide hbx).keep hu)
          replace hB0 := hide (below_upd (unhide hB0) hu (Nat.le_refl _) (.inr (Nat.le_refl _)))
          clear hu
          clear hC
          have hC := hide (unhide hTot w3 (unhide hB0))
          have c0 := (unhide hbx).2 0 _ rfl
          have c1 := (unhide hbx).2 1 _ rfl
          have c2 := (unhide hbx).2 2 _ rfl
          have c3 := (unhide hbx).2 3 _ rfl
          have c4 := (unhide hbx).2 4 _ rfl
          have c5 := (unhide hbx).2 5 _ rfl
          have c6 := (unhide hbx).2 6 _ rfl
          have c7 := (unhide hbx).2 7 _ rfl
          have cl := (unhide hbx).1
          go_wp2_with fail
          clear c0 c1 c2 c3 c4 c5 c6 c7 cl
          refine (unhide hC).mono ?_
          rintro e w4 ⟨rfl, hu⟩
          replace hbx := hide ((unhide hbx).keep hu)
          replace hB0 := hide (below_upd (unhide hB0) hu (Nat.le_refl _) (.inr (Nat.le_refl _)))
          clear hu
          clear hC hTot
          have c0 := (unhide hbx).2 0 _ rfl
          have c1 := (unhide hbx).2 1 _ rfl
          have c2 := (unhide hbx).2 2 _ rfl
          have c3 := (unhide hbx).2 3 _ rfl
          have c4 := (unhide hbx).2 4 _ rfl
          have c5 := (unhide hbx).2 5 _ rfl
          have c6 := (unhide hbx).2 6 _ rfl
          have c7 := (unhide hbx).2 7 _ rfl
          have cl := (unhide hbx).1
          go_wp2
          go_ret
          exact ⟨by rw [unhide hE]; first | rfl | (simp; done) | (simp; omega), Upd.of_below (unhide hB0) 0 0⟩
      · have hE : Hid (pB (GoodSt ((a, b, p, dp, zs), zp, ps, wv)) = false) := hide (pB_no (fun h => hnt h.2.2.2.1))
        replace hg := hide hg
        go_enter Tryd.func8, Tryd.ntmps8
        go_wp2_with fail
        change Hid (Held (w.alloc (.cells #[.int .i64 a, .int .i64 b, .int .i64 p, .int .i64 dp, .slice ad zs.length cap, .slice ad1 zp.length cap1, .slice ad2 ps.length cap2, .bool wv] 33)) _ _) at hbx
        generalize w.alloc (.cells #[.int .i64 a, .int .i64 b, .int .i64 p, .int .i64 dp, .slice ad zs.length cap, .slice ad1 zp.length cap1, .slice ad2 ps.length cap2, .bool wv] 33) = w0 at hB0 hbx hGI ⊢
        refine (unhide hGI).mono ?_
        rintro e w1 ⟨rfl, hu⟩
        replace hbx := hide ((unhide hbx).keep hu)
        replace hB0 := hide (below_upd (unhide hB0) hu (Nat.le_refl _) (.inr (Nat.le_refl _)))
        clear hu
        have hC := implGoodPalette _ zp _ (a, b, p, dp, zs) w1 hn0 hn1 ((unhide hr1').below (unhide hB0)) ⟨_, rfl, (unhide hr0').below (unhide hB0)⟩
        rw [pB_yes hp1] at hC
        replace hC := hide hC
        replace hp1 := hide hp1
        have c0 := (unhide hbx).2 0 _ rfl
        have c1 := (unhide hbx).2 1 _ rfl
        have c2 := (unhide hbx).2 2 _ rfl
        have c3 := (unhide hbx).2 3 _ rfl
        have c4 := (unhide hbx).2 4 _ rfl
        have c5 := (unhide hbx).2 5 _ rfl
        have c6 := (unhide hbx).2 6 _ rfl
        have c7 := (unhide hbx).2 7 _ rfl
        have cl := (unhide hbx).1
        go_wp2_with fail
        clear c0 c1 c2 c3 c4 c5 c6 c7 cl
        refine (unhide hC).mono ?_
        rintro e w2 ⟨rfl, hu⟩
        replace hbx := hide ((unhide hbx).keep hu)
        replace hB0 := hide (below_upd (unhide hB0) hu (Nat.le_refl _) (.inr (Nat.le_refl _)))
        clear hu
        clear hC
        have hC := implGoodNotes _ ps w2 hn2 ((unhide hr2').below (unhide hB0))
        rw [pB_no hnt] at hC
        replace hC := hide hC
        replace hnt := hide hnt
        have c0 := (unhide hbx).2 0 _ rfl
        have c1 := (unhide hbx).2 1 _ rfl
        have c2 := (unhide hbx).2 2 _ rfl
        have c3 := (unhide hbx).2 3 _ rfl
        have c4 := (unhide hbx).2 4 _ rfl
        have c5 := (unhide hbx).2 5 _ rfl
        have c6 := (unhide hbx).2 6 _ rfl
        have c7 := (unhide hbx).2 7 _ rfl
        have cl := (unhide hbx).1
        go_wp2_with fail
        clear c0 c1 c2 c3 c4 c5 c6 c7 cl
        refine (unhide hC).mono ?_
        rintro e w3 ⟨rfl, hu⟩
        replace hbx := hide ((unhide hbx).keep hu)
        replace hB0 := hide (below_upd (unhide hB0) hu (Nat.le_refl _) (.inr (Nat.le_refl _)))
        clear hu
        clear hC
        have c0 := (unhide hbx).2 0 _ rfl
        have c1 := (unhide hbx).2 1 _ rfl
        have c2 := (unhide hbx).2 2 _ rfl
        have c3 := (unhide hbx).2 3 _ rfl
        have c4 := (unhide hbx).2 4 _ rfl
        have c5 := (unhide hbx).2 5 _ rfl
        have c6 := (unhide hbx).2 6 _ rfl
        have c7 := (unhide hbx).2 7 _ rfl
        have cl := (unhide hbx).1
        go_wp2
        go_ret
        exact ⟨by rw [unhide hE]; first | rfl | (simp; done) | (simp; omega), Upd.of_below (unhide hB0) 0 0⟩
    · have hE : Hid (pB (GoodSt ((a, b, p, dp, zs), zp, ps, wv)) = false) := hide (pB_no (fun h => hp1 ((unhide hPl).2 ⟨h.2.1, h.2.2.1⟩)))
      replace hg := hide hg
      go_enter Tryd.func8, Tryd.ntmps8
      go_wp2_with fail
      change Hid (Held (w.alloc (.cells #[.int .i64 a, .int .i64 b, .int .i64 p, .int .i64 dp, .slice ad zs.length cap, .slice ad1 zp.length cap1, .slice ad2 ps.length cap2, .bool wv] 33)) _ _) at hbx
      generalize w.alloc (.cells #[.int .i64 a, .int .i64 b, .int .i64 p, .int .i64 dp, .slice ad zs.length cap, .slice ad1 zp.length cap1, .slice ad2 ps.length cap2, .bool wv] 33) = w0 at hB0 hbx hGI ⊢
      refine (unhide hGI).mono ?_
      rintro e w1 ⟨rfl, hu⟩
      replace hbx := hide ((unhide hbx).keep hu)
      replace hB0 := hide (below_upd (unhide hB0) hu (Nat.le_refl _) (.inr (Nat.le_refl _)))
      clear hu
      have hC := implGoodPalette _ zp _ (a, b, p, dp, zs) w1 hn0 hn1 ((unhide hr1').below (unhide hB0)) ⟨_, rfl, (unhide hr0').below (unhide hB0)⟩
      rw [pB_no hp1] at hC
      replace hC := hide hC
      replace hp1 := hide hp1
      have c0 := (unhide hbx).2 0 _ rfl
      have c1 := (unhide hbx).2 1 _ rfl
      have c2 := (unhide hbx).2 2 _ rfl
      have c3 := (unhide hbx).2 3 _ rfl
      have c4 := (unhide hbx).2 4 _ rfl
      have c5 := (unhide hbx).2 5 _ rfl
      have c6 := (unhide hbx).2 6 _ rfl
      have c7 := (unhide hbx).2 7 _ rfl
      have cl := (unhide hbx).1
      go_wp2_with fail
      clear c0 c1 c2 c3 c4 c5 c6 c7 cl
      refine (unhide hC).mono ?_
      rintro e w2 ⟨rfl, hu⟩
      replace hbx := hide ((unhide hbx).keep hu)
      replace hB0 := hide (below_upd (unhide hB0) hu (Nat.le_refl _) (.inr (Nat.le_refl _)))
      clear hu
      clear hC
      have c0 := (unhide hbx).2 0 _ rfl
      have c1 := (unhide hbx).2 1 _ rfl
      have c2 := (unhide hbx).2 2 _ rfl
      have c3 := (unhide hbx).2 3 _ rfl
      have c4 := (unhide hbx).2 4 _ rfl
      have c5 := (unhide hbx).2 5 _ rfl
      have c6 := (unhide hbx).2 6 _ rfl
      have c7 := (unhide hbx).2 7 _ rfl
      have cl := (unhide hbx).1
      go_wp2
      go_ret
      exact ⟨by rw [unhide hE]; first | rfl | (simp; done) | (simp; omega), Upd.of_below (unhide hB0) 0 0⟩
  · have hE : Hid (pB (GoodSt ((a, b, p, dp, zs), zp, ps, wv)) = false) := hide (pB_no (fun h => hg h.1))
    rw [goodImB_no hg] at hGI
    replace hg := hide hg
    go_enter Tryd.func8, Tryd.ntmps8
    go_wp2_with fail
    change Hid (Held (w.alloc (.cells #[.int .i64 a, .int .i64 b, .int .i64 p, .int .i64 dp, .slice ad zs.length cap, .slice ad1 zp.length cap1, .slice ad2 ps.length cap2, .bool wv] 33)) _ _) at hbx
    generalize w.alloc (.cells #[.int .i64 a, .int .i64 b, .int .i64 p, .int .i64 dp, .slice ad zs.length cap, .slice ad1 zp.length cap1, .slice ad2 ps.length cap2, .bool wv] 33) = w0 at hB0 hbx hGI ⊢
    refine (unhide hGI).mono ?_
    rintro e w1 ⟨rfl, hu⟩
    replace hbx := hide ((unhide hbx).keep hu)
    replace hB0 := hide (below_upd (unhide hB0) hu (Nat.le_refl _) (.inr (Nat.le_refl _)))
    clear hu
    have c0 := (unhide hbx).2 0 _ rfl
    have c1 := (unhide hbx).2 1 _ rfl
    have c2 := (unhide hbx).2 2 _ rfl
    have c3 := (unhide hbx).2 3 _ rfl
    have c4 := (unhide hbx).2 4 _ rfl
    have c5 := (unhide hbx).2 5 _ rfl
    have c6 := (unhide hbx).2 6 _ rfl
    have c7 := (unhide hbx).2 7 _ rfl
    have cl := (unhide hbx).1
    go_wp2
    go_ret
    exact ⟨by rw [unhide hE]; first | rfl | (simp; done) | (simp; omega), Upd.of_below (unhide hB0) 0 0⟩
end Go.Proofs.YthkppcncajmniaaDoor

/- slices.Clone of a list of ints. -/
namespace Go.Proofs.YthkppcncajmniaaDoor
open Go.RowKit

set_option maxHeartbeats 1000000 in
set_option maxRecDepth 100000 in
theorem cloneI (u : Value) (zs : List Int) (w : World) (hn : zs.length ≤ 1048576) (hr : RdJ w u zs) :
    Calls Tryd.prog 32 #[u] w fun e w' => ∃ v, e = .returned v ∧ OwnI w' w.heap.size w'.heap.size v zs ∧ Upd 0 0 w w' := by
  have hr0 := hide hr
  rcases hr with ⟨rfl, rfl⟩ | ⟨b, off, cap, rfl, _, _⟩
  · have hq := Lib.run_eql_slice_nil (P := Tryd.prog) w 22 3 none 0 0 0 0 Tryd.underlying22
    go_enter Tryd.func32, Tryd.ntmps32
    go_wp2
    go_ret
    exact ⟨_, rfl, own_nilI _ _ _, Upd.refl _ _ _⟩
  · have hq := Lib.run_eql_slice_nil (P := Tryd.prog) w 22 3 (some ⟨b, off, none⟩) zs.length cap 0 0 Tryd.underlying22
    have hb1 := (Below.refl w.heap.size w).alloc (Nat.le_refl _) (.cells #[] 3)
    have ho1 := World.ownsRow_made (base := w.heap.size) (e := 3) (size := 1) w #[] 0 (Nat.le_refl _) (by unfold maxLen; omega) rfl
    have hr1 := hide ((unhide hr0).below hb1)
    replace hb1 := hide hb1
    replace ho1 := hide ho1
    go_enter Tryd.func32, Tryd.ntmps32
    go_wp2_with (at_builtin; go_loud (refine wpList_appI rfl (.tmp 5) (.tmp 6) rfl w.heap.size _ [] rfl (unhide ho1) _ zs rfl (unhide hr1) (by simp; omega) (by simp) ?_))
    intro v2 w2 ho2 hg2 _
    have hb2 := hide (below_upd (unhide hb1) (upd_of_grownI hg2 (unhide ho1)) (Nat.le_refl _) (.inl (Nat.le_refl _)))
    have hO := hide (Own.of (show w2.ownsRow w.heap.size 3 1 v2 zs.length (ints zs) from ho2))
    clear ho2 hg2
    go_wp2
    go_ret
    exact ⟨_, rfl, unhide hO, Upd.of_below (unhide hb2) 0 0⟩
end Go.Proofs.YthkppcncajmniaaDoor

/- Colours, as the program has it. -/
namespace Go.Proofs.YthkppcncajmniaaDoor
open Go.RowKit

set_option maxHeartbeats 8000000 in
set_option maxRecDepth 1000000 in
theorem implColours (v : Value) (d : St) (w : World) (hT : Held w 0 passCells) (hn : StSize d ≤ 1048576) (hR : InSt d) (hv : RnSt w v d) :
    Calls Tryd.prog 11 #[v] w fun e w' => ∃ u, e = .returned u ∧ OwnIm w' w.heap.size w'.heap.size u (coloursF d) ∧ Upd 0 0 w w' := by
  have hv0 := hv.rd
  obtain ⟨l0, l1, l2, rfl, hr0, hr1, hr2⟩ := hv
  obtain ⟨⟨a, b, p, dp, zs⟩, zp, ps, wv⟩ := d
  change RdJ w l0 zs at hr0
  have hrJ := hide hr0
  replace hr0 := rdI_of_rdJ hr0
  change RdI w l1 zp at hr1
  change RdNt w l2 ps at hr2
  have hr0' := hide hr0
  have hr1' := hide hr1
  obtain ⟨ad, cap, rfl, hA0⟩ := hr0
  obtain ⟨ad1, cap1, rfl, hA1⟩ := hr1
  obtain ⟨ad2, cap2, rfl, _⟩ := hr2
  replace hA0 := hide hA0
  replace hA1 := hide hA1
  simp only [Stv]
  have hB0 := ((Below.refl w.heap.size w).alloc (Nat.le_refl _) (.cells (stcC a b p dp (.slice ad zs.length cap) (.slice ad1 zp.length cap1) (.slice ad2 ps.length cap2) wv).toArray 33)).alloc (by simp) (.cells (imcC 0 0 0 0 (.slice none 0 0)).toArray 30)
  have hbx := hide ((heldF_new w (stcC a b p dp (.slice ad zs.length cap) (.slice ad1 zp.length cap1) (.slice ad2 ps.length cap2) wv) 33).keep (Upd.of_below ((Below.refl _ _).alloc (Nat.le_refl _) (.cells (imcC 0 0 0 0 (.slice none 0 0)).toArray 30)) 0 0))
  have hrs := hide (heldF_new (w.alloc (.cells (stcC a b p dp (.slice ad zs.length cap) (.slice ad1 zp.length cap1) (.slice ad2 ps.length cap2) wv).toArray 33)) (imcC 0 0 0 0 (.slice none 0 0)) 30)
  have hG := hide (implGoodStill _ ((a, b, p, dp, zs), zp, ps, wv) _ (hT.upd (Upd.of_below hB0 0 0) (.inr (Nat.zero_le _))) hn hR (hv0.below hB0))
  clear hv0 hR hn hT
  have es : (w.alloc (.cells (stcC a b p dp (.slice ad zs.length cap) (.slice ad1 zp.length cap1) (.slice ad2 ps.length cap2) wv).toArray 33)).heap.size = w.heap.size + 1 := by simp
  rw [es] at hrs
  have es2 : ((w.alloc (.cells (stcC a b p dp (.slice ad zs.length cap) (.slice ad1 zp.length cap1) (.slice ad2 ps.length cap2) wv).toArray 33)).alloc (.cells (imcC 0 0 0 0 (.slice none 0 0)).toArray 30)).heap.size = w.heap.size + 2 := by simp
  clear es
  replace hB0 := hide hB0
  go_enter Tryd.func11, Tryd.ntmps11
  go_wp2_with fail
  change Hid (HeldF ((w.alloc (.cells #[.int .i64 a, .int .i64 b, .int .i64 p, .int .i64 dp, .slice ad zs.length cap, .slice ad1 zp.length cap1, .slice ad2 ps.length cap2, .bool wv] 33)).alloc (.cells #[.int .i64 0, .int .i64 0, .int .i64 0, .int .i64 0, .slice none 0 0] 30)) _ _) at hbx
  change Hid (HeldF ((w.alloc (.cells #[.int .i64 a, .int .i64 b, .int .i64 p, .int .i64 dp, .slice ad zs.length cap, .slice ad1 zp.length cap1, .slice ad2 ps.length cap2, .bool wv] 33)).alloc (.cells #[.int .i64 0, .int .i64 0, .int .i64 0, .int .i64 0, .slice none 0 0] 30)) _ _) at hrs
  change ((w.alloc (.cells #[.int .i64 a, .int .i64 b, .int .i64 p, .int .i64 dp, .slice ad zs.length cap, .slice ad1 zp.length cap1, .slice ad2 ps.length cap2, .bool wv] 33)).alloc (.cells #[.int .i64 0, .int .i64 0, .int .i64 0, .int .i64 0, .slice none 0 0] 30)).heap.size = _ at es2
  generalize ((w.alloc (.cells #[.int .i64 a, .int .i64 b, .int .i64 p, .int .i64 dp, .slice ad zs.length cap, .slice ad1 zp.length cap1, .slice ad2 ps.length cap2, .bool wv] 33)).alloc (.cells #[.int .i64 0, .int .i64 0, .int .i64 0, .int .i64 0, .slice none 0 0] 30)) = w0 at hbx hrs hB0 hG es2 ⊢
  refine (unhide hG).mono ?_
  rintro e w1 ⟨rfl, hu⟩
  replace hbx := hide ((unhide hbx).keep hu)
  replace hrs := hide ((unhide hrs).keep hu)
  replace hB0 := hide (below_upd (unhide hB0) hu (Nat.le_refl _) (.inr (Nat.le_refl _)))
  have hs1 : w.heap.size + 2 ≤ w1.heap.size := by have := hu.size; omega
  clear hu hG es2
  have c0 := (unhide hbx).1.2 0 _ rfl
  have c1 := (unhide hbx).1.2 1 _ rfl
  have c2 := (unhide hbx).1.2 2 _ rfl
  have c3 := (unhide hbx).1.2 3 _ rfl
  have c4 := (unhide hbx).1.2 4 _ rfl
  have c5 := (unhide hbx).1.2 5 _ rfl
  have r0 := (unhide hrs).1.2 0 _ rfl
  have r1 := (unhide hrs).1.2 1 _ rfl
  have r2 := (unhide hrs).1.2 2 _ rfl
  have r3 := (unhide hrs).1.2 3 _ rfl
  have r4 := (unhide hrs).1.2 4 _ rfl
  have z0 := (unhide hrs).2 0
  have z1 := (unhide hrs).2 1
  have z2 := (unhide hrs).2 2
  have z3 := (unhide hrs).2 3
  have z4 := (unhide hrs).2 4
  have cl := (unhide hbx).1.1
  have rl := (unhide hrs).1.1
  by_cases hgd : GoodSt ((a, b, p, dp, zs), zp, ps, wv)
  · rw [pB_yes hgd]
    have hzl : zs.length ≤ 16384 := goodIm_len hgd.1
    by_cases h0 : zp.length = 0
    · have hE := hide (coloursF_plain hgd h0)
      have q : ((zp.length : Int) == 0) = true := by rw [h0]; rfl
      replace hgd := hide hgd
      replace h0 := hide h0
      have hbi := hide (heldF_new w1 (imcC a b p dp (.slice ad zs.length cap)) 30)
      have hb2 := hide ((unhide hB0).alloc (unhide hB0).size (.cells #[.int .i64 a, .int .i64 b, .int .i64 p, .int .i64 dp, .slice ad zs.length cap] 30))
      have hrs2 := hide ((unhide hrs).keep (Upd.of_below ((Below.refl w1.heap.size w1).alloc (Nat.le_refl _) (.cells #[.int .i64 a, .int .i64 b, .int .i64 p, .int .i64 dp, .slice ad zs.length cap] 30)) 0 0))
      go_wp2_with fail
      change Hid (HeldF (w1.alloc (.cells #[.int .i64 a, .int .i64 b, .int .i64 p, .int .i64 dp, .slice ad zs.length cap] 30)) _ _) at hbi
      have hsz2 : (w1.alloc (.cells #[.int .i64 a, .int .i64 b, .int .i64 p, .int .i64 dp, .slice ad zs.length cap] 30)).heap.size = w1.heap.size + 1 := by simp
      generalize w1.alloc (.cells #[.int .i64 a, .int .i64 b, .int .i64 p, .int .i64 dp, .slice ad zs.length cap] 30) = w1' at hbi hb2 hrs2 hsz2 ⊢
      refine (cloneI _ zs w1' (by omega) ((unhide hrJ).below (unhide hb2))).mono ?_
      rintro e w2 ⟨v2, rfl, ho2, hu2⟩
      have hb3 := hide (below_upd (unhide hb2) hu2 (Nat.le_refl _) (.inr (Nat.le_refl _)))
      replace hbi := hide ((unhide hbi).keep hu2)
      replace hrs2 := hide ((unhide hrs2).keep hu2)
      have hs2 : w1.heap.size + 1 ≤ w2.heap.size := by have := hu2.size; omega
      rw [hsz2] at ho2
      have hO2 := hide ho2
      obtain ⟨ad2', cap2', rfl, _⟩ := OwnI.rd (unhide hO2)
      clear hu2 hb2 ho2 hsz2 c0 c1 c2 c3 c4 c5 r0 r1 r2 r3 r4 z0 z1 z2 z3 z4 cl rl
      have i0 := (unhide hbi).1.2 0 _ rfl
      have i1 := (unhide hbi).1.2 1 _ rfl
      have i2 := (unhide hbi).1.2 2 _ rfl
      have i3 := (unhide hbi).1.2 3 _ rfl
      have i4 := (unhide hbi).1.2 4 _ rfl
      have iz := (unhide hbi).2 4
      have r0 := (unhide hrs2).1.2 0 _ rfl
      have r1 := (unhide hrs2).1.2 1 _ rfl
      have r2 := (unhide hrs2).1.2 2 _ rfl
      have r3 := (unhide hrs2).1.2 3 _ rfl
      have r4 := (unhide hrs2).1.2 4 _ rfl
      have z0 := (unhide hrs2).2 0
      have z1 := (unhide hrs2).2 1
      have z2 := (unhide hrs2).2 2
      have z3 := (unhide hrs2).2 3
      have z4 := (unhide hrs2).2 4
      go_wp2
      refine bodyPost_ret (v := .agg #[.int .i64 a, .int .i64 b, .int .i64 p, .int .i64 dp, .slice ad2' zs.length cap2']) (by simp [results, Tryd.results11, go_sem, r0, r1, r2, r3, r4]) rfl ⟨_, rfl, ?_, Upd.of_below ?_ 0 0⟩
      · rw [unhide hE]
        refine ⟨_, rfl, own_mono ((((((unhide hO2).set' (c := w1.heap.size) (by omega) 4 _).set' (c := w.heap.size + 1) (by omega) 0 _).set' (c := w.heap.size + 1) (by omega) 1 _).set' (c := w.heap.size + 1) (by omega) 2 _).set' (c := w.heap.size + 1) (by omega) 3 _ |>.set' (c := w.heap.size + 1) (by omega) 4 _) (by omega) (by simp)⟩
      · exact (((((((unhide hb3).setCell (p := ⟨w1.heap.size, 4, none⟩) (by simp; omega) _).setCell (p := ⟨w.heap.size + 1, 0, none⟩) (by simp) _).setCell (p := ⟨w.heap.size + 1, 1, none⟩) (by simp) _).setCell (p := ⟨w.heap.size + 1, 2, none⟩) (by simp) _).setCell (p := ⟨w.heap.size + 1, 3, none⟩) (by simp) _).setCell (p := ⟨w.heap.size + 1, 4, none⟩) (by simp) _)
    · have hE := hide (coloursF_pal hgd h0)
      have q : ((zp.length : Int) == 0) = false := beq_eq_false_iff_ne.2 (by omega)
      have hin : Hid (∀ k, k < zs.length → 0 ≤ zs.getD k 0 ∧ zs.getD k 0 < (zp.length : Int)) := hide (fun k hk => ⟨(hgd.1.2.2 k hk).1, (hgd.2.2.1 (by show 0 < zp.length; omega)).2.2 k hk⟩)
      have hcol : Hid (∀ k, k < zp.length → 0 ≤ zp.getD k 0 ∧ zp.getD k 0 ≤ 16777215) := hide hgd.2.1.2
      have hzp : zp.length ≤ 256 := hgd.2.1.1
      replace hgd := hide hgd
      have hb2 := (unhide hB0).alloc (unhide hB0).size (.cells #[.int .i64 a, .int .i64 b, .int .i64 3, .int .i64 8, .slice none 0 0] 30)
      have hu2 : Upd 0 0 w1 (w1.alloc (.cells #[.int .i64 a, .int .i64 b, .int .i64 3, .int .i64 8, .slice none 0 0] 30)) := Upd.of_below ((Below.refl w1.heap.size w1).alloc (Nat.le_refl _) _) 0 0
      have hbo := heldF_new w1 (imcC a b 3 8 (.slice none 0 0)) 30
      have hbx2 := hide ((unhide hbx).keep hu2)
      have hrs2 := hide ((unhide hrs).keep hu2)
      have hs2 : (w1.alloc (.cells #[.int .i64 a, .int .i64 b, .int .i64 3, .int .i64 8, .slice none 0 0] 30)).heap.size = w1.heap.size + 1 := by simp
      replace hbo := hide hbo
      replace hb2 := hide hb2
      clear hu2
      go_wp2_with fail
      change Hid (HeldF (w1.alloc (.cells #[.int .i64 a, .int .i64 b, .int .i64 3, .int .i64 8, .slice none 0 0] 30)) _ _) at hbo
      clear c0 c1 c2 c3 c4 c5 r0 r1 r2 r3 r4 z0 z1 z2 z3 z4 cl rl hbx hrs
      generalize (w1.alloc (.cells #[.int .i64 a, .int .i64 b, .int .i64 3, .int .i64 8, .slice none 0 0] 30)) = w2 at hb2 hbo hbx2 hrs2 hs2 ⊢
      go_loopw [29] (fun i wx => ∃ (k : Nat) (v : Value), k ≤ zs.length ∧ i = .int .i64 k ∧ HeldF wx w1.heap.size (imcC a b 3 8 v) ∧ wx.ownsRow (w1.heap.size + 1) 3 1 v (colTo zs zp k).length (ints (colTo zs zp k)) ∧ Below w1.heap.size w2 wx) (fun i _ => zs.length - (intOf i).toNat)
      case atStart => exact ⟨0, .slice none 0 0, Nat.zero_le _, rfl, unhide hbo, World.ownsRow_nil _ _ _ _, Below.refl _ _⟩
      case round =>
        obtain ⟨k, v, hk, rfl, hbo2, hown, hbel⟩ := hrel
        have huw : Upd w1.heap.size wr.heap.size w2 wr := ⟨hbel.os, hbel.tape, hbel.output, hbel.size, fun j hj hn => hbel.block j (by have := hbel.size; omega)⟩
        have hbx3 := (unhide hbx2).upd huw (.inl (by omega))
        have hrs3 := hide ((unhide hrs2).upd huw (.inl (by omega)))
        have hb3 := below_upd (unhide hb2) huw (Nat.le_refl _) (.inl (by omega))
        have hszw := hbel.size
        have c5 := hbx3.1.2 5 _ rfl
        have cl := hbx3.1.1
        by_cases hlt : k < zs.length
        · obtain ⟨s0, s1⟩ := unhide hin k hlt
          obtain ⟨n, hnk⟩ := Int.eq_ofNat_of_zero_le s0
          obtain ⟨b', off', rfl, hbl, hcc⟩ := (unhide hA0) (ne_of_lt_length hlt)
          have hck := (hb3.cell (p := ⟨b', off' + k, none⟩) (by simpa using hbl)).trans (hcc k hlt)
          rw [hnk] at hck s1
          have hn1 : n < zp.length := by omega
          obtain ⟨b2, off2, rfl, hbl2, hcc2⟩ := (unhide hA1) (ne_of_lt_length hn1)
          have hck2 := (hb3.cell (p := ⟨b2, off2 + n, none⟩) (by simpa using hbl2)).trans (hcc2 n hn1)
          obtain ⟨k0, k1⟩ := unhide hcol n hn1
          have hsu := colTo_succ zs zp k hlt
          rw [hnk, Int.toNat_natCast] at hsu
          replace hsu := hide hsu
          have hln := colTo_len zs zp k hk
          generalize zp.getD n 0 = c at hck2 k0 k1 hsu
          have a1 := (col_and c).1
          have a2 := (col_and c).2
          have o4 := hbo2.1.2 4 _ rfl
          have oz := hbo2.2 4
          have ol := hbo2.1.1
          have hrn := hide (show RdJ (wr.alloc (.cells #[.int .i64 (c / 65536), .int .i64 (c / 256 % 256), .int .i64 (c % 256)] 3)) (.slice (some ⟨wr.heap.size, 0, none⟩) 3 3) (colB c) from .inr ⟨wr.heap.size, 0, 3, rfl, by simp, fun j hj => by
            rw [World.cell?_alloc_at _ _ _ _ rfl, Nat.zero_add]
            match j, hj with
            | 0, _ => rfl
            | 1, _ => rfl
            | 2, _ => rfl⟩)
          have hown2 := hide (hown.alloc (.cells #[.int .i64 (c / 65536), .int .i64 (c / 256 % 256), .int .i64 (c % 256)] 3))
          have hbo3 := hide (hbo2.keep (Upd.of_below ((Below.refl wr.heap.size wr).alloc (Nat.le_refl _) (.cells #[.int .i64 (c / 65536), .int .i64 (c / 256 % 256), .int .i64 (c % 256)] 3)) 0 0))
          have hbel3 := hide (hbel.alloc (by omega) (.cells #[.int .i64 (c / 65536), .int .i64 (c / 256 % 256), .int .i64 (c % 256)] 3))
          obtain ⟨cz, hcz⟩ : ∃ cz, colTo zs zp k = cz := ⟨_, rfl⟩
          rw [hcz] at hown2 hsu hln
          replace hcz := hide hcz
          clear hbx3 hb3 hcc hcc2 hbl hbl2 hown hbo2 hbel huw hnk s0
          replace hln := hide hln
          go_wp2_with (at_builtin; go_loud (refine wpList_appI rfl (.tmp 39) (.tmp 47) rfl (w1.heap.size + 1) v cz rfl (unhide hown2) _ (colB c) rfl (unhide hrn) (by have := unhide hln; simp [colB]; omega) (by simp; omega) ?_))
          intro v4 w4 ho4 hg4 _
          have hu4 := upd_of_grownI hg4 (unhide hown2)
          have hb4 := (unhide hbel3).trans (hu4.below (by simp; omega) (.inl (by omega)))
          have hbo4 := (unhide hbo3).upd hu4 (.inl (Nat.le_refl _))
          have o4' := hbo4.1.2 4 _ rfl
          have oz' := hbo4.2 4
          have ho5 : w4.ownsRow (w1.heap.size + 1) 3 1 v4 (cz ++ colB c).length (ints (cz ++ colB c)) := by rw [List.length_append]; exact ho4
          rw [← unhide hsu] at ho5
          obtain ⟨dz, hdz⟩ : ∃ dz, colTo zs zp (k + 1) = dz := ⟨_, rfl⟩
          rw [hdz] at ho5
          obtain ⟨ad4, cap4, rfl, _⟩ := OwnI.rd (Own.of ho5)
          have hbo5 := hide (hbo4.set 4 (.slice ad4 dz.length cap4) (by simp))
          have ho6 := hide (Own.set' (Own.of ho5) (c := w1.heap.size) (by omega) 4 (.slice ad4 dz.length cap4)).1
          have hb5 := hide (hb4.setCell (p := ⟨w1.heap.size, 4, none⟩) (by simp) (.slice ad4 dz.length cap4))
          have ho7 : Hid ((w4.setCell ⟨w1.heap.size, 4, none⟩ (.slice ad4 dz.length cap4)).ownsRow (w1.heap.size + 1) 3 1 (.slice ad4 dz.length cap4) (colTo zs zp (k + 1)).length (ints (colTo zs zp (k + 1)))) := hide (by rw [hdz]; exact unhide ho6)
          clear ho6
          replace hdz := hide hdz
          clear hu4 hb4 hbo4 ho5 ho4 hg4 o4 oz ol hown2 hbo3 hbel3 hrn
          go_wp2
          go_roundw
          case rel => exact ⟨k + 1, _, by omega, by go_num, unhide hbo5, unhide ho7, unhide hb5⟩
          case measure => simp [intOf]; omega
        · have hkl : k = zs.length := by omega
          subst hkl
          obtain ⟨cz, hcz⟩ : ∃ cz, colTo zs zp zs.length = cz := ⟨_, rfl⟩
          change Hid (coloursF ((a, b, p, dp, zs), zp, ps, wv) = (a, b, 3, 8, colTo zs zp zs.length)) at hE
          rw [hcz] at hown hE
          clear hcz
          have hO := hide (Own.of hown)
          obtain ⟨ad3, cap3, rfl, _⟩ := OwnI.rd (unhide hO)
          have o0 := hbo2.1.2 0 _ rfl
          have o1 := hbo2.1.2 1 _ rfl
          have o2 := hbo2.1.2 2 _ rfl
          have o3 := hbo2.1.2 3 _ rfl
          have o4 := hbo2.1.2 4 _ rfl
          have r0 := (unhide hrs3).1.2 0 _ rfl
          have r1 := (unhide hrs3).1.2 1 _ rfl
          have r2 := (unhide hrs3).1.2 2 _ rfl
          have r3 := (unhide hrs3).1.2 3 _ rfl
          have r4 := (unhide hrs3).1.2 4 _ rfl
          have z0 := (unhide hrs3).2 0
          have z1 := (unhide hrs3).2 1
          have z2 := (unhide hrs3).2 2
          have z3 := (unhide hrs3).2 3
          have z4 := (unhide hrs3).2 4
          replace hb3 := hide hb3
          clear hown hbo2 hbel huw hbx3
          go_wp2
          refine bodyPost_ret (v := .agg #[.int .i64 a, .int .i64 b, .int .i64 3, .int .i64 8, .slice ad3 cz.length cap3]) (by simp [results, Tryd.results11, go_sem, r0, r1, r2, r3, r4]) rfl ⟨_, rfl, ?_, Upd.of_below ?_ 0 0⟩
          · rw [unhide hE]
            refine ⟨_, rfl, own_mono (((((unhide hO).set' (c := w.heap.size + 1) (by omega) 0 _).set' (c := w.heap.size + 1) (by omega) 1 _).set' (c := w.heap.size + 1) (by omega) 2 _).set' (c := w.heap.size + 1) (by omega) 3 _ |>.set' (c := w.heap.size + 1) (by omega) 4 _) (by omega) (by simp)⟩
          · exact ((((((unhide hb3).setCell (p := ⟨w.heap.size + 1, 0, none⟩) (by simp) _).setCell (p := ⟨w.heap.size + 1, 1, none⟩) (by simp) _).setCell (p := ⟨w.heap.size + 1, 2, none⟩) (by simp) _).setCell (p := ⟨w.heap.size + 1, 3, none⟩) (by simp) _).setCell (p := ⟨w.heap.size + 1, 4, none⟩) (by simp) _)
  · rw [pB_no hgd]
    have hE := hide (coloursF_no hgd)
    go_wp2_with fail
    refine bodyPost_ret (v := .agg #[.int .i64 0, .int .i64 0, .int .i64 0, .int .i64 0, .slice none 0 0]) (by simp [results, Tryd.results11, go_sem, r0, r1, r2, r3, r4]) rfl ⟨_, rfl, ?_, Upd.of_below ?_ 0 0⟩
    · rw [unhide hE]; exact ⟨_, rfl, own_nilI _ _ _⟩
    · exact ((((((unhide hB0).setCell (p := ⟨w.heap.size + 1, 0, none⟩) (by simp) _).setCell (p := ⟨w.heap.size + 1, 1, none⟩) (by simp) _).setCell (p := ⟨w.heap.size + 1, 2, none⟩) (by simp) _).setCell (p := ⟨w.heap.size + 1, 3, none⟩) (by simp) _).setCell (p := ⟨w.heap.size + 1, 4, none⟩) (by simp) _)
end Go.Proofs.YthkppcncajmniaaDoor

/- The texts by which the laws mark: what they are. -/
namespace Go.Proofs.YthkppcncajmniaaDoor
open Go.RowKit

def digs (k : Nat) : List UInt8 := if _h : k = 0 then [] else digs (k / 10) ++ [UInt8.ofNat (48 + k % 10)]
termination_by k
decreasing_by omega
theorem digs_pos {k : Nat} (h : 0 < k) : digs k = digs (k / 10) ++ [UInt8.ofNat (48 + k % 10)] := by
  rw [digs]; rw [dif_neg (by omega)]
theorem digs_zero : digs 0 = [] := by rw [digs]; rfl
def mkText (k : Nat) : List UInt8 := if k = 0 then [109, 48] else 109 :: digs k
theorem digs_len (n : Nat) : ∀ k, k < 10 ^ n → (digs k).length ≤ n := by
  induction n with
  | zero => intro k hk; have : k = 0 := by simpa using hk
            subst this; rw [digs_zero]; simp
  | succ n ih =>
    intro k hk
    rcases Nat.eq_zero_or_pos k with h | h
    · subst h; rw [digs_zero]; simp
    · rw [digs_pos h, List.length_append]
      have : k / 10 < 10 ^ n := by rw [Nat.div_lt_iff_lt_mul (by omega)]; rw [Nat.pow_succ] at hk; exact hk
      have := ih _ this
      simp; omega

set_option maxHeartbeats 2000000 in
set_option maxRecDepth 100000 in
theorem markText_eq (k : Nat) (w : World) (hk : k ≤ 1099511627776) :
    Calls Tryd.prog 53 #[.int .i64 k] w fun e w' => ∃ s, e = .returned (.string s) ∧ s.data.toList = mkText k ∧ Upd 0 0 w w' := by
  by_cases h0 : k = 0
  · subst h0
    go_enter Tryd.func53, Tryd.ntmps53
    go_wp2
    go_ret
    exact ⟨_, rfl, rfl, Upd.refl _ _ _⟩
  · have hpos : (0 : Int) < k := by omega
    have hlen := digs_len 13 k (by omega)
    have hlen' := hide hlen
    go_enter Tryd.func53, Tryd.ntmps53
    go_wp2
    go_loopw [0, 3] (fun a o wr => ∃ (m : Nat) (s : ByteArray), a = .int .i64 m ∧ o = .string s ∧ m ≤ k ∧ Hid (digs m ++ s.data.toList = digs k) ∧ Below w.heap.size w wr) (fun a _ _ => (intOf a).toNat)
    case atStart => exact ⟨k, ⟨#[]⟩, rfl, rfl, Nat.le_refl _, hide (by simp), Below.refl _ _⟩
    case round =>
      obtain ⟨m, s, rfl, rfl, hm, hd, hbel⟩ := hrel
      by_cases hz : 0 < m
      · have hz' : (0 : Int) < m := by omega
        have hds := hide (digs_pos hz)
        obtain ⟨r, hr, r10⟩ : ∃ r : Nat, m % 10 = r ∧ r < 10 := ⟨_, rfl, by omega⟩
        obtain ⟨q, hq, hqm⟩ : ∃ q : Nat, m / 10 = q ∧ q < m := ⟨_, rfl, by omega⟩
        rw [hr, hq] at hds
        have hr' : ((m : Int) % 10) = (r : Int) := by omega
        have hq' : ((m : Int) / 10) = (q : Int) := by omega
        replace hr := hide hr
        replace hq := hide hq
        have hsz : s.size ≤ 13 := by
          have h1 := congrArg List.length (unhide hd)
          rw [List.length_append] at h1
          have : s.data.toList.length = s.size := by simp
          have := unhide hlen'; omega
        obtain ⟨c, hc⟩ : ∃ c : ByteArray, (⟨[UInt8.ofNat (48 + r)].toArray⟩ : ByteArray) = c := ⟨_, rfl⟩
        have hcs : c.size = 1 := by rw [← hc]; rfl
        have hcl : Hid (c.data.toList = [UInt8.ofNat (48 + r)]) := hide (by rw [← hc])
        have hconv : (convert 79 9 (.slice (some ⟨wr.heap.size, 0, none⟩) 1 1)).run Tryd.prog (wr.alloc (.cells #[.int .u8 (48 + (r : Int))] 5)) = .ok (.string c) (wr.alloc (.cells #[.int .u8 (48 + (r : Int))] 5)) := hc ▸ run_convert_bytes_back (P := Tryd.prog) (wr.alloc (.cells #[.int .u8 (48 + (r : Int))] 5)) 79 9 5 ⟨wr.heap.size, 0, none⟩ 1 [UInt8.ofNat (48 + r)] Tryd.underlying79 Tryd.underlying5 Tryd.underlying9 (fun j hj => by
          have : j = 0 := by simpa using hj
          subst this
          have e : (⟨wr.heap.size, 0, none⟩ : Addr).add 0 = ⟨wr.heap.size, 0, none⟩ := by simp [Addr.add]
          rw [e, World.cell?_alloc_at _ _ _ _ rfl]
          simp
          have : (48 + r) % 256 = 48 + r := by omega
          omega)
        have hb2 := hide (hbel.alloc hbel.size (.cells #[.int .u8 (48 + (r : Int))] 5))
        have hd2 : Hid (digs q ++ (c ++ s).data.toList = digs k) := hide (by rw [← unhide hd, unhide hds, List.append_assoc, ← unhide hcl]; simp)
        clear hc
        go_wp2_with fail
        go_roundw
        case rel => exact ⟨q, c ++ s, rfl, rfl, by omega, hd2, unhide hb2⟩
        case measure => simp [intOf]; omega
      · have hmz : m = 0 := by omega
        subst hmz
        have hd2 := unhide hd
        rw [digs_zero, List.nil_append] at hd2
        replace hd2 := hide hd2
        replace hbel := hide hbel
        have hsz : s.size ≤ 13 := by
          have h1 := congrArg List.length (unhide hd2)
          have : s.data.toList.length = s.size := by simp
          have := unhide hlen'; omega
        go_wp2_with fail
        go_ret
        refine ⟨_, rfl, ?_, Upd.of_below (unhide hbel) 0 0⟩
        unfold mkText; rw [if_neg h0, ← unhide hd2]; simp
end Go.Proofs.YthkppcncajmniaaDoor

/- Lists of Notes: the walks of the laws' own marking of them. -/
namespace Go.Proofs.YthkppcncajmniaaDoor
open Go.RowKit

def mkB (k : Nat) : ByteArray := ⟨(mkText k).toArray⟩
theorem mkB_of {s : ByteArray} {k : Nat} (h : s.data.toList = mkText k) : s = mkB k := by
  obtain ⟨⟨l⟩⟩ := s
  unfold mkB
  simp at h
  rw [h]
theorem markText_b (k : Nat) (w : World) (hk : k ≤ 1099511627776) :
    Calls Tryd.prog 53 #[.int .i64 k] w fun e w' => e = .returned (.string (mkB k)) ∧ Upd 0 0 w w' := by
  refine (markText_eq k w hk).mono ?_
  rintro e w' ⟨s, rfl, hs, hu⟩
  exact ⟨by rw [mkB_of hs], hu⟩
def marksNt (k n : Nat) : List Nt := (List.range n).map fun j => (mkB (k + 2 * j), mkB (k + 2 * j + 1))
@[simp] theorem marksNt_length (k n : Nat) : (marksNt k n).length = n := by simp [marksNt]
theorem marksNt_at (k n j : Nat) (h : j < n) : (marksNt k n).getD j Nt0 = (mkB (k + 2 * j), mkB (k + 2 * j + 1)) := by
  unfold marksNt; rw [List.getD_eq_getElem?_getD, List.getElem?_map, List.getElem?_range h]; rfl

theorem upd_wide {a b : Nat} {w w' : World} (h : Upd 0 0 w w') : Upd a b w w' := ⟨h.os, h.tape, h.output, h.size, fun k hk _ => h.block k hk (.inr (Nat.zero_le _))⟩

set_option maxHeartbeats 1000000 in
theorem markNoteS_none (k : Nat) (w : World) : Calls Tryd.prog 34 #[.slice none 0 0, .int .i64 k] w fun e w' => e = .returned (.int .i64 (k : Int)) ∧ w' = w := by
  go_enter Tryd.func34, Tryd.ntmps34
  go_wp2
  go_loop [1, 5] (fun a i => a = .int .i64 k ∧ i = .int .i64 0) (fun _ _ => 0)
  case atStart => exact ⟨rfl, rfl⟩
  case round =>
    obtain ⟨rfl, rfl⟩ := hrel
    go_wp2
    go_ret
    exact ⟨rfl, rfl⟩

set_option maxHeartbeats 4000000 in
theorem markNoteS_some (a g cap n k : Nat) (xs : List Value) (w : World) (hn : n ≤ 1048576) (hk : k ≤ 549755813888) (h : w.ownsRow a 47 2 (.slice (some ⟨g, 0, none⟩) n cap) n xs) :
    Calls Tryd.prog 34 #[.slice (some ⟨g, 0, none⟩) n cap, .int .i64 k] w fun e w' => e = .returned (.int .i64 ((k + 2 * n : Nat) : Int)) ∧ w'.ownsRow a 47 2 (.slice (some ⟨g, 0, none⟩) n cap) n (cellsNt (marksNt k n)) ∧ Upd g (g + 1) w w' := by
  go_enter Tryd.func34, Tryd.ntmps34
  go_wp2
  go_loopw [1, 5] (fun c i wr => ∃ t : Nat, ∃ ys, ∃ K : Nat, t ≤ n ∧ Hid (K = k + 2 * t) ∧ c = .int .i64 K ∧ i = .int .i64 t ∧ wr.ownsRow a 47 2 (.slice (some ⟨g, 0, none⟩) n cap) n ys ∧ Hid (RowNt ys (marksNt k n) t) ∧ Upd g (g + 1) w wr) (fun _ i _ => n - (intOf i).toNat)
  case atStart => exact ⟨0, xs, k, Nat.zero_le _, hide (by omega), rfl, rfl, h, hide (fun j hj => by omega), Upd.refl _ _ _⟩
  case round =>
    clear h
    obtain ⟨t, ys, K, ht, hK, rfl, rfl, hown, hrow, hupd⟩ := hrel
    have hlen : ys.length = n * 2 := hown.1
    by_cases hlt : t < n
    · have hK1 : K ≤ 1099511627770 := by have := unhide hK; omega
      have hT1 := hide (fun W => markText_b K W (by omega))
      have hT2 := hide (fun W => markText_b (K + 1) W (by omega))
      obtain ⟨s1, hs1⟩ : ∃ s, mkB K = s := ⟨_, rfl⟩
      obtain ⟨s2, hs2⟩ : ∃ s, mkB (K + 1) = s := ⟨_, rfl⟩
      rw [hs1] at hT1
      rw [hs2] at hT2
      have hrow2 : Hid (RowNt ((ys.set (t * 2) (.string s1)).set (t * 2 + 1) (.string s2)) (marksNt k n) (t + 1)) := by
        intro j hj
        by_cases e : j = t
        · subst e
          rw [marksNt_at k n j hlt, ← unhide hK, hs1, hs2]
          refine ⟨?_, ?_⟩
          · rw [List.getElem?_set_ne (by omega), List.getElem?_set_self (by omega)]
          · rw [List.getElem?_set_self (by simp; omega)]
        · have := unhide hrow j (by omega)
          refine ⟨?_, ?_⟩
          · rw [List.getElem?_set_ne (by omega), List.getElem?_set_ne (by omega)]; exact this.1
          · rw [List.getElem?_set_ne (by omega), List.getElem?_set_ne (by omega)]; exact this.2
      clear hs1 hs2 hrow
      replace hlen := hide hlen
      replace hown := hide (Own.of hown)
      replace hupd := hide hupd
      go_wp2_with fail
      refine (unhide hT1 _).mono ?_
      rintro e w1 ⟨rfl, hu1⟩
      have ho1 := (unhide hown).keep hu1
      have hp1 := (unhide hupd).trans (upd_wide hu1)
      clear hT1 hown hupd hu1
      have e0 : ∃ u, w1.cell? ⟨g, t * 2, none⟩ = some u := by rw [ho1.1.cellAt _ (by omega)]; exact ⟨_, List.getElem?_eq_getElem (by have := unhide hlen; omega)⟩
      obtain ⟨a0, e0⟩ := e0
      have f0 := ho1.1.frozenAt (t * 2)
      have ho2 := hide (Own.of (ho1.1.stored (t * 2) (.string s1)).1)
      have hp2 := hide (hp1.setCell (r := g) ⟨Nat.le_refl _, by omega⟩ (t * 2) (.string s1))
      clear ho1 hp1
      go_wp2_with fail
      generalize w1.setCell ⟨g, t * 2, none⟩ (.string s1) = w2 at ho2 hp2 ⊢
      refine (unhide hT2 _).mono ?_
      rintro e w3 ⟨rfl, hu1⟩
      have ho1 := (unhide ho2).keep hu1
      have hp1 := (unhide hp2).trans (upd_wide hu1)
      clear hT2 ho2 hp2 hu1 e0 f0
      have e0 : ∃ u, w3.cell? ⟨g, t * 2 + 1, none⟩ = some u := by rw [ho1.1.cellAt _ (by omega)]; exact ⟨_, List.getElem?_eq_getElem (by have := unhide hlen; simp; omega)⟩
      obtain ⟨a1, e0⟩ := e0
      have f0 := ho1.1.frozenAt (t * 2 + 1)
      have ho2 := hide (ho1.1.stored (t * 2 + 1) (.string s2)).1
      have hp2 := hide (hp1.setCell (r := g) ⟨Nat.le_refl _, by omega⟩ (t * 2 + 1) (.string s2))
      clear ho1 hp1
      go_wp2
      go_roundw
      case rel => exact ⟨t + 1, _, K + 2, by omega, hide (by have := unhide hK; omega), by go_num, by go_num, unhide ho2, hrow2, unhide hp2⟩
      case measure => simp [intOf]; omega
    · have htn : t = n := by omega
      subst htn
      have he := cellsNt_of (ps := marksNt k t) (by rw [marksNt_length]; exact hlen) (by rw [marksNt_length]; exact unhide hrow)
      rw [he] at hown
      replace hown := hide hown
      clear hrow he hlen
      have hKK := unhide hK
      subst hKK
      go_wp2
      go_ret
      exact ⟨rfl, unhide hown, hupd⟩
theorem markNoteS_own (a b : Nat) (v : Value) (k : Nat) (ps : List Nt) (w : World) (hn : ps.length ≤ 1048576) (hk : k ≤ 549755813888) (h : OwnNt w a b v ps) :
    Calls Tryd.prog 34 #[v, .int .i64 k] w fun e w' => e = .returned (.int .i64 ((k + 2 * ps.length : Nat) : Int)) ∧ OwnNt w' a b v (marksNt k ps.length) ∧ Upd a b w w' := by
  rcases h.1.2 with ⟨rfl, h0⟩ | ⟨g, cap, cur, rfl, h1, h2, h3⟩
  · refine (markNoteS_none k w).mono ?_
    rintro e w' ⟨rfl, rfl⟩
    rw [h0]
    exact ⟨rfl, ⟨World.ownsRow_nil _ _ _ _, fun k hk => by simp [Value.ownBlock] at hk⟩, Upd.refl _ _ _⟩
  · have hb := h.2 g rfl
    refine (markNoteS_some a g cap ps.length k _ w hn hk h.1).mono ?_
    rintro e w' ⟨rfl, ho, hu⟩
    refine ⟨rfl, ⟨?_, h.2⟩, ⟨hu.os, hu.tape, hu.output, hu.size, fun i hi hn => hu.block i hi (by omega)⟩⟩
    rw [marksNt_length]; exact ho
end Go.Proofs.YthkppcncajmniaaDoor

/- Stills: the walk of the laws' own marking of them. -/
namespace Go.Proofs.YthkppcncajmniaaDoor
open Go.RowKit

def StMarked (k : Nat) (d : St) : St := ((d.1.1, d.1.2.1, d.1.2.2.1, d.1.2.2.2.1, marks (k) d.1.2.2.2.2.length), marks (k + d.1.2.2.2.2.length) d.2.1.length, marksNt (k + d.1.2.2.2.2.length + d.2.1.length) d.2.2.1.length, d.2.2.2)
theorem own_clip {e : TypeId} {s : Nat} {w : World} {a b : Nat} {v : Value} {n : Nat} {xs : List Value} (h : Own e s w a b v n xs) : Own e s w a (min b w.heap.size) v n xs :=
  ⟨h.1, fun k hk => by have := h.2 k hk; have := (h.1.lt k hk).2; omega⟩
theorem upd_widen {a b : Nat} {w w' : World} (h : Upd 0 0 w w') : Upd a b w w' := ⟨h.os, h.tape, h.output, h.size, fun k hk _ => h.block k hk (.inr (Nat.zero_le _))⟩
theorem upd_narrow {a b c d : Nat} {w w' : World} (h : Upd c d w w') (h1 : a ≤ c) (h2 : d ≤ b) : Upd a b w w' := ⟨h.os, h.tape, h.output, h.size, fun k hk hn => h.block k hk (by omega)⟩

set_option maxHeartbeats 4000000 in
set_option maxRecDepth 100000 in
theorem markStill_own {w : World} {a b : Nat} {v : Value} {d : St} (k : Nat) (hL : StSize d ≤ 1048576) (hk : k ≤ 1073741824) (hv : OwnSt w a b v d) :
    Calls Tryd.prog 13 #[v, .int .i64 k] w fun e w' => e = .returned (.int .i64 ((k + StCount d : Nat) : Int)) ∧ OwnSt w' a b v (StMarked k d) ∧ Upd a b w w' := by
  obtain ⟨v0, v1, v2, a1, a2, rfl, hch, h0, h1, h2⟩ := hv
  obtain ⟨⟨x0, x1, x2, x3, zs0⟩, zs1, zs2, x4⟩ := d
  simp only [Stv, StSize, StCount, StMarked] at hL h0 h1 h2 ⊢
  have hn0 : zs0.length ≤ 1048576 := by omega
  have hn1 : zs1.length ≤ 1048576 := by omega
  have hn2 : zs2.length ≤ 1048576 := by unfold ntSize at hL; omega
  have hu0 : Upd 0 0 w (w.alloc (.cells #[.int .i64 x0, .int .i64 x1, .int .i64 x2, .int .i64 x3, v0, v1, v2, .bool x4] 33)) := Upd.of_below ((Below.refl w.heap.size w).alloc (Nat.le_refl _) (.cells #[.int .i64 x0, .int .i64 x1, .int .i64 x2, .int .i64 x3, v0, v1, v2, .bool x4] 33)) 0 0
  have hbx0 := heldF_new w [.int .i64 x0, .int .i64 x1, .int .i64 x2, .int .i64 x3, v0, v1, v2, .bool x4] 33
  replace h0 := hide ((own_clip h0).keep hu0)
  replace h1 := hide ((own_clip h1).keep hu0)
  replace h2 := hide ((own_clip h2).keep hu0)
  obtain ⟨ad0, cap0, hf0, _⟩ := OwnI.rd (unhide h0)
  subst hf0
  obtain ⟨ad1, cap1, hf1, _⟩ := OwnI.rd (unhide h1)
  subst hf1
  obtain ⟨ad2, cap2, hf2, _⟩ := OwnNt.rd (unhide h2)
  subst hf2
  have hU := hide (upd_widen (a := a) (b := b) hu0)
  go_enter Tryd.func13, Tryd.ntmps13
  go_wp2_with fail
  clear hu0
  generalize w.alloc (.cells #[.int .i64 x0, .int .i64 x1, .int .i64 x2, .int .i64 x3, .slice ad0 zs0.length cap0, .slice ad1 zs1.length cap1, .slice ad2 zs2.length cap2, .bool x4] 33) = w0 at hbx0 h0 h1 h2 hU ⊢
  have hbx := hide hbx0
  clear hbx0
  refine (markImage_own (a := a) (b := (min a1 w.heap.size)) (d := (x0, x1, x2, x3, zs0)) (k) hn0 (by omega) ⟨_, rfl, unhide h0⟩).mono ?_
  rintro e w1 ⟨rfl, ho, hu⟩
  replace hbx := hide ((unhide hbx).upd hu (by omega))
  replace h1 := hide ((unhide h1).upd hu (by omega))
  replace h2 := hide ((unhide h2).upd hu (by omega))
  obtain ⟨_, hfo, ho⟩ := ho
  have hfo2 := congrArg (fun v : Value => match v with | .agg c => c[4]? | _ => none) hfo
  simp at hfo2
  subst hfo2
  replace h0 := hide ho
  clear hfo
  replace hU := hide ((unhide hU).trans (upd_narrow hu (by omega) (by omega)))
  clear hu
  have cb0 := (unhide hbx).1.2 0 _ rfl
  have cb1 := (unhide hbx).1.2 1 _ rfl
  have cb2 := (unhide hbx).1.2 2 _ rfl
  have cb3 := (unhide hbx).1.2 3 _ rfl
  have cb4 := (unhide hbx).1.2 4 _ rfl
  have cb5 := (unhide hbx).1.2 5 _ rfl
  have cb6 := (unhide hbx).1.2 6 _ rfl
  have cb7 := (unhide hbx).1.2 7 _ rfl
  go_wp2_with fail
  clear cb0 cb1 cb2 cb3 cb4 cb5 cb6 cb7
  refine (markIntS_own a1 (min a2 w.heap.size) _ (k + zs0.length) _ w1 hn1 (by omega) (unhide h1)).mono ?_
  rintro e w2 ⟨rfl, ho, hu⟩
  replace hbx := hide ((unhide hbx).upd hu (by omega))
  replace h0 := hide ((unhide h0).upd hu (by omega))
  replace h2 := hide ((unhide h2).upd hu (by omega))
  replace h1 := hide ho
  replace hU := hide ((unhide hU).trans (upd_narrow hu (by omega) (by omega)))
  clear hu ho
  have cb0 := (unhide hbx).1.2 0 _ rfl
  have cb1 := (unhide hbx).1.2 1 _ rfl
  have cb2 := (unhide hbx).1.2 2 _ rfl
  have cb3 := (unhide hbx).1.2 3 _ rfl
  have cb4 := (unhide hbx).1.2 4 _ rfl
  have cb5 := (unhide hbx).1.2 5 _ rfl
  have cb6 := (unhide hbx).1.2 6 _ rfl
  have cb7 := (unhide hbx).1.2 7 _ rfl
  go_wp2_with fail
  clear cb0 cb1 cb2 cb3 cb4 cb5 cb6 cb7
  refine (markNoteS_own a2 (min b w.heap.size) _ (k + zs0.length + zs1.length) _ w2 hn2 (by omega) (unhide h2)).mono ?_
  rintro e w3 ⟨rfl, ho, hu⟩
  replace hbx := hide ((unhide hbx).upd hu (by omega))
  replace h0 := hide ((unhide h0).upd hu (by omega))
  replace h1 := hide ((unhide h1).upd hu (by omega))
  replace h2 := hide ho
  replace hU := hide ((unhide hU).trans (upd_narrow hu (by omega) (by omega)))
  clear hu ho
  have cb0 := (unhide hbx).1.2 0 _ rfl
  have cb1 := (unhide hbx).1.2 1 _ rfl
  have cb2 := (unhide hbx).1.2 2 _ rfl
  have cb3 := (unhide hbx).1.2 3 _ rfl
  have cb4 := (unhide hbx).1.2 4 _ rfl
  have cb5 := (unhide hbx).1.2 5 _ rfl
  have cb6 := (unhide hbx).1.2 6 _ rfl
  have cb7 := (unhide hbx).1.2 7 _ rfl
  go_wp2
  go_ret
  exact ⟨by first | rfl | exact ret_int (by omega), ⟨_, _, _, a1, a2, rfl, hch, own_mono (unhide h0) (Nat.le_refl _) (Nat.min_le_left _ _), own_mono (unhide h1) (Nat.le_refl _) (Nat.min_le_left _ _), own_mono (unhide h2) (Nat.le_refl _) (Nat.min_le_left _ _)⟩, unhide hU⟩
end Go.Proofs.YthkppcncajmniaaDoor

/- The law on Colours, walked: what it calls is told by the walks of the specification and of the program. -/
namespace Go.Proofs.YthkppcncajmniaaDoor
open Go.RowKit

set_option maxHeartbeats 1000000 in
theorem lawColours_long0 (d0 : St) (ad0_0 : Option Addr) (cap0_0 : Nat) (ad0_1 : Option Addr) (cap0_1 : Nat) (ad0_2 : Option Addr) (cap0_2 : Nat) (w : World) (hz0 : (d0.1.2.2.2.2.length ≤ 9223372036854775807 ∧ d0.2.1.length ≤ 9223372036854775807 ∧ d0.2.2.1.length ≤ 9223372036854775807))  (_hn0 : 1048576 < d0.1.2.2.2.2.length + d0.2.1.length + ntSize d0.2.2.1) (hA0_0 : ArgI w ad0_0 d0.1.2.2.2.2) (hA0_1 : ArgI w ad0_1 d0.2.1) (hA0_2 : ArgNt w ad0_2 d0.2.2.1) (hR0 : InSt d0) :
    Calls Tryd.prog 4 #[.agg #[.int .i64 d0.1.1, .int .i64 d0.1.2.1, .int .i64 d0.1.2.2.1, .int .i64 d0.1.2.2.2.1, .slice ad0_0 d0.1.2.2.2.2.length cap0_0, .slice ad0_1 d0.2.1.length cap0_1, .slice ad0_2 d0.2.2.1.length cap0_2, .bool d0.2.2.2]] w fun e w' => e = .returned (.bool true) ∧ Below w.heap.size w w' := by
  replace hA0_0 := hide hA0_0
  replace hA0_1 := hide hA0_1
  replace hA0_2 := hide hA0_2
  replace hR0 := hide hR0
  have hB := hide (Below.refl w.heap.size w)
  go_enter Tryd.func4, Tryd.ntmps4
  go_wp2_with fail
  have hu := Upd.of_below ((Below.refl w.heap.size w).alloc (Nat.le_refl _) (.cells #[.int .i64 d0.1.1, .int .i64 d0.1.2.1, .int .i64 d0.1.2.2.1, .int .i64 d0.1.2.2.2.1, .slice ad0_0 d0.1.2.2.2.2.length cap0_0, .slice ad0_1 d0.2.1.length cap0_1, .slice ad0_2 d0.2.2.1.length cap0_2, .bool d0.2.2.2] 27)) 0 0
  replace hB := hide (below_upd (unhide hB) hu (Nat.le_refl _) (.inr (Nat.le_refl _)))
  have hs1 : Hid (w.heap.size + 1 ≤ (w.alloc (.cells #[.int .i64 d0.1.1, .int .i64 d0.1.2.1, .int .i64 d0.1.2.2.1, .int .i64 d0.1.2.2.2.1, .slice ad0_0 d0.1.2.2.2.2.length cap0_0, .slice ad0_1 d0.2.1.length cap0_1, .slice ad0_2 d0.2.2.1.length cap0_2, .bool d0.2.2.2] 27)).heap.size) := hide (by simp)
  have cp0 := hide (held_new w [.int .i64 d0.1.1, .int .i64 d0.1.2.1, .int .i64 d0.1.2.2.1, .int .i64 d0.1.2.2.2.1, .slice ad0_0 d0.1.2.2.2.2.length cap0_0, .slice ad0_1 d0.2.1.length cap0_1, .slice ad0_2 d0.2.2.1.length cap0_2, .bool d0.2.2.2] 27)
  clear hu
  generalize w.alloc (.cells #[.int .i64 d0.1.1, .int .i64 d0.1.2.1, .int .i64 d0.1.2.2.1, .int .i64 d0.1.2.2.2.1, .slice ad0_0 d0.1.2.2.2.2.length cap0_0, .slice ad0_1 d0.2.1.length cap0_1, .slice ad0_2 d0.2.2.1.length cap0_2, .bool d0.2.2.2] 27) = w1 at  hB hs1 cp0 ⊢
  refine (szStill_any d0.1.1 d0.1.2.1 d0.1.2.2.1 d0.1.2.2.2.1 d0.1.2.2.2.2 d0.2.1 d0.2.2.1 d0.2.2.2 ad0_0 cap0_0 ad0_1 cap0_1 ad0_2 cap0_2 (1048576) w1 (by omega) (by omega) hz0.1 hz0.2.1 hz0.2.2 (unhide hR0).2.2 ((unhide hA0_2).below (unhide hB))).mono ?_
  rintro e w2 ⟨rfl, hu⟩
  replace cp0 := hide ((unhide cp0).keep hu)
  replace hB := hide (below_upd (unhide hB) hu (Nat.le_refl _) (.inr (Nat.le_refl _)))
  have hs2 : Hid (w1.heap.size ≤ w2.heap.size) := hide hu.size
  clear hu
  rw [if_pos (by omega)]
  go_wp2
  go_ret
  exact ⟨rfl, unhide hB⟩

set_option maxHeartbeats 4000000 in
set_option maxRecDepth 100000 in
theorem lawColours_short (d0 : St) (ad0_0 : Option Addr) (cap0_0 : Nat) (ad0_1 : Option Addr) (cap0_1 : Nat) (ad0_2 : Option Addr) (cap0_2 : Nat) (w : World) (hT : Held w 0 passCells) (hz0 : (d0.1.2.2.2.2.length ≤ 9223372036854775807 ∧ d0.2.1.length ≤ 9223372036854775807 ∧ d0.2.2.1.length ≤ 9223372036854775807)) (hn : d0.1.2.2.2.2.length + d0.2.1.length + ntSize d0.2.2.1 ≤ 1048576) (hA0_0 : ArgI w ad0_0 d0.1.2.2.2.2) (hA0_1 : ArgI w ad0_1 d0.2.1) (hA0_2 : ArgNt w ad0_2 d0.2.2.1) (hR0 : InSt d0) :
    Calls Tryd.prog 4 #[.agg #[.int .i64 d0.1.1, .int .i64 d0.1.2.1, .int .i64 d0.1.2.2.1, .int .i64 d0.1.2.2.2.1, .slice ad0_0 d0.1.2.2.2.2.length cap0_0, .slice ad0_1 d0.2.1.length cap0_1, .slice ad0_2 d0.2.2.1.length cap0_2, .bool d0.2.2.2]] w fun e w' => e = .returned (.bool true) ∧ Below w.heap.size w w' := by
  have hT0 := hide hT.1
  replace hT := hide hT
  have hn0 : (StSize d0 ≤ 1048576) := by unfold StSize; omega
  replace hA0_0 := hide hA0_0
  replace hA0_1 := hide hA0_1
  replace hA0_2 := hide hA0_2
  replace hR0 := hide hR0
  have hL := hide (coloursF_len d0)
  have hB := hide (Below.refl w.heap.size w)
  go_enter Tryd.func4, Tryd.ntmps4
  have hleft0 : (0 : Int) ≤ 1048576 := by omega
  go_wp2_with fail
  have hu := Upd.of_below ((Below.refl w.heap.size w).alloc (Nat.le_refl _) (.cells #[.int .i64 d0.1.1, .int .i64 d0.1.2.1, .int .i64 d0.1.2.2.1, .int .i64 d0.1.2.2.2.1, .slice ad0_0 d0.1.2.2.2.2.length cap0_0, .slice ad0_1 d0.2.1.length cap0_1, .slice ad0_2 d0.2.2.1.length cap0_2, .bool d0.2.2.2] 27)) 0 0
  replace hT := hide ((unhide hT).keep hu)
  replace hB := hide (below_upd (unhide hB) hu (Nat.le_refl _) (.inr (Nat.le_refl _)))
  have hs1 : Hid (w.heap.size + 1 ≤ (w.alloc (.cells #[.int .i64 d0.1.1, .int .i64 d0.1.2.1, .int .i64 d0.1.2.2.1, .int .i64 d0.1.2.2.2.1, .slice ad0_0 d0.1.2.2.2.2.length cap0_0, .slice ad0_1 d0.2.1.length cap0_1, .slice ad0_2 d0.2.2.1.length cap0_2, .bool d0.2.2.2] 27)).heap.size) := hide (by simp)
  have cp0 := hide (held_new w [.int .i64 d0.1.1, .int .i64 d0.1.2.1, .int .i64 d0.1.2.2.1, .int .i64 d0.1.2.2.2.1, .slice ad0_0 d0.1.2.2.2.2.length cap0_0, .slice ad0_1 d0.2.1.length cap0_1, .slice ad0_2 d0.2.2.1.length cap0_2, .bool d0.2.2.2] 27)
  clear hu
  generalize w.alloc (.cells #[.int .i64 d0.1.1, .int .i64 d0.1.2.1, .int .i64 d0.1.2.2.1, .int .i64 d0.1.2.2.2.1, .slice ad0_0 d0.1.2.2.2.2.length cap0_0, .slice ad0_1 d0.2.1.length cap0_1, .slice ad0_2 d0.2.2.1.length cap0_2, .bool d0.2.2.2] 27) = w1 at hT hB hs1 cp0 ⊢
  refine (szStill_any d0.1.1 d0.1.2.1 d0.1.2.2.1 d0.1.2.2.2.1 d0.1.2.2.2.2 d0.2.1 d0.2.2.1 d0.2.2.2 ad0_0 cap0_0 ad0_1 cap0_1 ad0_2 cap0_2 (1048576) w1 (by omega) (by omega) hz0.1 hz0.2.1 hz0.2.2 (unhide hR0).2.2 ((unhide hA0_2).below (unhide hB))).mono ?_
  rintro e w2 ⟨rfl, hu⟩
  replace hT := hide ((unhide hT).keep hu)
  replace cp0 := hide ((unhide cp0).keep hu)
  replace hB := hide (below_upd (unhide hB) hu (Nat.le_refl _) (.inr (Nat.le_refl _)))
  have hs2 : Hid (w1.heap.size ≤ w2.heap.size) := hide hu.size
  clear hu
  rw [if_neg (by omega)]
  have hleft0 : ¬ (1048576 - ((d0.1.2.2.2.2.length + d0.2.1.length + ntSize d0.2.2.1 : Nat) : Int) < 0) := by omega
  have kcp0_0 := (unhide cp0).2 0 _ rfl
  have kcp0_1 := (unhide cp0).2 1 _ rfl
  have kcp0_2 := (unhide cp0).2 2 _ rfl
  have kcp0_3 := (unhide cp0).2 3 _ rfl
  have kcp0_4 := (unhide cp0).2 4 _ rfl
  have kcp0_5 := (unhide cp0).2 5 _ rfl
  have kcp0_6 := (unhide cp0).2 6 _ rfl
  have kcp0_7 := (unhide cp0).2 7 _ rfl
  have kcp0_l := (unhide cp0).1
  go_wp2_with fail
  clear kcp0_0 kcp0_1 kcp0_2 kcp0_3 kcp0_4 kcp0_5 kcp0_6 kcp0_7 kcp0_l
  refine (toStill_own _ d0 w2 hn0 ⟨_, _, _, rfl, ⟨ad0_0, cap0_0, rfl, (unhide hA0_0).below (unhide hB)⟩, ⟨ad0_1, cap0_1, rfl, (unhide hA0_1).below (unhide hB)⟩, ⟨ad0_2, cap0_2, rfl, (unhide hA0_2).below (unhide hB)⟩⟩).mono ?_
  rintro e w3 ⟨vy0_w0, rfl, ho, hu⟩
  replace hT := hide ((unhide hT).keep hu)
  replace cp0 := hide ((unhide cp0).keep hu)
  replace hB := hide (below_upd (unhide hB) hu (Nat.le_refl _) (.inr (Nat.le_refl _)))
  have hs3 : Hid (w2.heap.size ≤ w3.heap.size) := hide hu.size
  have y0_w0 := hide ho
  clear hu ho
  go_wp2_with fail
  refine (specColours _ d0 w3  hn0 (unhide hR0) (OwnSt.rn (unhide y0_w0))).mono ?_
  rintro e w4 ⟨vr0, rfl, ho, hu⟩
  replace y0_w0 := hide ((unhide y0_w0).keep hu)
  replace hT := hide ((unhide hT).keep hu)
  replace cp0 := hide ((unhide cp0).keep hu)
  replace hB := hide (below_upd (unhide hB) hu (Nat.le_refl _) (.inr (Nat.le_refl _)))
  have hs4 : Hid (w3.heap.size ≤ w4.heap.size) := hide hu.size
  have r0 := hide ho
  clear hu ho
  obtain ⟨adr0_0, capr0_0, hvr0⟩ := OwnIm.form (unhide r0)
  subst hvr0
  clear y0_w0
  have kcp0_0 := (unhide cp0).2 0 _ rfl
  have kcp0_1 := (unhide cp0).2 1 _ rfl
  have kcp0_2 := (unhide cp0).2 2 _ rfl
  have kcp0_3 := (unhide cp0).2 3 _ rfl
  have kcp0_4 := (unhide cp0).2 4 _ rfl
  have kcp0_5 := (unhide cp0).2 5 _ rfl
  have kcp0_6 := (unhide cp0).2 6 _ rfl
  have kcp0_7 := (unhide cp0).2 7 _ rfl
  have kcp0_l := (unhide cp0).1
  go_wp2_with fail
  clear kcp0_0 kcp0_1 kcp0_2 kcp0_3 kcp0_4 kcp0_5 kcp0_6 kcp0_7 kcp0_l
  have hu := Upd.of_below ((Below.refl w4.heap.size w4).alloc (Nat.le_refl _) (.cells #[.int .i64 (coloursF d0).1, .int .i64 (coloursF d0).2.1, .int .i64 (coloursF d0).2.2.1, .int .i64 (coloursF d0).2.2.2.1, .slice adr0_0 (coloursF d0).2.2.2.2.length capr0_0] 30)) 0 0
  replace r0 := hide ((unhide r0).keep hu)
  replace hT := hide ((unhide hT).keep hu)
  replace cp0 := hide ((unhide cp0).keep hu)
  replace hB := hide (below_upd (unhide hB) hu (Nat.le_refl _) (.inr (Nat.le_refl _)))
  have hs5 : Hid (w4.heap.size + 1 ≤ (w4.alloc (.cells #[.int .i64 (coloursF d0).1, .int .i64 (coloursF d0).2.1, .int .i64 (coloursF d0).2.2.1, .int .i64 (coloursF d0).2.2.2.1, .slice adr0_0 (coloursF d0).2.2.2.2.length capr0_0] 30)).heap.size) := hide (by simp)
  have cr0 := hide (held_new w4 [.int .i64 (coloursF d0).1, .int .i64 (coloursF d0).2.1, .int .i64 (coloursF d0).2.2.1, .int .i64 (coloursF d0).2.2.2.1, .slice adr0_0 (coloursF d0).2.2.2.2.length capr0_0] 30)
  clear hu
  generalize w4.alloc (.cells #[.int .i64 (coloursF d0).1, .int .i64 (coloursF d0).2.1, .int .i64 (coloursF d0).2.2.1, .int .i64 (coloursF d0).2.2.2.1, .slice adr0_0 (coloursF d0).2.2.2.2.length capr0_0] 30) = w5 at r0 hT cp0 hB hs5 cr0 ⊢
  refine (toStill_own _ d0 w5 hn0 ⟨_, _, _, rfl, ⟨ad0_0, cap0_0, rfl, (unhide hA0_0).below (unhide hB)⟩, ⟨ad0_1, cap0_1, rfl, (unhide hA0_1).below (unhide hB)⟩, ⟨ad0_2, cap0_2, rfl, (unhide hA0_2).below (unhide hB)⟩⟩).mono ?_
  rintro e w6 ⟨vx0, rfl, ho, hu⟩
  replace r0 := hide ((unhide r0).keep hu)
  replace hT := hide ((unhide hT).keep hu)
  replace cp0 := hide ((unhide cp0).keep hu)
  replace cr0 := hide ((unhide cr0).keep hu)
  replace hB := hide (below_upd (unhide hB) hu (Nat.le_refl _) (.inr (Nat.le_refl _)))
  have hs6 : Hid (w5.heap.size ≤ w6.heap.size) := hide hu.size
  have x0 := hide ho
  clear hu ho
  obtain ⟨adx0_0, capx0_0, adx0_1, capx0_1, adx0_2, capx0_2, hvx0⟩ := OwnSt.form (unhide x0)
  subst hvx0
  go_wp2_with fail
  have hu := Upd.of_below ((Below.refl w6.heap.size w6).alloc (Nat.le_refl _) (.cells #[.int .i64 d0.1.1, .int .i64 d0.1.2.1, .int .i64 d0.1.2.2.1, .int .i64 d0.1.2.2.2.1, .slice adx0_0 d0.1.2.2.2.2.length capx0_0, .slice adx0_1 d0.2.1.length capx0_1, .slice adx0_2 d0.2.2.1.length capx0_2, .bool d0.2.2.2] 33)) 0 0
  replace r0 := hide ((unhide r0).keep hu)
  replace x0 := hide ((unhide x0).keep hu)
  replace hT := hide ((unhide hT).keep hu)
  replace cp0 := hide ((unhide cp0).keep hu)
  replace cr0 := hide ((unhide cr0).keep hu)
  replace hB := hide (below_upd (unhide hB) hu (Nat.le_refl _) (.inr (Nat.le_refl _)))
  have hs7 : Hid (w6.heap.size + 1 ≤ (w6.alloc (.cells #[.int .i64 d0.1.1, .int .i64 d0.1.2.1, .int .i64 d0.1.2.2.1, .int .i64 d0.1.2.2.2.1, .slice adx0_0 d0.1.2.2.2.2.length capx0_0, .slice adx0_1 d0.2.1.length capx0_1, .slice adx0_2 d0.2.2.1.length capx0_2, .bool d0.2.2.2] 33)).heap.size) := hide (by simp)
  have cx0 := hide (held_new w6 [.int .i64 d0.1.1, .int .i64 d0.1.2.1, .int .i64 d0.1.2.2.1, .int .i64 d0.1.2.2.2.1, .slice adx0_0 d0.1.2.2.2.2.length capx0_0, .slice adx0_1 d0.2.1.length capx0_1, .slice adx0_2 d0.2.2.1.length capx0_2, .bool d0.2.2.2] 33)
  clear hu
  generalize w6.alloc (.cells #[.int .i64 d0.1.1, .int .i64 d0.1.2.1, .int .i64 d0.1.2.2.1, .int .i64 d0.1.2.2.2.1, .slice adx0_0 d0.1.2.2.2.2.length capx0_0, .slice adx0_1 d0.2.1.length capx0_1, .slice adx0_2 d0.2.2.1.length capx0_2, .bool d0.2.2.2] 33) = w7 at r0 x0 hT cp0 cr0 hB hs7 cx0 ⊢
  refine (implColours _ d0 w7 (unhide hT) hn0 (unhide hR0) (OwnSt.rn (unhide x0))).mono ?_
  rintro e w8 ⟨vr1, rfl, ho, hu⟩
  replace r0 := hide ((unhide r0).keep hu)
  replace x0 := hide ((unhide x0).keep hu)
  replace hT := hide ((unhide hT).keep hu)
  replace cp0 := hide ((unhide cp0).keep hu)
  replace cr0 := hide ((unhide cr0).keep hu)
  replace cx0 := hide ((unhide cx0).keep hu)
  replace hB := hide (below_upd (unhide hB) hu (Nat.le_refl _) (.inr (Nat.le_refl _)))
  have hs8 : Hid (w7.heap.size ≤ w8.heap.size) := hide hu.size
  have r1 := hide ho
  clear hu ho
  obtain ⟨adr1_0, capr1_0, hvr1⟩ := OwnIm.form (unhide r1)
  subst hvr1
  have kcr0_0 := (unhide cr0).2 0 _ rfl
  have kcr0_1 := (unhide cr0).2 1 _ rfl
  have kcr0_2 := (unhide cr0).2 2 _ rfl
  have kcr0_3 := (unhide cr0).2 3 _ rfl
  have kcr0_4 := (unhide cr0).2 4 _ rfl
  have kcr0_l := (unhide cr0).1
  go_wp2_with fail
  clear kcr0_0 kcr0_1 kcr0_2 kcr0_3 kcr0_4 kcr0_l
  have hu := Upd.of_below ((Below.refl w8.heap.size w8).alloc (Nat.le_refl _) (.cells #[.int .i64 (coloursF d0).1, .int .i64 (coloursF d0).2.1, .int .i64 (coloursF d0).2.2.1, .int .i64 (coloursF d0).2.2.2.1, .slice adr1_0 (coloursF d0).2.2.2.2.length capr1_0] 30)) 0 0
  replace r0 := hide ((unhide r0).keep hu)
  replace x0 := hide ((unhide x0).keep hu)
  replace r1 := hide ((unhide r1).keep hu)
  replace hT := hide ((unhide hT).keep hu)
  replace cp0 := hide ((unhide cp0).keep hu)
  replace cr0 := hide ((unhide cr0).keep hu)
  replace cx0 := hide ((unhide cx0).keep hu)
  replace hB := hide (below_upd (unhide hB) hu (Nat.le_refl _) (.inr (Nat.le_refl _)))
  have hs9 : Hid (w8.heap.size + 1 ≤ (w8.alloc (.cells #[.int .i64 (coloursF d0).1, .int .i64 (coloursF d0).2.1, .int .i64 (coloursF d0).2.2.1, .int .i64 (coloursF d0).2.2.2.1, .slice adr1_0 (coloursF d0).2.2.2.2.length capr1_0] 30)).heap.size) := hide (by simp)
  have cr1 := hide (held_new w8 [.int .i64 (coloursF d0).1, .int .i64 (coloursF d0).2.1, .int .i64 (coloursF d0).2.2.1, .int .i64 (coloursF d0).2.2.2.1, .slice adr1_0 (coloursF d0).2.2.2.2.length capr1_0] 30)
  clear hu
  generalize w8.alloc (.cells #[.int .i64 (coloursF d0).1, .int .i64 (coloursF d0).2.1, .int .i64 (coloursF d0).2.2.1, .int .i64 (coloursF d0).2.2.2.1, .slice adr1_0 (coloursF d0).2.2.2.2.length capr1_0] 30) = w9 at r0 x0 r1 hT cp0 cr0 cx0 hB hs9 cr1 ⊢
  refine (eqImage_rd _ _ (coloursF d0) w9 (unhide hL) (OwnIm.rd (unhide r1)) (OwnIm.rd (unhide r0))).mono ?_
  rintro e w10 ⟨rfl, hu⟩
  replace r0 := hide ((unhide r0).keep hu)
  replace x0 := hide ((unhide x0).keep hu)
  replace r1 := hide ((unhide r1).keep hu)
  replace hT := hide ((unhide hT).keep hu)
  replace cp0 := hide ((unhide cp0).keep hu)
  replace cr0 := hide ((unhide cr0).keep hu)
  replace cx0 := hide ((unhide cx0).keep hu)
  replace cr1 := hide ((unhide cr1).keep hu)
  replace hB := hide (below_upd (unhide hB) hu (Nat.le_refl _) (.inr (Nat.le_refl _)))
  have hs10 : Hid (w9.heap.size ≤ w10.heap.size) := hide hu.size
  clear hu
  have kcx0_0 := (unhide cx0).2 0 _ rfl
  have kcx0_1 := (unhide cx0).2 1 _ rfl
  have kcx0_2 := (unhide cx0).2 2 _ rfl
  have kcx0_3 := (unhide cx0).2 3 _ rfl
  have kcx0_4 := (unhide cx0).2 4 _ rfl
  have kcx0_5 := (unhide cx0).2 5 _ rfl
  have kcx0_6 := (unhide cx0).2 6 _ rfl
  have kcx0_7 := (unhide cx0).2 7 _ rfl
  have kcx0_l := (unhide cx0).1
  have kcp0_0 := (unhide cp0).2 0 _ rfl
  have kcp0_1 := (unhide cp0).2 1 _ rfl
  have kcp0_2 := (unhide cp0).2 2 _ rfl
  have kcp0_3 := (unhide cp0).2 3 _ rfl
  have kcp0_4 := (unhide cp0).2 4 _ rfl
  have kcp0_5 := (unhide cp0).2 5 _ rfl
  have kcp0_6 := (unhide cp0).2 6 _ rfl
  have kcp0_7 := (unhide cp0).2 7 _ rfl
  have kcp0_l := (unhide cp0).1
  have hTo := hide (toStill_own _ d0 w10.drew hn0 ⟨_, _, _, rfl, ⟨ad0_0, cap0_0, rfl, (unhide hA0_0).below (below_drewN (unhide hB) 1)⟩, ⟨ad0_1, cap0_1, rfl, (unhide hA0_1).below (below_drewN (unhide hB) 1)⟩, ⟨ad0_2, cap0_2, rfl, (unhide hA0_2).below (below_drewN (unhide hB) 1)⟩⟩)
  go_wp2_with fail
  go_region_held3 (fun w' => w'.cell? ⟨w6.heap.size, 0, none⟩ = some (.int .i64 d0.1.1) ∧ w'.cell? ⟨w6.heap.size, 1, none⟩ = some (.int .i64 d0.1.2.1) ∧ w'.cell? ⟨w6.heap.size, 2, none⟩ = some (.int .i64 d0.1.2.2.1) ∧ w'.cell? ⟨w6.heap.size, 3, none⟩ = some (.int .i64 d0.1.2.2.2.1) ∧ w'.cell? ⟨w6.heap.size, 4, none⟩ = some (.slice adx0_0 d0.1.2.2.2.2.length capx0_0) ∧ w'.cell? ⟨w6.heap.size, 5, none⟩ = some (.slice adx0_1 d0.2.1.length capx0_1) ∧ w'.cell? ⟨w6.heap.size, 6, none⟩ = some (.slice adx0_2 d0.2.2.1.length capx0_2) ∧ w'.cell? ⟨w6.heap.size, 7, none⟩ = some (.bool d0.2.2.2) ∧ w'.cell? ⟨w.heap.size, 0, none⟩ = some (.int .i64 d0.1.1) ∧ w'.cell? ⟨w.heap.size, 1, none⟩ = some (.int .i64 d0.1.2.1) ∧ w'.cell? ⟨w.heap.size, 2, none⟩ = some (.int .i64 d0.1.2.2.1) ∧ w'.cell? ⟨w.heap.size, 3, none⟩ = some (.int .i64 d0.1.2.2.2.1) ∧ w'.cell? ⟨w.heap.size, 4, none⟩ = some (.slice ad0_0 d0.1.2.2.2.2.length cap0_0) ∧ w'.cell? ⟨w.heap.size, 5, none⟩ = some (.slice ad0_1 d0.2.1.length cap0_1) ∧ w'.cell? ⟨w.heap.size, 6, none⟩ = some (.slice ad0_2 d0.2.2.1.length cap0_2) ∧ w'.cell? ⟨w.heap.size, 7, none⟩ = some (.bool d0.2.2.2)) (first | (exact ⟨((hut.trans huf).none.cell kcx0_l).trans kcx0_0, ((hut.trans huf).none.cell kcx0_l).trans kcx0_1, ((hut.trans huf).none.cell kcx0_l).trans kcx0_2, ((hut.trans huf).none.cell kcx0_l).trans kcx0_3, ((hut.trans huf).none.cell kcx0_l).trans kcx0_4, ((hut.trans huf).none.cell kcx0_l).trans kcx0_5, ((hut.trans huf).none.cell kcx0_l).trans kcx0_6, ((hut.trans huf).none.cell kcx0_l).trans kcx0_7, ((hut.trans huf).none.cell kcp0_l).trans kcp0_0, ((hut.trans huf).none.cell kcp0_l).trans kcp0_1, ((hut.trans huf).none.cell kcp0_l).trans kcp0_2, ((hut.trans huf).none.cell kcp0_l).trans kcp0_3, ((hut.trans huf).none.cell kcp0_l).trans kcp0_4, ((hut.trans huf).none.cell kcp0_l).trans kcp0_5, ((hut.trans huf).none.cell kcp0_l).trans kcp0_6, ((hut.trans huf).none.cell kcp0_l).trans kcp0_7⟩) | (exact ⟨(hut.none.cell kcx0_l).trans kcx0_0, (hut.none.cell kcx0_l).trans kcx0_1, (hut.none.cell kcx0_l).trans kcx0_2, (hut.none.cell kcx0_l).trans kcx0_3, (hut.none.cell kcx0_l).trans kcx0_4, (hut.none.cell kcx0_l).trans kcx0_5, (hut.none.cell kcx0_l).trans kcx0_6, (hut.none.cell kcx0_l).trans kcx0_7, (hut.none.cell kcp0_l).trans kcp0_0, (hut.none.cell kcp0_l).trans kcp0_1, (hut.none.cell kcp0_l).trans kcp0_2, (hut.none.cell kcp0_l).trans kcp0_3, (hut.none.cell kcp0_l).trans kcp0_4, (hut.none.cell kcp0_l).trans kcp0_5, (hut.none.cell kcp0_l).trans kcp0_6, (hut.none.cell kcp0_l).trans kcp0_7⟩) | go_keep) (first | (go_at_call 7; refine (unhide hTo).mono ?_; rintro e wt ⟨vt, rfl, hot, hut⟩) | (go_at_call 9; refine (eqStill_rd _ _ d0 _ hn0 (OwnSt.rd (OwnSt.keep (unhide x0) (Upd.trans (Upd.drew1 _) hut))) (OwnSt.rd hot)).mono ?_; rintro e wf ⟨rfl, huf⟩))
  clear hTo kcx0_0 kcx0_1 kcx0_2 kcx0_3 kcx0_4 kcx0_5 kcx0_6 kcx0_7 kcx0_l kcp0_0 kcp0_1 kcp0_2 kcp0_3 kcp0_4 kcp0_5 kcp0_6 kcp0_7 kcp0_l
  have hu : Upd 0 0 w10 wf := (Upd.drew1 _).trans (hut.trans huf)
  clear hut hot huf
  replace r0 := hide ((unhide r0).keep hu)
  replace x0 := hide ((unhide x0).keep hu)
  replace r1 := hide ((unhide r1).keep hu)
  replace hT := hide ((unhide hT).keep hu)
  replace cp0 := hide ((unhide cp0).keep hu)
  replace cr0 := hide ((unhide cr0).keep hu)
  replace cx0 := hide ((unhide cx0).keep hu)
  replace cr1 := hide ((unhide cr1).keep hu)
  replace hB := hide (below_upd (unhide hB) hu (Nat.le_refl _) (.inr (Nat.le_refl _)))
  have hs11 : Hid (w10.heap.size ≤ wf.heap.size) := hide hu.size
  clear hu
  generalize wf = w11 at r0 x0 r1 hT cp0 cr0 cx0 cr1 hB hs11 ⊢
  have kcx0_0 := (unhide cx0).2 0 _ rfl
  have kcx0_1 := (unhide cx0).2 1 _ rfl
  have kcx0_2 := (unhide cx0).2 2 _ rfl
  have kcx0_3 := (unhide cx0).2 3 _ rfl
  have kcx0_4 := (unhide cx0).2 4 _ rfl
  have kcx0_5 := (unhide cx0).2 5 _ rfl
  have kcx0_6 := (unhide cx0).2 6 _ rfl
  have kcx0_7 := (unhide cx0).2 7 _ rfl
  have kcx0_l := (unhide cx0).1
  go_wp2_with fail
  clear kcx0_0 kcx0_1 kcx0_2 kcx0_3 kcx0_4 kcx0_5 kcx0_6 kcx0_7 kcx0_l
  refine (markStill_own (1) hn0 (by omega) (unhide x0)).mono ?_
  rintro e w12 ⟨rfl, ho, hu⟩
  replace r0 := hide ((unhide r0).upd hu (by have := unhide hT0; have := unhide hs1; have := unhide hs2; have := unhide hs3; have := unhide hs4; have := unhide hs5; have := unhide hs6; have := unhide hs7; have := unhide hs8; have := unhide hs9; have := unhide hs10; have := unhide hs11; omega))
  replace r1 := hide ((unhide r1).upd hu (by have := unhide hT0; have := unhide hs1; have := unhide hs2; have := unhide hs3; have := unhide hs4; have := unhide hs5; have := unhide hs6; have := unhide hs7; have := unhide hs8; have := unhide hs9; have := unhide hs10; have := unhide hs11; omega))
  replace hT := hide ((unhide hT).upd hu (by have := unhide hT0; have := unhide hs1; have := unhide hs2; have := unhide hs3; have := unhide hs4; have := unhide hs5; have := unhide hs6; have := unhide hs7; have := unhide hs8; have := unhide hs9; have := unhide hs10; have := unhide hs11; omega))
  replace cp0 := hide ((unhide cp0).upd hu (by have := unhide hT0; have := unhide hs1; have := unhide hs2; have := unhide hs3; have := unhide hs4; have := unhide hs5; have := unhide hs6; have := unhide hs7; have := unhide hs8; have := unhide hs9; have := unhide hs10; have := unhide hs11; omega))
  replace cr0 := hide ((unhide cr0).upd hu (by have := unhide hT0; have := unhide hs1; have := unhide hs2; have := unhide hs3; have := unhide hs4; have := unhide hs5; have := unhide hs6; have := unhide hs7; have := unhide hs8; have := unhide hs9; have := unhide hs10; have := unhide hs11; omega))
  replace cx0 := hide ((unhide cx0).upd hu (by have := unhide hT0; have := unhide hs1; have := unhide hs2; have := unhide hs3; have := unhide hs4; have := unhide hs5; have := unhide hs6; have := unhide hs7; have := unhide hs8; have := unhide hs9; have := unhide hs10; have := unhide hs11; omega))
  replace cr1 := hide ((unhide cr1).upd hu (by have := unhide hT0; have := unhide hs1; have := unhide hs2; have := unhide hs3; have := unhide hs4; have := unhide hs5; have := unhide hs6; have := unhide hs7; have := unhide hs8; have := unhide hs9; have := unhide hs10; have := unhide hs11; omega))
  replace hB := hide (below_upd (unhide hB) hu (Nat.le_refl _) (by have := unhide hT0; have := unhide hs1; have := unhide hs2; have := unhide hs3; have := unhide hs4; have := unhide hs5; have := unhide hs6; have := unhide hs7; have := unhide hs8; have := unhide hs9; have := unhide hs10; have := unhide hs11; omega))
  replace x0 := hide ho
  have hs12 : Hid (w11.heap.size ≤ w12.heap.size) := hide hu.size
  clear hu ho
  have hk0 : ¬ (((1 + StCount d0 : Nat) : Int) < 0) := by omega
  have kcr1_0 := (unhide cr1).2 0 _ rfl
  have kcr1_1 := (unhide cr1).2 1 _ rfl
  have kcr1_2 := (unhide cr1).2 2 _ rfl
  have kcr1_3 := (unhide cr1).2 3 _ rfl
  have kcr1_4 := (unhide cr1).2 4 _ rfl
  have kcr1_l := (unhide cr1).1
  have kcr0_0 := (unhide cr0).2 0 _ rfl
  have kcr0_1 := (unhide cr0).2 1 _ rfl
  have kcr0_2 := (unhide cr0).2 2 _ rfl
  have kcr0_3 := (unhide cr0).2 3 _ rfl
  have kcr0_4 := (unhide cr0).2 4 _ rfl
  have kcr0_l := (unhide cr0).1
  go_wp2_with fail
  clear kcr1_0 kcr1_1 kcr1_2 kcr1_3 kcr1_4 kcr1_l kcr0_0 kcr0_1 kcr0_2 kcr0_3 kcr0_4 kcr0_l
  refine (eqImage_rd _ _ (coloursF d0) w12 (unhide hL) (OwnIm.rd (unhide r1)) (OwnIm.rd (unhide r0))).mono ?_
  rintro e w13 ⟨rfl, hu⟩
  replace r0 := hide ((unhide r0).keep hu)
  replace x0 := hide ((unhide x0).keep hu)
  replace r1 := hide ((unhide r1).keep hu)
  replace hT := hide ((unhide hT).keep hu)
  replace cp0 := hide ((unhide cp0).keep hu)
  replace cr0 := hide ((unhide cr0).keep hu)
  replace cx0 := hide ((unhide cx0).keep hu)
  replace cr1 := hide ((unhide cr1).keep hu)
  replace hB := hide (below_upd (unhide hB) hu (Nat.le_refl _) (.inr (Nat.le_refl _)))
  have hs13 : Hid (w12.heap.size ≤ w13.heap.size) := hide hu.size
  clear hu
  clear x0
  have kcr1_0 := (unhide cr1).2 0 _ rfl
  have kcr1_1 := (unhide cr1).2 1 _ rfl
  have kcr1_2 := (unhide cr1).2 2 _ rfl
  have kcr1_3 := (unhide cr1).2 3 _ rfl
  have kcr1_4 := (unhide cr1).2 4 _ rfl
  have kcr1_l := (unhide cr1).1
  go_wp2_with fail
  clear kcr1_0 kcr1_1 kcr1_2 kcr1_3 kcr1_4 kcr1_l
  refine (markImage_own (1) (unhide hL) (by omega) (unhide r1)).mono ?_
  rintro e w14 ⟨rfl, ho, hu⟩
  replace r0 := hide ((unhide r0).upd hu (by have := unhide hT0; have := unhide hs1; have := unhide hs2; have := unhide hs3; have := unhide hs4; have := unhide hs5; have := unhide hs6; have := unhide hs7; have := unhide hs8; have := unhide hs9; have := unhide hs10; have := unhide hs11; have := unhide hs12; have := unhide hs13; omega))
  replace hT := hide ((unhide hT).upd hu (by have := unhide hT0; have := unhide hs1; have := unhide hs2; have := unhide hs3; have := unhide hs4; have := unhide hs5; have := unhide hs6; have := unhide hs7; have := unhide hs8; have := unhide hs9; have := unhide hs10; have := unhide hs11; have := unhide hs12; have := unhide hs13; omega))
  replace cp0 := hide ((unhide cp0).upd hu (by have := unhide hT0; have := unhide hs1; have := unhide hs2; have := unhide hs3; have := unhide hs4; have := unhide hs5; have := unhide hs6; have := unhide hs7; have := unhide hs8; have := unhide hs9; have := unhide hs10; have := unhide hs11; have := unhide hs12; have := unhide hs13; omega))
  replace cr0 := hide ((unhide cr0).upd hu (by have := unhide hT0; have := unhide hs1; have := unhide hs2; have := unhide hs3; have := unhide hs4; have := unhide hs5; have := unhide hs6; have := unhide hs7; have := unhide hs8; have := unhide hs9; have := unhide hs10; have := unhide hs11; have := unhide hs12; have := unhide hs13; omega))
  replace cx0 := hide ((unhide cx0).upd hu (by have := unhide hT0; have := unhide hs1; have := unhide hs2; have := unhide hs3; have := unhide hs4; have := unhide hs5; have := unhide hs6; have := unhide hs7; have := unhide hs8; have := unhide hs9; have := unhide hs10; have := unhide hs11; have := unhide hs12; have := unhide hs13; omega))
  replace cr1 := hide ((unhide cr1).upd hu (by have := unhide hT0; have := unhide hs1; have := unhide hs2; have := unhide hs3; have := unhide hs4; have := unhide hs5; have := unhide hs6; have := unhide hs7; have := unhide hs8; have := unhide hs9; have := unhide hs10; have := unhide hs11; have := unhide hs12; have := unhide hs13; omega))
  replace hB := hide (below_upd (unhide hB) hu (Nat.le_refl _) (by have := unhide hT0; have := unhide hs1; have := unhide hs2; have := unhide hs3; have := unhide hs4; have := unhide hs5; have := unhide hs6; have := unhide hs7; have := unhide hs8; have := unhide hs9; have := unhide hs10; have := unhide hs11; have := unhide hs12; have := unhide hs13; omega))
  replace r1 := hide ho
  have hs14 : Hid (w13.heap.size ≤ w14.heap.size) := hide hu.size
  clear hu ho
  have kcr1_0 := (unhide cr1).2 0 _ rfl
  have kcr1_1 := (unhide cr1).2 1 _ rfl
  have kcr1_2 := (unhide cr1).2 2 _ rfl
  have kcr1_3 := (unhide cr1).2 3 _ rfl
  have kcr1_4 := (unhide cr1).2 4 _ rfl
  have kcr1_l := (unhide cr1).1
  go_wp2_with fail
  clear kcr1_0 kcr1_1 kcr1_2 kcr1_3 kcr1_4 kcr1_l
  refine (heldImage_own 1 (unhide hL) (by omega) (unhide r1)).mono ?_
  rintro e w15 ⟨rfl, hu⟩
  replace r0 := hide ((unhide r0).keep hu)
  replace r1 := hide ((unhide r1).keep hu)
  replace hT := hide ((unhide hT).keep hu)
  replace cp0 := hide ((unhide cp0).keep hu)
  replace cr0 := hide ((unhide cr0).keep hu)
  replace cx0 := hide ((unhide cx0).keep hu)
  replace cr1 := hide ((unhide cr1).keep hu)
  replace hB := hide (below_upd (unhide hB) hu (Nat.le_refl _) (.inr (Nat.le_refl _)))
  have hs15 : Hid (w14.heap.size ≤ w15.heap.size) := hide hu.size
  clear hu
  have hq0 : ¬ (((1 + imCount (coloursF d0) : Nat) : Int) < 0) := by omega
  have kcp0_0 := (unhide cp0).2 0 _ rfl
  have kcp0_1 := (unhide cp0).2 1 _ rfl
  have kcp0_2 := (unhide cp0).2 2 _ rfl
  have kcp0_3 := (unhide cp0).2 3 _ rfl
  have kcp0_4 := (unhide cp0).2 4 _ rfl
  have kcp0_5 := (unhide cp0).2 5 _ rfl
  have kcp0_6 := (unhide cp0).2 6 _ rfl
  have kcp0_7 := (unhide cp0).2 7 _ rfl
  have kcp0_l := (unhide cp0).1
  go_wp2_with fail
  clear kcp0_0 kcp0_1 kcp0_2 kcp0_3 kcp0_4 kcp0_5 kcp0_6 kcp0_7 kcp0_l
  refine (toStill_own _ d0 w15 hn0 ⟨_, _, _, rfl, ⟨ad0_0, cap0_0, rfl, (unhide hA0_0).below (unhide hB)⟩, ⟨ad0_1, cap0_1, rfl, (unhide hA0_1).below (unhide hB)⟩, ⟨ad0_2, cap0_2, rfl, (unhide hA0_2).below (unhide hB)⟩⟩).mono ?_
  rintro e w16 ⟨vy0_h0, rfl, ho, hu⟩
  replace r0 := hide ((unhide r0).keep hu)
  replace r1 := hide ((unhide r1).keep hu)
  replace hT := hide ((unhide hT).keep hu)
  replace cp0 := hide ((unhide cp0).keep hu)
  replace cr0 := hide ((unhide cr0).keep hu)
  replace cx0 := hide ((unhide cx0).keep hu)
  replace cr1 := hide ((unhide cr1).keep hu)
  replace hB := hide (below_upd (unhide hB) hu (Nat.le_refl _) (.inr (Nat.le_refl _)))
  have hs16 : Hid (w15.heap.size ≤ w16.heap.size) := hide hu.size
  have y0_h0 := hide ho
  clear hu ho
  go_wp2_with fail
  refine (implColours _ d0 w16 (unhide hT) hn0 (unhide hR0) (OwnSt.rn (unhide y0_h0))).mono ?_
  rintro e w17 ⟨vr2, rfl, ho, hu⟩
  replace r0 := hide ((unhide r0).keep hu)
  replace r1 := hide ((unhide r1).keep hu)
  replace y0_h0 := hide ((unhide y0_h0).keep hu)
  replace hT := hide ((unhide hT).keep hu)
  replace cp0 := hide ((unhide cp0).keep hu)
  replace cr0 := hide ((unhide cr0).keep hu)
  replace cx0 := hide ((unhide cx0).keep hu)
  replace cr1 := hide ((unhide cr1).keep hu)
  replace hB := hide (below_upd (unhide hB) hu (Nat.le_refl _) (.inr (Nat.le_refl _)))
  have hs17 : Hid (w16.heap.size ≤ w17.heap.size) := hide hu.size
  have r2 := hide ho
  clear hu ho
  obtain ⟨adr2_0, capr2_0, hvr2⟩ := OwnIm.form (unhide r2)
  subst hvr2
  clear y0_h0
  have kcr0_0 := (unhide cr0).2 0 _ rfl
  have kcr0_1 := (unhide cr0).2 1 _ rfl
  have kcr0_2 := (unhide cr0).2 2 _ rfl
  have kcr0_3 := (unhide cr0).2 3 _ rfl
  have kcr0_4 := (unhide cr0).2 4 _ rfl
  have kcr0_l := (unhide cr0).1
  go_wp2_with fail
  clear kcr0_0 kcr0_1 kcr0_2 kcr0_3 kcr0_4 kcr0_l
  have hu := Upd.of_below ((Below.refl w17.heap.size w17).alloc (Nat.le_refl _) (.cells #[.int .i64 (coloursF d0).1, .int .i64 (coloursF d0).2.1, .int .i64 (coloursF d0).2.2.1, .int .i64 (coloursF d0).2.2.2.1, .slice adr2_0 (coloursF d0).2.2.2.2.length capr2_0] 30)) 0 0
  replace r0 := hide ((unhide r0).keep hu)
  replace r1 := hide ((unhide r1).keep hu)
  replace r2 := hide ((unhide r2).keep hu)
  replace hT := hide ((unhide hT).keep hu)
  replace cp0 := hide ((unhide cp0).keep hu)
  replace cr0 := hide ((unhide cr0).keep hu)
  replace cx0 := hide ((unhide cx0).keep hu)
  replace cr1 := hide ((unhide cr1).keep hu)
  replace hB := hide (below_upd (unhide hB) hu (Nat.le_refl _) (.inr (Nat.le_refl _)))
  have hs18 : Hid (w17.heap.size + 1 ≤ (w17.alloc (.cells #[.int .i64 (coloursF d0).1, .int .i64 (coloursF d0).2.1, .int .i64 (coloursF d0).2.2.1, .int .i64 (coloursF d0).2.2.2.1, .slice adr2_0 (coloursF d0).2.2.2.2.length capr2_0] 30)).heap.size) := hide (by simp)
  have cr2 := hide (held_new w17 [.int .i64 (coloursF d0).1, .int .i64 (coloursF d0).2.1, .int .i64 (coloursF d0).2.2.1, .int .i64 (coloursF d0).2.2.2.1, .slice adr2_0 (coloursF d0).2.2.2.2.length capr2_0] 30)
  clear hu
  generalize w17.alloc (.cells #[.int .i64 (coloursF d0).1, .int .i64 (coloursF d0).2.1, .int .i64 (coloursF d0).2.2.1, .int .i64 (coloursF d0).2.2.2.1, .slice adr2_0 (coloursF d0).2.2.2.2.length capr2_0] 30) = w18 at r0 r1 r2 hT cp0 cr0 cx0 cr1 hB hs18 cr2 ⊢
  refine (eqImage_rd _ _ (coloursF d0) w18 (unhide hL) (OwnIm.rd (unhide r2)) (OwnIm.rd (unhide r0))).mono ?_
  rintro e w19 ⟨rfl, hu⟩
  replace r0 := hide ((unhide r0).keep hu)
  replace r1 := hide ((unhide r1).keep hu)
  replace r2 := hide ((unhide r2).keep hu)
  replace hT := hide ((unhide hT).keep hu)
  replace cp0 := hide ((unhide cp0).keep hu)
  replace cr0 := hide ((unhide cr0).keep hu)
  replace cx0 := hide ((unhide cx0).keep hu)
  replace cr1 := hide ((unhide cr1).keep hu)
  replace cr2 := hide ((unhide cr2).keep hu)
  replace hB := hide (below_upd (unhide hB) hu (Nat.le_refl _) (.inr (Nat.le_refl _)))
  have hs19 : Hid (w18.heap.size ≤ w19.heap.size) := hide hu.size
  clear hu
  have kcr1_0 := (unhide cr1).2 0 _ rfl
  have kcr1_1 := (unhide cr1).2 1 _ rfl
  have kcr1_2 := (unhide cr1).2 2 _ rfl
  have kcr1_3 := (unhide cr1).2 3 _ rfl
  have kcr1_4 := (unhide cr1).2 4 _ rfl
  have kcr1_l := (unhide cr1).1
  go_wp2_with fail
  clear kcr1_0 kcr1_1 kcr1_2 kcr1_3 kcr1_4 kcr1_l
  refine (heldImage_own 1 (unhide hL) (by omega) (unhide r1)).mono ?_
  rintro e w20 ⟨rfl, hu⟩
  replace r0 := hide ((unhide r0).keep hu)
  replace r1 := hide ((unhide r1).keep hu)
  replace r2 := hide ((unhide r2).keep hu)
  replace hT := hide ((unhide hT).keep hu)
  replace cp0 := hide ((unhide cp0).keep hu)
  replace cr0 := hide ((unhide cr0).keep hu)
  replace cx0 := hide ((unhide cx0).keep hu)
  replace cr1 := hide ((unhide cr1).keep hu)
  replace cr2 := hide ((unhide cr2).keep hu)
  replace hB := hide (below_upd (unhide hB) hu (Nat.le_refl _) (.inr (Nat.le_refl _)))
  have hs20 : Hid (w19.heap.size ≤ w20.heap.size) := hide hu.size
  clear hu
  go_wp2_with fail
  go_ret
  exact ⟨rfl, unhide hB⟩

theorem lawColours (d0 : St) (ad0_0 : Option Addr) (cap0_0 : Nat) (ad0_1 : Option Addr) (cap0_1 : Nat) (ad0_2 : Option Addr) (cap0_2 : Nat) (w : World) (hT : Held w 0 passCells) (hz0 : (d0.1.2.2.2.2.length ≤ 9223372036854775807 ∧ d0.2.1.length ≤ 9223372036854775807 ∧ d0.2.2.1.length ≤ 9223372036854775807)) (hA0_0 : ArgI w ad0_0 d0.1.2.2.2.2) (hA0_1 : ArgI w ad0_1 d0.2.1) (hA0_2 : ArgNt w ad0_2 d0.2.2.1) (hR0 : InSt d0) :
    Calls Tryd.prog 4 #[.agg #[.int .i64 d0.1.1, .int .i64 d0.1.2.1, .int .i64 d0.1.2.2.1, .int .i64 d0.1.2.2.2.1, .slice ad0_0 d0.1.2.2.2.2.length cap0_0, .slice ad0_1 d0.2.1.length cap0_1, .slice ad0_2 d0.2.2.1.length cap0_2, .bool d0.2.2.2]] w fun e w' => e = .returned (.bool true) ∧ Below w.heap.size w w' := by
  by_cases h0 : 1048576 < d0.1.2.2.2.2.length + d0.2.1.length + ntSize d0.2.2.1
  · exact lawColours_long0 d0 ad0_0 cap0_0 ad0_1 cap0_1 ad0_2 cap0_2 w hz0 h0 hA0_0 hA0_1 hA0_2 hR0
  exact lawColours_short d0 ad0_0 cap0_0 ad0_1 cap0_1 ad0_2 cap0_2 w hT hz0 (by omega) hA0_0 hA0_1 hA0_2 hR0
end Go.Proofs.YthkppcncajmniaaDoor

/- Opening an argument that is a byte string or a list of ints: what the form's reading of it says of cells. -/
namespace Go.Proofs.YthkppcncajmniaaDoor
open Go.ChangeShapes Go.WideShapes Go.ChangeAt Go.RowKit

theorem Tryd.own : ownKnob Tryd.prog.godebug = none := by kernel_rfl
theorem Tryd.laidOut : laidOutB Tryd.prog = true := by kernel_rfl
theorem cellsY : Tryd.prog.cellsOf 5 = 1 := by kernel_rfl
theorem cellsI : Tryd.prog.cellsOf 3 = 1 := by kernel_rfl
theorem i64_of_wf {x : Int} (h : (Lit.int .i64 x).wf = true) : -9223372036854775808 ≤ x ∧ x ≤ 9223372036854775807 := by
  simp [Lit.wf, IntKind.min, IntKind.max, IntKind.signed, IntKind.bits] at h
  exact ⟨by omega, by omega⟩
theorem u64_of_wf {x : Int} (h : (Lit.int .u64 x).wf = true) : 0 ≤ x ∧ x ≤ 18446744073709551615 := by
  simp [Lit.wf, IntKind.min, IntKind.max, IntKind.signed, IntKind.bits] at h
  exact ⟨by omega, by omega⟩
theorem u8_of_wf {x : Int} (h : (Lit.int .u8 x).wf = true) : 0 ≤ x ∧ x < 256 := by
  simp [Lit.wf, IntKind.min, IntKind.max, IntKind.signed, IntKind.bits] at h
  exact ⟨by omega, by omega⟩

set_option maxRecDepth 100000 in
theorem open_byts {H : Type} {enc : TypeId × Value → H} {W : World} {base : Nat} {v : Value} {d : DataW H} {p : List MemPlace}
    (hv : Value.okWide Tryd.prog W .any base 79 v) (h0 : DataW.Trod enc Tryd.prog W 0 (fun _ => true) true 79 v d p) (hlt : ∀ x ∈ p, x.block < W.heap.size) :
    ∃ ad cap zs, v = .slice ad zs.length cap ∧ ArgY W ad zs ∧ InB zs := by
  obtain ⟨a0, len, cap, rfl⟩ := okWide_slice Tryd.underlying79 hv
  obtain ⟨fuel, hf⟩ := h0
  rcases open_ints Tryd.underlying79 Tryd.underlying5 cellsY hf with ⟨hcs, hx⟩ | ⟨a, len', cap', zs, hcs, _, hl, hm, hz, hx, hcell, hwz⟩
  · simp [Value.cells] at hcs
    obtain ⟨rfl, rfl, rfl⟩ := hcs
    exact ⟨none, 0, [], rfl, fun h => absurd rfl h, fun j => by simp⟩
  · simp [Value.cells] at hcs
    obtain ⟨rfl, rfl, rfl⟩ := hcs
    simp only [Prod.mk.injEq] at hx
    obtain ⟨rfl, rfl⟩ := hx
    simp only [if_true] at hz
    have hlen : (zs.take len).length = len := by rw [List.length_take]; omega
    have hget : ∀ j, j < len → (zs.take len).getD j 0 = zs.getD j 0 := fun j hj => by
      rw [List.getD_eq_getElem?_getD, List.getD_eq_getElem?_getD, List.getElem?_take, if_pos hj]
    refine ⟨some a, cap, zs.take len, by rw [hlen], ?_, ?_⟩
    · intro hne
      have hpos : 0 < len := by
        rcases Nat.eq_zero_or_pos len with h | h
        · subst h; simp at hne
        · exact h
      obtain ⟨b, off, spot⟩ := a
      have hspot : spot = none := by simpa [Addr.add] using World.cell?_spot (hcell 0 (by omega))
      subst hspot
      refine ⟨b, off, rfl, hlt (.cell b off) (MemPlace.mem_row.2 ⟨0, by omega, by simp⟩), fun j hj => ?_⟩
      rw [hget j (by omega), ← add_plain]
      exact hcell j (by omega)
    · intro j
      by_cases hj : j < len
      · rw [hget j hj, List.getD_eq_getElem?_getD, List.getElem?_eq_getElem (by omega)]
        exact u8_of_wf (hwz _ (List.getElem_mem _))
      · rw [List.getD_eq_getElem?_getD, List.getElem?_eq_none (by omega)]; simp

set_option maxRecDepth 100000 in
theorem open_intl {H : Type} {enc : TypeId × Value → H} {W : World} {base : Nat} {v : Value} {d : DataW H} {p : List MemPlace}
    (hv : Value.okWide Tryd.prog W .any base 22 v) (h0 : DataW.Trod enc Tryd.prog W 0 (fun _ => true) true 22 v d p) (hlt : ∀ x ∈ p, x.block < W.heap.size) :
    ∃ ad cap zs, v = .slice ad zs.length cap ∧ ArgI W ad zs ∧ InI zs := by
  obtain ⟨a0, len, cap, rfl⟩ := okWide_slice Tryd.underlying22 hv
  obtain ⟨fuel, hf⟩ := h0
  rcases open_ints Tryd.underlying22 Tryd.underlying3 cellsI hf with ⟨hcs, hx⟩ | ⟨a, len', cap', zs, hcs, _, hl, hm, hz, hx, hcell, hwz⟩
  · simp [Value.cells] at hcs
    obtain ⟨rfl, rfl, rfl⟩ := hcs
    exact ⟨none, 0, [], rfl, fun h => absurd rfl h, fun j => by simp⟩
  · simp [Value.cells] at hcs
    obtain ⟨rfl, rfl, rfl⟩ := hcs
    simp only [Prod.mk.injEq] at hx
    obtain ⟨rfl, rfl⟩ := hx
    simp only [if_true] at hz
    have hlen : (zs.take len).length = len := by rw [List.length_take]; omega
    have hget : ∀ j, j < len → (zs.take len).getD j 0 = zs.getD j 0 := fun j hj => by
      rw [List.getD_eq_getElem?_getD, List.getD_eq_getElem?_getD, List.getElem?_take, if_pos hj]
    refine ⟨some a, cap, zs.take len, by rw [hlen], ?_, ?_⟩
    · intro hne
      have hpos : 0 < len := by
        rcases Nat.eq_zero_or_pos len with h | h
        · subst h; simp at hne
        · exact h
      obtain ⟨b, off, spot⟩ := a
      have hspot : spot = none := by simpa [Addr.add] using World.cell?_spot (hcell 0 (by omega))
      subst hspot
      refine ⟨b, off, rfl, hlt (.cell b off) (MemPlace.mem_row.2 ⟨0, by omega, by simp⟩), fun j hj => ?_⟩
      rw [hget j (by omega), ← add_plain]
      exact hcell j (by omega)
    · intro j
      by_cases hj : j < len
      · rw [hget j hj, List.getD_eq_getElem?_getD, List.getElem?_eq_getElem (by omega)]
        exact i64_of_wf (hwz _ (List.getElem_mem _))
      · rw [List.getD_eq_getElem?_getD, List.getElem?_eq_none (by omega)]; simp
end Go.Proofs.YthkppcncajmniaaDoor

/- Opening a list of numbers of any kind that stands in a struct's field: what the form's reading of it says of cells. -/
namespace Go.Proofs.YthkppcncajmniaaDoor
open Go.ChangeShapes Go.WideShapes Go.ChangeAt Go.RowKit

theorem open_row_at {H : Type} {enc : TypeId × Value → H} {W : World} {t e : TypeId} {k : IntKind} {fuel : Nat} {v : Value} {x : DataW H × List MemPlace}
    (ht : Tryd.prog.underlying t = some (.slice e)) (he : Tryd.prog.underlying e = some (.int k)) (hc : Tryd.prog.cellsOf e = 1)
    (hf : DataW.trod enc Tryd.prog W 0 (fun _ => true) true fuel t [v] = some x) (hlt : ∀ y ∈ x.2, y.block < W.heap.size) :
    ∃ ad cap zs, v = .slice ad zs.length cap ∧ ReadK k W ad zs ∧ zs.length ≤ 9223372036854775807 ∧ ∀ j, j < zs.length → (Lit.int k (zs.getD j 0)).wf = true := by
  rcases open_ints ht he hc hf with ⟨hcs, hx⟩ | ⟨a, len, cap, zs, hcs, _, hl, hm, hz, hx, hcell, hwz⟩
  · simp only [List.cons.injEq, and_true] at hcs
    subst hcs
    exact ⟨none, 0, [], rfl, fun h => absurd rfl h, by simp, fun j hj => by simp at hj⟩
  · simp only [List.cons.injEq, and_true] at hcs
    subst hcs hx
    simp only [if_true] at hz
    have hlen : (zs.take len).length = len := by rw [List.length_take]; omega
    have hget : ∀ j, j < len → (zs.take len).getD j 0 = zs.getD j 0 := fun j hj => by
      rw [List.getD_eq_getElem?_getD, List.getD_eq_getElem?_getD, List.getElem?_take, if_pos hj]
    refine ⟨some a, cap, zs.take len, by rw [hlen], ?_, by rw [hlen]; unfold maxLen at hm; omega, ?_⟩
    · intro hne
      have hpos : 0 < len := by
        rcases Nat.eq_zero_or_pos len with h | h
        · subst h; simp at hne
        · exact h
      obtain ⟨b, off, spot⟩ := a
      have hspot : spot = none := by simpa [Addr.add] using World.cell?_spot (hcell 0 (by omega))
      subst hspot
      refine ⟨b, off, rfl, hlt (.cell b off) (MemPlace.mem_row.2 ⟨0, by omega, by simp⟩), fun j hj => ?_⟩
      rw [hget j (by omega), ← add_plain]
      exact hcell j (by omega)
    · intro j hj
      rw [hlen] at hj
      rw [hget j hj, List.getD_eq_getElem?_getD, List.getElem?_eq_getElem (by omega)]
      exact hwz _ (List.getElem_mem _)
theorem inI_of_wf {zs : List Int} (h : ∀ j, j < zs.length → (Lit.int .i64 (zs.getD j 0)).wf = true) : InI zs := by
  intro j
  by_cases hj : j < zs.length
  · exact i64_of_wf (h j hj)
  · rw [List.getD_eq_getElem?_getD, List.getElem?_eq_none (by omega)]; simp
theorem inB_of_wf {zs : List Int} (h : ∀ j, j < zs.length → (Lit.int .u8 (zs.getD j 0)).wf = true) : InB zs := by
  intro j
  by_cases hj : j < zs.length
  · exact u8_of_wf (h j hj)
  · rw [List.getD_eq_getElem?_getD, List.getElem?_eq_none (by omega)]; simp
end Go.Proofs.YthkppcncajmniaaDoor

/- Opening a list of Notes: what the form's reading of it says of cells. -/
namespace Go.Proofs.YthkppcncajmniaaDoor
open Go.ChangeShapes Go.WideShapes Go.ChangeAt Go.RowKit

theorem cellsRNt : Tryd.prog.cellsOf 61 = 2 := by kernel_rfl
theorem cellsRNtt0 : Tryd.prog.cellsOf 9 = 1 := by kernel_rfl
theorem list_of_eachNt {α : Type} (d : α) (p : Nat → α → Prop) (n : Nat) (h : ∀ i, i < n → ∃ x, p i x) : ∃ l : List α, l.length = n ∧ ∀ i, i < n → p i (l.getD i d) := by
  induction n with
  | zero => exact ⟨[], rfl, fun i hi => by omega⟩
  | succ n ih =>
    obtain ⟨l, hl, hp⟩ := ih (fun i hi => h i (by omega))
    obtain ⟨x, hx⟩ := h n (by omega)
    refine ⟨l ++ [x], by simp [hl], fun i hi => ?_⟩
    rw [List.getD_eq_getElem?_getD]
    by_cases e : i < n
    · rw [List.getElem?_append_left (by omega), ← List.getD_eq_getElem?_getD]; exact hp i e
    · have : i = l.length := by omega
      subst this
      rw [List.getElem?_append_right (Nat.le_refl _), Nat.sub_self]
      rw [hl]; exact hx

set_option maxRecDepth 100000 in
theorem open_Nt_row {H : Type} {enc : TypeId × Value → H} {W : World} {fuel : Nat} {v : Value} {x : DataW H × List MemPlace}
    (hf : DataW.trod enc Tryd.prog W 0 (fun _ => true) true fuel 25 [v] = some x) (hlt : ∀ y ∈ x.2, y.block < W.heap.size) :
    ∃ ad cap ps, v = .slice ad ps.length cap ∧ ArgNt W ad ps ∧ ps.length ≤ 9223372036854775807 ∧ InNt ps := by
  rcases Go.Deep.open_slice Tryd.underlying25 hf with ⟨hcs, hx⟩ | ⟨a, len, cap, m, n, D, Pl, hcs, _, hl, hm, hmm, hx, hcell⟩
  · simp only [List.cons.injEq, and_true] at hcs
    subst hcs
    exact ⟨none, 0, [], rfl, fun h => absurd rfl h, by simp, fun j => by simp only [List.getD_nil]; decide⟩
  · simp only [List.cons.injEq, and_true] at hcs
    subst hcs hx
    simp only [if_true] at hmm
    have each : ∀ i, i < len → ∃ x : Nt, W.cell? (a.add (i * 2)) = some (.string x.1) ∧ W.cell? (a.add (i * 2 + 1)) = some (.string x.2) ∧ x.1.size ≤ 9223372036854775807 ∧ x.2.size ≤ 9223372036854775807 := by
      intro i hi
      obtain ⟨cs', h1, h2⟩ := hcell i (by omega)
      rw [cellsRNt] at h1
      obtain ⟨_, hlen, hc⟩ := World.cells?_some h1
      obtain ⟨xs, k, hk, hxy, _, hxl, hfl⟩ := DataW.trod_struct Tryd.underlying61 h2
      match xs, hxl, cs', hlen with
      | [y0, y1], _, [v0, v1], _ =>
        have g0 := hfl 0 _ rfl
        have g1 := hfl 1 _ rfl
        simp [cellsRNtt0] at g0 g1
        have e0 := hc 0 (by omega)
        have e1 := hc 1 (by omega)
        rw [Go.Deep.add_add] at e0 e1
        obtain ⟨n0, q0, _, w0⟩ := DataW.trod_string Tryd.underlying9 g0
        obtain ⟨n1, q1, _, w1⟩ := DataW.trod_string Tryd.underlying9 g1
        simp only [List.cons.injEq, and_true] at q0 q1
        subst q0 q1
        exact ⟨(n0, n1), by simpa using e0, by simpa using e1, (by unfold maxLen at w0; exact w0), (by unfold maxLen at w1; exact w1)⟩
    obtain ⟨ps, hpl, hps⟩ := list_of_eachNt Nt0 _ len each
    refine ⟨some a, cap, ps, by rw [hpl], ?_, by rw [hpl]; unfold maxLen at hm; omega, ?_⟩
    · intro hne
      have hpos : 0 < len := by
        rcases Nat.eq_zero_or_pos len with h | h
        · subst h; exact absurd (List.length_eq_zero_iff.1 hpl) hne
        · exact h
      obtain ⟨b, off, spot⟩ := a
      have hspot : spot = none := by simpa [Addr.add] using World.cell?_spot (hps 0 hpos).1
      subst hspot
      refine ⟨b, off, rfl, hlt (.cell b off) (List.mem_append_left _ (MemPlace.mem_row.2 ⟨0, by rw [cellsRNt]; omega, by simp⟩)), fun j hj => ?_⟩
      rw [hpl] at hj
      have := hps j hj
      rw [add_plain, add_plain, ← Nat.add_assoc] at this
      exact ⟨this.1, this.2.1⟩
    · intro j
      by_cases hj : j < len
      · exact (hps j hj).2.2
      · rw [List.getD_eq_getElem?_getD, List.getElem?_eq_none (by omega)]; simp only [Option.getD_none]; decide
end Go.Proofs.YthkppcncajmniaaDoor

/- Opening an argument that is a Still: what the form's reading of it says. -/
namespace Go.Proofs.YthkppcncajmniaaDoor
open Go.ChangeShapes Go.WideShapes Go.ChangeAt Go.RowKit

theorem cellsSta : Tryd.prog.cellsOf 27 = 8 := by kernel_rfl
theorem cellsStt0 : Tryd.prog.cellsOf 24 = 5 := by kernel_rfl
theorem cellsStt1 : Tryd.prog.cellsOf 3 = 1 := by kernel_rfl
theorem cellsStt2 : Tryd.prog.cellsOf 22 = 1 := by kernel_rfl
theorem cellsStt3 : Tryd.prog.cellsOf 25 = 1 := by kernel_rfl
theorem cellsStt4 : Tryd.prog.cellsOf 4 = 1 := by kernel_rfl

set_option maxRecDepth 100000 in
set_option maxHeartbeats 1000000 in
theorem open_St {H : Type} {enc : TypeId × Value → H} {W : World} {base : Nat} {v : Value} {d : DataW H} {p : List MemPlace}
    (hv : Value.okWide Tryd.prog W .any base 27 v) (h0 : DataW.Trod enc Tryd.prog W 0 (fun _ => true) true 27 v d p) (hlt : ∀ x ∈ p, x.block < W.heap.size) :
    ∃ (x : St) (ad0 : Option Addr) (cap0 : Nat) (ad1 : Option Addr) (cap1 : Nat) (ad2 : Option Addr) (cap2 : Nat), v = .agg #[.int .i64 x.1.1, .int .i64 x.1.2.1, .int .i64 x.1.2.2.1, .int .i64 x.1.2.2.2.1, (.slice ad0 x.1.2.2.2.2.length cap0), (.slice ad1 x.2.1.length cap1), (.slice ad2 x.2.2.1.length cap2), .bool x.2.2.2] ∧ ArgI W ad0 x.1.2.2.2.2 ∧ ArgI W ad1 x.2.1 ∧ ArgNt W ad2 x.2.2.1 ∧ InSt x ∧ (x.1.2.2.2.2.length ≤ 9223372036854775807 ∧ x.2.1.length ≤ 9223372036854775807 ∧ x.2.2.1.length ≤ 9223372036854775807) := by
  obtain ⟨cs, rfl, hsz⟩ := okWide_struct Tryd.underlying27 hv
  rw [cellsSta] at hsz
  obtain ⟨fuel, hf⟩ := h0
  obtain ⟨xs, k, _, hxy, hcl, hxl, hfl⟩ := DataW.trod_struct Tryd.underlying27 hf
  obtain ⟨cl⟩ := cs
  simp only [List.size_toArray] at hsz
  match xs, hxl, cl, hsz with
  | [y0, y1, y2, y3], _, [v0, v1, v2, v3, v4, v5, v6, v7], _ =>
    have g0 := hfl 0 _ rfl
    have g1 := hfl 1 _ rfl
    have g2 := hfl 2 _ rfl
    have g3 := hfl 3 _ rfl
    simp [cellsStt0, cellsStt2, cellsStt3, cellsStt4, Value.cells] at g0 g1 g2 g3
    have hp : p = y0.2 ++ (y1.2 ++ (y2.2 ++ (y3.2))) := by simpa using congrArg Prod.snd hxy
    obtain ⟨zs_0, k0, _, hxy0, hcl0, hxl0, hfl0⟩ := DataW.trod_struct Tryd.underlying24 g0
    match zs_0, hxl0 with
    | [z0_0, z0_1, z0_2, z0_3, z0_4], _ =>
    have gg0 := hfl0 0 _ rfl
    have gg1 := hfl0 1 _ rfl
    have gg2 := hfl0 2 _ rfl
    have gg3 := hfl0 3 _ rfl
    have gg4 := hfl0 4 _ rfl
    simp [cellsStt1, cellsStt2] at gg0 gg1 gg2 gg3 gg4
    have hp0 : y0.2 = z0_0.2 ++ (z0_1.2 ++ (z0_2.2 ++ (z0_3.2 ++ (z0_4.2)))) := by simpa using congrArg Prod.snd hxy0
    obtain ⟨n0, q0, _, w0⟩ := DataW.trod_int Tryd.underlying3 gg0
    simp only [List.cons.injEq, and_true] at q0
    subst q0
    obtain ⟨n1, q1, _, w1⟩ := DataW.trod_int Tryd.underlying3 gg1
    simp only [List.cons.injEq, and_true] at q1
    subst q1
    obtain ⟨n2, q2, _, w2⟩ := DataW.trod_int Tryd.underlying3 gg2
    simp only [List.cons.injEq, and_true] at q2
    subst q2
    obtain ⟨n3, q3, _, w3⟩ := DataW.trod_int Tryd.underlying3 gg3
    simp only [List.cons.injEq, and_true] at q3
    subst q3
    obtain ⟨ad0, cap0, zs0, e0, hA0, hl0, hw0⟩ := open_row_at Tryd.underlying22 Tryd.underlying3 cellsI gg4 (fun y hy => hlt y (by rw [hp, hp0]; simp [hy]))
    subst e0
    obtain ⟨ad1, cap1, zs1, e1, hA1, hl1, hw1⟩ := open_row_at Tryd.underlying22 Tryd.underlying3 cellsI g1 (fun y hy => hlt y (by rw [hp]; simp [hy]))
    subst e1
    obtain ⟨ad2, cap2, zs2, e2, hA2, hl2, hw2⟩ := open_Nt_row g2 (fun y hy => hlt y (by rw [hp]; simp [hy]))
    subst e2
    obtain ⟨n7, q7, _⟩ := DataW.trod_bool Tryd.underlying4 g3
    simp only [List.cons.injEq, and_true] at q7
    subst q7
    exact ⟨((n0, n1, n2, n3, zs0), zs1, zs2, n7), ad0, cap0, ad1, cap1, ad2, cap2, rfl, hA0, hA1, hA2, ⟨⟨i64_of_wf w0, i64_of_wf w1, i64_of_wf w2, i64_of_wf w3, inI_of_wf hw0⟩, inI_of_wf hw1, hw2⟩, ⟨hl0, hl1, hl2⟩⟩
end Go.Proofs.YthkppcncajmniaaDoor

/- What a table of numbers that a variable holds says of cells: a struct's numbers, an array of structs of numbers. -/
namespace Go.Proofs.YthkppcncajmniaaDoor
open Go.ChangeShapes Go.WideShapes Go.ChangeAt Go.RowKit

theorem lits_struct {H : Type} {enc : TypeId × Value → H} {W : World} {base : Nat} {spare : Nat → Bool} {held : Bool} {t : TypeId} {fs : Array Go.Field} {fuel : Nat} {seg : List Value} {y : DataW H × List MemPlace} {zs : List Int}
    (ht : Tryd.prog.underlying t = some (.struct fs)) (hfs : ∀ (j : Nat) (f : Go.Field), fs[j]? = some f → f.type = 3 ∧ f.offset = j)
    (h : DataW.trod enc Tryd.prog W base spare held fuel t seg = some y) (hy : y.1 = .agg (zs.map fun z => .lit (.int .i64 z))) :
    ∀ (j : Nat) (z : Int), zs[j]? = some z → seg[j]? = some (Value.int .i64 z) := by
  obtain ⟨ys, k, _, rfl, hl, hyl, hfl⟩ := DataW.trod_struct ht h
  simp only [DataW.agg.injEq] at hy
  intro j z hz
  have hlen : ys.length = zs.length := by have := congrArg List.length hy; simpa using this
  have hj : j < ys.length := by have := (List.getElem?_eq_some_iff.1 hz).1; omega
  have hjf : j < fs.size := by omega
  obtain ⟨e1, e2⟩ := hfs j fs[j] (Array.getElem?_eq_getElem hjf)
  have hj2 := hfl j fs[j] (Array.getElem?_eq_getElem hjf)
  rw [e1, e2, cellsI, List.getElem?_eq_getElem hj] at hj2
  obtain ⟨n, q, q2, _⟩ := DataW.trod_int Tryd.underlying3 hj2
  have hv : ys[j].1 = .lit (.int .i64 z) := by
    have h1 := congrArg (fun l => l[j]?) hy
    simp only [List.getElem?_map, List.getElem?_eq_getElem hj, hz, Option.map_some, Option.some.injEq] at h1
    exact h1
  have hn : n = z := by
    have := q2
    rw [this] at hv
    simpa using hv
  subst hn
  have h3 : ((seg.drop j).take 1)[0]? = some (Value.int .i64 n) := by rw [q]; rfl
  rw [List.getElem?_take, if_pos (by omega), List.getElem?_drop] at h3
  simpa using h3
theorem lits_array {H : Type} {enc : TypeId × Value → H} {W : World} {base : Nat} {spare : Nat → Bool} {held : Bool} {t e : TypeId} {fs : Array Go.Field} {n m fuel : Nat} {cs : List Value} {y : DataW H × List MemPlace} {zss : List (List Int)}
    (ht : Tryd.prog.underlying t = some (.array n e)) (he : Tryd.prog.underlying e = some (.struct fs)) (hfs : ∀ (j : Nat) (f : Go.Field), fs[j]? = some f → f.type = 3 ∧ f.offset = j) (hm : Tryd.prog.cellsOf e = m)
    (h : DataW.trod enc Tryd.prog W base spare held fuel t cs = some y) (hy : y.1 = .agg (zss.map fun zs => .agg (zs.map fun z => .lit (.int .i64 z)))) (hz : ∀ zs ∈ zss, zs.length = m) (hn : zss.length = n) :
    ∀ (i j : Nat) (z : Int) (zs : List Int), zss[i]? = some zs → zs[j]? = some z → cs[i * m + j]? = some (Value.int .i64 z) := by
  obtain ⟨xs, k, _, rfl, hl, hxl, hel⟩ := DataW.trod_array ht h
  simp only [DataW.agg.injEq] at hy
  intro i j z zs hzs hjz
  have hi : i < xs.length := by have := (List.getElem?_eq_some_iff.1 hzs).1; omega
  have h1 := hel i (by omega)
  rw [List.getElem?_eq_getElem hi, hm] at h1
  have hv : xs[i].1 = .agg (zs.map fun z => .lit (.int .i64 z)) := by
    have h1 := congrArg (fun l => l[i]?) hy
    simp only [List.getElem?_map, List.getElem?_eq_getElem hi, hzs, Option.map_some, Option.some.injEq] at h1
    exact h1
  have h2 := lits_struct he hfs h1 hv j z hjz
  have hjm : j < m := by have := (List.getElem?_eq_some_iff.1 hjz).1; have := hz zs (List.mem_of_getElem? hzs); omega
  rw [List.getElem?_take, if_pos hjm, List.getElem?_drop] at h2
  exact h2
end Go.Proofs.YthkppcncajmniaaDoor

/- What the listed table of passes says of cells. -/
namespace Go.Proofs.YthkppcncajmniaaDoor
open Go.ChangeShapes Go.WideShapes Go.ChangeAt Go.RowKit

def passZss : List (List Int) := [[0, 0, 8, 8, 0, 0], [4, 0, 8, 8, 0, 0], [0, 4, 4, 8, 0, 0], [2, 0, 4, 4, 0, 0], [0, 2, 2, 4, 0, 0], [1, 0, 2, 2, 0, 0], [0, 1, 1, 2, 0, 0]]
theorem passGlobal : Tryd.prog.globalNamed "loop.example/g00016/impl.passSteps" = some 0 := by kernel_rfl
theorem passGlobalT : (Tryd.prog.globals[0]?).map (·.type) = some 81 := by kernel_rfl
theorem passCellsOf : Tryd.prog.cellsOf 73 = 6 := by kernel_rfl
theorem passFlat : passCells = passZss.flatten.map (.int .i64) := rfl
theorem passFlat_at : ∀ j, j < 42 → passZss.flatten[j]? = (passZss[j / 6]?).bind (·[j % 6]?) := by decide
theorem laid_passes {W : World} (h : laidMetH Tryd.prog [("loop.example/g00016/impl.passSteps", Rows.laid_loop_example_g00016_impl_passSteps)] W) : Held W 0 passCells := by
  rw [MakeChecks.laidMetH_plain _ _ _ (by kernel_rfl)] at h
  obtain ⟨ps, ⟨g0, t0, cs0, f0, p0, q0, hg0, ht0, hv0, hd0, _, _⟩, _, _⟩ := h
  obtain rfl := Option.some.inj (passGlobal.symm.trans hg0)
  obtain rfl := Option.some.inj (passGlobalT.symm.trans ht0)
  have hc := lits_array (zss := passZss) Tryd.underlying81 Tryd.underlying73 (fun j f hf => by
    match j, hf with
    | 0, hf => simp at hf; subst hf; exact ⟨rfl, rfl⟩
    | 1, hf => simp at hf; subst hf; exact ⟨rfl, rfl⟩
    | 2, hf => simp at hf; subst hf; exact ⟨rfl, rfl⟩
    | 3, hf => simp at hf; subst hf; exact ⟨rfl, rfl⟩
    | 4, hf => simp at hf; subst hf; exact ⟨rfl, rfl⟩
    | 5, hf => simp at hf; subst hf; exact ⟨rfl, rfl⟩
    | j + 6, hf => simp at hf) passCellsOf hd0 rfl (by decide) rfl
  have hcell := fun o => World.var?_cell hg0 hv0 o
  refine ⟨?_, fun j v hj => ?_⟩
  · have h0 := hc 0 0 0 _ rfl rfl
    have h1 := hcell 0
    rw [show cs0[0]? = some (Value.int .i64 0) by simpa using h0] at h1
    exact World.block_lt_of_cell? _ _ h1
  · have hlt : j < 42 := (List.getElem?_eq_some_iff.1 hj).1
    have e := hcell j
    have hv : ∃ z zs, passZss[j / 6]? = some zs ∧ zs[j % 6]? = some z ∧ v = .int .i64 z := by
      rw [passFlat, List.getElem?_map] at hj
      have h2 := passFlat_at j hlt
      cases h3 : passZss.flatten[j]? with
      | none => rw [h3] at hj; simp at hj
      | some z =>
        rw [h3] at hj h2
        simp only [Option.map_some, Option.some.injEq] at hj
        cases h4 : passZss[j / 6]? with
        | none => rw [h4] at h2; simp at h2
        | some zs =>
          rw [h4] at h2
          exact ⟨z, zs, rfl, by simpa using h2.symm, hj.symm⟩
    obtain ⟨z, zs, a, b, rfl⟩ := hv
    have h2 := hc (j / 6) (j % 6) z zs a b
    rw [show j / 6 * 6 + j % 6 = j by omega] at h2
    rw [e]
    simpa using h2
end Go.Proofs.YthkppcncajmniaaDoor
