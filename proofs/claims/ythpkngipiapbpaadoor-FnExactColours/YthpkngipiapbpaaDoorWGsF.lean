/- GoodStill, as the program has it. -/
import Derived.Test.YthpkngipiapbpaaDoorWGsD
import Derived.Test.YthpkngipiapbpaaDoorWGsB3
import Derived.Test.YthpkngipiapbpaaDoorWGiC
namespace Go.Proofs.YthpkngipiapbpaaDoor
open Go.RowKit

theorem depth_bdI {dp : Int} (h : depthOk dp = true) : 1 ≤ dp ∧ dp ≤ 16 := by
  rcases depthOk_cases h with e | e | e | e | e <;> subst e <;> omega

set_option maxHeartbeats 4000000 in
set_option maxRecDepth 1000000 in
theorem implGoodStill (v : Value) (d : St) (w : World) (hT : Held w 1 passCells) (hn : StSize d ≤ 1048576) (hR : InSt d) (hv : RdSt w v d) :
    Calls Tryd.prog 9 #[v] w fun e w' => e = .returned (.bool (pB (GoodSt d))) ∧ Upd 0 0 w w' := by
  obtain ⟨l0, l1, l2, rfl, hr0, hr1, hr2⟩ := hv
  obtain ⟨⟨a, b, p, dp, zs⟩, zp, ps, wv⟩ := d
  simp only [Stv, StSize] at hn ⊢
  obtain ⟨hRi, _, _⟩ := hR
  change RdI w l0 zs at hr0
  change RdI w l1 zp at hr1
  change RdNt w l2 ps at hr2
  change InIm (a, b, p, dp, zs) at hRi
  have hn0 : zs.length ≤ 1048576 := by omega
  have hn1 : zp.length ≤ 1048576 := by omega
  have hn2 : ntSize ps ≤ 1048576 := by omega
  have hr0' := hide hr0
  have hr1' := hide hr1
  have hr2' := hide hr2
  obtain ⟨ad, cap, rfl, _⟩ := hr0
  obtain ⟨ad1, cap1, rfl, _⟩ := hr1
  obtain ⟨ad2, cap2, rfl, _⟩ := hr2
  clear hn
  have hB0 := (Below.refl w.heap.size w).alloc (Nat.le_refl _) (.cells #[.int .i64 a, .int .i64 b, .int .i64 p, .int .i64 dp, .slice ad zs.length cap, .slice ad1 zp.length cap1, .slice ad2 ps.length cap2, .bool wv] 33)
  have hbx := hide (held_new w [.int .i64 a, .int .i64 b, .int .i64 p, .int .i64 dp, .slice ad zs.length cap, .slice ad1 zp.length cap1, .slice ad2 ps.length cap2, .bool wv] 33)
  have hGI := hide (implGoodImage _ (a, b, p, dp, zs) _ hn0 hRi ⟨_, rfl, (unhide hr0').below hB0⟩)
  have hPl := palAll_iff ((a, b, p, dp, zs), zp, ps, wv)
  replace hPl := hide hPl
  replace hB0 := hide hB0
  replace hRi := hide hRi
  replace hT := hide hT
  by_cases hg : GoodIm (a, b, p, dp, zs)
  · rw [goodImB_yes hg] at hGI
    by_cases hp1 : PalAll (a, b, p, dp, zs) zp
    · by_cases hnt : NotesOk ps
      · obtain ⟨⟨ha, hb, hab, hp, hdp, hpd⟩, hl, hsmp⟩ := id hg
        replace hdp := depth_bdI hdp
        replace hl := hide hl
        replace hab := hide hab
        replace hsmp := hide hsmp
        obtain ⟨T, hTt⟩ : ∃ T, totTo (sidesOf a b wv) p dp (sidesOf a b wv).length = T := ⟨_, rfl⟩
        have hTT : Hid (totOf (a, b, p, dp, zs) wv = T) := hide hTt
        have hTot := hide (fun W (hW : Below w.heap.size w W) => implCountRows a b p dp ad ad1 ad2 zs.length zp.length ps.length cap cap1 cap2 wv W ((unhide hT).upd (Upd.of_below hW 0 0) (.inr (Nat.zero_le _))) ha hb hp hdp T hTt)
        replace hTt := hide hTt
        replace hg := hide hg
        by_cases h6 : T ≤ 6000
        · have hE : Hid (pB (GoodSt ((a, b, p, dp, zs), zp, ps, wv)) = true) := hide (pB_yes ⟨unhide hg, ((unhide hPl).1 hp1).1, ((unhide hPl).1 hp1).2, hnt, by rw [unhide hTT]; exact h6⟩)
          go_enter Tryd.func9, Tryd.ntmps9
          go_wp2_with fail
          change Hid (Held (w.alloc (.cells #[.int .i64 a, .int .i64 b, .int .i64 p, .int .i64 dp, .slice ad zs.length cap, .slice ad1 zp.length cap1, .slice ad2 ps.length cap2, .bool wv] 33)) _ _) at hbx
          generalize w.alloc (.cells #[.int .i64 a, .int .i64 b, .int .i64 p, .int .i64 dp, .slice ad zs.length cap, .slice ad1 zp.length cap1, .slice ad2 ps.length cap2, .bool wv] 33) = w0 at hB0 hbx hGI ⊢
          refine (unhide hGI).mono ?_
          rintro e w1 ⟨rfl, hu⟩
          replace hbx := hide ((unhide hbx).keep hu)
          replace hB0 := hide (below_upd (unhide hB0) hu (Nat.le_refl _) (.inr (Nat.le_refl _)))
          clear hu
          have hC := implGoodPalette _ zp _ (a, b, p, dp, zs) w1 hn0 hn1 ((unhide hr1').below (unhide hB0)) ⟨_, rfl, (unhide hr0').below (unhide hB0)⟩
          rw [pB_yes hp1] at hC
          replace hC := hide hC
          replace hp1 := hide hp1
          have c0 := (unhide hbx).2 0 _ rfl
          have c1 := (unhide hbx).2 1 _ rfl
          have c2 := (unhide hbx).2 2 _ rfl
          have c3 := (unhide hbx).2 3 _ rfl
          have c4 := (unhide hbx).2 4 _ rfl
          have c5 := (unhide hbx).2 5 _ rfl
          have c6 := (unhide hbx).2 6 _ rfl
          have c7 := (unhide hbx).2 7 _ rfl
          have cl := (unhide hbx).1
          go_wp2_with fail
          clear c0 c1 c2 c3 c4 c5 c6 c7 cl
          refine (unhide hC).mono ?_
          rintro e w2 ⟨rfl, hu⟩
          replace hbx := hide ((unhide hbx).keep hu)
          replace hB0 := hide (below_upd (unhide hB0) hu (Nat.le_refl _) (.inr (Nat.le_refl _)))
          clear hu
          clear hC
          have hC := implGoodNotes _ ps w2 hn2 ((unhide hr2').below (unhide hB0))
          rw [pB_yes hnt] at hC
          replace hC := hide hC
          replace hnt := hide hnt
          have c0 := (unhide hbx).2 0 _ rfl
          have c1 := (unhide hbx).2 1 _ rfl
          have c2 := (unhide hbx).2 2 _ rfl
          have c3 := (unhide hbx).2 3 _ rfl
          have c4 := (unhide hbx).2 4 _ rfl
          have c5 := (unhide hbx).2 5 _ rfl
          have c6 := (unhide hbx).2 6 _ rfl
          have c7 := (unhide hbx).2 7 _ rfl
          have cl := (unhide hbx).1
          go_wp2_with fail
          clear c0 c1 c2 c3 c4 c5 c6 c7 cl
          refine (unhide hC).mono ?_
          rintro e w3 ⟨rfl, hu⟩
          replace hbx := hide ((unhide hbx).keep hu)
          replace hB0 := hide (below_upd (unhide hB0) hu (Nat.le_refl _) (.inr (Nat.le_refl _)))
          clear hu
          clear hC
          have hC := hide (unhide hTot w3 (unhide hB0))
          have c0 := (unhide hbx).2 0 _ rfl
          have c1 := (unhide hbx).2 1 _ rfl
          have c2 := (unhide hbx).2 2 _ rfl
          have c3 := (unhide hbx).2 3 _ rfl
          have c4 := (unhide hbx).2 4 _ rfl
          have c5 := (unhide hbx).2 5 _ rfl
          have c6 := (unhide hbx).2 6 _ rfl
          have c7 := (unhide hbx).2 7 _ rfl
          have cl := (unhide hbx).1
          go_wp2_with fail
          clear c0 c1 c2 c3 c4 c5 c6 c7 cl
          refine (unhide hC).mono ?_
          rintro e w4 ⟨rfl, hu⟩
          replace hbx := hide ((unhide hbx).keep hu)
          replace hB0 := hide (below_upd (unhide hB0) hu (Nat.le_refl _) (.inr (Nat.le_refl _)))
          clear hu
          clear hC hTot
          have c0 := (unhide hbx).2 0 _ rfl
          have c1 := (unhide hbx).2 1 _ rfl
          have c2 := (unhide hbx).2 2 _ rfl
          have c3 := (unhide hbx).2 3 _ rfl
          have c4 := (unhide hbx).2 4 _ rfl
          have c5 := (unhide hbx).2 5 _ rfl
          have c6 := (unhide hbx).2 6 _ rfl
          have c7 := (unhide hbx).2 7 _ rfl
          have cl := (unhide hbx).1
          go_wp2
          go_ret
          exact ⟨by rw [unhide hE]; first | rfl | (simp; done) | (simp; omega), Upd.of_below (unhide hB0) 0 0⟩
        · have hE : Hid (pB (GoodSt ((a, b, p, dp, zs), zp, ps, wv)) = false) := hide (pB_no (fun h => h6 (by rw [← unhide hTT]; exact h.2.2.2.2)))
          go_enter Tryd.func9, Tryd.ntmps9
          go_wp2_with fail
          change Hid (Held (w.alloc (.cells #[.int .i64 a, .int .i64 b, .int .i64 p, .int .i64 dp, .slice ad zs.length cap, .slice ad1 zp.length cap1, .slice ad2 ps.length cap2, .bool wv] 33)) _ _) at hbx
          generalize w.alloc (.cells #[.int .i64 a, .int .i64 b, .int .i64 p, .int .i64 dp, .slice ad zs.length cap, .slice ad1 zp.length cap1, .slice ad2 ps.length cap2, .bool wv] 33) = w0 at hB0 hbx hGI ⊢
          refine (unhide hGI).mono ?_
          rintro e w1 ⟨rfl, hu⟩
          replace hbx := hide ((unhide hbx).keep hu)
          replace hB0 := hide (below_upd (unhide hB0) hu (Nat.le_refl _) (.inr (Nat.le_refl _)))
          clear hu
          have hC := implGoodPalette _ zp _ (a, b, p, dp, zs) w1 hn0 hn1 ((unhide hr1').below (unhide hB0)) ⟨_, rfl, (unhide hr0').below (unhide hB0)⟩
          rw [pB_yes hp1] at hC
          replace hC := hide hC
          replace hp1 := hide hp1
          have c0 := (unhide hbx).2 0 _ rfl
          have c1 := (unhide hbx).2 1 _ rfl
          have c2 := (unhide hbx).2 2 _ rfl
          have c3 := (unhide hbx).2 3 _ rfl
          have c4 := (unhide hbx).2 4 _ rfl
          have c5 := (unhide hbx).2 5 _ rfl
          have c6 := (unhide hbx).2 6 _ rfl
          have c7 := (unhide hbx).2 7 _ rfl
          have cl := (unhide hbx).1
          go_wp2_with fail
          clear c0 c1 c2 c3 c4 c5 c6 c7 cl
          refine (unhide hC).mono ?_
          rintro e w2 ⟨rfl, hu⟩
          replace hbx := hide ((unhide hbx).keep hu)
          replace hB0 := hide (below_upd (unhide hB0) hu (Nat.le_refl _) (.inr (Nat.le_refl _)))
          clear hu
          clear hC
          have hC := implGoodNotes _ ps w2 hn2 ((unhide hr2').below (unhide hB0))
          rw [pB_yes hnt] at hC
          replace hC := hide hC
          replace hnt := hide hnt
          have c0 := (unhide hbx).2 0 _ rfl
          have c1 := (unhide hbx).2 1 _ rfl
          have c2 := (unhide hbx).2 2 _ rfl
          have c3 := (unhide hbx).2 3 _ rfl
          have c4 := (unhide hbx).2 4 _ rfl
          have c5 := (unhide hbx).2 5 _ rfl
          have c6 := (unhide hbx).2 6 _ rfl
          have c7 := (unhide hbx).2 7 _ rfl
          have cl := (unhide hbx).1
          go_wp2_with fail
          clear c0 c1 c2 c3 c4 c5 c6 c7 cl
          refine (unhide hC).mono ?_
          rintro e w3 ⟨rfl, hu⟩
          replace hbx := hide ((unhide hbx).keep hu)
          replace hB0 := hide (below_upd (unhide hB0) hu (Nat.le_refl _) (.inr (Nat.le_refl _)))
          clear hu
          clear hC
          have hC := hide (unhide hTot w3 (unhide hB0))
          have c0 := (unhide hbx).2 0 _ rfl
          have c1 := (unhide hbx).2 1 _ rfl
          have c2 := (unhide hbx).2 2 _ rfl
          have c3 := (unhide hbx).2 3 _ rfl
          have c4 := (unhide hbx).2 4 _ rfl
          have c5 := (unhide hbx).2 5 _ rfl
          have c6 := (unhide hbx).2 6 _ rfl
          have c7 := (unhide hbx).2 7 _ rfl
          have cl := (unhide hbx).1
          go_wp2_with fail
          clear c0 c1 c2 c3 c4 c5 c6 c7 cl
          refine (unhide hC).mono ?_
          rintro e w4 ⟨rfl, hu⟩
          replace hbx := hide ((unhide hbx).keep hu)
          replace hB0 := hide (below_upd (unhide hB0) hu (Nat.le_refl _) (.inr (Nat.le_refl _)))
          clear hu
          clear hC hTot
          have c0 := (unhide hbx).2 0 _ rfl
          have c1 := (unhide hbx).2 1 _ rfl
          have c2 := (unhide hbx).2 2 _ rfl
          have c3 := (unhide hbx).2 3 _ rfl
          have c4 := (unhide hbx).2 4 _ rfl
          have c5 := (unhide hbx).2 5 _ rfl
          have c6 := (unhide hbx).2 6 _ rfl
          have c7 := (unhide hbx).2 7 _ rfl
          have cl := (unhide hbx).1
          go_wp2
          go_ret
          exact ⟨by rw [unhide hE]; first | rfl | (simp; done) | (simp; omega), Upd.of_below (unhide hB0) 0 0⟩
      · have hE : Hid (pB (GoodSt ((a, b, p, dp, zs), zp, ps, wv)) = false) := hide (pB_no (fun h => hnt h.2.2.2.1))
        replace hg := hide hg
        go_enter Tryd.func9, Tryd.ntmps9
        go_wp2_with fail
        change Hid (Held (w.alloc (.cells #[.int .i64 a, .int .i64 b, .int .i64 p, .int .i64 dp, .slice ad zs.length cap, .slice ad1 zp.length cap1, .slice ad2 ps.length cap2, .bool wv] 33)) _ _) at hbx
        generalize w.alloc (.cells #[.int .i64 a, .int .i64 b, .int .i64 p, .int .i64 dp, .slice ad zs.length cap, .slice ad1 zp.length cap1, .slice ad2 ps.length cap2, .bool wv] 33) = w0 at hB0 hbx hGI ⊢
        refine (unhide hGI).mono ?_
        rintro e w1 ⟨rfl, hu⟩
        replace hbx := hide ((unhide hbx).keep hu)
        replace hB0 := hide (below_upd (unhide hB0) hu (Nat.le_refl _) (.inr (Nat.le_refl _)))
        clear hu
        have hC := implGoodPalette _ zp _ (a, b, p, dp, zs) w1 hn0 hn1 ((unhide hr1').below (unhide hB0)) ⟨_, rfl, (unhide hr0').below (unhide hB0)⟩
        rw [pB_yes hp1] at hC
        replace hC := hide hC
        replace hp1 := hide hp1
        have c0 := (unhide hbx).2 0 _ rfl
        have c1 := (unhide hbx).2 1 _ rfl
        have c2 := (unhide hbx).2 2 _ rfl
        have c3 := (unhide hbx).2 3 _ rfl
        have c4 := (unhide hbx).2 4 _ rfl
        have c5 := (unhide hbx).2 5 _ rfl
        have c6 := (unhide hbx).2 6 _ rfl
        have c7 := (unhide hbx).2 7 _ rfl
        have cl := (unhide hbx).1
        go_wp2_with fail
        clear c0 c1 c2 c3 c4 c5 c6 c7 cl
        refine (unhide hC).mono ?_
        rintro e w2 ⟨rfl, hu⟩
        replace hbx := hide ((unhide hbx).keep hu)
        replace hB0 := hide (below_upd (unhide hB0) hu (Nat.le_refl _) (.inr (Nat.le_refl _)))
        clear hu
        clear hC
        have hC := implGoodNotes _ ps w2 hn2 ((unhide hr2').below (unhide hB0))
        rw [pB_no hnt] at hC
        replace hC := hide hC
        replace hnt := hide hnt
        have c0 := (unhide hbx).2 0 _ rfl
        have c1 := (unhide hbx).2 1 _ rfl
        have c2 := (unhide hbx).2 2 _ rfl
        have c3 := (unhide hbx).2 3 _ rfl
        have c4 := (unhide hbx).2 4 _ rfl
        have c5 := (unhide hbx).2 5 _ rfl
        have c6 := (unhide hbx).2 6 _ rfl
        have c7 := (unhide hbx).2 7 _ rfl
        have cl := (unhide hbx).1
        go_wp2_with fail
        clear c0 c1 c2 c3 c4 c5 c6 c7 cl
        refine (unhide hC).mono ?_
        rintro e w3 ⟨rfl, hu⟩
        replace hbx := hide ((unhide hbx).keep hu)
        replace hB0 := hide (below_upd (unhide hB0) hu (Nat.le_refl _) (.inr (Nat.le_refl _)))
        clear hu
        clear hC
        have c0 := (unhide hbx).2 0 _ rfl
        have c1 := (unhide hbx).2 1 _ rfl
        have c2 := (unhide hbx).2 2 _ rfl
        have c3 := (unhide hbx).2 3 _ rfl
        have c4 := (unhide hbx).2 4 _ rfl
        have c5 := (unhide hbx).2 5 _ rfl
        have c6 := (unhide hbx).2 6 _ rfl
        have c7 := (unhide hbx).2 7 _ rfl
        have cl := (unhide hbx).1
        go_wp2
        go_ret
        exact ⟨by rw [unhide hE]; first | rfl | (simp; done) | (simp; omega), Upd.of_below (unhide hB0) 0 0⟩
    · have hE : Hid (pB (GoodSt ((a, b, p, dp, zs), zp, ps, wv)) = false) := hide (pB_no (fun h => hp1 ((unhide hPl).2 ⟨h.2.1, h.2.2.1⟩)))
      replace hg := hide hg
      go_enter Tryd.func9, Tryd.ntmps9
      go_wp2_with fail
      change Hid (Held (w.alloc (.cells #[.int .i64 a, .int .i64 b, .int .i64 p, .int .i64 dp, .slice ad zs.length cap, .slice ad1 zp.length cap1, .slice ad2 ps.length cap2, .bool wv] 33)) _ _) at hbx
      generalize w.alloc (.cells #[.int .i64 a, .int .i64 b, .int .i64 p, .int .i64 dp, .slice ad zs.length cap, .slice ad1 zp.length cap1, .slice ad2 ps.length cap2, .bool wv] 33) = w0 at hB0 hbx hGI ⊢
      refine (unhide hGI).mono ?_
      rintro e w1 ⟨rfl, hu⟩
      replace hbx := hide ((unhide hbx).keep hu)
      replace hB0 := hide (below_upd (unhide hB0) hu (Nat.le_refl _) (.inr (Nat.le_refl _)))
      clear hu
      have hC := implGoodPalette _ zp _ (a, b, p, dp, zs) w1 hn0 hn1 ((unhide hr1').below (unhide hB0)) ⟨_, rfl, (unhide hr0').below (unhide hB0)⟩
      rw [pB_no hp1] at hC
      replace hC := hide hC
      replace hp1 := hide hp1
      have c0 := (unhide hbx).2 0 _ rfl
      have c1 := (unhide hbx).2 1 _ rfl
      have c2 := (unhide hbx).2 2 _ rfl
      have c3 := (unhide hbx).2 3 _ rfl
      have c4 := (unhide hbx).2 4 _ rfl
      have c5 := (unhide hbx).2 5 _ rfl
      have c6 := (unhide hbx).2 6 _ rfl
      have c7 := (unhide hbx).2 7 _ rfl
      have cl := (unhide hbx).1
      go_wp2_with fail
      clear c0 c1 c2 c3 c4 c5 c6 c7 cl
      refine (unhide hC).mono ?_
      rintro e w2 ⟨rfl, hu⟩
      replace hbx := hide ((unhide hbx).keep hu)
      replace hB0 := hide (below_upd (unhide hB0) hu (Nat.le_refl _) (.inr (Nat.le_refl _)))
      clear hu
      clear hC
      have c0 := (unhide hbx).2 0 _ rfl
      have c1 := (unhide hbx).2 1 _ rfl
      have c2 := (unhide hbx).2 2 _ rfl
      have c3 := (unhide hbx).2 3 _ rfl
      have c4 := (unhide hbx).2 4 _ rfl
      have c5 := (unhide hbx).2 5 _ rfl
      have c6 := (unhide hbx).2 6 _ rfl
      have c7 := (unhide hbx).2 7 _ rfl
      have cl := (unhide hbx).1
      go_wp2
      go_ret
      exact ⟨by rw [unhide hE]; first | rfl | (simp; done) | (simp; omega), Upd.of_below (unhide hB0) 0 0⟩
  · have hE : Hid (pB (GoodSt ((a, b, p, dp, zs), zp, ps, wv)) = false) := hide (pB_no (fun h => hg h.1))
    rw [goodImB_no hg] at hGI
    replace hg := hide hg
    go_enter Tryd.func9, Tryd.ntmps9
    go_wp2_with fail
    change Hid (Held (w.alloc (.cells #[.int .i64 a, .int .i64 b, .int .i64 p, .int .i64 dp, .slice ad zs.length cap, .slice ad1 zp.length cap1, .slice ad2 ps.length cap2, .bool wv] 33)) _ _) at hbx
    generalize w.alloc (.cells #[.int .i64 a, .int .i64 b, .int .i64 p, .int .i64 dp, .slice ad zs.length cap, .slice ad1 zp.length cap1, .slice ad2 ps.length cap2, .bool wv] 33) = w0 at hB0 hbx hGI ⊢
    refine (unhide hGI).mono ?_
    rintro e w1 ⟨rfl, hu⟩
    replace hbx := hide ((unhide hbx).keep hu)
    replace hB0 := hide (below_upd (unhide hB0) hu (Nat.le_refl _) (.inr (Nat.le_refl _)))
    clear hu
    have c0 := (unhide hbx).2 0 _ rfl
    have c1 := (unhide hbx).2 1 _ rfl
    have c2 := (unhide hbx).2 2 _ rfl
    have c3 := (unhide hbx).2 3 _ rfl
    have c4 := (unhide hbx).2 4 _ rfl
    have c5 := (unhide hbx).2 5 _ rfl
    have c6 := (unhide hbx).2 6 _ rfl
    have c7 := (unhide hbx).2 7 _ rfl
    have cl := (unhide hbx).1
    go_wp2
    go_ret
    exact ⟨by rw [unhide hE]; first | rfl | (simp; done) | (simp; omega), Upd.of_below (unhide hB0) 0 0⟩
end Go.Proofs.YthpkngipiapbpaaDoor
