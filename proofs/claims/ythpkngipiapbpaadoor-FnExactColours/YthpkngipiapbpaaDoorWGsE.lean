/- GoodStill, as the specification has it. -/
import Derived.Test.YthpkngipiapbpaaDoorWGsC
import Derived.Test.YthpkngipiapbpaaDoorWGiA
namespace Go.Proofs.YthpkngipiapbpaaDoor
open Go.RowKit

theorem depth_bd {dp : Int} (h : depthOk dp = true) : 1 ≤ dp ∧ dp ≤ 16 := by
  rcases depthOk_cases h with e | e | e | e | e <;> subst e <;> omega

set_option maxHeartbeats 8000000 in
set_option maxRecDepth 1000000 in
theorem specGoodStill (v : Value) (d : St) (w : World) (hn : StSize d ≤ 1048576) (hR : InSt d) (hv : RdSt w v d) :
    Calls Tryd.prog 7 #[v] w fun e w' => e = .returned (.bool (pB (GoodSt d))) ∧ Upd 0 0 w w' := by
  obtain ⟨l0, l1, l2, rfl, hr0, hr1, hr2⟩ := hv
  obtain ⟨⟨a, b, p, dp, zs⟩, zp, ps, wv⟩ := d
  simp only [Stv, StSize] at hn ⊢
  obtain ⟨hRi, _, _⟩ := hR
  change RdI w l0 zs at hr0
  change RdI w l1 zp at hr1
  change RdNt w l2 ps at hr2
  change InIm (a, b, p, dp, zs) at hRi
  have hn0 : zs.length ≤ 1048576 := by omega
  have hn1 : zp.length ≤ 1048576 := by omega
  have hn2 : ntSize ps ≤ 1048576 := by omega
  have hn3 : ps.length ≤ 1048576 := by unfold ntSize at hn2; omega
  have hEach : Hid (∀ k, k < ps.length → (ps.getD k Nt0).1.size ≤ 1048576 ∧ (ps.getD k Nt0).2.size ≤ 1048576) := hide (fun k hk => by
    have h1 := ntTo_succ ps k hk
    have h2 := ntTo_le ps (k + 1)
    unfold ntSize at hn2; omega)
  have hr0' := hide hr0
  have hr1' := hide hr1
  have hr2' := hide hr2
  obtain ⟨ad, cap, rfl, hA0⟩ := hr0
  obtain ⟨ad1, cap1, rfl, hA1⟩ := hr1
  obtain ⟨ad2, cap2, rfl, hA2⟩ := hr2
  replace hA0 := hide hA0
  replace hA1 := hide hA1
  replace hA2 := hide hA2
  clear hn hn2
  have hB0 := (Below.refl w.heap.size w).alloc (Nat.le_refl _) (.cells #[.int .i64 a, .int .i64 b, .int .i64 p, .int .i64 dp, .slice ad zs.length cap, .slice ad1 zp.length cap1, .slice ad2 ps.length cap2, .bool wv] 33)
  have hbx := hide (held_new w [.int .i64 a, .int .i64 b, .int .i64 p, .int .i64 dp, .slice ad zs.length cap, .slice ad1 zp.length cap1, .slice ad2 ps.length cap2, .bool wv] 33)
  have hGI := hide (specGoodImage _ (a, b, p, dp, zs) _ hn0 hRi ⟨_, rfl, (unhide hr0').below hB0⟩)
  replace hB0 := hide hB0
  replace hRi := hide hRi
  by_cases hg : GoodIm (a, b, p, dp, zs)
  · rw [goodImB_yes hg] at hGI
    by_cases hc : ColOk zp
    · by_cases h20 : ps.length ≤ 20
      · obtain ⟨⟨ha, hb, hab, hp, hdp, hpd⟩, hl, hsmp⟩ := id hg
        replace hdp := depth_bd hdp
        replace hl := hide hl
        replace hab := hide hab
        replace hsmp := hide hsmp
        obtain ⟨T, hT⟩ : ∃ T, totTo (sidesOf a b wv) p dp (sidesOf a b wv).length = T := ⟨_, rfl⟩
        have hTT : Hid (totOf (a, b, p, dp, zs) wv = T) := hide hT
        have hTot := hide (fun W => specL5Total a b p dp _ ad zs.length cap wv W rfl ha hb hp hdp T hT)
        replace hT := hide hT
        replace hg := hide hg
        by_cases hz : 0 < zp.length
        · by_cases hp1 : p = 1
          · by_cases hd8 : dp ≤ 8
            · subst hp1
              have hBadS : Hid (∀ k, k < zs.length → ¬ (zs.getD k 0 < (zp.length : Int)) → pB (GoodSt ((a, b, 1, dp, zs), zp, ps, wv)) = false) := hide (fun k hk hb' => pB_no (fun h => hb' ((h.2.2.1 hz).2.2 k hk)))
              go_enter Tryd.func7, Tryd.ntmps7
              go_wp2_with fail
              change Hid (Held (w.alloc (.cells #[.int .i64 a, .int .i64 b, .int .i64 1, .int .i64 dp, .slice ad zs.length cap, .slice ad1 zp.length cap1, .slice ad2 ps.length cap2, .bool wv] 33)) _ _) at hbx
              generalize w.alloc (.cells #[.int .i64 a, .int .i64 b, .int .i64 1, .int .i64 dp, .slice ad zs.length cap, .slice ad1 zp.length cap1, .slice ad2 ps.length cap2, .bool wv] 33) = w0 at hB0 hbx hGI ⊢
              refine (unhide hGI).mono ?_
              rintro e w1 ⟨rfl, hu⟩
              replace hbx := hide ((unhide hbx).keep hu)
              replace hB0 := hide (below_upd (unhide hB0) hu (Nat.le_refl _) (.inr (Nat.le_refl _)))
              clear hu
              have c0 := (unhide hbx).2 0 _ rfl
              have c1 := (unhide hbx).2 1 _ rfl
              have c2 := (unhide hbx).2 2 _ rfl
              have c3 := (unhide hbx).2 3 _ rfl
              have c4 := (unhide hbx).2 4 _ rfl
              have c5 := (unhide hbx).2 5 _ rfl
              have c6 := (unhide hbx).2 6 _ rfl
              have c7 := (unhide hbx).2 7 _ rfl
              have cl := (unhide hbx).1
              have hC := hide (specL5Colours _ zp w1 hn1 ((unhide hr1').below (unhide hB0)))
              rw [pB_yes hc] at hC
              replace hc := hide hc
              go_wp2_with fail
              refine (unhide hC).mono ?_
              rintro e w2 ⟨rfl, hw⟩
              subst w2
              go_wp2_with fail
              go_loop [41] (fun i => ∃ k : Nat, k ≤ zs.length ∧ i = .int .i64 k ∧ Hid (∀ j, j < k → zs.getD j 0 < (zp.length : Int))) (fun i => zs.length - (intOf i).toNat)
              case atStart => exact ⟨0, Nat.zero_le _, rfl, fun j hj => by omega⟩
              case round =>
                obtain ⟨k, hk', rfl, hok⟩ := hrel
                by_cases hlt : k < zs.length
                · obtain ⟨b', off', rfl, hbl, hcl⟩ := ((unhide hA0).below (unhide hB0)) (ne_of_lt_length hlt)
                  have hck := hcl k hlt
                  have hbad := hide (unhide hBadS k hlt)
                  have hOk : Hid (zs.getD k 0 < (zp.length : Int) → ∀ j, j < k + 1 → zs.getD j 0 < (zp.length : Int)) := hide (fun h j hj => by
                    rcases Nat.lt_or_eq_of_le (Nat.le_of_lt_succ hj) with h' | h'
                    · exact unhide hok j h'
                    · subst h'; exact h)
                  clear hcl hbl
                  generalize zs.getD k 0 = x at hck hbad hOk
                  by_cases h1 : x < (zp.length : Int)
                  · have hok2 := hide (unhide hOk h1)
                    have h2 : ¬ ((zp.length : Int) ≤ x) := by omega
                    clear hbad hOk
                    go_wp2
                    go_round
                    case rel => exact ⟨k + 1, by omega, by go_num, unhide hok2⟩
                    case measure => simp [intOf]; omega
                  · have hE := hide (unhide hbad (by omega))
                    have h2 : (zp.length : Int) ≤ x := by omega
                    clear hbad hOk
                    go_wp2
                    go_ret
                    exact ⟨by rw [unhide hE]; rfl, Upd.of_below (unhide hB0) 0 0⟩
                · have hkl : k = zs.length := by omega
                  subst hkl
                  go_wp2_with fail
                  have hBad : Hid (∀ k, k < ps.length → ¬ NoteOk (ps.getD k Nt0) → pB (GoodSt ((a, b, 1, dp, zs), zp, ps, wv)) = false) := hide (fun k hk hb' => pB_no (fun h => hb' (h.2.2.2.1.2 k hk)))
                  have hGood : Hid ((∀ k, k < ps.length → NoteOk (ps.getD k Nt0)) → T ≤ 6000 → pB (GoodSt ((a, b, 1, dp, zs), zp, ps, wv)) = true) := hide (fun h1 h2 => pB_yes ⟨unhide hg, unhide hc, fun _ => ⟨rfl, hd8, unhide hok⟩, ⟨h20, h1⟩, by rw [unhide hTT]; exact h2⟩)
                  have hFar : Hid (¬ T ≤ 6000 → pB (GoodSt ((a, b, 1, dp, zs), zp, ps, wv)) = false) := hide (fun h2 => pB_no (fun h => h2 (by rw [← unhide hTT]; exact h.2.2.2.2)))
                  go_loopw [54] (fun i wx => ∃ k : Nat, k ≤ ps.length ∧ i = .int .i64 k ∧ Hid (∀ j, j < k → NoteOk (ps.getD j Nt0)) ∧ Below w1.heap.size w1 wx) (fun i _ => ps.length - (intOf i).toNat)
                  case atStart => exact ⟨0, Nat.zero_le _, rfl, fun j hj => by omega, Below.refl _ _⟩
                  case round =>
                    clear c0 c1 c2 c3 c4 c5 c6 c7 cl
                    obtain ⟨k, hk, rfl, hok, hbel⟩ := hrel
                    have hbx2 := (unhide hbx).upd (Upd.of_below hbel 0 0) (.inr (Nat.zero_le _))
                    have c0 := hbx2.2 0 _ rfl
                    have c1 := hbx2.2 1 _ rfl
                    have c2 := hbx2.2 2 _ rfl
                    have c3 := hbx2.2 3 _ rfl
                    have c4 := hbx2.2 4 _ rfl
                    have c5 := hbx2.2 5 _ rfl
                    have c6 := hbx2.2 6 _ rfl
                    have c7 := hbx2.2 7 _ rfl
                    have cl := hbx2.1
                    clear hbx2
                    have hB2 := hide (below_upd (unhide hB0) (Upd.of_below hbel 0 0) (Nat.le_refl _) (.inr (Nat.le_refl _)))
                    by_cases hlt : k < ps.length
                    · obtain ⟨b', off', rfl, hbl, hcc⟩ := ((unhide hA2).below (unhide hB2)) (ne_of_lt_length hlt)
                      obtain ⟨d0, d1⟩ := hcc k hlt
                      obtain ⟨z0, z1⟩ := unhide hEach k hlt
                      have hbad := hide (unhide hBad k hlt)
                      have hOk : Hid (NoteOk (ps.getD k Nt0) → ∀ j, j < k + 1 → NoteOk (ps.getD j Nt0)) := hide (fun h j hj => by
                        rcases Nat.lt_or_eq_of_le (Nat.le_of_lt_succ hj) with h' | h'
                        · exact unhide hok j h'
                        · subst h'; exact h)
                      clear hcc hbl hok
                      generalize ps.getD k Nt0 = f at d0 d1 z0 z1 hbad hOk
                      have hNt := hide (fun W => specL5Note f W z0 z1)
                      obtain ⟨s, t⟩ := f
                      simp only at d0 d1 z0 z1
                      have hb2 := hide (hbel.alloc hbel.size (.cells #[.string s, .string t] 58))
                      have hb3 := hide ((unhide hB2).alloc (unhide hB2).size (.cells #[.string s, .string t] 58))
                      by_cases cn : NoteOk (s, t)
                      · have hok2 := hide (unhide hOk cn)
                        rw [pB_yes cn] at hNt
                        replace cn := hide cn
                        clear hbad hOk hbel
                        go_wp2_with fail
                        refine (unhide hNt _).mono ?_
                        rintro e w3 ⟨rfl, hu3⟩
                        have hb4 := hide (below_upd (unhide hb2) hu3 (Nat.le_refl _) (.inr (Nat.le_refl _)))
                        clear hu3 hb2 hb3
                        go_wp2
                        go_roundw
                        case rel => exact ⟨k + 1, by omega, by go_num, unhide hok2, unhide hb4⟩
                        case measure => simp [intOf]; omega
                      · have hE := hide (unhide hbad cn)
                        rw [pB_no cn] at hNt
                        replace cn := hide cn
                        clear hbad hOk hbel
                        go_wp2_with fail
                        refine (unhide hNt _).mono ?_
                        rintro e w3 ⟨rfl, hu3⟩
                        have hb4 := hide (below_upd (unhide hb3) hu3 (Nat.le_refl _) (.inr (Nat.le_refl _)))
                        clear hu3 hb2 hb3
                        go_wp2
                        go_ret
                        exact ⟨by rw [unhide hE]; rfl, Upd.of_below (unhide hb4) 0 0⟩
                    · have hkl : k = ps.length := by omega
                      subst hkl
                      have hg2 := hide (unhide hGood (unhide hok))
                      replace hbel := hide hbel
                      by_cases h6 : T ≤ 6000
                      · have hE := hide (unhide hg2 h6)
                        go_wp2_with fail
                        refine (unhide hTot _).mono ?_
                        rintro e w3 ⟨rfl, hu3⟩
                        have hb4 := hide (below_upd (unhide hB2) hu3 (Nat.le_refl _) (.inr (Nat.le_refl _)))
                        clear hu3
                        go_wp2
                        go_ret
                        exact ⟨by rw [unhide hE]; first | rfl | (simp; omega), Upd.of_below (unhide hb4) 0 0⟩
                      · have hE := hide (unhide hFar h6)
                        go_wp2_with fail
                        refine (unhide hTot _).mono ?_
                        rintro e w3 ⟨rfl, hu3⟩
                        have hb4 := hide (below_upd (unhide hB2) hu3 (Nat.le_refl _) (.inr (Nat.le_refl _)))
                        clear hu3
                        go_wp2
                        go_ret
                        exact ⟨by rw [unhide hE]; first | rfl | (simp; omega), Upd.of_below (unhide hb4) 0 0⟩
            · have hE := hide (pB_no (p := GoodSt ((a, b, p, dp, zs), zp, ps, wv)) (fun h => hd8 ((h.2.2.1 hz).2.1)))
              subst hp1
              have q2 : 8 < dp := by omega
              go_enter Tryd.func7, Tryd.ntmps7
              go_wp2_with fail
              change Hid (Held (w.alloc (.cells #[.int .i64 a, .int .i64 b, .int .i64 1, .int .i64 dp, .slice ad zs.length cap, .slice ad1 zp.length cap1, .slice ad2 ps.length cap2, .bool wv] 33)) _ _) at hbx
              generalize w.alloc (.cells #[.int .i64 a, .int .i64 b, .int .i64 1, .int .i64 dp, .slice ad zs.length cap, .slice ad1 zp.length cap1, .slice ad2 ps.length cap2, .bool wv] 33) = w0 at hB0 hbx hGI ⊢
              refine (unhide hGI).mono ?_
              rintro e w1 ⟨rfl, hu⟩
              replace hbx := hide ((unhide hbx).keep hu)
              replace hB0 := hide (below_upd (unhide hB0) hu (Nat.le_refl _) (.inr (Nat.le_refl _)))
              clear hu
              have c0 := (unhide hbx).2 0 _ rfl
              have c1 := (unhide hbx).2 1 _ rfl
              have c2 := (unhide hbx).2 2 _ rfl
              have c3 := (unhide hbx).2 3 _ rfl
              have c4 := (unhide hbx).2 4 _ rfl
              have c5 := (unhide hbx).2 5 _ rfl
              have c6 := (unhide hbx).2 6 _ rfl
              have c7 := (unhide hbx).2 7 _ rfl
              have cl := (unhide hbx).1
              have hC := hide (specL5Colours _ zp w1 hn1 ((unhide hr1').below (unhide hB0)))
              rw [pB_yes hc] at hC
              replace hc := hide hc
              go_wp2_with fail
              refine (unhide hC).mono ?_
              rintro e w2 ⟨rfl, hw⟩
              subst w2
              go_wp2
              go_ret
              exact ⟨by rw [unhide hE]; first | rfl | (simp; done) | (simp; omega), Upd.of_below (unhide hB0) 0 0⟩
          · have hE := hide (pB_no (p := GoodSt ((a, b, p, dp, zs), zp, ps, wv)) (fun h => hp1 ((h.2.2.1 hz).1)))
            have q1 : (p == 1) = false := beq_eq_false_iff_ne.2 hp1
            replace hp1 := hide hp1
            go_enter Tryd.func7, Tryd.ntmps7
            go_wp2_with fail
            change Hid (Held (w.alloc (.cells #[.int .i64 a, .int .i64 b, .int .i64 p, .int .i64 dp, .slice ad zs.length cap, .slice ad1 zp.length cap1, .slice ad2 ps.length cap2, .bool wv] 33)) _ _) at hbx
            generalize w.alloc (.cells #[.int .i64 a, .int .i64 b, .int .i64 p, .int .i64 dp, .slice ad zs.length cap, .slice ad1 zp.length cap1, .slice ad2 ps.length cap2, .bool wv] 33) = w0 at hB0 hbx hGI ⊢
            refine (unhide hGI).mono ?_
            rintro e w1 ⟨rfl, hu⟩
            replace hbx := hide ((unhide hbx).keep hu)
            replace hB0 := hide (below_upd (unhide hB0) hu (Nat.le_refl _) (.inr (Nat.le_refl _)))
            clear hu
            have c0 := (unhide hbx).2 0 _ rfl
            have c1 := (unhide hbx).2 1 _ rfl
            have c2 := (unhide hbx).2 2 _ rfl
            have c3 := (unhide hbx).2 3 _ rfl
            have c4 := (unhide hbx).2 4 _ rfl
            have c5 := (unhide hbx).2 5 _ rfl
            have c6 := (unhide hbx).2 6 _ rfl
            have c7 := (unhide hbx).2 7 _ rfl
            have cl := (unhide hbx).1
            have hC := hide (specL5Colours _ zp w1 hn1 ((unhide hr1').below (unhide hB0)))
            rw [pB_yes hc] at hC
            replace hc := hide hc
            go_wp2_with fail
            refine (unhide hC).mono ?_
            rintro e w2 ⟨rfl, hw⟩
            subst w2
            go_wp2
            go_ret
            exact ⟨by rw [unhide hE]; first | rfl | (simp; done) | (simp; omega), Upd.of_below (unhide hB0) 0 0⟩
        · have q0 : decide ((0 : Int) < (zp.length : Int)) = false := decide_eq_false (by omega)
          have q0n : decide (0 < zp.length) = false := decide_eq_false hz
          have hz0 : Hid (¬ 0 < zp.length) := hide hz
          clear hz
          go_enter Tryd.func7, Tryd.ntmps7
          go_wp2_with fail
          change Hid (Held (w.alloc (.cells #[.int .i64 a, .int .i64 b, .int .i64 p, .int .i64 dp, .slice ad zs.length cap, .slice ad1 zp.length cap1, .slice ad2 ps.length cap2, .bool wv] 33)) _ _) at hbx
          generalize w.alloc (.cells #[.int .i64 a, .int .i64 b, .int .i64 p, .int .i64 dp, .slice ad zs.length cap, .slice ad1 zp.length cap1, .slice ad2 ps.length cap2, .bool wv] 33) = w0 at hB0 hbx hGI ⊢
          refine (unhide hGI).mono ?_
          rintro e w1 ⟨rfl, hu⟩
          replace hbx := hide ((unhide hbx).keep hu)
          replace hB0 := hide (below_upd (unhide hB0) hu (Nat.le_refl _) (.inr (Nat.le_refl _)))
          clear hu
          have c0 := (unhide hbx).2 0 _ rfl
          have c1 := (unhide hbx).2 1 _ rfl
          have c2 := (unhide hbx).2 2 _ rfl
          have c3 := (unhide hbx).2 3 _ rfl
          have c4 := (unhide hbx).2 4 _ rfl
          have c5 := (unhide hbx).2 5 _ rfl
          have c6 := (unhide hbx).2 6 _ rfl
          have c7 := (unhide hbx).2 7 _ rfl
          have cl := (unhide hbx).1
          have hC := hide (specL5Colours _ zp w1 hn1 ((unhide hr1').below (unhide hB0)))
          rw [pB_yes hc] at hC
          replace hc := hide hc
          go_wp2_with fail
          refine (unhide hC).mono ?_
          rintro e w2 ⟨rfl, hw⟩
          subst w2
          go_wp2_with fail
          have hBad : Hid (∀ k, k < ps.length → ¬ NoteOk (ps.getD k Nt0) → pB (GoodSt ((a, b, p, dp, zs), zp, ps, wv)) = false) := hide (fun k hk hb' => pB_no (fun h => hb' (h.2.2.2.1.2 k hk)))
          have hGood : Hid ((∀ k, k < ps.length → NoteOk (ps.getD k Nt0)) → T ≤ 6000 → pB (GoodSt ((a, b, p, dp, zs), zp, ps, wv)) = true) := hide (fun h1 h2 => pB_yes ⟨unhide hg, unhide hc, fun h => absurd h (unhide hz0), ⟨h20, h1⟩, by rw [unhide hTT]; exact h2⟩)
          have hFar : Hid (¬ T ≤ 6000 → pB (GoodSt ((a, b, p, dp, zs), zp, ps, wv)) = false) := hide (fun h2 => pB_no (fun h => h2 (by rw [← unhide hTT]; exact h.2.2.2.2)))
          go_loopw [54] (fun i wx => ∃ k : Nat, k ≤ ps.length ∧ i = .int .i64 k ∧ Hid (∀ j, j < k → NoteOk (ps.getD j Nt0)) ∧ Below w1.heap.size w1 wx) (fun i _ => ps.length - (intOf i).toNat)
          case atStart => exact ⟨0, Nat.zero_le _, rfl, fun j hj => by omega, Below.refl _ _⟩
          case round =>
            clear c0 c1 c2 c3 c4 c5 c6 c7 cl
            obtain ⟨k, hk, rfl, hok, hbel⟩ := hrel
            have hbx2 := (unhide hbx).upd (Upd.of_below hbel 0 0) (.inr (Nat.zero_le _))
            have c0 := hbx2.2 0 _ rfl
            have c1 := hbx2.2 1 _ rfl
            have c2 := hbx2.2 2 _ rfl
            have c3 := hbx2.2 3 _ rfl
            have c4 := hbx2.2 4 _ rfl
            have c5 := hbx2.2 5 _ rfl
            have c6 := hbx2.2 6 _ rfl
            have c7 := hbx2.2 7 _ rfl
            have cl := hbx2.1
            clear hbx2
            have hB2 := hide (below_upd (unhide hB0) (Upd.of_below hbel 0 0) (Nat.le_refl _) (.inr (Nat.le_refl _)))
            by_cases hlt : k < ps.length
            · obtain ⟨b', off', rfl, hbl, hcc⟩ := ((unhide hA2).below (unhide hB2)) (ne_of_lt_length hlt)
              obtain ⟨d0, d1⟩ := hcc k hlt
              obtain ⟨z0, z1⟩ := unhide hEach k hlt
              have hbad := hide (unhide hBad k hlt)
              have hOk : Hid (NoteOk (ps.getD k Nt0) → ∀ j, j < k + 1 → NoteOk (ps.getD j Nt0)) := hide (fun h j hj => by
                rcases Nat.lt_or_eq_of_le (Nat.le_of_lt_succ hj) with h' | h'
                · exact unhide hok j h'
                · subst h'; exact h)
              clear hcc hbl hok
              generalize ps.getD k Nt0 = f at d0 d1 z0 z1 hbad hOk
              have hNt := hide (fun W => specL5Note f W z0 z1)
              obtain ⟨s, t⟩ := f
              simp only at d0 d1 z0 z1
              have hb2 := hide (hbel.alloc hbel.size (.cells #[.string s, .string t] 58))
              have hb3 := hide ((unhide hB2).alloc (unhide hB2).size (.cells #[.string s, .string t] 58))
              by_cases cn : NoteOk (s, t)
              · have hok2 := hide (unhide hOk cn)
                rw [pB_yes cn] at hNt
                replace cn := hide cn
                clear hbad hOk hbel
                go_wp2_with fail
                refine (unhide hNt _).mono ?_
                rintro e w3 ⟨rfl, hu3⟩
                have hb4 := hide (below_upd (unhide hb2) hu3 (Nat.le_refl _) (.inr (Nat.le_refl _)))
                clear hu3 hb2 hb3
                go_wp2
                go_roundw
                case rel => exact ⟨k + 1, by omega, by go_num, unhide hok2, unhide hb4⟩
                case measure => simp [intOf]; omega
              · have hE := hide (unhide hbad cn)
                rw [pB_no cn] at hNt
                replace cn := hide cn
                clear hbad hOk hbel
                go_wp2_with fail
                refine (unhide hNt _).mono ?_
                rintro e w3 ⟨rfl, hu3⟩
                have hb4 := hide (below_upd (unhide hb3) hu3 (Nat.le_refl _) (.inr (Nat.le_refl _)))
                clear hu3 hb2 hb3
                go_wp2
                go_ret
                exact ⟨by rw [unhide hE]; rfl, Upd.of_below (unhide hb4) 0 0⟩
            · have hkl : k = ps.length := by omega
              subst hkl
              have hg2 := hide (unhide hGood (unhide hok))
              replace hbel := hide hbel
              by_cases h6 : T ≤ 6000
              · have hE := hide (unhide hg2 h6)
                go_wp2_with fail
                refine (unhide hTot _).mono ?_
                rintro e w3 ⟨rfl, hu3⟩
                have hb4 := hide (below_upd (unhide hB2) hu3 (Nat.le_refl _) (.inr (Nat.le_refl _)))
                clear hu3
                go_wp2
                go_ret
                exact ⟨by rw [unhide hE]; first | rfl | (simp; omega), Upd.of_below (unhide hb4) 0 0⟩
              · have hE := hide (unhide hFar h6)
                go_wp2_with fail
                refine (unhide hTot _).mono ?_
                rintro e w3 ⟨rfl, hu3⟩
                have hb4 := hide (below_upd (unhide hB2) hu3 (Nat.le_refl _) (.inr (Nat.le_refl _)))
                clear hu3
                go_wp2
                go_ret
                exact ⟨by rw [unhide hE]; first | rfl | (simp; omega), Upd.of_below (unhide hb4) 0 0⟩
      · have hE := hide (pB_no (p := GoodSt ((a, b, p, dp, zs), zp, ps, wv)) (fun h => h20 h.2.2.2.1.1))
        have h21 : 20 < ps.length := by omega
        replace hg := hide hg
        go_enter Tryd.func7, Tryd.ntmps7
        go_wp2_with fail
        change Hid (Held (w.alloc (.cells #[.int .i64 a, .int .i64 b, .int .i64 p, .int .i64 dp, .slice ad zs.length cap, .slice ad1 zp.length cap1, .slice ad2 ps.length cap2, .bool wv] 33)) _ _) at hbx
        generalize w.alloc (.cells #[.int .i64 a, .int .i64 b, .int .i64 p, .int .i64 dp, .slice ad zs.length cap, .slice ad1 zp.length cap1, .slice ad2 ps.length cap2, .bool wv] 33) = w0 at hB0 hbx hGI ⊢
        refine (unhide hGI).mono ?_
        rintro e w1 ⟨rfl, hu⟩
        replace hbx := hide ((unhide hbx).keep hu)
        replace hB0 := hide (below_upd (unhide hB0) hu (Nat.le_refl _) (.inr (Nat.le_refl _)))
        clear hu
        have c0 := (unhide hbx).2 0 _ rfl
        have c1 := (unhide hbx).2 1 _ rfl
        have c2 := (unhide hbx).2 2 _ rfl
        have c3 := (unhide hbx).2 3 _ rfl
        have c4 := (unhide hbx).2 4 _ rfl
        have c5 := (unhide hbx).2 5 _ rfl
        have c6 := (unhide hbx).2 6 _ rfl
        have c7 := (unhide hbx).2 7 _ rfl
        have cl := (unhide hbx).1
        have hC := hide (specL5Colours _ zp w1 hn1 ((unhide hr1').below (unhide hB0)))
        rw [pB_yes hc] at hC
        replace hc := hide hc
        go_wp2_with fail
        refine (unhide hC).mono ?_
        rintro e w2 ⟨rfl, hw⟩
        subst w2
        go_wp2
        go_ret
        exact ⟨by rw [unhide hE]; first | rfl | (simp; done) | (simp; omega), Upd.of_below (unhide hB0) 0 0⟩
    · have hE := hide (pB_no (p := GoodSt ((a, b, p, dp, zs), zp, ps, wv)) (fun h => hc h.2.1))
      replace hg := hide hg
      go_enter Tryd.func7, Tryd.ntmps7
      go_wp2_with fail
      change Hid (Held (w.alloc (.cells #[.int .i64 a, .int .i64 b, .int .i64 p, .int .i64 dp, .slice ad zs.length cap, .slice ad1 zp.length cap1, .slice ad2 ps.length cap2, .bool wv] 33)) _ _) at hbx
      generalize w.alloc (.cells #[.int .i64 a, .int .i64 b, .int .i64 p, .int .i64 dp, .slice ad zs.length cap, .slice ad1 zp.length cap1, .slice ad2 ps.length cap2, .bool wv] 33) = w0 at hB0 hbx hGI ⊢
      refine (unhide hGI).mono ?_
      rintro e w1 ⟨rfl, hu⟩
      replace hbx := hide ((unhide hbx).keep hu)
      replace hB0 := hide (below_upd (unhide hB0) hu (Nat.le_refl _) (.inr (Nat.le_refl _)))
      clear hu
      have c0 := (unhide hbx).2 0 _ rfl
      have c1 := (unhide hbx).2 1 _ rfl
      have c2 := (unhide hbx).2 2 _ rfl
      have c3 := (unhide hbx).2 3 _ rfl
      have c4 := (unhide hbx).2 4 _ rfl
      have c5 := (unhide hbx).2 5 _ rfl
      have c6 := (unhide hbx).2 6 _ rfl
      have c7 := (unhide hbx).2 7 _ rfl
      have cl := (unhide hbx).1
      have hC := hide (specL5Colours _ zp w1 hn1 ((unhide hr1').below (unhide hB0)))
      rw [pB_no hc] at hC
      replace hc := hide hc
      go_wp2_with fail
      refine (unhide hC).mono ?_
      rintro e w2 ⟨rfl, hw⟩
      subst w2
      go_wp2
      go_ret
      exact ⟨by rw [unhide hE]; first | rfl | (simp; done) | (simp; omega), Upd.of_below (unhide hB0) 0 0⟩
  · rw [goodImB_no hg] at hGI
    have hE := hide (pB_no (p := GoodSt ((a, b, p, dp, zs), zp, ps, wv)) (fun h => hg h.1))
    replace hg := hide hg
    go_enter Tryd.func7, Tryd.ntmps7
    go_wp2_with fail
    change Hid (Held (w.alloc (.cells #[.int .i64 a, .int .i64 b, .int .i64 p, .int .i64 dp, .slice ad zs.length cap, .slice ad1 zp.length cap1, .slice ad2 ps.length cap2, .bool wv] 33)) _ _) at hbx
    generalize w.alloc (.cells #[.int .i64 a, .int .i64 b, .int .i64 p, .int .i64 dp, .slice ad zs.length cap, .slice ad1 zp.length cap1, .slice ad2 ps.length cap2, .bool wv] 33) = w0 at hB0 hbx hGI ⊢
    refine (unhide hGI).mono ?_
    rintro e w1 ⟨rfl, hu⟩
    replace hbx := hide ((unhide hbx).keep hu)
    replace hB0 := hide (below_upd (unhide hB0) hu (Nat.le_refl _) (.inr (Nat.le_refl _)))
    clear hu
    have c0 := (unhide hbx).2 0 _ rfl
    have c1 := (unhide hbx).2 1 _ rfl
    have c2 := (unhide hbx).2 2 _ rfl
    have c3 := (unhide hbx).2 3 _ rfl
    have c4 := (unhide hbx).2 4 _ rfl
    have c5 := (unhide hbx).2 5 _ rfl
    have c6 := (unhide hbx).2 6 _ rfl
    have c7 := (unhide hbx).2 7 _ rfl
    have cl := (unhide hbx).1
    go_wp2
    go_ret
    exact ⟨by rw [unhide hE]; first | rfl | (simp; done) | (simp; omega), Upd.of_below (unhide hB0) 0 0⟩
end Go.Proofs.YthpkngipiapbpaaDoor
