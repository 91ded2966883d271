/- Good moving pictures: GoodMoving, as the specification has it. -/
import Derived.Test.YtnfifpngiocbnaaWGmB
import Derived.Test.YtnfifpngiocbnaaWGmC
import Derived.Deep.DeepCutAuto
namespace Go.Proofs.Ytnfifpngiocbnaa
open Go.RowKit

set_option maxHeartbeats 8000000 in
set_option maxRecDepth 1000000 in
theorem specGoodMoving (v : Value) (d : Mv) (w : World) (hn : MvSize d ≤ 1048576) (hR : InMv d) (hv : RdMv w v d) :
    Calls Try.prog 21 #[v] w fun e w' => e = .returned (.bool (mB (GoodMv d))) ∧ Upd 0 0 w w' := by
  obtain ⟨l0, l1, rfl, hr0, hr1⟩ := hv
  obtain ⟨a, b, zs, l, fs⟩ := d
  simp only [Mvv, MvSize] at hn ⊢
  change RdI w l0 zs at hr0
  change RdFs w l1 fs at hr1
  have hRF : Hid (InFs fs) := hide hR.2.2.2.2
  have hn0 : zs.length ≤ 1048576 := by omega
  have hn1 : sizeFs fs ≤ 1048576 := by omega
  have hn2 : fs.length ≤ 1048576 := by unfold sizeFs at hn1; omega
  have hn3 : Hid (szToFs fs fs.length ≤ 1048576) := hide (by unfold sizeFs at hn1; omega)
  have hEach : Hid (∀ k, k < fs.length → (Fss (fs.getD k Fr0)).length ≤ 1048576) := hide (fun k hk => by have h1 := size1Fs_le fs k hk; have h2 := unhide hn3; unfold size1Fs at h1; omega)
  obtain ⟨adp, cpp, rfl, hA0⟩ := hr0
  obtain ⟨adf, cpf, rfl, hAf⟩ := hr1
  replace hAf := hide hAf
  have hB0 := (Below.refl w.heap.size w).alloc (Nat.le_refl _) (.cells #[.int .i64 a, .int .i64 b, .slice adp zs.length cpp, .int .i64 l, .slice adf fs.length cpf] 35)
  have hbx := held_new w [.int .i64 a, .int .i64 b, .slice adp zs.length cpp, .int .i64 l, .slice adf fs.length cpf] 35
  have hH := hide (specL6Head a b l adp adf cpp fs.length cpf zs _ hn0 (RdI.below ⟨adp, cpp, rfl, hA0⟩ hB0))
  replace hB0 := hide hB0
  replace hbx := hide hbx
  clear hA0 hR hn hn1

  by_cases hh : HeadOk a b zs l
  case neg =>
    rw [mB_no (fun h => hh h.1)]
    rw [mB_no hh] at hH
    clear hh
    go_enter Try.func21, Try.ntmps21
    go_wp2_with fail
    change Hid (Held (w.alloc (.cells #[.int .i64 a, .int .i64 b, .slice adp zs.length cpp, .int .i64 l, .slice adf fs.length cpf] 35)) _ _) at hbx
    generalize w.alloc (.cells #[.int .i64 a, .int .i64 b, .slice adp zs.length cpp, .int .i64 l, .slice adf fs.length cpf] 35) = w0 at hB0 hbx hH ⊢
    refine (unhide hH).mono ?_
    rintro e w1 ⟨rfl, hu⟩
    replace hbx := hide ((unhide hbx).keep hu)
    replace hB0 := hide (below_upd (unhide hB0) hu (Nat.le_refl _) (.inr (Nat.le_refl _)))
    clear hu hH
    go_wp2
    go_ret
    exact ⟨by first | rfl | simp, Upd.of_below (unhide hB0) 0 0⟩
  rw [mB_yes hh] at hH
  have hh2 := hide hh
  obtain ⟨⟨ha, hb, hab⟩, hlg, hcol, hl⟩ := hh
  clear hcol hl hlg hab
  by_cases hl1 : 1 ≤ fs.length
  case neg =>
    rw [mB_no (fun h => hl1 h.2.1.1)]
    go_enter Try.func21, Try.ntmps21
    go_wp2_with fail
    change Hid (Held (w.alloc (.cells #[.int .i64 a, .int .i64 b, .slice adp zs.length cpp, .int .i64 l, .slice adf fs.length cpf] 35)) _ _) at hbx
    generalize w.alloc (.cells #[.int .i64 a, .int .i64 b, .slice adp zs.length cpp, .int .i64 l, .slice adf fs.length cpf] 35) = w0 at hB0 hbx hH ⊢
    refine (unhide hH).mono ?_
    rintro e w1 ⟨rfl, hu⟩
    replace hbx := hide ((unhide hbx).keep hu)
    replace hB0 := hide (below_upd (unhide hB0) hu (Nat.le_refl _) (.inr (Nat.le_refl _)))
    clear hu hH
    have c0 := (unhide hbx).2 0 _ rfl
    have c1 := (unhide hbx).2 1 _ rfl
    have c2 := (unhide hbx).2 2 _ rfl
    have c3 := (unhide hbx).2 3 _ rfl
    have c4 := (unhide hbx).2 4 _ rfl
    have cl := (unhide hbx).1
    go_wp2
    go_ret
    exact ⟨by first | rfl | simp, Upd.of_below (unhide hB0) 0 0⟩
  by_cases hl2 : fs.length ≤ 40
  case neg =>
    rw [mB_no (fun h => hl2 h.2.1.2)]
    go_enter Try.func21, Try.ntmps21
    go_wp2_with fail
    change Hid (Held (w.alloc (.cells #[.int .i64 a, .int .i64 b, .slice adp zs.length cpp, .int .i64 l, .slice adf fs.length cpf] 35)) _ _) at hbx
    generalize w.alloc (.cells #[.int .i64 a, .int .i64 b, .slice adp zs.length cpp, .int .i64 l, .slice adf fs.length cpf] 35) = w0 at hB0 hbx hH ⊢
    refine (unhide hH).mono ?_
    rintro e w1 ⟨rfl, hu⟩
    replace hbx := hide ((unhide hbx).keep hu)
    replace hB0 := hide (below_upd (unhide hB0) hu (Nat.le_refl _) (.inr (Nat.le_refl _)))
    clear hu hH
    have c0 := (unhide hbx).2 0 _ rfl
    have c1 := (unhide hbx).2 1 _ rfl
    have c2 := (unhide hbx).2 2 _ rfl
    have c3 := (unhide hbx).2 3 _ rfl
    have c4 := (unhide hbx).2 4 _ rfl
    have cl := (unhide hbx).1
    go_wp2
    go_ret
    exact ⟨by first | rfl | simp, Upd.of_below (unhide hB0) 0 0⟩
  have hNo : Hid (∀ k, k < fs.length → ¬ FrAll a b zs.length (fs.getD k Fr0) → mB (GoodMv (a, b, zs, l, fs)) = false) := hide (fun k hk h => mB_no (fun h' => h (h'.2.2.1 k hk)))
  have hEnd : Hid ((∀ k, k < fs.length → FrAll a b zs.length (fs.getD k Fr0)) → mB (GoodMv (a, b, zs, l, fs)) = decide (((szToFs fs fs.length : Nat) : Int) ≤ 16384)) := hide (fun h => by
    by_cases h4 : szToFs fs fs.length ≤ 16384
    · rw [mB_yes ⟨unhide hh2, ⟨hl1, hl2⟩, h, h4⟩]; simp; omega
    · rw [mB_no (fun h' => h4 h'.2.2.2)]; simp; omega)
  generalize mB (GoodMv (a, b, zs, l, fs)) = R at hNo hEnd ⊢
  go_enter Try.func21, Try.ntmps21
  go_wp2_with fail
  change Hid (Held (w.alloc (.cells #[.int .i64 a, .int .i64 b, .slice adp zs.length cpp, .int .i64 l, .slice adf fs.length cpf] 35)) _ _) at hbx
  generalize w.alloc (.cells #[.int .i64 a, .int .i64 b, .slice adp zs.length cpp, .int .i64 l, .slice adf fs.length cpf] 35) = w0 at hB0 hbx hH ⊢
  refine (unhide hH).mono ?_
  rintro e w1 ⟨rfl, hu⟩
  replace hbx := hide ((unhide hbx).keep hu)
  replace hB0 := hide (below_upd (unhide hB0) hu (Nat.le_refl _) (.inr (Nat.le_refl _)))
  clear hu hH
  have c0 := (unhide hbx).2 0 _ rfl
  have c1 := (unhide hbx).2 1 _ rfl
  have c2 := (unhide hbx).2 2 _ rfl
  have c3 := (unhide hbx).2 3 _ rfl
  have c4 := (unhide hbx).2 4 _ rfl
  have cl := (unhide hbx).1
  go_wp2
  clear c0 c1 c2 c3 c4 cl
  go_loopw [3, 24] (fun s i wr => ∃ k : Nat, k ≤ fs.length ∧ i = .int .i64 k ∧ s = .int .i64 ((szToFs fs k : Nat) : Int) ∧ Hid (∀ j, j < k → FrAll a b zs.length (fs.getD j Fr0)) ∧ Hid (Held wr w.heap.size [.int .i64 a, .int .i64 b, .slice adp zs.length cpp, .int .i64 l, .slice adf fs.length cpf]) ∧ Hid (Below w.heap.size w wr)) (fun _ i _ => fs.length - (intOf i).toNat)
  case atStart => exact ⟨0, Nat.zero_le _, rfl, by simp [szToFs], hide (fun j hj => by omega), hbx, hB0⟩
  case round =>
    clear hbx hB0
    obtain ⟨k, hk, rfl, rfl, hok, hbx, hB0⟩ := hrel
    by_cases hlt : k < fs.length
    · obtain ⟨bb, off, us, rfl, hbl, hc, hru⟩ := ((unhide hAf).below (unhide hB0)) (ne_of_lt_length hlt)
      obtain ⟨d0, d1, d2, d3, d4, d5, d6, d7⟩ := hc k hlt
      have hru2 := hru k hlt
      have hnk := unhide hEach k hlt
      have hin := (unhide hRF).1 k
      have hs := hide (szToFs_succ fs k hlt)
      have hle := hide (szToFs_le fs (k + 1))
      have hno := hide (unhide hNo k hlt)
      have hOk : Hid (FrAll a b zs.length (fs.getD k Fr0) → ∀ j, j < k + 1 → FrAll a b zs.length (fs.getD j Fr0)) := hide (fun h j hj => by
        rcases Nat.lt_or_eq_of_le (Nat.le_of_lt_succ hj) with h' | h'
        · exact unhide hok j h'
        · subst h'; exact h)
      clear hc hru hok
      generalize fs.getD k Fr0 = f at d0 d1 d2 d3 d4 d5 d6 d7 hru2 hnk hin hs hno hOk
      obtain ⟨x0, x1, x2, x3, x4, x5, x6, px⟩ := f
      obtain ⟨uk, huk⟩ : ∃ uk, us k = uk := ⟨_, rfl⟩
      rw [huk] at d7 hru2
      clear huk
      obtain ⟨adx, cpx, rfl, hAx⟩ := hru2
      simp only [Fss] at d0 d1 d2 d3 d4 d5 d6 d7 hnk hAx
      change Hid (szToFs fs (k + 1) = szToFs fs k + px.length) at hs
      obtain ⟨i0, i1, i2, i3, i4, i5, i6, _⟩ := hin
      simp only at i0 i1 i2 i3 i4 i5 i6
      have hBn := (Below.refl wr.heap.size wr).alloc (Nat.le_refl _) (.cells #[.int .i64 x0, .int .i64 x1, .int .i64 x2, .int .i64 x3, .int .i64 x4, .int .i64 x5, .int .i64 x6, .slice adx px.length cpx] 49)
      have hfr := hide (held_new wr [.int .i64 x0, .int .i64 x1, .int .i64 x2, .int .i64 x3, .int .i64 x4, .int .i64 x5, .int .i64 x6, .slice adx px.length cpx] 49)
      have hFc := hide (fun W => specL6Frame a b l x0 x1 x2 x3 x4 x5 x6 adp (some ⟨bb, off, none⟩) adx zs.length cpp fs.length cpf px.length cpx W ha hb hn0 i0.2 i1.2)
      have hPc := hide (fun W h => specL6Pixels a b l adp (some ⟨bb, off, none⟩) zs.length cpp fs.length cpf (.slice adx px.length cpx) px W hn0 hnk h)
      have hu2 := Upd.of_below hBn 0 0
      have hbx2 := hide ((unhide hbx).keep hu2)
      have hB2 := hide (below_upd (unhide hB0) hu2 (Nat.le_refl _) (.inr (Nat.zero_le _)))
      have hrx := hide (show RdI (wr.alloc (.cells #[.int .i64 x0, .int .i64 x1, .int .i64 x2, .int .i64 x3, .int .i64 x4, .int .i64 x5, .int .i64 x6, .slice adx px.length cpx] 49)) (.slice adx px.length cpx) px from RdI.below ⟨adx, cpx, rfl, hAx⟩ hBn)
      have hng := hide (show ∀ h : ¬ FrOk a b zs.length x0 x1 x2 x3 x4 x5 x6, R = false from fun h => unhide hno (fun h' => h h'.1))
      have hnp := hide (show ∀ h : ¬ (px.length : Int) = x2 * x3, R = false from fun h => unhide hno (fun h' => h h'.2.1))
      have hnx := hide (show ∀ h : ¬ PixOk zs.length px, R = false from fun h => unhide hno (fun h' => h h'.2.2))
      have hyes := hide (fun (h1 : FrOk a b zs.length x0 x1 x2 x3 x4 x5 x6) (h2 : (px.length : Int) = x2 * x3) (h3 : PixOk zs.length px) => unhide hOk ⟨h1, h2, h3⟩)
      clear hu2 hBn hAx hbx hB0 hno hOk hnk
      go_upto_region 7 with fail
      change Hid (Held (wr.alloc (.cells #[.int .i64 x0, .int .i64 x1, .int .i64 x2, .int .i64 x3, .int .i64 x4, .int .i64 x5, .int .i64 x6, .slice adx px.length cpx] 49)) wr.heap.size _) at hfr
      generalize wr.alloc (.cells #[.int .i64 x0, .int .i64 x1, .int .i64 x2, .int .i64 x3, .int .i64 x4, .int .i64 x5, .int .i64 x6, .slice adx px.length cpx] 49) = w2 at hbx2 hB2 hrx hfr ⊢
      generalize wr.heap.size = gf at hfr ⊢
      clear d0 d1 d2 d3 d4 d5 d6 d7 hbl
      have hbx := hbx2
      have hB0 := hB2
      clear hbx2 hB2
      by_cases hf : FrOk a b zs.length x0 x1 x2 x3 x4 x5 x6
      case neg =>
        have hRe : R = false := unhide hng hf
        subst hRe
        rw [mB_no hf] at hFc
        clear hf
        have c0 := (unhide hbx).2 0 _ rfl
        have c1 := (unhide hbx).2 1 _ rfl
        have c2 := (unhide hbx).2 2 _ rfl
        have c3 := (unhide hbx).2 3 _ rfl
        have c4 := (unhide hbx).2 4 _ rfl
        have cl := (unhide hbx).1
        have f0 := (unhide hfr).2 0 _ rfl
        have f1 := (unhide hfr).2 1 _ rfl
        have f2 := (unhide hfr).2 2 _ rfl
        have f3 := (unhide hfr).2 3 _ rfl
        have f4 := (unhide hfr).2 4 _ rfl
        have f5 := (unhide hfr).2 5 _ rfl
        have f6 := (unhide hfr).2 6 _ rfl
        have f7 := (unhide hfr).2 7 _ rfl
        have fl := (unhide hfr).1
        go_wp2_with fail
        clear c0 c1 c2 c3 c4 cl
        clear f0 f1 f2 f3 f4 f5 f6 f7 fl
        refine (unhide hFc _).mono ?_
        rintro e w3 ⟨rfl, hu⟩
        replace hbx := hide ((unhide hbx).keep hu)
        replace hfr := hide ((unhide hfr).keep hu)
        replace hrx := hide ((unhide hrx).below (hu.below (Nat.le_refl _) (.inr (Nat.zero_le _))))
        replace hB0 := hide (below_upd (unhide hB0) hu (Nat.le_refl _) (.inr (Nat.zero_le _)))
        clear hu
        have c0 := (unhide hbx).2 0 _ rfl
        have c1 := (unhide hbx).2 1 _ rfl
        have c2 := (unhide hbx).2 2 _ rfl
        have c3 := (unhide hbx).2 3 _ rfl
        have c4 := (unhide hbx).2 4 _ rfl
        have cl := (unhide hbx).1
        have f0 := (unhide hfr).2 0 _ rfl
        have f1 := (unhide hfr).2 1 _ rfl
        have f2 := (unhide hfr).2 2 _ rfl
        have f3 := (unhide hfr).2 3 _ rfl
        have f4 := (unhide hfr).2 4 _ rfl
        have f5 := (unhide hfr).2 5 _ rfl
        have f6 := (unhide hfr).2 6 _ rfl
        have f7 := (unhide hfr).2 7 _ rfl
        have fl := (unhide hfr).1
        go_wp2
        go_ret
        exact ⟨by first | rfl | simp, Upd.of_below (unhide hB0) 0 0⟩
      rw [mB_yes hf] at hFc
      obtain ⟨P, hP, P1, P2⟩ := side_prod (w := x2) (h := x3) (by unfold FrOk at hf; omega) (by unfold FrOk at hf; omega)
      rw [hP] at hnp hyes
      replace hf := hide hf
      by_cases hpl : (px.length : Int) = P
      case neg =>
        have hRe : R = false := unhide hnp hpl
        subst hRe
        have q : ((px.length : Int) != P) = true := bne_iff_ne.2 hpl
        clear hpl
        have c0 := (unhide hbx).2 0 _ rfl
        have c1 := (unhide hbx).2 1 _ rfl
        have c2 := (unhide hbx).2 2 _ rfl
        have c3 := (unhide hbx).2 3 _ rfl
        have c4 := (unhide hbx).2 4 _ rfl
        have cl := (unhide hbx).1
        have f0 := (unhide hfr).2 0 _ rfl
        have f1 := (unhide hfr).2 1 _ rfl
        have f2 := (unhide hfr).2 2 _ rfl
        have f3 := (unhide hfr).2 3 _ rfl
        have f4 := (unhide hfr).2 4 _ rfl
        have f5 := (unhide hfr).2 5 _ rfl
        have f6 := (unhide hfr).2 6 _ rfl
        have f7 := (unhide hfr).2 7 _ rfl
        have fl := (unhide hfr).1
        go_wp2_with fail
        clear c0 c1 c2 c3 c4 cl
        clear f0 f1 f2 f3 f4 f5 f6 f7 fl
        refine (unhide hFc _).mono ?_
        rintro e w3 ⟨rfl, hu⟩
        replace hbx := hide ((unhide hbx).keep hu)
        replace hfr := hide ((unhide hfr).keep hu)
        replace hrx := hide ((unhide hrx).below (hu.below (Nat.le_refl _) (.inr (Nat.zero_le _))))
        replace hB0 := hide (below_upd (unhide hB0) hu (Nat.le_refl _) (.inr (Nat.zero_le _)))
        clear hu
        have c0 := (unhide hbx).2 0 _ rfl
        have c1 := (unhide hbx).2 1 _ rfl
        have c2 := (unhide hbx).2 2 _ rfl
        have c3 := (unhide hbx).2 3 _ rfl
        have c4 := (unhide hbx).2 4 _ rfl
        have cl := (unhide hbx).1
        have f0 := (unhide hfr).2 0 _ rfl
        have f1 := (unhide hfr).2 1 _ rfl
        have f2 := (unhide hfr).2 2 _ rfl
        have f3 := (unhide hfr).2 3 _ rfl
        have f4 := (unhide hfr).2 4 _ rfl
        have f5 := (unhide hfr).2 5 _ rfl
        have f6 := (unhide hfr).2 6 _ rfl
        have f7 := (unhide hfr).2 7 _ rfl
        have fl := (unhide hfr).1
        go_wp2
        go_ret
        exact ⟨by first | rfl | simp, Upd.of_below (unhide hB0) 0 0⟩
      by_cases hpx : PixOk zs.length px
      case neg =>
        have hRe : R = false := unhide hnx hpx
        subst hRe
        rw [mB_no hpx] at hPc
        have q : ((px.length : Int) == P) = true := beq_iff_eq.2 hpl
        clear hpx
        replace hpl := hide hpl
        have c0 := (unhide hbx).2 0 _ rfl
        have c1 := (unhide hbx).2 1 _ rfl
        have c2 := (unhide hbx).2 2 _ rfl
        have c3 := (unhide hbx).2 3 _ rfl
        have c4 := (unhide hbx).2 4 _ rfl
        have cl := (unhide hbx).1
        have f0 := (unhide hfr).2 0 _ rfl
        have f1 := (unhide hfr).2 1 _ rfl
        have f2 := (unhide hfr).2 2 _ rfl
        have f3 := (unhide hfr).2 3 _ rfl
        have f4 := (unhide hfr).2 4 _ rfl
        have f5 := (unhide hfr).2 5 _ rfl
        have f6 := (unhide hfr).2 6 _ rfl
        have f7 := (unhide hfr).2 7 _ rfl
        have fl := (unhide hfr).1
        go_wp2_with fail
        clear c0 c1 c2 c3 c4 cl
        clear f0 f1 f2 f3 f4 f5 f6 f7 fl
        refine (unhide hFc _).mono ?_
        rintro e w3 ⟨rfl, hu⟩
        replace hbx := hide ((unhide hbx).keep hu)
        replace hfr := hide ((unhide hfr).keep hu)
        replace hrx := hide ((unhide hrx).below (hu.below (Nat.le_refl _) (.inr (Nat.zero_le _))))
        replace hB0 := hide (below_upd (unhide hB0) hu (Nat.le_refl _) (.inr (Nat.zero_le _)))
        clear hu
        have c0 := (unhide hbx).2 0 _ rfl
        have c1 := (unhide hbx).2 1 _ rfl
        have c2 := (unhide hbx).2 2 _ rfl
        have c3 := (unhide hbx).2 3 _ rfl
        have c4 := (unhide hbx).2 4 _ rfl
        have cl := (unhide hbx).1
        have f0 := (unhide hfr).2 0 _ rfl
        have f1 := (unhide hfr).2 1 _ rfl
        have f2 := (unhide hfr).2 2 _ rfl
        have f3 := (unhide hfr).2 3 _ rfl
        have f4 := (unhide hfr).2 4 _ rfl
        have f5 := (unhide hfr).2 5 _ rfl
        have f6 := (unhide hfr).2 6 _ rfl
        have f7 := (unhide hfr).2 7 _ rfl
        have fl := (unhide hfr).1
        go_wp2_with fail
        clear c0 c1 c2 c3 c4 cl
        clear f0 f1 f2 f3 f4 f5 f6 f7 fl
        refine (unhide hPc _ (unhide hrx)).mono ?_
        rintro e w4 ⟨rfl, hu⟩
        replace hbx := hide ((unhide hbx).keep hu)
        replace hfr := hide ((unhide hfr).keep hu)
        replace hrx := hide ((unhide hrx).below (hu.below (Nat.le_refl _) (.inr (Nat.zero_le _))))
        replace hB0 := hide (below_upd (unhide hB0) hu (Nat.le_refl _) (.inr (Nat.zero_le _)))
        clear hu
        have c0 := (unhide hbx).2 0 _ rfl
        have c1 := (unhide hbx).2 1 _ rfl
        have c2 := (unhide hbx).2 2 _ rfl
        have c3 := (unhide hbx).2 3 _ rfl
        have c4 := (unhide hbx).2 4 _ rfl
        have cl := (unhide hbx).1
        have f0 := (unhide hfr).2 0 _ rfl
        have f1 := (unhide hfr).2 1 _ rfl
        have f2 := (unhide hfr).2 2 _ rfl
        have f3 := (unhide hfr).2 3 _ rfl
        have f4 := (unhide hfr).2 4 _ rfl
        have f5 := (unhide hfr).2 5 _ rfl
        have f6 := (unhide hfr).2 6 _ rfl
        have f7 := (unhide hfr).2 7 _ rfl
        have fl := (unhide hfr).1
        go_wp2
        go_ret
        exact ⟨by first | rfl | simp, Upd.of_below (unhide hB0) 0 0⟩
      have hok2 := hide (unhide hyes (unhide hf) hpl hpx)
      rw [mB_yes hpx] at hPc
      have q : ((px.length : Int) == P) = true := beq_iff_eq.2 hpl
      clear hpx hyes
      replace hpl := hide hpl
      have hsum : szToFs fs k + px.length ≤ 1048576 := by have := unhide hs; have := unhide hle; have := unhide hn3; omega
      have c0 := (unhide hbx).2 0 _ rfl
      have c1 := (unhide hbx).2 1 _ rfl
      have c2 := (unhide hbx).2 2 _ rfl
      have c3 := (unhide hbx).2 3 _ rfl
      have c4 := (unhide hbx).2 4 _ rfl
      have cl := (unhide hbx).1
      have f0 := (unhide hfr).2 0 _ rfl
      have f1 := (unhide hfr).2 1 _ rfl
      have f2 := (unhide hfr).2 2 _ rfl
      have f3 := (unhide hfr).2 3 _ rfl
      have f4 := (unhide hfr).2 4 _ rfl
      have f5 := (unhide hfr).2 5 _ rfl
      have f6 := (unhide hfr).2 6 _ rfl
      have f7 := (unhide hfr).2 7 _ rfl
      have fl := (unhide hfr).1
      go_wp2_with fail
      clear c0 c1 c2 c3 c4 cl
      clear f0 f1 f2 f3 f4 f5 f6 f7 fl
      refine (unhide hFc _).mono ?_
      rintro e w3 ⟨rfl, hu⟩
      replace hbx := hide ((unhide hbx).keep hu)
      replace hfr := hide ((unhide hfr).keep hu)
      replace hrx := hide ((unhide hrx).below (hu.below (Nat.le_refl _) (.inr (Nat.zero_le _))))
      replace hB0 := hide (below_upd (unhide hB0) hu (Nat.le_refl _) (.inr (Nat.zero_le _)))
      clear hu
      have c0 := (unhide hbx).2 0 _ rfl
      have c1 := (unhide hbx).2 1 _ rfl
      have c2 := (unhide hbx).2 2 _ rfl
      have c3 := (unhide hbx).2 3 _ rfl
      have c4 := (unhide hbx).2 4 _ rfl
      have cl := (unhide hbx).1
      have f0 := (unhide hfr).2 0 _ rfl
      have f1 := (unhide hfr).2 1 _ rfl
      have f2 := (unhide hfr).2 2 _ rfl
      have f3 := (unhide hfr).2 3 _ rfl
      have f4 := (unhide hfr).2 4 _ rfl
      have f5 := (unhide hfr).2 5 _ rfl
      have f6 := (unhide hfr).2 6 _ rfl
      have f7 := (unhide hfr).2 7 _ rfl
      have fl := (unhide hfr).1
      go_wp2_with fail
      clear c0 c1 c2 c3 c4 cl
      clear f0 f1 f2 f3 f4 f5 f6 f7 fl
      refine (unhide hPc _ (unhide hrx)).mono ?_
      rintro e w4 ⟨rfl, hu⟩
      replace hbx := hide ((unhide hbx).keep hu)
      replace hfr := hide ((unhide hfr).keep hu)
      replace hrx := hide ((unhide hrx).below (hu.below (Nat.le_refl _) (.inr (Nat.zero_le _))))
      replace hB0 := hide (below_upd (unhide hB0) hu (Nat.le_refl _) (.inr (Nat.zero_le _)))
      clear hu
      have c0 := (unhide hbx).2 0 _ rfl
      have c1 := (unhide hbx).2 1 _ rfl
      have c2 := (unhide hbx).2 2 _ rfl
      have c3 := (unhide hbx).2 3 _ rfl
      have c4 := (unhide hbx).2 4 _ rfl
      have cl := (unhide hbx).1
      have f0 := (unhide hfr).2 0 _ rfl
      have f1 := (unhide hfr).2 1 _ rfl
      have f2 := (unhide hfr).2 2 _ rfl
      have f3 := (unhide hfr).2 3 _ rfl
      have f4 := (unhide hfr).2 4 _ rfl
      have f5 := (unhide hfr).2 5 _ rfl
      have f6 := (unhide hfr).2 6 _ rfl
      have f7 := (unhide hfr).2 7 _ rfl
      have fl := (unhide hfr).1
      go_wp2
      go_roundw
      case rel => exact ⟨k + 1, by omega, by go_num, by rw [unhide hs]; simp; exact (unhide hpl).symm, hok2, hbx, hB0⟩
      case measure => simp [intOf]; omega
    · have hkl : k = fs.length := by omega
      subst hkl
      have hRe := unhide hEnd (unhide hok)
      subst hRe
      go_wp2
      go_ret
      exact ⟨rfl, Upd.of_below (unhide hB0) 0 0⟩
end Go.Proofs.Ytnfifpngiocbnaa
