/- Good moving pictures: GoodMoving, the program. -/
import Derived.Test.YtnfifpngiocbnaaWGmB
import Derived.Test.YtnfifpngiocbnaaWGmC
import Derived.Test.YtnfifpngiocbnaaWUpd2
import Derived.Deep.DeepCutAuto
namespace Go.Proofs.Ytnfifpngiocbnaa
open Go.RowKit

set_option maxHeartbeats 2000000 in
theorem implGoodPix (v : Value) (zs : List Int) (D n : Nat) (w : World) (hD : D ≤ 8) (hnD : n = 2 ^ D) (hn : zs.length ≤ 1048576) (hv : RdI w v zs) :
    Calls Try.prog 60 #[v, .int .i64 D] w fun e w' => e = .returned (.bool (mB (PixOk n zs))) ∧ w' = w := by
  obtain ⟨ad, cap, rfl, hA⟩ := hv
  replace hA := hide hA
  have hp : (0 : Int) < (2 : Int) ^ D ∧ (2 : Int) ^ D ≤ 65536 := by
    have h1 : 2 ^ D ≤ 2 ^ 16 := Nat.pow_le_pow_right (by omega) (by omega)
    have h2 : 0 < 2 ^ D := Nat.pow_pos (by omega)
    have e : (2 : Int) ^ D = ((2 ^ D : Nat) : Int) := by simp
    rw [e]; generalize 2 ^ D = y at h1 h2; omega
  have hE : (n : Int) = (2 : Int) ^ D := by rw [hnD]; simp
  have hBad : Hid (∀ k, k < zs.length → ¬ (0 ≤ zs.getD k 0 ∧ zs.getD k 0 < 2 ^ D) → mB (PixOk n zs) = false) := hide (fun k hk' hb => mB_no (fun h => hb (by have := h k hk'; rw [hE] at this; exact this)))
  have hGood : Hid ((∀ k, k < zs.length → (0 ≤ zs.getD k 0 ∧ zs.getD k 0 < 2 ^ D)) → mB (PixOk n zs) = true) := hide (fun h => mB_yes (fun j hj => by rw [hE]; exact h j hj))
  clear hnD hE
  go_enter Try.func60, Try.ntmps60
  go_wp2
  go_loop [9] (fun i => ∃ k : Nat, k ≤ zs.length ∧ i = .int .i64 k ∧ Hid (∀ j, j < k → (0 ≤ zs.getD j 0 ∧ zs.getD j 0 < 2 ^ D))) (fun i => zs.length - (intOf i).toNat)
  case atStart => exact ⟨0, Nat.zero_le _, rfl, fun j hj => by omega⟩
  case round =>
    obtain ⟨k, hk', rfl, hok⟩ := hrel
    by_cases hlt : k < zs.length
    · obtain ⟨b, off, rfl, hbl, hcl⟩ := (unhide hA) (ne_of_lt_length hlt)
      have hck := hcl k hlt
      have hbad := hide (unhide hBad k hlt)
      have hOk : Hid ((0 ≤ zs.getD k 0 ∧ zs.getD k 0 < 2 ^ D) → ∀ j, j < k + 1 → (0 ≤ zs.getD j 0 ∧ zs.getD j 0 < 2 ^ D)) := hide (fun h j hj => by
        rcases Nat.lt_or_eq_of_le (Nat.le_of_lt_succ hj) with h' | h'
        · exact unhide hok j h'
        · subst h'; exact h)
      clear hcl hbl
      generalize zs.getD k 0 = x at hck hbad hOk
      by_cases h1 : x < 0
      · have hB := hide (unhide hbad (fun h => by have := h.1; omega))
        clear hbad hOk
        go_wp2
        go_ret
        exact ⟨by rw [unhide hB]; rfl, rfl⟩
      · by_cases h2 : x < 2 ^ D
        · have hok2 := hide (unhide hOk ⟨by omega, h2⟩)
          clear hbad hOk
          go_wp2
          all_goals
            go_round
            case rel => exact ⟨k + 1, by omega, by go_num, unhide hok2⟩
            case measure => simp [intOf]; omega
        · have hB := hide (unhide hbad (fun h => h2 h.2))
          clear hbad hOk
          go_wp2
          go_ret
          exact ⟨by rw [unhide hB]; rfl, rfl⟩
    · have hkl : k = zs.length := by omega
      subst hkl
      have hs := hide (unhide hGood (unhide hok))
      go_wp2
      go_ret
      exact ⟨by rw [unhide hs]; rfl, rfl⟩

set_option maxHeartbeats 8000000 in
set_option maxRecDepth 1000000 in
theorem implGoodFrames (a b l : Int) (adp adf : Option Addr) (cpp cpf : Nat) (zs : List Int) (fs : Fs) (w : World) (hn0 : zs.length ≤ 1048576) (hn1 : sizeFs fs ≤ 1048576) (hRF : InFs fs) (ha : 1 ≤ a ∧ a ≤ 512) (hb : 1 ≤ b ∧ b ≤ 512) (hlg : 0 < logB zs.length) (hAf : ArgFs w adf fs) :
    Calls Try.prog 101 #[.agg #[.int .i64 a, .int .i64 b, .slice adp zs.length cpp, .int .i64 l, .slice adf fs.length cpf]] w fun e w' => e = .returned (.bool (mB (FramesOk a b zs.length fs))) ∧ Upd 0 0 w w' := by
  replace hRF := hide hRF
  have hn2 : fs.length ≤ 1048576 := by unfold sizeFs at hn1; omega
  have hn3 : Hid (szToFs fs fs.length ≤ 1048576) := hide (by unfold sizeFs at hn1; omega)
  have hEach : Hid (∀ k, k < fs.length → (Fss (fs.getD k Fr0)).length ≤ 1048576) := hide (fun k hk => by have h1 := size1Fs_le fs k hk; have h2 := unhide hn3; unfold size1Fs at h1; omega)
  replace hAf := hide hAf
  have hB0 := hide ((Below.refl w.heap.size w).alloc (Nat.le_refl _) (.cells #[.int .i64 a, .int .i64 b, .slice adp zs.length cpp, .int .i64 l, .slice adf fs.length cpf] 35))
  have hbx := hide (held_new w [.int .i64 a, .int .i64 b, .slice adp zs.length cpp, .int .i64 l, .slice adf fs.length cpf] 35)
  clear hn1
  have hNo : Hid (∀ k, k < fs.length → ¬ FrAll a b zs.length (fs.getD k Fr0) → mB (FramesOk a b zs.length fs) = false) := hide (fun k hk h => mB_no (fun h' => h (h'.1 k hk)))
  have hEnd : Hid ((∀ k, k < fs.length → FrAll a b zs.length (fs.getD k Fr0)) → mB (FramesOk a b zs.length fs) = decide (((szToFs fs fs.length : Nat) : Int) ≤ 16384)) := hide (fun h => by
    by_cases h4 : szToFs fs fs.length ≤ 16384
    · rw [mB_yes ⟨h, h4⟩]; simp; omega
    · rw [mB_no (fun h' => h4 h'.2)]; simp; omega)
  generalize mB (FramesOk a b zs.length fs) = R at hNo hEnd ⊢
  have hPw : Hid (zs.length = 2 ^ logB zs.length) := hide (logB_pow hlg)
  have hD8 := logB_le zs.length
  have hLg := hide (fun W => implPaletteBits zs.length W hn0)
  obtain ⟨D, hDe⟩ : ∃ D, logB zs.length = D := ⟨_, rfl⟩
  rw [hDe] at hD8 hLg
  rw [hDe] at hPw
  clear hlg hDe
  go_enter Try.func101, Try.ntmps101
  go_wp2
  change Hid (Held (w.alloc (.cells #[.int .i64 a, .int .i64 b, .slice adp zs.length cpp, .int .i64 l, .slice adf fs.length cpf] 35)) _ _) at hbx
  generalize w.alloc (.cells #[.int .i64 a, .int .i64 b, .slice adp zs.length cpp, .int .i64 l, .slice adf fs.length cpf] 35) = w0 at hB0 hbx ⊢
  go_loopw [3, 9] (fun s i wr => ∃ k : Nat, k ≤ fs.length ∧ i = .int .i64 k ∧ s = .int .i64 ((szToFs fs k : Nat) : Int) ∧ Hid (∀ j, j < k → FrAll a b zs.length (fs.getD j Fr0)) ∧ Hid (Held wr w.heap.size [.int .i64 a, .int .i64 b, .slice adp zs.length cpp, .int .i64 l, .slice adf fs.length cpf]) ∧ Hid (Below w.heap.size w wr)) (fun _ i _ => fs.length - (intOf i).toNat)
  case atStart => exact ⟨0, Nat.zero_le _, rfl, by simp [szToFs], hide (fun j hj => by omega), hbx, hB0⟩
  case round =>
    clear hbx hB0
    obtain ⟨k, hk, rfl, rfl, hok, hbx, hB0⟩ := hrel
    by_cases hlt : k < fs.length
    · obtain ⟨bb, off, us, rfl, hbl, hc, hru⟩ := ((unhide hAf).below (unhide hB0)) (ne_of_lt_length hlt)
      obtain ⟨d0, d1, d2, d3, d4, d5, d6, d7⟩ := hc k hlt
      have hru2 := hru k hlt
      have hnk := unhide hEach k hlt
      have hin := (unhide hRF).1 k
      have hs := hide (szToFs_succ fs k hlt)
      have hle := hide (szToFs_le fs (k + 1))
      have hno := hide (unhide hNo k hlt)
      have hOk : Hid (FrAll a b zs.length (fs.getD k Fr0) → ∀ j, j < k + 1 → FrAll a b zs.length (fs.getD j Fr0)) := hide (fun h j hj => by
        rcases Nat.lt_or_eq_of_le (Nat.le_of_lt_succ hj) with h' | h'
        · exact unhide hok j h'
        · subst h'; exact h)
      clear hc hru hok
      generalize fs.getD k Fr0 = f at d0 d1 d2 d3 d4 d5 d6 d7 hru2 hnk hin hs hno hOk
      obtain ⟨x0, x1, x2, x3, x4, x5, x6, px⟩ := f
      obtain ⟨uk, huk⟩ : ∃ uk, us k = uk := ⟨_, rfl⟩
      rw [huk] at d7 hru2
      clear huk
      obtain ⟨adx, cpx, rfl, hAx⟩ := hru2
      simp only [Fss] at d0 d1 d2 d3 d4 d5 d6 d7 hnk hAx
      change Hid (szToFs fs (k + 1) = szToFs fs k + px.length) at hs
      obtain ⟨i0, i1, i2, i3, i4, i5, i6, _⟩ := hin
      simp only at i0 i1 i2 i3 i4 i5 i6
      have hBn := (Below.refl wr.heap.size wr).alloc (Nat.le_refl _) (.cells #[.int .i64 x0, .int .i64 x1, .int .i64 x2, .int .i64 x3, .int .i64 x4, .int .i64 x5, .int .i64 x6, .slice adx px.length cpx] 49)
      have hfr := hide (held_new wr [.int .i64 x0, .int .i64 x1, .int .i64 x2, .int .i64 x3, .int .i64 x4, .int .i64 x5, .int .i64 x6, .slice adx px.length cpx] 49)
      have hFc := hide (fun W => implMayHold a b l x0 x1 x2 x3 x4 x5 x6 adp (some ⟨bb, off, none⟩) adx zs.length cpp fs.length cpf px.length cpx W ha hb hn0 i0.2 i1.2)
      have hPc := hide (fun W h => implGoodPix (.slice adx px.length cpx) px D zs.length W hD8 (unhide hPw) hnk h)
      have hu2 := Upd.of_below hBn 0 0
      have hbx2 := hide ((unhide hbx).keep hu2)
      have hB2 := hide (below_upd (unhide hB0) hu2 (Nat.le_refl _) (.inr (Nat.zero_le _)))
      have hrx := hide (show RdI (wr.alloc (.cells #[.int .i64 x0, .int .i64 x1, .int .i64 x2, .int .i64 x3, .int .i64 x4, .int .i64 x5, .int .i64 x6, .slice adx px.length cpx] 49)) (.slice adx px.length cpx) px from RdI.below ⟨adx, cpx, rfl, hAx⟩ hBn)
      have hng := hide (show ∀ h : ¬ FrOk a b zs.length x0 x1 x2 x3 x4 x5 x6, R = false from fun h => unhide hno (fun h' => h h'.1))
      have hnp := hide (show ∀ h : ¬ (px.length : Int) = x2 * x3, R = false from fun h => unhide hno (fun h' => h h'.2.1))
      have hnx := hide (show ∀ h : ¬ PixOk zs.length px, R = false from fun h => unhide hno (fun h' => h h'.2.2))
      have hyes := hide (fun (h1 : FrOk a b zs.length x0 x1 x2 x3 x4 x5 x6) (h2 : (px.length : Int) = x2 * x3) (h3 : PixOk zs.length px) => unhide hOk ⟨h1, h2, h3⟩)
      clear hu2 hBn hAx hbx hB0 hno hOk hnk
      go_upto_region 5 with fail
      change Hid (Held (wr.alloc (.cells #[.int .i64 x0, .int .i64 x1, .int .i64 x2, .int .i64 x3, .int .i64 x4, .int .i64 x5, .int .i64 x6, .slice adx px.length cpx] 49)) wr.heap.size _) at hfr
      generalize wr.alloc (.cells #[.int .i64 x0, .int .i64 x1, .int .i64 x2, .int .i64 x3, .int .i64 x4, .int .i64 x5, .int .i64 x6, .slice adx px.length cpx] 49) = w2 at hbx2 hB2 hrx hfr ⊢
      generalize wr.heap.size = gf at hfr ⊢
      clear d0 d1 d2 d3 d4 d5 d6 d7 hbl
      have hbx := hbx2
      have hB0 := hB2
      clear hbx2 hB2
      by_cases hf : FrOk a b zs.length x0 x1 x2 x3 x4 x5 x6
      case neg =>
        have hRe : R = false := unhide hng hf
        subst hRe
        rw [mB_no hf] at hFc
        clear hf
        have c0 := fun x : UpdT w2 => ((unhide hbx).updT x).2 0 _ rfl
        have c1 := fun x : UpdT w2 => ((unhide hbx).updT x).2 1 _ rfl
        have c2 := fun x : UpdT w2 => ((unhide hbx).updT x).2 2 _ rfl
        have c3 := fun x : UpdT w2 => ((unhide hbx).updT x).2 3 _ rfl
        have c4 := fun x : UpdT w2 => ((unhide hbx).updT x).2 4 _ rfl
        have f0 := fun x : UpdT w2 => ((unhide hfr).updT x).2 0 _ rfl
        have f1 := fun x : UpdT w2 => ((unhide hfr).updT x).2 1 _ rfl
        have f2 := fun x : UpdT w2 => ((unhide hfr).updT x).2 2 _ rfl
        have f3 := fun x : UpdT w2 => ((unhide hfr).updT x).2 3 _ rfl
        have f4 := fun x : UpdT w2 => ((unhide hfr).updT x).2 4 _ rfl
        have f5 := fun x : UpdT w2 => ((unhide hfr).updT x).2 5 _ rfl
        have f6 := fun x : UpdT w2 => ((unhide hfr).updT x).2 6 _ rfl
        have f7 := fun x : UpdT w2 => ((unhide hfr).updT x).2 7 _ rfl
        have cl := fun x : UpdT w2 => ((unhide hbx).updT x).1
        have fl := fun x : UpdT w2 => ((unhide hfr).updT x).1
        have hPc2 := hide (fun x : UpdT w2 => unhide hPc x.to ((unhide hrx).below (x.upd.below (Nat.le_refl _) (.inr (Nat.zero_le _)))))
        refine wq_region_upd (by kernel_rfl) (by kernel_rfl) ?_
        repeat
          refine WQ.step (fun K hK => ?_)
          go_simp
          first
            | (refine hK _ ?_; clear hK K)
            | (apply Exists.intro
               refine ⟨fun _ => ?_, hK _ ?_⟩
               (first | (go_at_call 144; exact Calls.updT _ (unhide hFc _)) | (go_at_call 126; exact Calls.updT_same _ (unhide hLg _)) | (go_at_call 60; exact Calls.updT_same _ (unhide hPc2 _)))
               clear hK K)
        refine WQ.nil ?_
        rintro _ ⟨x, rfl⟩
        clear c0 c1 c2 c3 c4 f0 f1 f2 f3 f4 f5 f6 f7 cl fl
        have hx := x.upd
        generalize x.to = w3 at hx ⊢
        replace hbx := hide ((unhide hbx).keep hx)
        replace hfr := hide ((unhide hfr).keep hx)
        replace hB0 := hide (below_upd (unhide hB0) hx (Nat.le_refl _) (.inr (Nat.zero_le _)))
        clear hx hPc2 hrx
        go_wp2
        go_ret
        exact ⟨by first | rfl | simp, Upd.of_below (unhide hB0) 0 0⟩
      rw [mB_yes hf] at hFc
      obtain ⟨P, hP, P1, P2⟩ := side_prod (w := x2) (h := x3) (by unfold FrOk at hf; omega) (by unfold FrOk at hf; omega)
      rw [hP] at hnp hyes
      have hsl : IntKind.i64.wrap P = P := by simp [IntKind.wrap, IntKind.bits, IntKind.signed]; omega
      replace hf := hide hf
      by_cases hpl : (px.length : Int) = P
      case neg =>
        have hRe : R = false := unhide hnp hpl
        subst hRe
        have q : ((px.length : Int) == P) = false := beq_eq_false_iff_ne.2 hpl
        have q2 : ((px.length : Int) != P) = true := bne_iff_ne.2 hpl
        clear hpl
        have c0 := fun x : UpdT w2 => ((unhide hbx).updT x).2 0 _ rfl
        have c1 := fun x : UpdT w2 => ((unhide hbx).updT x).2 1 _ rfl
        have c2 := fun x : UpdT w2 => ((unhide hbx).updT x).2 2 _ rfl
        have c3 := fun x : UpdT w2 => ((unhide hbx).updT x).2 3 _ rfl
        have c4 := fun x : UpdT w2 => ((unhide hbx).updT x).2 4 _ rfl
        have f0 := fun x : UpdT w2 => ((unhide hfr).updT x).2 0 _ rfl
        have f1 := fun x : UpdT w2 => ((unhide hfr).updT x).2 1 _ rfl
        have f2 := fun x : UpdT w2 => ((unhide hfr).updT x).2 2 _ rfl
        have f3 := fun x : UpdT w2 => ((unhide hfr).updT x).2 3 _ rfl
        have f4 := fun x : UpdT w2 => ((unhide hfr).updT x).2 4 _ rfl
        have f5 := fun x : UpdT w2 => ((unhide hfr).updT x).2 5 _ rfl
        have f6 := fun x : UpdT w2 => ((unhide hfr).updT x).2 6 _ rfl
        have f7 := fun x : UpdT w2 => ((unhide hfr).updT x).2 7 _ rfl
        have cl := fun x : UpdT w2 => ((unhide hbx).updT x).1
        have fl := fun x : UpdT w2 => ((unhide hfr).updT x).1
        have hPc2 := hide (fun x : UpdT w2 => unhide hPc x.to ((unhide hrx).below (x.upd.below (Nat.le_refl _) (.inr (Nat.zero_le _)))))
        refine wq_region_upd (by kernel_rfl) (by kernel_rfl) ?_
        repeat
          refine WQ.step (fun K hK => ?_)
          go_simp
          first
            | (refine hK _ ?_; clear hK K)
            | (apply Exists.intro
               refine ⟨fun _ => ?_, hK _ ?_⟩
               (first | (go_at_call 144; exact Calls.updT _ (unhide hFc _)) | (go_at_call 126; exact Calls.updT_same _ (unhide hLg _)) | (go_at_call 60; exact Calls.updT_same _ (unhide hPc2 _)))
               clear hK K)
        refine WQ.nil ?_
        rintro _ ⟨x, rfl⟩
        clear c0 c1 c2 c3 c4 f0 f1 f2 f3 f4 f5 f6 f7 cl fl
        have hx := x.upd
        generalize x.to = w3 at hx ⊢
        replace hbx := hide ((unhide hbx).keep hx)
        replace hfr := hide ((unhide hfr).keep hx)
        replace hB0 := hide (below_upd (unhide hB0) hx (Nat.le_refl _) (.inr (Nat.zero_le _)))
        clear hx hPc2 hrx
        go_wp2
        go_ret
        exact ⟨by first | rfl | simp, Upd.of_below (unhide hB0) 0 0⟩
      have q : ((px.length : Int) == P) = true := beq_iff_eq.2 hpl
      have q2 : ((px.length : Int) != P) = false := by simp [hpl]
      by_cases hpx : PixOk zs.length px
      case neg =>
        have hRe : R = false := unhide hnx hpx
        subst hRe
        rw [mB_no hpx] at hPc
        clear hpx
        replace hpl := hide hpl
        have c0 := fun x : UpdT w2 => ((unhide hbx).updT x).2 0 _ rfl
        have c1 := fun x : UpdT w2 => ((unhide hbx).updT x).2 1 _ rfl
        have c2 := fun x : UpdT w2 => ((unhide hbx).updT x).2 2 _ rfl
        have c3 := fun x : UpdT w2 => ((unhide hbx).updT x).2 3 _ rfl
        have c4 := fun x : UpdT w2 => ((unhide hbx).updT x).2 4 _ rfl
        have f0 := fun x : UpdT w2 => ((unhide hfr).updT x).2 0 _ rfl
        have f1 := fun x : UpdT w2 => ((unhide hfr).updT x).2 1 _ rfl
        have f2 := fun x : UpdT w2 => ((unhide hfr).updT x).2 2 _ rfl
        have f3 := fun x : UpdT w2 => ((unhide hfr).updT x).2 3 _ rfl
        have f4 := fun x : UpdT w2 => ((unhide hfr).updT x).2 4 _ rfl
        have f5 := fun x : UpdT w2 => ((unhide hfr).updT x).2 5 _ rfl
        have f6 := fun x : UpdT w2 => ((unhide hfr).updT x).2 6 _ rfl
        have f7 := fun x : UpdT w2 => ((unhide hfr).updT x).2 7 _ rfl
        have cl := fun x : UpdT w2 => ((unhide hbx).updT x).1
        have fl := fun x : UpdT w2 => ((unhide hfr).updT x).1
        have hPc2 := hide (fun x : UpdT w2 => unhide hPc x.to ((unhide hrx).below (x.upd.below (Nat.le_refl _) (.inr (Nat.zero_le _)))))
        refine wq_region_upd (by kernel_rfl) (by kernel_rfl) ?_
        repeat
          refine WQ.step (fun K hK => ?_)
          go_simp
          first
            | (refine hK _ ?_; clear hK K)
            | (apply Exists.intro
               refine ⟨fun _ => ?_, hK _ ?_⟩
               (first | (go_at_call 144; exact Calls.updT _ (unhide hFc _)) | (go_at_call 126; exact Calls.updT_same _ (unhide hLg _)) | (go_at_call 60; exact Calls.updT_same _ (unhide hPc2 _)))
               clear hK K)
        refine WQ.nil ?_
        rintro _ ⟨x, rfl⟩
        clear c0 c1 c2 c3 c4 f0 f1 f2 f3 f4 f5 f6 f7 cl fl
        have hx := x.upd
        generalize x.to = w3 at hx ⊢
        replace hbx := hide ((unhide hbx).keep hx)
        replace hfr := hide ((unhide hfr).keep hx)
        replace hB0 := hide (below_upd (unhide hB0) hx (Nat.le_refl _) (.inr (Nat.zero_le _)))
        clear hx hPc2 hrx
        go_wp2
        go_ret
        exact ⟨by first | rfl | simp, Upd.of_below (unhide hB0) 0 0⟩
      have hok2 := hide (unhide hyes (unhide hf) hpl hpx)
      rw [mB_yes hpx] at hPc
      clear hpx hyes
      replace hpl := hide hpl
      have hsum : szToFs fs k + px.length ≤ 1048576 := by have := unhide hs; have := unhide hle; have := unhide hn3; omega
      have c0 := fun x : UpdT w2 => ((unhide hbx).updT x).2 0 _ rfl
      have c1 := fun x : UpdT w2 => ((unhide hbx).updT x).2 1 _ rfl
      have c2 := fun x : UpdT w2 => ((unhide hbx).updT x).2 2 _ rfl
      have c3 := fun x : UpdT w2 => ((unhide hbx).updT x).2 3 _ rfl
      have c4 := fun x : UpdT w2 => ((unhide hbx).updT x).2 4 _ rfl
      have f0 := fun x : UpdT w2 => ((unhide hfr).updT x).2 0 _ rfl
      have f1 := fun x : UpdT w2 => ((unhide hfr).updT x).2 1 _ rfl
      have f2 := fun x : UpdT w2 => ((unhide hfr).updT x).2 2 _ rfl
      have f3 := fun x : UpdT w2 => ((unhide hfr).updT x).2 3 _ rfl
      have f4 := fun x : UpdT w2 => ((unhide hfr).updT x).2 4 _ rfl
      have f5 := fun x : UpdT w2 => ((unhide hfr).updT x).2 5 _ rfl
      have f6 := fun x : UpdT w2 => ((unhide hfr).updT x).2 6 _ rfl
      have f7 := fun x : UpdT w2 => ((unhide hfr).updT x).2 7 _ rfl
      have cl := fun x : UpdT w2 => ((unhide hbx).updT x).1
      have fl := fun x : UpdT w2 => ((unhide hfr).updT x).1
      have hPc2 := hide (fun x : UpdT w2 => unhide hPc x.to ((unhide hrx).below (x.upd.below (Nat.le_refl _) (.inr (Nat.zero_le _)))))
      refine wq_region_upd (by kernel_rfl) (by kernel_rfl) ?_
      repeat
        refine WQ.step (fun K hK => ?_)
        go_simp
        first
          | (refine hK _ ?_; clear hK K)
          | (apply Exists.intro
             refine ⟨fun _ => ?_, hK _ ?_⟩
             (first | (go_at_call 144; exact Calls.updT _ (unhide hFc _)) | (go_at_call 126; exact Calls.updT_same _ (unhide hLg _)) | (go_at_call 60; exact Calls.updT_same _ (unhide hPc2 _)))
             clear hK K)
      refine WQ.nil ?_
      rintro _ ⟨x, rfl⟩
      clear c0 c1 c2 c3 c4 f0 f1 f2 f3 f4 f5 f6 f7 cl fl
      have hx := x.upd
      generalize x.to = w3 at hx ⊢
      replace hbx := hide ((unhide hbx).keep hx)
      replace hfr := hide ((unhide hfr).keep hx)
      replace hB0 := hide (below_upd (unhide hB0) hx (Nat.le_refl _) (.inr (Nat.zero_le _)))
      clear hx hPc2 hrx
      have f7 := (unhide hfr).2 7 _ rfl
      go_wp2
      go_roundw
      case rel => exact ⟨k + 1, by omega, by go_num, by rw [unhide hs]; simp <;> exact (unhide hpl).symm, hok2, hbx, hB0⟩
      case measure => simp [intOf]; omega
    · have hkl : k = fs.length := by omega
      subst hkl
      have hRe := unhide hEnd (unhide hok)
      subst hRe
      go_wp2
      go_ret
      exact ⟨rfl, Upd.of_below (unhide hB0) 0 0⟩
end Go.Proofs.Ytnfifpngiocbnaa
