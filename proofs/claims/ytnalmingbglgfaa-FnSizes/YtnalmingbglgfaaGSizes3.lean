/- The texts behind FnSizes, part 3: what each of them says stands at its head. -/
import Derived.Test.YtnalmingbglgfaaGSizes2
import Derived.ProofKit
/- The specification's Grow at good planes: the loops. -/
namespace Go.Proofs.Ytnalmingbglgfaa
open Go.RowKit

theorem nearF_otherY {zs : List Int} {W H x y n : Nat} (h : n = if y % 2 = 1 then y / 2 + 1 else y / 2 - 1) : nearF zs W H x n = nearF zs W H x (otherF y H) := by
  unfold nearF otherF
  subst h
  split
  · rw [show min (min (y / 2 + 1) (H - 1)) (H - 1) = min (y / 2 + 1) (H - 1) by omega]
  · rfl
set_option maxHeartbeats 8000000 in
set_option maxRecDepth 100000 in
theorem specL7Grow (W H sw sh : Nat) (ad : Option Addr) (cap : Nat) (zs : List Int) (w : World) (hp : PlOk W H zs) (hA : ArgI w ad zs) (sw1 : 1 ≤ sw) (sw2 : sw ≤ 512) (sw3 : sw ≤ 2 * W) (sh1 : 1 ≤ sh) (sh2 : sh ≤ 512) (sh3 : sh ≤ 2 * H) (hNN4 : sw * sh ≤ 4096) :
    Calls Try.prog 61 #[.agg #[.int .i64 (W : Int), .int .i64 (H : Int), .slice ad zs.length cap], .int .i64 (sw : Int), .int .i64 (sh : Int)] w fun e w' => ∃ u, e = .returned u ∧ OwnPl w' w.heap.size w'.heap.size u ((sw : Int), (sh : Int), growL zs W H sw (sw * sh)) ∧ Upd 0 0 w w' := by
  have hB0 := (((Below.refl w.heap.size w).alloc (Nat.le_refl _) (.cells #[.int .i64 (W : Int), .int .i64 (H : Int), .slice ad zs.length cap] 25)).alloc (by simp) (.cells #[.int .i64 0, .int .i64 0, .slice none 0 0] 25))
  have hs0 : ((w.alloc (.cells #[.int .i64 (W : Int), .int .i64 (H : Int), .slice ad zs.length cap] 25)).alloc (.cells #[.int .i64 0, .int .i64 0, .slice none 0 0] 25)).heap.size = w.heap.size + 2 := by simp
  have hbx := (heldF_new w [.int .i64 (W : Int), .int .i64 (H : Int), .slice ad zs.length cap] 25).keep (Upd.of_below ((Below.refl _ _).alloc (Nat.le_refl _) (.cells #[.int .i64 0, .int .i64 0, .slice none 0 0] 25)) 0 0)
  have hrs := heldF_new (w.alloc (.cells #[.int .i64 (W : Int), .int .i64 (H : Int), .slice ad zs.length cap] 25)) [.int .i64 0, .int .i64 0, .slice none 0 0] 25
  have e1 : (w.alloc (.cells #[.int .i64 (W : Int), .int .i64 (H : Int), .slice ad zs.length cap] 25)).heap.size = w.heap.size + 1 := by simp
  rw [e1] at hrs
  clear e1
  have hA0 := hide (hA.below hB0)
  have hAw := hide hA
  replace hB0 := hide hB0
  replace hbx := hide hbx
  replace hrs := hide hrs
  clear hA
  go_enter Try.func61, Try.ntmps61
  go_upto_region 2 with fail
  generalize (w.alloc (.cells #[.int .i64 (W : Int), .int .i64 (H : Int), .slice ad zs.length cap] 25)).alloc (.cells #[.int .i64 0, .int .i64 0, .slice none 0 0] 25) = wc at hB0 hs0 hbx hrs hA0 ⊢
  have hs1 : w.heap.size + 2 ≤ wc.heap.size := by omega
  obtain ⟨W1, W2⟩ := hp.w
  obtain ⟨H1, H2⟩ := hp.h
  have hNN : Hid (∀ y x, y < sh → x < sw → y * sw + x < 4096) := hide (fun y x hy hx => by
    have h1 : (y + 1) * sw ≤ sh * sw := Nat.mul_le_mul hy (Nat.le_refl _)
    rw [Nat.add_mul, Nat.one_mul, Nat.mul_comm sh sw] at h1
    omega)
  have hAt := hide (fun (a b : Int) (x y : Nat) (X : World) ha hb (h1 : x ≤ 1000000) (h2 : y ≤ 1000000) (h : ArgI X ad zs) => specL7AtI W H a b x y ad cap zs X hp ha hb h1 h2 h)
  have hL : Hid (∀ k, growL zs W H sw (k + 1) = growL zs W H sw k ++ [growF zs W H (k % sw) (k / sw)]) := hide (fun k => growL_succ zs W H sw k)
  have hsm := hide hp.s
  clear hp
  obtain ⟨c, hc⟩ : ∃ c, wc.heap.size = c := ⟨_, rfl⟩
  have hu2 := Upd.of_below ((Below.refl wc.heap.size wc).alloc (Nat.le_refl _) (.cells #[.int .i64 (sw : Int), .int .i64 (sh : Int), .slice none 0 0] 25)) 0 0
  have hot2 := heldF_new wc [.int .i64 (sw : Int), .int .i64 (sh : Int), .slice none 0 0] 25
  have hbx2 := (unhide hbx).keep hu2
  have hrs2 := (unhide hrs).keep hu2
  have hB2 := below_upd (unhide hB0) hu2 (Nat.le_refl _) (.inr (Nat.le_refl _))
  rw [hc] at hs0 hs1 hot2
  rw [← hs0]
  clear hs0
  clear hu2 hbx hrs hB0 hA0 hc
  generalize wc.alloc (.cells #[.int .i64 (sw : Int), .int .i64 (sh : Int), .slice none 0 0] 25) = w2 at hot2 hbx2 hrs2 hB2 ⊢
  have hSt : Hid (AccSt w w2 c W H sw sh ad zs.length cap (growL zs W H sw 0) none 0) := hide ⟨hot2, World.ownsRow_nil _ _ _ _, hbx2, hrs2, hB2⟩
  clear hot2 hbx2 hrs2 hB2
  go_wp2_with fail
  go_loopw [8] (fun s wr => ∃ (y m : Nat) (ad2 : Option Addr) (cp : Nat), s = .int .i64 (y : Int) ∧ y ≤ sh ∧ Hid (m = y * sw) ∧ Hid (AccSt w wr c W H sw sh ad zs.length cap (growL zs W H sw m) ad2 cp)) (fun s _ => sh - (intOf s).toNat)
  case atStart => exact ⟨0, 0, none, 0, rfl, Nat.zero_le _, hide (by simp), hSt⟩
  case round =>
    clear hSt
    obtain ⟨y, m, ad2, cp, rfl, hy, hm, hSt⟩ := hrel
    by_cases hyl : y < sh
    · have a1 := (unhide hSt).b.1.2 1 _ rfl
      obtain ⟨j, hje⟩ : ∃ k, y / 2 = k := ⟨_, rfl⟩
      obtain ⟨py, hpy⟩ : ∃ k, y % 2 = k := ⟨_, rfl⟩
      obtain ⟨bn, hbn⟩ : ∃ n, n = if y % 2 = 1 then y / 2 + 1 else y / 2 - 1 := ⟨_, rfl⟩
      have hbI : ((j : Int) - 1 + (py : Int) * 2 = -1 ∧ bn = 0) ∨ (j : Int) - 1 + (py : Int) * 2 = (bn : Int) := by
        rw [hbn]; split <;> omega
      have hpyb : py ≤ 1 := by omega
      have hjb : j ≤ 512 := by omega
      have hbb : bn ≤ 1000 := by rw [hbn]; split <;> omega
      have fJ1 : (y : Int).tdiv 2 = (j : Int) := by rw [Int.tdiv_eq_ediv_of_nonneg (by omega)]; omega
      have fJ2 : (y : Int) / 2 = (j : Int) := by omega
      have fJ3 : (y : Int).tmod 2 = (py : Int) := by rw [Int.tmod_eq_emod_of_nonneg (by omega)]; omega
      have fJ4 : (y : Int) % 2 = (py : Int) := by omega
      replace hbI := hide hbI
      replace hbn := hide hbn
      replace hje := hide hje
      replace hpy := hide hpy
      go_wp2_with fail
      clear a1
      go_loopw [9] (fun s wr => ∃ (x : Nat) (ad2 : Option Addr) (cp : Nat), s = .int .i64 (x : Int) ∧ x ≤ sw ∧ Hid (AccSt w wr c W H sw sh ad zs.length cap (growL zs W H sw (m + x)) ad2 cp)) (fun s _ => sw - (intOf s).toNat)
      case atStart => exact ⟨0, ad2, cp, rfl, Nat.zero_le _, hSt⟩
      case round =>
        clear hSt
        obtain ⟨x, ad2, cp, rfl, hx, hSt⟩ := hrel
        by_cases hxl : x < sw
        · have a0 := (unhide hSt).b.1.2 0 _ rfl
          obtain ⟨i, hie⟩ : ∃ k, x / 2 = k := ⟨_, rfl⟩
          obtain ⟨px, hpx⟩ : ∃ k, x % 2 = k := ⟨_, rfl⟩
          obtain ⟨an, han⟩ : ∃ n, n = if x % 2 = 1 then x / 2 + 1 else x / 2 - 1 := ⟨_, rfl⟩
          have haI : ((i : Int) - 1 + (px : Int) * 2 = -1 ∧ an = 0) ∨ (i : Int) - 1 + (px : Int) * 2 = (an : Int) := by
            rw [han]; split <;> omega
          have hpxb : px ≤ 1 := by omega
          have hib : i ≤ 512 := by omega
          have hab : an ≤ 1000 := by rw [han]; split <;> omega
          have fI1 : (x : Int).tdiv 2 = (i : Int) := by rw [Int.tdiv_eq_ediv_of_nonneg (by omega)]; omega
          have fI2 : (x : Int) / 2 = (i : Int) := by omega
          have fI3 : (x : Int).tmod 2 = (px : Int) := by rw [Int.tmod_eq_emod_of_nonneg (by omega)]; omega
          have fI4 : (x : Int) % 2 = (px : Int) := by omega
          have hnew : Hid (growL zs W H sw (m + (x + 1)) = growL zs W H sw (m + x) ++ [(9 * nearF zs W H i j + 3 * nearF zs W H an j + 3 * nearF zs W H i bn + nearF zs W H an bn + 8) / 16]) := hide (by
            have := unhide hL (m + x)
            rw [unhide hm, (mod_row hxl).1, (mod_row hxl).2] at this
            rw [unhide hm, show y * sw + (x + 1) = y * sw + x + 1 by omega, this]
            unfold growF
            rw [← nearF_other han, ← nearF_other (y := otherF y H) han, ← nearF_otherY (unhide hbn), ← nearF_otherY (unhide hbn), hie, unhide hje])
          have hml : m + x < 4096 := by have := unhide hNN y x hyl hxl; rw [← unhide hm] at this; omega
          have b00 := nearF_bd (unhide hsm) W H i j
          have b10 := nearF_bd (unhide hsm) W H an j
          have b01 := nearF_bd (unhide hsm) W H i bn
          have b11 := nearF_bd (unhide hsm) W H an bn
          have hAr := hide ((unhide hAw).below (unhide hSt).k)
          have hN00 := hide (fun (X : World) h => unhide hAt (i : Int) (j : Int) i j X (.inr rfl) (.inr rfl) (by omega) (by omega) h)
          have hN10 := hide (fun (X : World) h => unhide hAt ((i : Int) - 1 + (px : Int) * 2) (j : Int) an j X haI (.inr rfl) (by omega) (by omega) h)
          have hN01 := hide (fun (X : World) h => unhide hAt (i : Int) ((j : Int) - 1 + (py : Int) * 2) i bn X (.inr rfl) (unhide hbI) (by omega) (by omega) h)
          have hN11 := hide (fun (X : World) h => unhide hAt ((i : Int) - 1 + (px : Int) * 2) ((j : Int) - 1 + (py : Int) * 2) an bn X haI (unhide hbI) (by omega) (by omega) h)
          clear haI han hie hpx
          generalize nearF zs W H i j = v00 at b00 hN00 hnew
          generalize nearF zs W H an j = v10 at b10 hN10 hnew
          generalize nearF zs W H i bn = v01 at b01 hN01 hnew
          generalize nearF zs W H an bn = v11 at b11 hN11 hnew
          obtain ⟨S, hS⟩ : ∃ S, 9 * v00 + 3 * v10 + 3 * v01 + v11 = S := ⟨_, rfl⟩
          rw [hS] at hnew
          have S0 : 0 ≤ S := by omega
          have S1 : S ≤ 4080 := by omega
          have wA : IntKind.i64.wrap (9 * v00) = 9 * v00 := wrapI (by omega)
          have wB : IntKind.i64.wrap (3 * v10) = 3 * v10 := wrapI (by omega)
          have wC : IntKind.i64.wrap (3 * v01) = 3 * v01 := wrapI (by omega)
          have wT1 : IntKind.i64.wrap (9 * v00 + 3 * v10) = 9 * v00 + 3 * v10 := wrapI (by omega)
          have wT2 : IntKind.i64.wrap (9 * v00 + 3 * v10 + 3 * v01) = 9 * v00 + 3 * v10 + 3 * v01 := wrapI (by omega)
          have wT3 : IntKind.i64.wrap (9 * v00 + 3 * v10 + 3 * v01 + v11) = S := by rw [hS]; exact wrapI (by omega)
          obtain ⟨BB, hBB⟩ : ∃ BB, (S + 8) / 16 = BB := ⟨_, rfl⟩
          rw [hBB] at hnew
          clear hS
          go_upto_region 12 with fail
          clear a0
          have b0 := fun X : UpdT wr => (((unhide hSt).b.1.updT X).2 0 _ rfl)
          have b1 := fun X : UpdT wr => (((unhide hSt).b.1.updT X).2 1 _ rfl)
          have b2 := fun X : UpdT wr => (((unhide hSt).b.1.updT X).2 2 _ rfl)
          refine wq_region_upd (by kernel_rfl) (by kernel_rfl) ?_
          refine WQ.step (fun K hK => ?_)
          go_simp
          refine hK _ ?_
          clear hK K
          refine WQ.step (fun K hK => ?_)
          go_simp
          refine hK _ ?_
          clear hK K
          refine WQ.step (fun K hK => ?_)
          go_simp
          refine hK _ ?_
          clear hK K
          refine WQ.step (fun K hK => ?_)
          go_simp
          refine ⟨_, fun X => Calls.updT X (unhide hN00 X.to ((unhide hAr).below (X.upd.below (Nat.le_refl _) (.inr (Nat.zero_le _))))), hK _ ?_⟩
          clear hK K
          refine WQ.step (fun K hK => ?_)
          go_simp
          refine hK _ ?_
          clear hK K
          refine WQ.step (fun K hK => ?_)
          go_simp
          refine hK _ ?_
          clear hK K
          refine WQ.step (fun K hK => ?_)
          go_simp
          refine hK _ ?_
          clear hK K
          refine WQ.step (fun K hK => ?_)
          go_simp
          refine hK _ ?_
          clear hK K
          refine WQ.step (fun K hK => ?_)
          go_simp
          refine ⟨_, fun X => Calls.updT X (unhide hN10 X.to ((unhide hAr).below (X.upd.below (Nat.le_refl _) (.inr (Nat.zero_le _))))), hK _ ?_⟩
          clear hK K
          refine WQ.step (fun K hK => ?_)
          go_simp
          refine hK _ ?_
          clear hK K
          refine WQ.step (fun K hK => ?_)
          go_simp
          refine hK _ ?_
          clear hK K
          refine WQ.step (fun K hK => ?_)
          go_simp
          refine hK _ ?_
          clear hK K
          refine WQ.step (fun K hK => ?_)
          go_simp
          refine hK _ ?_
          clear hK K
          refine WQ.step (fun K hK => ?_)
          go_simp
          refine hK _ ?_
          clear hK K
          refine WQ.step (fun K hK => ?_)
          go_simp
          refine ⟨_, fun X => Calls.updT X (unhide hN01 X.to ((unhide hAr).below (X.upd.below (Nat.le_refl _) (.inr (Nat.zero_le _))))), hK _ ?_⟩
          clear hK K
          refine WQ.step (fun K hK => ?_)
          go_simp
          refine hK _ ?_
          clear hK K
          refine WQ.step (fun K hK => ?_)
          go_simp
          refine hK _ ?_
          clear hK K
          refine WQ.step (fun K hK => ?_)
          go_simp
          refine hK _ ?_
          clear hK K
          refine WQ.step (fun K hK => ?_)
          go_simp
          refine hK _ ?_
          clear hK K
          refine WQ.step (fun K hK => ?_)
          go_simp
          refine hK _ ?_
          clear hK K
          refine WQ.step (fun K hK => ?_)
          go_simp
          refine ⟨_, fun X => Calls.updT X (unhide hN11 X.to ((unhide hAr).below (X.upd.below (Nat.le_refl _) (.inr (Nat.zero_le _))))), hK _ ?_⟩
          clear hK K
          refine WQ.step (fun K hK => ?_)
          go_simp
          refine hK _ ?_
          clear hK K
          refine WQ.step (fun K hK => ?_)
          go_simp
          refine hK _ ?_
          clear hK K
          refine WQ.nil ?_
          rintro _ ⟨X, rfl⟩
          clear b0 b1 b2 wA wB wC wT1 wT2 wT3 hN00 hN10 hN01 hN11 fI1 fI2 fI3 fI4 b00 b10 b01 b11
          have hX := X.upd
          generalize X.to = wx at hX ⊢
          replace hSt := hide ((unhide hSt).keep hX)
          clear hX hAr
          obtain ⟨L, hCe⟩ : ∃ L, growL zs W H sw (m + x) = L := ⟨_, rfl⟩
          have hCl : L.length = m + x := by rw [← hCe, growL_length]
          rw [hCe] at hSt hnew
          have hCb : L.length ≤ 5000 := by omega
          replace hCe := hide hCe
          replace hCl := hide hCl
          obtain ⟨ho, hr, hbb, hz, hk⟩ := unhide hSt
          have p4 := ho.1.2 2 _ rfl
          have hs5 : c < wx.heap.size := ho.1.1
          replace ho := hide ho
          replace hr := hide hr
          replace hbb := hide hbb
          replace hz := hide hz
          replace hk := hide hk
          clear hSt
          have hu5 := Upd.of_below ((Below.refl wx.heap.size wx).alloc (Nat.le_refl _) (.cells #[.int .i64 BB] 3)) 0 0
          have pB5 := hide ((unhide ho).keep hu5)
          have bB5 := hide ((unhide hbb).keep hu5)
          have zB5 := hide ((unhide hz).keep hu5)
          have kB5 := hide (below_upd (unhide hk) hu5 (Nat.le_refl _) (.inr (Nat.le_refl _)))
          have hO5 := hide ((Own.of (unhide hr)).keep hu5).1
          have hnk := heldF_new wx [.int .i64 BB] 3
          have hrn : Hid (RdJ (wx.alloc (.cells #[.int .i64 BB] 3)) (.slice (some ⟨wx.heap.size, 0, none⟩) 1 1) [BB]) := hide (.inr ⟨wx.heap.size, 0, 1, rfl, by simp, fun j hj => by
            have hj0 : j = 0 := by simp at hj; omega
            subst hj0
            exact hnk.1.2 0 _ rfl⟩)
          clear hu5 hnk ho hr hbb hz hk
          go_upto_region 13 with fail
          go_wp2_with (at_builtin; go_loud (refine wpList_appI rfl (.tmp 67) (.tmp 71) rfl (c + 1) (.slice ad2 L.length cp) L rfl (unhide hO5) _ [BB] rfl (unhide hrn) (by simp; omega) (by simp; omega) ?_; intro v6 w6 ho6 hg6 _; have hu6 := upd_of_grownI hg6 (unhide hO5); have pB6 := hide ((unhide pB5).upd hu6 (.inl (Nat.le_refl _))); have bB6 := hide ((unhide bB5).upd hu6 (.inl (by omega))); have zB6 := hide ((unhide zB5).upd hu6 (.inl (by omega))); have kB6 := hide (below_upd (unhide kB5) hu6 (Nat.le_refl _) (.inl (by omega))); obtain ⟨ad6, cp6, rfl, _⟩ := OwnI.rd (Own.of ho6); have p60 := (unhide pB6).1.2 2 _ rfl; have z60 := (unhide pB6).2 2; replace ho6 := hide ho6; clear hg6 hu6))
          have hst := (unhide pB6).set 2 (.slice ad6 (L.length + 1) cp6) (by simp)
          simp only [List.set_cons_zero, List.set_cons_succ] at hst
          have hac := ownsRow_setCell_below (a := ⟨c, 2, none⟩) (unhide ho6) (show c < c + 1 by omega) (.slice ad6 (L.length + 1) cp6)
          have hbb6 := (unhide bB6).other (g' := c) (by omega) 2 (.slice ad6 (L.length + 1) cp6)
          have hzz6 := (unhide zB6).other (g' := c) (by omega) 2 (.slice ad6 (L.length + 1) cp6)
          have hkk6 := (unhide kB6).setCell (p := ⟨c, 2, none⟩) (show w.heap.size ≤ c by omega) (.slice ad6 (L.length + 1) cp6)
          have hle : (L ++ [BB]).length = L.length + 1 := by simp
          have hfin : Hid (AccSt w (w6.setCell ⟨c, 2, none⟩ (.slice ad6 (L.length + 1) cp6)) c W H sw sh ad zs.length cap (growL zs W H sw (m + (x + 1))) ad6 cp6) := hide ⟨by rw [unhide hnew, hle]; exact hst, by rw [unhide hnew]; exact hac, hbb6, hzz6, hkk6⟩
          clear hst hac hbb6 hzz6 hkk6 pB6 bB6 zB6 kB6 ho6 p60 z60
          go_roundw
          case rel => exact ⟨x + 1, ad6, cp6, by go_num, by omega, hfin⟩
          case measure => simp [intOf]; omega
        · have hxe : x = sw := by omega
          subst hxe
          have hmn : Hid (m + x = (y + 1) * x) := hide (by rw [unhide hm, Nat.add_mul, Nat.one_mul])
          go_wp2_with fail
          refine ⟨?_, ?measure⟩
          · exact ⟨y + 1, m + x, ad2, cp, by go_num, by omega, hmn, hSt⟩
          · simp [intOf]; omega
    · have hye : y = sh := by omega
      subst hye
      obtain ⟨ho, hr, hbb, hz, hk⟩ := unhide hSt
      have hmn : Hid (m = sw * y) := hide (by rw [unhide hm, Nat.mul_comm])
      have a0 := ho.1.2 0 _ rfl
      have a1 := ho.1.2 1 _ rfl
      have a2 := ho.1.2 2 _ rfl
      have z0 := hz.1.2 0 _ rfl
      have z1 := hz.1.2 1 _ rfl
      have z2 := hz.1.2 2 _ rfl
      have f0 := hz.2 0
      have f1 := hz.2 1
      have f2 := hz.2 2
      replace hr := hide hr
      replace hk := hide hk
      clear hSt ho hbb hz
      go_wp2
      refine bodyPost_ret (v := .agg #[.int .i64 (sw : Int), .int .i64 (y : Int), .slice ad2 (growL zs W H sw m).length cp]) (by simp [results, Try.results61, go_sem, z0, z1, z2]) rfl ⟨_, rfl, ?_, Upd.of_below ((((unhide hk).setCell (by simp) _).setCell (by simp) _).setCell (by simp) _) 0 0⟩
      rw [← unhide hmn]
      refine ⟨_, rfl, ?_⟩
      have ho := Own.of (unhide hr)
      refine own_mono (a := c + 1) (b := wr.heap.size) ⟨?_, ho.2⟩ (by omega) (by simp)
      exact ownsRow_setCell_below (ownsRow_setCell_below (ownsRow_setCell_below ho.1 (show w.heap.size + 1 < c + 1 by omega) _) (show w.heap.size + 1 < c + 1 by omega) _) (show w.heap.size + 1 < c + 1 by omega) _
end Go.Proofs.Ytnalmingbglgfaa

/- The specification's Grow, at good planes. -/
namespace Go.Proofs.Ytnalmingbglgfaa
open Go.RowKit

set_option maxHeartbeats 8000000 in
set_option maxRecDepth 100000 in
theorem specGrow (W H sw sh : Nat) (zs : List Int) (ad : Option Addr) (cap : Nat) (w : World) (hp : PlOk W H zs) (hg1 : GoodPl ((W : Int), (H : Int), zs)) (hR : InPl ((W : Int), (H : Int), zs)) (hA : ArgI w ad zs)
    (hw : sw = 2 * W - 1) (hh : sh = 2 * H) (sw2 : sw ≤ 512) (sh2 : sh ≤ 512) :
    Calls Try.prog 20 #[.agg #[.int .i64 (W : Int), .int .i64 (H : Int), .slice ad zs.length cap], .int .i64 (sw : Int), .int .i64 (sh : Int)] w fun e w' => ∃ u, e = .returned u ∧ OwnPl w' w.heap.size w'.heap.size u (growPl W H sw sh zs) ∧ Upd 0 0 w w' := by
  have hn : ((W : Int), (H : Int), zs).2.2.length ≤ 1048576 := by have h1 := hp.l; have h2 := hp.m; show zs.length ≤ 1048576; omega
  have hG := hide (fun (W' : World) (h : ArgI W' ad zs) => specGoodPlane _ ((W : Int), (H : Int), zs) W' hn hR ⟨_, rfl, ad, cap, rfl, h⟩)
  have hgt := hide (goodPlB_yes hg1)
  have hW := hp.w
  have hH := hp.h
  have hSd := hide (fun (W' : World) => specL7Sides (sw : Int) (sh : Int) W')
  have q1 : ((sw : Int) != 2 * (W : Int)) = true := by simp; omega
  have q2 : ((sw : Int) != 2 * (W : Int) - 1) = false := by simp; omega
  have q3 : ((sh : Int) != 2 * (H : Int)) = false := by simp; omega
  have hB0 := (((Below.refl w.heap.size w).alloc (Nat.le_refl _) (.cells #[.int .i64 (W : Int), .int .i64 (H : Int), .slice ad zs.length cap] 25)).alloc (by simp) (.cells #[.int .i64 0, .int .i64 0, .slice none 0 0] 25))
  have hs0 : ((w.alloc (.cells #[.int .i64 (W : Int), .int .i64 (H : Int), .slice ad zs.length cap] 25)).alloc (.cells #[.int .i64 0, .int .i64 0, .slice none 0 0] 25)).heap.size = w.heap.size + 2 := by simp
  have hbx := (heldF_new w [.int .i64 (W : Int), .int .i64 (H : Int), .slice ad zs.length cap] 25).keep (Upd.of_below ((Below.refl _ _).alloc (Nat.le_refl _) (.cells #[.int .i64 0, .int .i64 0, .slice none 0 0] 25)) 0 0)
  have hrs := heldF_new (w.alloc (.cells #[.int .i64 (W : Int), .int .i64 (H : Int), .slice ad zs.length cap] 25)) [.int .i64 0, .int .i64 0, .slice none 0 0] 25
  have e1 : (w.alloc (.cells #[.int .i64 (W : Int), .int .i64 (H : Int), .slice ad zs.length cap] 25)).heap.size = w.heap.size + 1 := by simp
  rw [e1] at hrs
  clear e1
  have hA0 := hide (hA.below hB0)
  have hAw := hide hA
  replace hB0 := hide hB0
  replace hbx := hide hbx
  replace hrs := hide hrs
  clear hA
  go_enter Try.func20, Try.ntmps20
  go_upto_region 1 with fail
  generalize (w.alloc (.cells #[.int .i64 (W : Int), .int .i64 (H : Int), .slice ad zs.length cap] 25)).alloc (.cells #[.int .i64 0, .int .i64 0, .slice none 0 0] 25) = w0 at hB0 hs0 hbx hrs hA0 ⊢
  obtain ⟨Pd, hPd⟩ : ∃ Pd, sw * sh = Pd := ⟨_, rfl⟩
  have hPi : (sw : Int) * (sh : Int) = (Pd : Int) := by rw [← hPd]; simp
  have hPb : Pd ≤ 262144 := by rw [← hPd]; exact Nat.mul_le_mul sw2 sh2
  obtain ⟨okB, hok⟩ : ∃ okB, okB = decide (Pd ≤ 4096) := ⟨_, rfl⟩
  replace hok := hide hok
  replace hPd := hide hPd
  replace hp := hide hp
  replace hw := hide hw
  replace hh := hide hh
  go_cut [45] (fun s45 wx => s45 = .bool (!okB) ∧ Hid (Upd 0 0 w0 wx))
  case first =>
    have c0 := (unhide hbx).1.2 0 _ rfl
    have c1 := (unhide hbx).1.2 1 _ rfl
    have c2 := (unhide hbx).1.2 2 _ rfl
    go_wp2_with fail
    refine (unhide hG w0 (unhide hA0)).mono ?_
    rintro e w1 ⟨rfl, hu⟩
    clear c0 c1 c2
    have hb1 := (unhide hbx).keep hu
    have c0 := hb1.1.2 0 _ rfl
    have c1 := hb1.1.2 1 _ rfl
    clear hb1
    replace hu := hide hu
    rw [unhide hgt]
    have hdS : decide (SidesOk (sw : Int) (sh : Int)) = okB := by
      rw [unhide hok]
      apply decide_eq_decide.2
      unfold SidesOk
      rw [hPi]
      have hw' := unhide hw
      have hh' := unhide hh
      omega
    replace hdS := hide hdS
    clear hok
    obtain ⟨W1, W2⟩ := hW
    obtain ⟨H1, H2⟩ := hH
    go_wp2_with fail
    refine (unhide hSd _).mono ?_
    rintro e w2 ⟨rfl, rfl⟩
    rw [unhide hdS]
    clear hdS
    go_wp2
    go_meet
    exact ⟨rfl, hu⟩
  case rest =>
  obtain ⟨rfl, hu0⟩ := hcut
  replace hbx := hide ((unhide hbx).keep (unhide hu0))
  replace hrs := hide ((unhide hrs).keep (unhide hu0))
  replace hA0 := hide ((unhide hA0).below ((unhide hu0).below (Nat.le_refl _) (.inr (Nat.zero_le _))))
  replace hB0 := hide (below_upd (unhide hB0) (unhide hu0) (Nat.le_refl _) (.inr (Nat.le_refl _)))
  have hs1 : w.heap.size + 2 ≤ wc.heap.size := by have := (unhide hu0).size; omega
  clear hG hu0 hs0 hSd q1 q2 q3 hgt hPi
  by_cases hg : Pd ≤ 4096
  case neg =>
    have hF : Hid (growPl W H sw sh zs = (0, 0, [])) := hide (by unfold growPl; rw [if_neg (by rw [unhide hPd]; exact hg)])
    have e : okB = false := by rw [unhide hok]; exact decide_eq_false hg
    subst e
    have z0 := (unhide hrs).1.2 0 _ rfl
    have z1 := (unhide hrs).1.2 1 _ rfl
    have z2 := (unhide hrs).1.2 2 _ rfl
    have f0 := (unhide hrs).2 0
    have f1 := (unhide hrs).2 1
    have f2 := (unhide hrs).2 2
    clear hbx hA0 hR hok hg hPb
    go_wp2
    refine bodyPost_ret (v := .agg #[.int .i64 0, .int .i64 0, .slice none 0 0]) (by simp [results, Try.results20, go_sem, z0, z1, z2]) rfl ⟨_, rfl, ?_, Upd.of_below ((((unhide hB0).setCell (by simp) _).setCell (by simp) _).setCell (by simp) _) 0 0⟩
    rw [unhide hF]
    exact ⟨_, rfl, World.ownsRow_nil _ _ _ _, fun k hk => by simp [Value.ownBlock] at hk⟩
  have e : okB = true := by rw [unhide hok]; exact decide_eq_true hg
  subst e
  clear hok
  have hF : Hid (growPl W H sw sh zs = ((sw : Int), (sh : Int), growL zs W H sw Pd)) := hide (by unfold growPl; rw [if_pos (by rw [unhide hPd]; exact hg), unhide hPd])
  have hp2 := hp
  have sw1 : 1 ≤ sw := by have := unhide hw; omega
  have sh1 : 1 ≤ sh := by have := unhide hh; omega
  have sw3 : sw ≤ 2 * W := by have := unhide hw; omega
  have sh3 : sh ≤ 2 * H := by have := unhide hh; omega
  have hGr := hide (fun (X : World) (h : ArgI X ad zs) => specL7Grow W H sw sh ad cap zs X (unhide hp) h sw1 sw2 sw3 sh1 sh2 sh3 (by rw [unhide hPd]; exact hg))
  have c0 := (unhide hbx).1.2 0 _ rfl
  have c1 := (unhide hbx).1.2 1 _ rfl
  have c2 := (unhide hbx).1.2 2 _ rfl
  clear hR hg1 hW hH
  go_wp2_with fail
  refine (unhide hGr wc (unhide hA0)).mono ?_
  rintro e wm ⟨um, rfl, hom, hum⟩
  obtain ⟨am, cm, rfl⟩ := hom.form
  have hr2 := hide ((unhide hrs).keep hum)
  have hum2 := hide hum
  replace hom := hide hom
  have z0 := (unhide hr2).1.2 0 _ rfl
  have z1 := (unhide hr2).1.2 1 _ rfl
  have z2 := (unhide hr2).1.2 2 _ rfl
  have y0 := (unhide hr2).2 0
  have y1 := (unhide hr2).2 1
  have y2 := (unhide hr2).2 2
  clear hum c0 c1 c2
  simp only [Plv, Pls, growL_length]
  go_wp2
  refine bodyPost_ret (v := .agg #[.int .i64 (sw : Int), .int .i64 (sh : Int), .slice am (sw * sh) cm]) (by simp [results, Try.results20, go_sem, z0, z1, z2]) rfl ⟨_, rfl, ?_, Upd.of_below ((((below_upd (unhide hB0) (unhide hum2) (Nat.le_refl _) (.inr (Nat.le_refl _))).setCell (by simp) _).setCell (by simp) _).setCell (by simp) _) 0 0⟩
  rw [unhide hF]
  obtain ⟨vl, hvl, ho⟩ := unhide hom
  have hvl2 : vl = .slice am (sw * sh) cm := by simpa [Plv, Pls] using hvl.symm
  subst hvl2
  refine ⟨_, rfl, ?_⟩
  rw [unhide hPd] at ho ⊢
  refine own_mono (a := wc.heap.size) (b := wm.heap.size) ⟨?_, ho.2⟩ (by omega) (by simp)
  exact ownsRow_setCell_below (ownsRow_setCell_below (ownsRow_setCell_below ho.1 (show w.heap.size + 1 < wc.heap.size by omega) _) (show w.heap.size + 1 < wc.heap.size by omega) _) (show w.heap.size + 1 < wc.heap.size by omega) _
end Go.Proofs.Ytnalmingbglgfaa

/- The walks of the laws' own comparing of lists of ints and of byte strings. -/
namespace Go.Proofs.Ytnalmingbglgfaa
open Go.RowKit

set_option maxHeartbeats 1000000 in
theorem wInts_rd (u v : Value) (zs : List Int) (w : World) (hn : zs.length ≤ 1048576) (hu : RdI w u zs) (hv : RdI w v zs) :
    Calls Try.prog 21 #[u, v] w fun e w' => e = .returned (.bool true) ∧ Upd 0 0 w w' := by
  obtain ⟨ad, cap, rfl, hA⟩ := hu
  obtain ⟨ad', cap', rfl, hA'⟩ := hv
  replace hA := hide hA
  replace hA' := hide hA'
  go_enter Try.func21, Try.ntmps21
  go_wp2
  go_loopw [13] (fun i wr => ∃ k : Nat, k ≤ zs.length ∧ i = .int .i64 k ∧ ∃ nq, wr = w.drewN nq) (fun i _ => zs.length - (intOf i).toNat)
  case atStart => exact ⟨0, Nat.zero_le _, rfl, 0, rfl⟩
  case round =>
    obtain ⟨k, hk, rfl, nq, rfl⟩ := hrel
    by_cases hlt : k < zs.length
    · obtain ⟨b, off, rfl, hbl, hc⟩ := (unhide hA) (ne_of_lt_length hlt)
      obtain ⟨b', off', rfl, hbl', hc'⟩ := (unhide hA') (ne_of_lt_length hlt)
      have hck := hc k hlt
      have hck' := hc' k hlt
      clear hc hc' hA hA'
      generalize zs.getD k 0 = x at hck hck'
      go_wp2
      go_quiet (fail)
      go_wp2
      go_roundw
      case rel => exact ⟨k + 1, by omega, by go_num, _, rfl⟩
      case measure => simp [intOf]; omega
    · have hkl : k = zs.length := by omega
      subst hkl
      go_wp2
      go_ret
      exact ⟨rfl, (Upd.refl 0 0 _).drewN _⟩

end Go.Proofs.Ytnalmingbglgfaa

/- The law on drawn planes of other sizes, walked. -/
namespace Go.Proofs.Ytnalmingbglgfaa
open Go.RowKit

theorem fld0 (a b : Int) (v : Value) (W : World) : (Instr.field 25 (.agg #[.int .i64 a, .int .i64 b, v]) 0).run Try.prog W = .ok (.int .i64 a) W := by kernel_rfl
theorem fld2 (a b : Int) (v : Value) (W : World) : (Instr.field 25 (.agg #[.int .i64 a, .int .i64 b, v]) 2).run Try.prog W = .ok v W := by kernel_rfl
theorem inR_inIp {lo hi : Int} {xs : List Int} (h : InR lo hi xs) (hl : -9223372036854775808 ≤ lo) (hh : hi ≤ 9223372036854775807) : InI xs := by
  intro j
  by_cases hj : j < xs.length
  · have := h j hj; omega
  · rw [List.getD_eq_getElem?_getD, List.getElem?_eq_none (by omega)]; simp
theorem plCall {P : Program} {f : FuncId} {args : Array Value} {w : World} {d : Pl} (h : Calls P f args w fun e w' => ∃ u, e = .returned u ∧ OwnPl w' w.heap.size w'.heap.size u d ∧ Upd 0 0 w w') :
    Calls P f args w fun e w' => ∃ a c, e = .returned (.agg #[.int .i64 d.1, .int .i64 d.2.1, .slice a d.2.2.length c]) ∧ ArgI w' a d.2.2 ∧ Upd 0 0 w w' :=
  h.mono fun _ _ ⟨_, he, ho, hu⟩ => by
    obtain ⟨vl, rfl, ho⟩ := ho
    obtain ⟨a, c, e, hA⟩ := readK_of_own ho
    exact ⟨a, c, by rw [he]; simp only [Plv, Pls] at e ⊢; rw [e], hA, hu⟩
set_option maxHeartbeats 8000000 in
set_option maxRecDepth 100000 in
theorem lawFnSizesB (ad : Option Addr) (cap : Nat) (zs : List Int) (w : World) (hA : ArgB w ad zs) :
    Calls Try.prog 3 #[.slice ad zs.length cap] w fun e w' => e = .returned (.bool true) ∧ Below w.heap.size w w' := by
  by_cases hl : 1048576 < zs.length
  · clear hA
    go_enter Try.func3, Try.ntmps3
    go_wp2
    go_ret
    exact ⟨rfl, Below.refl _ _⟩
  have hl' : zs.length ≤ 1048576 := by omega
  replace hA := hide hA
  go_enter Try.func3, Try.ntmps3
  go_wp2_with fail
  refine (specDrawResize ad cap zs _ (unhide hA) hl').mono ?_
  rintro e w1 ⟨A, B, v, xs, wi, he, rfl, hA1, hB1, hxn, hxR, hwi, hhe, hv, hB⟩
  clear hA hl hl'
  obtain ⟨av, cv, rfl, hX⟩ := hv
  have hb2 := (Below.refl w1.heap.size w1).alloc (Nat.le_refl _) (.cells #[.int .i64 A, .int .i64 B, .slice av xs.length cv] 25)
  have hbx := hide (heldF_new w1 [.int .i64 A, .int .i64 B, .slice av xs.length cv] 25)
  have hX2 := hide (hX.below hb2)
  have hB2 := hide (hB.trans (hb2.mono hB.size))
  have hs1 := hB.size
  clear hb2 hX hB
  have hI : InPl (A, B, xs) := by unfold InPl; exact ⟨by simp only; omega, by simp only; omega, inR_inIp hxR (by omega) (by omega)⟩
  have hn : (A, B, xs).2.2.length ≤ 1048576 := by show xs.length ≤ _; omega
  replace hI := hide hI
  have c0 := (unhide hbx).1.2 0 _ rfl
  have c1 := (unhide hbx).1.2 1 _ rfl
  have c2 := (unhide hbx).1.2 2 _ rfl
  go_wp2_with fail
  clear c0 c1 c2
  obtain ⟨N, hN⟩ : ∃ N, w1.heap.size = N := ⟨_, rfl⟩
  have hsN : w.heap.size ≤ N := by omega
  have hsM : N < (w1.alloc (.cells #[.int .i64 A, .int .i64 B, .slice av xs.length cv] 25)).heap.size := by rw [← hN]; simp
  rw [hN] at hbx ⊢
  generalize w1.alloc (.cells #[.int .i64 A, .int .i64 B, .slice av xs.length cv] 25) = w2 at hbx hX2 hB2 hsM ⊢
  clear hN hs1
  refine (specGoodPlane _ (A, B, xs) w2 hn (unhide hI) ⟨_, rfl, ⟨av, cv, rfl, unhide hX2⟩⟩).mono ?_
  rintro e w3 ⟨rfl, hu3⟩
  replace hbx := hide ((unhide hbx).keep hu3)
  replace hX2 := hide ((unhide hX2).below hu3.none)
  replace hB2 := hide (below_upd (unhide hB2) hu3 (by omega) (.inr (Nat.zero_le _)))
  have hs3 := hu3.size
  clear hu3
  have hSh := hide (fun (b : Int) (W : World) (h : ArgI W av xs) (hb : -9223372036854775808 ≤ b ∧ b ≤ 9223372036854775807) => plCall (implShrink (.agg #[.int .i64 A, .int .i64 B, .slice av xs.length cv]) (A, B, xs) b W hn (unhide hI) ⟨_, rfl, ⟨av, cv, rfl, h⟩⟩ hb.1 hb.2))
  have hRz := hide (fun (x y : Int) (W : World) (h : ArgI W av xs) (hx : -9223372036854775808 ≤ x ∧ x ≤ 9223372036854775807) (hy : -9223372036854775808 ≤ y ∧ y ≤ 9223372036854775807) => plCall (implResize (.agg #[.int .i64 A, .int .i64 B, .slice av xs.length cv]) (A, B, xs) x y W hn (unhide hI) ⟨_, rfl, ⟨av, cv, rfl, h⟩⟩ hx.1 hx.2 hy.1 hy.2))
  by_cases hg : GoodPl (A, B, xs)
  case neg =>
    rw [goodPlB_no hg]
    have hS2 := hide (unhide hSh 2 w3 (unhide hX2) (by omega))
    rw [shrinkF_no (fun h => hg h.1)] at hS2
    have hR2 := hide (fun W h => unhide hRz wi he W h (by omega) (by omega))
    rw [resizeF_no (fun h => hg h.1)] at hR2
    clear hSh hRz hg
    have f0 := fld0
    have c0 := (unhide hbx).1.2 0 _ rfl
    have c1 := (unhide hbx).1.2 1 _ rfl
    have c2 := (unhide hbx).1.2 2 _ rfl
    go_wp2_with fail
    refine (unhide hS2).mono ?_
    rintro e w4 ⟨a4, k4, rfl, _, hu4⟩
    replace hbx := hide ((unhide hbx).keep hu4)
    replace hX2 := hide ((unhide hX2).below hu4.none)
    replace hB2 := hide (below_upd (unhide hB2) hu4 (by omega) (.inr (Nat.zero_le _)))
    clear hu4 c0 c1 c2 hS2
    have c0 := (unhide hbx).1.2 0 _ rfl
    have c1 := (unhide hbx).1.2 1 _ rfl
    have c2 := (unhide hbx).1.2 2 _ rfl
    go_wp2_with fail
    refine (unhide hR2 w4 (unhide hX2)).mono ?_
    rintro e w5 ⟨a5, k5, rfl, _, hu5⟩
    replace hB2 := hide (below_upd (unhide hB2) hu5 (by omega) (.inr (Nat.zero_le _)))
    clear hu5 c0 c1 c2 hR2
    go_wp2
    go_ret
    exact ⟨rfl, unhide hB2⟩
  rw [goodPlB_yes hg]
  obtain ⟨W, H, eA, eB, hp⟩ := GoodPl.nat hg
  have c2 := (unhide hbx).1.2 2 _ rfl
  go_wp2_with fail
  refine (specEnds _ xs w3 (by omega) ⟨av, cv, rfl, unhide hX2⟩).mono ?_
  rintro e w4 ⟨lo, hi, rfl, hends, hw4⟩
  subst w4
  clear c2 hSh hRz
  subst eA
  subst eB
  have hW := hp.w
  have hH := hp.h
  have hRd := hide (fun (X : World) (hX : Below w3.heap.size w3 X) => (unhide hX2).below hX)
  have hSh := hide (fun (b : Int) (hb : b = 2 ∨ b = 4) (X : World) (hX : Below w3.heap.size w3 X) => show Calls Try.prog 14 #[.agg #[.int .i64 (W : Int), .int .i64 (H : Int), .slice av xs.length cv], .int .i64 b] X fun e w' => ∃ a c, e = .returned (.agg #[.int .i64 (shrinkF ((W : Int), (H : Int), xs) b).1, .int .i64 (shrinkF ((W : Int), (H : Int), xs) b).2.1, .slice a (shrinkF ((W : Int), (H : Int), xs) b).2.2.length c]) ∧ ArgI w' a (shrinkF ((W : Int), (H : Int), xs) b).2.2 ∧ Upd 0 0 X w' ∧ Below w3.heap.size w3 w' from
    (plCall (implShrink _ ((W : Int), (H : Int), xs) b X hn (unhide hI) ⟨_, rfl, ⟨av, cv, rfl, unhide hRd X hX⟩⟩ (by omega) (by omega))).mono fun e w' ⟨a, c, he, hA, hu⟩ => ⟨a, c, he, hA, hu, hX.trans (hu.none.mono hX.size)⟩)
  have hRz := hide (fun (X : World) (hX : Below w3.heap.size w3 X) => show Calls Try.prog 15 #[.agg #[.int .i64 (W : Int), .int .i64 (H : Int), .slice av xs.length cv], .int .i64 wi, .int .i64 he] X fun e w' => ∃ a c, e = .returned (.agg #[.int .i64 (resizeF ((W : Int), (H : Int), xs) wi he).1, .int .i64 (resizeF ((W : Int), (H : Int), xs) wi he).2.1, .slice a (resizeF ((W : Int), (H : Int), xs) wi he).2.2.length c]) ∧ ArgI w' a (resizeF ((W : Int), (H : Int), xs) wi he).2.2 ∧ Upd 0 0 X w' ∧ Below w3.heap.size w3 w' from
    (plCall (implResize _ ((W : Int), (H : Int), xs) wi he X hn (unhide hI) ⟨_, rfl, ⟨av, cv, rfl, unhide hRd X hX⟩⟩ (by omega) (by omega) (by omega) (by omega))).mono fun e w' ⟨a, c, he, hA, hu⟩ => ⟨a, c, he, hA, hu, hX.trans (hu.none.mono hX.size)⟩)
  have hGwA : ∀ X, Below w3.heap.size w3 X → Calls Try.prog 17 #[.agg #[.int .i64 (W : Int), .int .i64 (H : Int), .slice av xs.length cv], .int .i64 (2 * (W : Int) - 1), .int .i64 (2 * (H : Int))] X fun e w' => ∃ a c, e = .returned (.agg #[.int .i64 (growPl W H (2 * W - 1) (2 * H) xs).1, .int .i64 (growPl W H (2 * W - 1) (2 * H) xs).2.1, .slice a (growPl W H (2 * W - 1) (2 * H) xs).2.2.length c]) ∧ ArgI w' a (growPl W H (2 * W - 1) (2 * H) xs).2.2 ∧ Upd 0 0 X w' := fun X hX => by
    have h := plCall (implGrow W H (2 * W - 1) (2 * H) xs av cv X hp hg (unhide hI) (unhide hRd X hX) (.inr rfl) (.inl rfl) (by omega) (by omega))
    rw [show (((2 * W - 1 : Nat)) : Int) = 2 * (W : Int) - 1 by omega, show (((2 * H : Nat)) : Int) = 2 * (H : Int) by omega] at h
    exact h
  have hGw := hide (fun (X : World) (hX : Below w3.heap.size w3 X) => show Calls Try.prog 17 #[.agg #[.int .i64 (W : Int), .int .i64 (H : Int), .slice av xs.length cv], .int .i64 (2 * (W : Int) - 1), .int .i64 (2 * (H : Int))] X fun e w' => ∃ a c, e = .returned (.agg #[.int .i64 (growPl W H (2 * W - 1) (2 * H) xs).1, .int .i64 (growPl W H (2 * W - 1) (2 * H) xs).2.1, .slice a (growPl W H (2 * W - 1) (2 * H) xs).2.2.length c]) ∧ ArgI w' a (growPl W H (2 * W - 1) (2 * H) xs).2.2 ∧ Upd 0 0 X w' ∧ Below w3.heap.size w3 w' from
    (hGwA X hX).mono fun e w' ⟨a, c, he, hA, hu⟩ => ⟨a, c, he, hA, hu, hX.trans (hu.none.mono hX.size)⟩)
  clear hGwA
  have hShS := hide (fun (b : Int) (hb : b = 2 ∨ b = 4) (X : World) (hX : Below w3.heap.size w3 X) => show Calls Try.prog 18 #[.agg #[.int .i64 (W : Int), .int .i64 (H : Int), .slice av xs.length cv], .int .i64 b] X fun e w' => ∃ a c, e = .returned (.agg #[.int .i64 (shrinkF ((W : Int), (H : Int), xs) b).1, .int .i64 (shrinkF ((W : Int), (H : Int), xs) b).2.1, .slice a (shrinkF ((W : Int), (H : Int), xs) b).2.2.length c]) ∧ ArgI w' a (shrinkF ((W : Int), (H : Int), xs) b).2.2 ∧ Upd 0 0 X w' ∧ Below w3.heap.size w3 w' from
    (plCall (specShrink _ ((W : Int), (H : Int), xs) b X hn (unhide hI) ⟨_, rfl, ⟨av, cv, rfl, unhide hRd X hX⟩⟩ (by omega) (by omega))).mono fun e w' ⟨a, c, he, hA, hu⟩ => ⟨a, c, he, hA, hu, hX.trans (hu.none.mono hX.size)⟩)
  have hRzS := hide (fun (X : World) (hX : Below w3.heap.size w3 X) => show Calls Try.prog 19 #[.agg #[.int .i64 (W : Int), .int .i64 (H : Int), .slice av xs.length cv], .int .i64 wi, .int .i64 he] X fun e w' => ∃ a c, e = .returned (.agg #[.int .i64 (resizeF ((W : Int), (H : Int), xs) wi he).1, .int .i64 (resizeF ((W : Int), (H : Int), xs) wi he).2.1, .slice a (resizeF ((W : Int), (H : Int), xs) wi he).2.2.length c]) ∧ ArgI w' a (resizeF ((W : Int), (H : Int), xs) wi he).2.2 ∧ Upd 0 0 X w' ∧ Below w3.heap.size w3 w' from
    (plCall (specResize _ ((W : Int), (H : Int), xs) wi he X hn (unhide hI) ⟨_, rfl, ⟨av, cv, rfl, unhide hRd X hX⟩⟩ (by omega) (by omega) (by omega) (by omega))).mono fun e w' ⟨a, c, he, hA, hu⟩ => ⟨a, c, he, hA, hu, hX.trans (hu.none.mono hX.size)⟩)
  have hGwSA : ∀ X, Below w3.heap.size w3 X → Calls Try.prog 20 #[.agg #[.int .i64 (W : Int), .int .i64 (H : Int), .slice av xs.length cv], .int .i64 (2 * (W : Int) - 1), .int .i64 (2 * (H : Int))] X fun e w' => ∃ a c, e = .returned (.agg #[.int .i64 (growPl W H (2 * W - 1) (2 * H) xs).1, .int .i64 (growPl W H (2 * W - 1) (2 * H) xs).2.1, .slice a (growPl W H (2 * W - 1) (2 * H) xs).2.2.length c]) ∧ ArgI w' a (growPl W H (2 * W - 1) (2 * H) xs).2.2 ∧ Upd 0 0 X w' := fun X hX => by
    have h := plCall (specGrow W H (2 * W - 1) (2 * H) xs av cv X hp hg (unhide hI) (unhide hRd X hX) rfl rfl (by omega) (by omega))
    rw [show (((2 * W - 1 : Nat)) : Int) = 2 * (W : Int) - 1 by omega, show (((2 * H : Nat)) : Int) = 2 * (H : Int) by omega] at h
    exact h
  have hGwS := hide (fun (X : World) (hX : Below w3.heap.size w3 X) => show Calls Try.prog 20 #[.agg #[.int .i64 (W : Int), .int .i64 (H : Int), .slice av xs.length cv], .int .i64 (2 * (W : Int) - 1), .int .i64 (2 * (H : Int))] X fun e w' => ∃ a c, e = .returned (.agg #[.int .i64 (growPl W H (2 * W - 1) (2 * H) xs).1, .int .i64 (growPl W H (2 * W - 1) (2 * H) xs).2.1, .slice a (growPl W H (2 * W - 1) (2 * H) xs).2.2.length c]) ∧ ArgI w' a (growPl W H (2 * W - 1) (2 * H) xs).2.2 ∧ Upd 0 0 X w' ∧ Below w3.heap.size w3 w' from
    (hGwSA X hX).mono fun e w' ⟨a, c, he, hA, hu⟩ => ⟨a, c, he, hA, hu, hX.trans (hu.none.mono hX.size)⟩)
  clear hGwSA
  have hRo := hide (fun (X : World) (hX : Below w3.heap.size w3 X) => show Calls Try.prog 15 #[.agg #[.int .i64 (W : Int), .int .i64 (H : Int), .slice av xs.length cv], .int .i64 (W : Int), .int .i64 (H : Int)] X fun e w' => ∃ a c, e = .returned (.agg #[.int .i64 (W : Int), .int .i64 (H : Int), .slice a xs.length c]) ∧ ArgI w' a xs ∧ Upd 0 0 X w' ∧ Below w3.heap.size w3 w' from by
    have h := plCall (implResize _ ((W : Int), (H : Int), xs) (W : Int) (H : Int) X hn (unhide hI) ⟨_, rfl, ⟨av, cv, rfl, unhide hRd X hX⟩⟩ (by omega) (by omega) (by omega) (by omega))
    rw [resizeF_yes hg hg.1] at h
    simp only [Int.toNat_natCast] at h
    rw [resizeL_own hp] at h
    exact h.mono fun e w' ⟨a, c, he, hA, hu⟩ => ⟨a, c, he, hA, hu, hX.trans (hu.none.mono hX.size)⟩)
  -- what the four planes hold
  have hK0 : Hid (∀ b, b = 2 ∨ b = 4 → InR lo hi (shrinkF ((W : Int), (H : Int), xs) b).2.2 ∧ (shrinkF ((W : Int), (H : Int), xs) b).2.2.length ≤ 1048576) := hide (fun b hb => by
    refine ⟨?_, shrinkF_len _ _⟩
    rw [shrinkF_yes hg hb]
    obtain ⟨b, rfl⟩ := Int.eq_ofNat_of_zero_le (show 0 ≤ b by omega)
    simp only [Int.toNat_natCast]
    exact shrinkL_btw hp hends (by omega))
  have hK2 : Hid (InR lo hi (resizeF ((W : Int), (H : Int), xs) wi he).2.2 ∧ (resizeF ((W : Int), (H : Int), xs) wi he).2.2.length ≤ 1048576) := hide (by
    refine ⟨?_, resizeF_len _ _ _⟩
    by_cases hs : SidesOk wi he
    · rw [resizeF_yes hg hs]; exact resizeL_btw hp hends
    · rw [resizeF_no (fun h => hs h.2)]; exact nil_inR _ _)
  have hK3 : Hid (InR lo hi (growPl W H (2 * W - 1) (2 * H) xs).2.2 ∧ (growPl W H (2 * W - 1) (2 * H) xs).2.2.length ≤ 1048576) := hide (by
    unfold growPl
    split
    · exact ⟨growL_btw hp hends, by simp [growL]; omega⟩
    · exact ⟨nil_inR _ _, by simp⟩)
  generalize shrinkF ((W : Int), (H : Int), xs) = QS at hSh hShS hK0
  generalize resizeF ((W : Int), (H : Int), xs) wi he = Q2 at hRz hRzS hK2
  generalize growPl W H (2 * W - 1) (2 * H) xs = Q3 at hGw hGwS hK3
  have hS : Hid (∀ X, Below w3.heap.size w3 X → X.cell? ⟨N, 0, none⟩ = some (.int .i64 (W : Int)) ∧ X.cell? ⟨N, 1, none⟩ = some (.int .i64 (H : Int)) ∧ X.cell? ⟨N, 2, none⟩ = some (.slice av xs.length cv)) := hide (fun X hX =>
    ⟨(hX.cell (p := ⟨N, 0, none⟩) (unhide hbx).1.1).trans ((unhide hbx).1.2 0 _ rfl), (hX.cell (p := ⟨N, 1, none⟩) (unhide hbx).1.1).trans ((unhide hbx).1.2 1 _ rfl), (hX.cell (p := ⟨N, 2, none⟩) (unhide hbx).1.1).trans ((unhide hbx).1.2 2 _ rfl)⟩)
  have hw1 : IntKind.i64.wrap (2 * (W : Int)) = 2 * (W : Int) := by simp [IntKind.wrap, IntKind.bits, IntKind.signed]; omega
  have hw2 : IntKind.i64.wrap (2 * (W : Int) - 1) = 2 * (W : Int) - 1 := by simp [IntKind.wrap, IntKind.bits, IntKind.signed]; omega
  have hw3 : IntKind.i64.wrap (2 * (H : Int)) = 2 * (H : Int) := by simp [IntKind.wrap, IntKind.bits, IntKind.signed]; omega
  clear hp hg hxR hA1 hB1 hwi hhe hends hn hI
  replace hW := hide hW
  replace hH := hide hH
  go_wp2_with fail
  go_region_held3 (fun X => X.cell? ⟨N, 0, none⟩ = some (.int .i64 (W : Int)) ∧ X.cell? ⟨N, 1, none⟩ = some (.int .i64 (H : Int)) ∧ X.cell? ⟨N, 2, none⟩ = some (.slice av xs.length cv)) ((first | exact unhide hS _ hb4 | exact unhide hS _ (hb4.alloc hb4.size _) | exact unhide hS _ hb3 | exact unhide hS _ hb2 | exact unhide hS _ hb1 | exact unhide hS _ (below_drewN (Below.refl _ _) 1))) ((first | (go_at_call 17; refine (unhide hGw _ hb3).mono ?_; rintro e w7 ⟨a4, k4, rfl, hA4, hu4, hb4⟩) | (go_at_call 15; refine (unhide hRz _ hb2).mono ?_; rintro e w6 ⟨a3, k3, rfl, hA3, hu3, hb3⟩) | (go_at_call 14; have hz := hb1; refine (unhide hSh _ (.inr rfl) _ hb1).mono ?_; rintro e w5 ⟨a2, k2, rfl, hA2, hu2, hb2⟩) | (go_at_call 14; refine (unhide hSh _ (.inl rfl) _ (below_drewN (Below.refl _ _) 1)).mono ?_; rintro e w4 ⟨a1, k1, rfl, hA1, hu1, hb1⟩)))
  have hbl := hide (heldF_new w7 [.int .i64 (QS 2).1, .int .i64 (QS 2).2.1, .slice a1 (QS 2).2.2.length k1, .int .i64 (QS 4).1, .int .i64 (QS 4).2.1, .slice a2 (QS 4).2.2.length k2, .int .i64 Q2.1, .int .i64 Q2.2.1, .slice a3 Q2.2.2.length k3, .int .i64 Q3.1, .int .i64 Q3.2.1, .slice a4 Q3.2.2.length k4] 25)
  have hal := (Below.refl w7.heap.size w7).alloc (Nat.le_refl _) (.cells #[.int .i64 (QS 2).1, .int .i64 (QS 2).2.1, .slice a1 (QS 2).2.2.length k1, .int .i64 (QS 4).1, .int .i64 (QS 4).2.1, .slice a2 (QS 4).2.2.length k2, .int .i64 Q2.1, .int .i64 Q2.2.1, .slice a3 Q2.2.2.length k3, .int .i64 Q3.1, .int .i64 Q3.2.1, .slice a4 Q3.2.2.length k4] 25)
  replace hA4 := hide (hA4.below hal)
  replace hA3 := hide ((hA3.below hu4.none).below hal)
  replace hA2 := hide (((hA2.below hu3.none).below hu4.none).below hal)
  replace hA1 := hide ((((hA1.below hu2.none).below hu3.none).below hu4.none).below hal)
  have hb5 := hide (hb4.alloc hb4.size (.cells #[.int .i64 (QS 2).1, .int .i64 (QS 2).2.1, .slice a1 (QS 2).2.2.length k1, .int .i64 (QS 4).1, .int .i64 (QS 4).2.1, .slice a2 (QS 4).2.2.length k2, .int .i64 Q2.1, .int .i64 Q2.2.1, .slice a3 Q2.2.2.length k3, .int .i64 Q3.1, .int .i64 Q3.2.1, .slice a4 Q3.2.2.length k4] 25))
  have hL7 : w7.heap.size < (w7.alloc (.cells #[.int .i64 (QS 2).1, .int .i64 (QS 2).2.1, .slice a1 (QS 2).2.2.length k1, .int .i64 (QS 4).1, .int .i64 (QS 4).2.1, .slice a2 (QS 4).2.2.length k2, .int .i64 Q2.1, .int .i64 Q2.2.1, .slice a3 Q2.2.2.length k3, .int .i64 Q3.1, .int .i64 Q3.2.1, .slice a4 Q3.2.2.length k4] 25)).heap.size := by simp
  clear hu1 hu2 hu3 hu4 hb1 hb2 hb3 hb4 hal hSh hRz hGw
  go_wp2_with fail
  obtain ⟨Lb, hLb⟩ : ∃ Lb, w7.heap.size = Lb := ⟨_, rfl⟩
  rw [hLb] at hbl hL7 ⊢
  generalize w7.alloc (.cells #[.int .i64 (QS 2).1, .int .i64 (QS 2).2.1, .slice a1 (QS 2).2.2.length k1, .int .i64 (QS 4).1, .int .i64 (QS 4).2.1, .slice a2 (QS 4).2.2.length k2, .int .i64 Q2.1, .int .i64 Q2.2.1, .slice a3 Q2.2.2.length k3, .int .i64 Q3.1, .int .i64 Q3.2.1, .slice a4 Q3.2.2.length k4] 25) = w8 at hbl hA1 hA2 hA3 hA4 hb5 hL7 ⊢
  clear hLb
  go_region_held3 (fun X => X.cell? ⟨N, 0, none⟩ = some (.int .i64 (W : Int)) ∧ X.cell? ⟨N, 1, none⟩ = some (.int .i64 (H : Int)) ∧ X.cell? ⟨N, 2, none⟩ = some (.slice av xs.length cv)) ((first | exact unhide hS _ hc4 | exact unhide hS _ (hc4.alloc hc4.size _) | exact unhide hS _ hc3 | exact unhide hS _ hc2 | exact unhide hS _ hc1 | exact unhide hS _ (below_drewN (unhide hb5) 1))) ((first | (go_at_call 20; refine (unhide hGwS _ hc3).mono ?_; rintro e w12 ⟨b4, m4, rfl, hE4, hv4, hc4⟩) | (go_at_call 19; refine (unhide hRzS _ hc2).mono ?_; rintro e w11 ⟨b3, m3, rfl, hE3, hv3, hc3⟩) | (go_at_call 18; have hz := hc1; refine (unhide hShS _ (.inr rfl) _ hc1).mono ?_; rintro e w10 ⟨b2, m2, rfl, hE2, hv2, hc2⟩) | (go_at_call 18; refine (unhide hShS _ (.inl rfl) _ (below_drewN (unhide hb5) 1)).mono ?_; rintro e w9 ⟨b1, m1, rfl, hE1, hv1, hc1⟩)))
  have hv0 : Upd 0 0 w8 w12 := ((((Upd.refl 0 0 w8).drewN 1).trans hv1).trans hv2).trans (hv3.trans hv4)
  have hbk := hide (heldF_new w12 [.int .i64 (QS 2).1, .int .i64 (QS 2).2.1, .slice b1 (QS 2).2.2.length m1, .int .i64 (QS 4).1, .int .i64 (QS 4).2.1, .slice b2 (QS 4).2.2.length m2, .int .i64 Q2.1, .int .i64 Q2.2.1, .slice b3 Q2.2.2.length m3, .int .i64 Q3.1, .int .i64 Q3.2.1, .slice b4 Q3.2.2.length m4] 25)
  have hal := (Below.refl w12.heap.size w12).alloc (Nat.le_refl _) (.cells #[.int .i64 (QS 2).1, .int .i64 (QS 2).2.1, .slice b1 (QS 2).2.2.length m1, .int .i64 (QS 4).1, .int .i64 (QS 4).2.1, .slice b2 (QS 4).2.2.length m2, .int .i64 Q2.1, .int .i64 Q2.2.1, .slice b3 Q2.2.2.length m3, .int .i64 Q3.1, .int .i64 Q3.2.1, .slice b4 Q3.2.2.length m4] 25)
  replace hE4 := hide (hE4.below hal)
  replace hE3 := hide ((hE3.below hv4.none).below hal)
  replace hE2 := hide (((hE2.below hv3.none).below hv4.none).below hal)
  replace hE1 := hide ((((hE1.below hv2.none).below hv3.none).below hv4.none).below hal)
  replace hA1 := hide (((unhide hA1).below hv0.none).below hal)
  replace hA2 := hide (((unhide hA2).below hv0.none).below hal)
  replace hA3 := hide (((unhide hA3).below hv0.none).below hal)
  replace hA4 := hide (((unhide hA4).below hv0.none).below hal)
  replace hbl := hide (((unhide hbl).keep hv0).keep (Upd.of_below hal 0 0))
  replace hb5 := hide (hc4.alloc hc4.size (.cells #[.int .i64 (QS 2).1, .int .i64 (QS 2).2.1, .slice b1 (QS 2).2.2.length m1, .int .i64 (QS 4).1, .int .i64 (QS 4).2.1, .slice b2 (QS 4).2.2.length m2, .int .i64 Q2.1, .int .i64 Q2.2.1, .slice b3 Q2.2.2.length m3, .int .i64 Q3.1, .int .i64 Q3.2.1, .slice b4 Q3.2.2.length m4] 25))
  clear hv0 hv1 hv2 hv3 hv4 hc1 hc2 hc3 hc4 hal hShS hRzS hGwS hw1 hw2 hw3
  go_wp2_with fail
  obtain ⟨Kb, hKb⟩ : ∃ Kb, w12.heap.size = Kb := ⟨_, rfl⟩
  rw [hKb] at hbk ⊢
  generalize w12.alloc (.cells #[.int .i64 (QS 2).1, .int .i64 (QS 2).2.1, .slice b1 (QS 2).2.2.length m1, .int .i64 (QS 4).1, .int .i64 (QS 4).2.1, .slice b2 (QS 4).2.2.length m2, .int .i64 Q2.1, .int .i64 Q2.2.1, .slice b3 Q2.2.2.length m3, .int .i64 Q3.1, .int .i64 Q3.2.1, .slice b4 Q3.2.2.length m4] 25) = wF at hbk hbl hA1 hA2 hA3 hA4 hE1 hE2 hE3 hE4 hb5 ⊢
  clear hKb hL7
  -- by numbers
  obtain ⟨D, aL, kL, aK, mK, hAll⟩ : ∃ (D : Nat → Pl) (aL : Nat → Option Addr) (kL : Nat → Nat) (aK : Nat → Option Addr) (mK : Nat → Nat), Hid (∀ k, k < 4 →
      wF.cell? ⟨Lb, k * 3, none⟩ = some (.int .i64 (D k).1) ∧ wF.cell? ⟨Lb, k * 3 + 1, none⟩ = some (.int .i64 (D k).2.1) ∧ wF.cell? ⟨Lb, k * 3 + 2, none⟩ = some (.slice (aL k) (D k).2.2.length (kL k)) ∧
      wF.cell? ⟨Kb, k * 3, none⟩ = some (.int .i64 (D k).1) ∧ wF.cell? ⟨Kb, k * 3 + 1, none⟩ = some (.int .i64 (D k).2.1) ∧ wF.cell? ⟨Kb, k * 3 + 2, none⟩ = some (.slice (aK k) (D k).2.2.length (mK k)) ∧
      ArgI wF (aL k) (D k).2.2 ∧ ArgI wF (aK k) (D k).2.2 ∧ InR lo hi (D k).2.2 ∧ (D k).2.2.length ≤ 1048576) := by
    refine ⟨fun k => match k with | 0 => QS 2 | 1 => QS 4 | 2 => Q2 | _ => Q3, fun k => match k with | 0 => a1 | 1 => a2 | 2 => a3 | _ => a4, fun k => match k with | 0 => k1 | 1 => k2 | 2 => k3 | _ => k4, fun k => match k with | 0 => b1 | 1 => b2 | 2 => b3 | _ => b4, fun k => match k with | 0 => m1 | 1 => m2 | 2 => m3 | _ => m4, hide (fun k hk => ?_)⟩
    have l := (unhide hbl).1.2
    have m := (unhide hbk).1.2
    match k, hk with
    | 0, _ => exact ⟨l 0 _ rfl, l 1 _ rfl, l 2 _ rfl, m 0 _ rfl, m 1 _ rfl, m 2 _ rfl, unhide hA1, unhide hE1, (unhide hK0 2 (.inl rfl)).1, (unhide hK0 2 (.inl rfl)).2⟩
    | 1, _ => exact ⟨l 3 _ rfl, l 4 _ rfl, l 5 _ rfl, m 3 _ rfl, m 4 _ rfl, m 5 _ rfl, unhide hA2, unhide hE2, (unhide hK0 4 (.inr rfl)).1, (unhide hK0 4 (.inr rfl)).2⟩
    | 2, _ => exact ⟨l 6 _ rfl, l 7 _ rfl, l 8 _ rfl, m 6 _ rfl, m 7 _ rfl, m 8 _ rfl, unhide hA3, unhide hE3, (unhide hK2).1, (unhide hK2).2⟩
    | 3, _ => exact ⟨l 9 _ rfl, l 10 _ rfl, l 11 _ rfl, m 9 _ rfl, m 10 _ rfl, m 11 _ rfl, unhide hA4, unhide hE4, (unhide hK3).1, (unhide hK3).2⟩
    | n + 4, h => omega
  have hLl : Lb < wF.heap.size := (unhide hbl).1.1
  have hKl : Kb < wF.heap.size := (unhide hbk).1.1
  clear hbl hbk hA1 hA2 hA3 hA4 hE1 hE2 hE3 hE4 hK0 hK2 hK3
  go_wp2_with fail
  go_loopw [82] (fun i wr => ∃ k : Nat, k ≤ 4 ∧ i = .int .i64 k ∧ Hid (Below wF.heap.size wF wr)) (fun i _ => 4 - (intOf i).toNat)
  case atStart => exact ⟨0, Nat.zero_le _, rfl, hide (Below.refl _ _)⟩
  case round =>
    obtain ⟨k, hk, rfl, hbr⟩ := hrel
    by_cases hlt : k < 4
    · obtain ⟨l0, l1, l2, n0, n1, n2, hAl, hAk, hin, hlen⟩ := unhide hAll k hlt
      replace l0 := ((unhide hbr).cell (p := ⟨Lb, k * 3, none⟩) hLl).trans l0
      replace l1 := ((unhide hbr).cell (p := ⟨Lb, k * 3 + 1, none⟩) hLl).trans l1
      replace l2 := ((unhide hbr).cell (p := ⟨Lb, k * 3 + 2, none⟩) hLl).trans l2
      replace n0 := ((unhide hbr).cell (p := ⟨Kb, k * 3, none⟩) hKl).trans n0
      replace n1 := ((unhide hbr).cell (p := ⟨Kb, k * 3 + 1, none⟩) hKl).trans n1
      replace n2 := ((unhide hbr).cell (p := ⟨Kb, k * 3 + 2, none⟩) hKl).trans n2
      replace hAl := hide (hAl.below (unhide hbr))
      replace hAk := hide (hAk.below (unhide hbr))
      replace hin := hide hin
      generalize D k = d at l0 l1 l2 n0 n1 n2 hAl hAk hin hlen
      obtain ⟨da, db, dz⟩ := d
      simp only at l0 l1 l2 n0 n1 n2 hAl hAk hin hlen
      generalize aL k = al at l2 hAl
      generalize kL k = kl at l2
      generalize aK k = ak at n2 hAk
      generalize mK k = mk at n2
      have hsr : wF.heap.size ≤ wr.heap.size := (unhide hbr).size
      have hkI : (0 : Int) ≤ (k : Int) := by omega
      have hkL : (k : Int) < 4 := by omega
      go_wp2_with fail
      have hq := hide (heldF_new wr [.int .i64 da, .int .i64 db, .slice al dz.length kl] 25)
      have hbq := (Below.refl wr.heap.size wr).alloc (Nat.le_refl _) (.cells #[.int .i64 da, .int .i64 db, .slice al dz.length kl] 25)
      have hbr2 := hide ((unhide hbr).trans (hbq.mono hsr))
      replace hAl := hide ((unhide hAl).below hbq)
      replace hAk := hide ((unhide hAk).below hbq)
      have hKr : Kb < wr.heap.size := by omega
      have p0 := (hbq.cell (p := ⟨Kb, k * 3, none⟩) hKr).trans n0
      have p1 := (hbq.cell (p := ⟨Kb, k * 3 + 1, none⟩) hKr).trans n1
      have p2 := (hbq.cell (p := ⟨Kb, k * 3 + 2, none⟩) hKr).trans n2
      have hKw : Kb < (wr.alloc (.cells #[.int .i64 da, .int .i64 db, .slice al dz.length kl] 25)).heap.size := by simp; omega
      have hBw : wr.heap.size < (wr.alloc (.cells #[.int .i64 da, .int .i64 db, .slice al dz.length kl] 25)).heap.size := by simp
      clear hbq l0 l1 l2 n0 n1 n2
      obtain ⟨Q, hQ⟩ : ∃ Q, wr.heap.size = Q := ⟨_, rfl⟩
      rw [hQ] at hq hBw ⊢
      generalize wr.alloc (.cells #[.int .i64 da, .int .i64 db, .slice al dz.length kl] 25) = w5 at hq hbr2 hAl hAk p0 p1 p2 hKw hBw ⊢
      clear hQ hKr hsr
      have x0 := fun X : UpdT w5 => ((X.upd.none.cell (p := ⟨Kb, k * 3, none⟩) hKw).trans p0)
      have x1 := fun X : UpdT w5 => ((X.upd.none.cell (p := ⟨Kb, k * 3 + 1, none⟩) hKw).trans p1)
      have x2 := fun X : UpdT w5 => ((X.upd.none.cell (p := ⟨Kb, k * 3 + 2, none⟩) hKw).trans p2)
      have y0 := fun X : UpdT w5 => (((unhide hq).1.updT X).2 0 _ rfl)
      have y1 := fun X : UpdT w5 => (((unhide hq).1.updT X).2 1 _ rfl)
      have y2 := fun X : UpdT w5 => (((unhide hq).1.updT X).2 2 _ rfl)
      clear p0 p1 p2
      refine wq_region_upd (by kernel_rfl) (by kernel_rfl) ?_
      refine WQ.step (fun K hK => ?_)
      go_simp
      refine hK _ ?_
      clear hK K
      refine WQ.step (fun K hK => ?_)
      go_simp
      refine hK _ ?_
      clear hK K
      refine WQ.step (fun K hK => ?_)
      go_simp
      refine hK _ ?_
      clear hK K
      refine WQ.step (fun K hK => ?_)
      go_simp
      refine hK _ ?_
      clear hK K
      refine WQ.step (fun K hK => ?_)
      go_simp
      refine hK _ ?_
      clear hK K
      refine WQ.step (fun K hK => ?_)
      go_simp
      refine hK _ ?_
      clear hK K
      refine WQ.step (fun K hK => ?_)
      go_simp
      refine hK _ ?_
      clear hK K
      refine WQ.step (fun K hK => ?_)
      go_simp
      refine hK _ ?_
      clear hK K
      refine WQ.step (fun K hK => ?_)
      go_simp
      refine hK _ ?_
      clear hK K
      refine WQ.step (fun K hK => ?_)
      go_simp
      refine hK _ ?_
      clear hK K
      refine WQ.step (fun K hK => ?_)
      go_simp
      refine hK _ ?_
      clear hK K
      refine WQ.step (fun K hK => ?_)
      go_simp
      refine hK _ ?_
      clear hK K
      refine WQ.step (fun K hK => ?_)
      go_simp
      refine hK _ ?_
      clear hK K
      refine WQ.step (fun K hK => ?_)
      go_simp
      refine hK _ ?_
      clear hK K
      refine WQ.step (fun K hK => ?_)
      go_simp
      refine hK _ ?_
      clear hK K
      refine WQ.step (fun K hK => ?_)
      go_simp
      refine hK _ ?_
      clear hK K
      refine WQ.step (fun K hK => ?_)
      go_simp
      refine hK _ ?_
      clear hK K
      refine WQ.step (fun K hK => ?_)
      go_simp
      refine hK _ ?_
      clear hK K
      refine WQ.step (fun K hK => ?_)
      go_simp
      refine hK _ ?_
      clear hK K
      refine WQ.step (fun K hK => ?_)
      go_simp
      refine hK _ ?_
      clear hK K
      refine WQ.step (fun K hK => ?_)
      go_simp
      refine hK _ ?_
      clear hK K
      refine WQ.step (fun K hK => ?_)
      go_simp
      refine hK _ ?_
      clear hK K
      refine WQ.step (fun K hK => ?_)
      go_simp
      refine hK _ ?_
      clear hK K
      refine WQ.step (fun K hK => ?_)
      go_simp
      refine hK _ ?_
      clear hK K
      refine WQ.step (fun K hK => ?_)
      go_simp
      refine hK _ ?_
      clear hK K
      refine WQ.step (fun K hK => ?_)
      go_simp
      refine hK _ ?_
      clear hK K
      refine WQ.step (fun K hK => ?_)
      go_simp
      refine ⟨_, fun X => Calls.updT X (wInts_rd (.slice al dz.length kl) (.slice ak dz.length mk) dz X.to hlen ⟨al, kl, rfl, (unhide hAl).below X.upd.none⟩ ⟨ak, mk, rfl, (unhide hAk).below X.upd.none⟩), hK _ ?_⟩
      clear hK K
      refine WQ.step (fun K hK => ?_)
      go_simp
      refine hK _ ?_
      clear hK K
      refine WQ.step (fun K hK => ?_)
      go_simp
      refine hK _ ?_
      clear hK K
      refine WQ.nil ?_
      rintro _ ⟨X, rfl⟩
      have hX := X.upd
      clear x0 x1 x2 y0 y1 y2
      generalize X.to = wt at hX ⊢
      replace hq := hide ((unhide hq).keep hX)
      replace hAl := hide ((unhide hAl).below hX.none)
      replace hbr := hide (below_upd (unhide hbr2) hX (by have := (unhide hbr2).size; omega) (.inr (Nat.zero_le _)))
      clear hX hAk hbr2
      have y2 := (unhide hq).1.2 2 _ rfl
      go_wp2_with fail
      clear y2
      go_loopw [119] (fun i wz => ∃ j : Nat, j ≤ dz.length ∧ i = .int .i64 j ∧ wz = wt) (fun i _ => dz.length - (intOf i).toNat)
      case atStart => exact ⟨0, Nat.zero_le _, rfl, rfl⟩
      case round =>
        obtain ⟨j, hj, rfl, hwz⟩ := hrel
        subst hwz
        by_cases hjl : j < dz.length
        · obtain ⟨bb, off, rfl, hbl, hcl⟩ := (unhide hAl) (ne_of_lt_length hjl)
          have hck := hcl j hjl
          have hb9 := (unhide hin) j hjl
          clear hcl hbl
          generalize dz.getD j 0 = x at hck hb9
          obtain ⟨g0, g1⟩ := hb9
          go_wp2_with fail
          go_roundw
          case rel => exact ⟨j + 1, by omega, by go_num, trivial⟩
          case measure => simp [intOf]; omega
        · have hjl2 : j = dz.length := by omega
          subst hjl2
          go_wp2_with fail
          go_roundw
          case rel => exact ⟨k + 1, by omega, by go_num, hbr⟩
          case measure => simp [intOf]; omega
    · have hk4 : k = 4 := by omega
      subst hk4
      have hbz := hide ((unhide hb5).trans ((unhide hbr).mono (unhide hb5).size))
      have f2 := fld2
      go_wp2_with fail
      go_region_held3 (fun X => X.cell? ⟨N, 0, none⟩ = some (.int .i64 (W : Int)) ∧ X.cell? ⟨N, 1, none⟩ = some (.int .i64 (H : Int)) ∧ X.cell? ⟨N, 2, none⟩ = some (.slice av xs.length cv)) ((first | exact unhide hS _ hc4 | exact unhide hS _ hc3 | exact unhide hS _ (below_drewN (unhide hbz) 1))) ((first | (go_at_call 15; refine (unhide hRo _ (below_drewN (unhide hbz) 1)).mono ?_; rintro e w7 ⟨a4, k4, rfl, hA4, hu4, hc3⟩) | (go_at_call 21; refine (wInts_rd (.slice a4 xs.length k4) (.slice av xs.length cv) xs _ (by omega) ⟨a4, k4, rfl, hA4⟩ ⟨av, cv, rfl, unhide hRd _ hc3⟩).mono ?_; rintro e w8 ⟨rfl, hu8⟩; have hc4 := hc3.trans (hu8.none.mono hc3.size))))
      have hfin := hide ((unhide hB2).trans (hc4.mono (unhide hB2).size))
      clear hc4 hc3 hA4 hu4 hu8
      go_wp2
      go_ret
      exact ⟨rfl, unhide hfin⟩
theorem lawFnSizes (ad : Option Addr) (cap : Nat) (zs : List Int) (w : World) (hA : ArgY w ad zs) (hR : InB zs) :
    Calls Try.prog 3 #[.slice ad zs.length cap] w fun e w' => e = .returned (.bool true) ∧ Below w.heap.size w w' :=
  lawFnSizesB ad cap zs w ⟨hR, fun hne => by
    obtain ⟨b, off, e, hl, hc⟩ := hA hne
    exact ⟨b, off, e, hl, hc⟩⟩
end Go.Proofs.Ytnalmingbglgfaa

/- Opening an argument that is a byte string or a list of ints: what the form's reading of it says of cells. -/
namespace Go.Proofs.Ytnalmingbglgfaa
open Go.ChangeShapes Go.WideShapes Go.ChangeAt Go.RowKit

theorem Try.own : ownKnob Try.prog.godebug = none := by kernel_rfl
theorem Try.laidOut : laidOutB Try.prog = true := by kernel_rfl
theorem cellsY : Try.prog.cellsOf 5 = 1 := by kernel_rfl
theorem cellsI : Try.prog.cellsOf 3 = 1 := by kernel_rfl
theorem i64_of_wf {x : Int} (h : (Lit.int .i64 x).wf = true) : -9223372036854775808 ≤ x ∧ x ≤ 9223372036854775807 := by
  simp [Lit.wf, IntKind.min, IntKind.max, IntKind.signed, IntKind.bits] at h
  exact ⟨by omega, by omega⟩
theorem u64_of_wf {x : Int} (h : (Lit.int .u64 x).wf = true) : 0 ≤ x ∧ x ≤ 18446744073709551615 := by
  simp [Lit.wf, IntKind.min, IntKind.max, IntKind.signed, IntKind.bits] at h
  exact ⟨by omega, by omega⟩
theorem u8_of_wf {x : Int} (h : (Lit.int .u8 x).wf = true) : 0 ≤ x ∧ x < 256 := by
  simp [Lit.wf, IntKind.min, IntKind.max, IntKind.signed, IntKind.bits] at h
  exact ⟨by omega, by omega⟩

set_option maxRecDepth 100000 in
theorem open_byts {H : Type} {enc : TypeId × Value → H} {W : World} {base : Nat} {v : Value} {d : DataW H} {p : List MemPlace}
    (hv : Value.okWide Try.prog W .any base 22 v) (h0 : DataW.Trod enc Try.prog W 0 (fun _ => true) true 22 v d p) (hlt : ∀ x ∈ p, x.block < W.heap.size) :
    ∃ ad cap zs, v = .slice ad zs.length cap ∧ ArgY W ad zs ∧ InB zs := by
  obtain ⟨a0, len, cap, rfl⟩ := okWide_slice Try.underlying22 hv
  obtain ⟨fuel, hf⟩ := h0
  rcases open_ints Try.underlying22 Try.underlying5 cellsY hf with ⟨hcs, hx⟩ | ⟨a, len', cap', zs, hcs, _, hl, hm, hz, hx, hcell, hwz⟩
  · simp [Value.cells] at hcs
    obtain ⟨rfl, rfl, rfl⟩ := hcs
    exact ⟨none, 0, [], rfl, fun h => absurd rfl h, fun j => by simp⟩
  · simp [Value.cells] at hcs
    obtain ⟨rfl, rfl, rfl⟩ := hcs
    simp only [Prod.mk.injEq] at hx
    obtain ⟨rfl, rfl⟩ := hx
    simp only [if_true] at hz
    have hlen : (zs.take len).length = len := by rw [List.length_take]; omega
    have hget : ∀ j, j < len → (zs.take len).getD j 0 = zs.getD j 0 := fun j hj => by
      rw [List.getD_eq_getElem?_getD, List.getD_eq_getElem?_getD, List.getElem?_take, if_pos hj]
    refine ⟨some a, cap, zs.take len, by rw [hlen], ?_, ?_⟩
    · intro hne
      have hpos : 0 < len := by
        rcases Nat.eq_zero_or_pos len with h | h
        · subst h; simp at hne
        · exact h
      obtain ⟨b, off, spot⟩ := a
      have hspot : spot = none := by simpa [Addr.add] using World.cell?_spot (hcell 0 (by omega))
      subst hspot
      refine ⟨b, off, rfl, hlt (.cell b off) (MemPlace.mem_row.2 ⟨0, by omega, by simp⟩), fun j hj => ?_⟩
      rw [hget j (by omega), ← add_plain]
      exact hcell j (by omega)
    · intro j
      by_cases hj : j < len
      · rw [hget j hj, List.getD_eq_getElem?_getD, List.getElem?_eq_getElem (by omega)]
        exact u8_of_wf (hwz _ (List.getElem_mem _))
      · rw [List.getD_eq_getElem?_getD, List.getElem?_eq_none (by omega)]; simp

set_option maxRecDepth 100000 in
theorem open_intl {H : Type} {enc : TypeId × Value → H} {W : World} {base : Nat} {v : Value} {d : DataW H} {p : List MemPlace}
    (hv : Value.okWide Try.prog W .any base 23 v) (h0 : DataW.Trod enc Try.prog W 0 (fun _ => true) true 23 v d p) (hlt : ∀ x ∈ p, x.block < W.heap.size) :
    ∃ ad cap zs, v = .slice ad zs.length cap ∧ ArgI W ad zs ∧ InI zs := by
  obtain ⟨a0, len, cap, rfl⟩ := okWide_slice Try.underlying23 hv
  obtain ⟨fuel, hf⟩ := h0
  rcases open_ints Try.underlying23 Try.underlying3 cellsI hf with ⟨hcs, hx⟩ | ⟨a, len', cap', zs, hcs, _, hl, hm, hz, hx, hcell, hwz⟩
  · simp [Value.cells] at hcs
    obtain ⟨rfl, rfl, rfl⟩ := hcs
    exact ⟨none, 0, [], rfl, fun h => absurd rfl h, fun j => by simp⟩
  · simp [Value.cells] at hcs
    obtain ⟨rfl, rfl, rfl⟩ := hcs
    simp only [Prod.mk.injEq] at hx
    obtain ⟨rfl, rfl⟩ := hx
    simp only [if_true] at hz
    have hlen : (zs.take len).length = len := by rw [List.length_take]; omega
    have hget : ∀ j, j < len → (zs.take len).getD j 0 = zs.getD j 0 := fun j hj => by
      rw [List.getD_eq_getElem?_getD, List.getD_eq_getElem?_getD, List.getElem?_take, if_pos hj]
    refine ⟨some a, cap, zs.take len, by rw [hlen], ?_, ?_⟩
    · intro hne
      have hpos : 0 < len := by
        rcases Nat.eq_zero_or_pos len with h | h
        · subst h; simp at hne
        · exact h
      obtain ⟨b, off, spot⟩ := a
      have hspot : spot = none := by simpa [Addr.add] using World.cell?_spot (hcell 0 (by omega))
      subst hspot
      refine ⟨b, off, rfl, hlt (.cell b off) (MemPlace.mem_row.2 ⟨0, by omega, by simp⟩), fun j hj => ?_⟩
      rw [hget j (by omega), ← add_plain]
      exact hcell j (by omega)
    · intro j
      by_cases hj : j < len
      · rw [hget j hj, List.getD_eq_getElem?_getD, List.getElem?_eq_getElem (by omega)]
        exact i64_of_wf (hwz _ (List.getElem_mem _))
      · rw [List.getD_eq_getElem?_getD, List.getElem?_eq_none (by omega)]; simp
end Go.Proofs.Ytnalmingbglgfaa
