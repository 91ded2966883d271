/- Toness as arguments and answers; the walks of the laws' own helpers on them. -/
import Derived.Test.YtnoojbppfbmbgaaDoorWHeld
import Derived.Test.YtnoojbppfbmbgaaDoorWLLl
import Derived.Deep.RegionHeld3
namespace Go.Proofs.YtnoojbppfbmbgaaDoor
open Go.RowKit

abbrev Tn := Int × Int × Int × List Ln × List Ln
abbrev Tnv (d : Tn) (v0 v1 : Value) : Value := .agg #[.int .i64 d.1, .int .i64 d.2.1, .int .i64 d.2.2.1, v0, v1]
def RdTn (w : World) (v : Value) (d : Tn) : Prop := ∃ v0 v1, v = Tnv d v0 v1 ∧ RdLl w v0 d.2.2.2.1 ∧ RdLl w v1 d.2.2.2.2
def OwnTn (w : World) (a b : Nat) (v : Value) (d : Tn) : Prop := ∃ v0 v1 a1, v = Tnv d v0 v1 ∧ (a ≤ a1 ∧ a1 ≤ b) ∧ OwnLl w a a1 v0 d.2.2.2.1 ∧ OwnLl w a1 b v1 d.2.2.2.2
theorem OwnTn.rd {w : World} {a b : Nat} {v : Value} {d : Tn} (h : OwnTn w a b v d) : RdTn w v d := by
  obtain ⟨v0, v1, a1, rfl, _, h0, h1⟩ := h
  exact ⟨v0, v1, rfl, h0.rd, h1.rd⟩
theorem RdTn.below {w w' : World} {v : Value} {d : Tn} (h : RdTn w v d) (hb : Below w.heap.size w w') : RdTn w' v d := by
  obtain ⟨v0, v1, rfl, h0, h1⟩ := h
  exact ⟨v0, v1, rfl, h0.below hb, h1.below hb⟩
theorem OwnTn.upd {w w' : World} {a b c e : Nat} {v : Value} {d : Tn} (h : OwnTn w a b v d) (u : Upd c e w w') (hd : b ≤ c ∨ e ≤ a) : OwnTn w' a b v d := by
  obtain ⟨v0, v1, a1, rfl, hch, h0, h1⟩ := h
  exact ⟨v0, v1, a1, rfl, hch, h0.upd u (by omega), h1.upd u (by omega)⟩
theorem OwnTn.keep {w w' : World} {a b : Nat} {v : Value} {d : Tn} (h : OwnTn w a b v d) (u : Upd 0 0 w w') : OwnTn w' a b v d := h.upd u (.inr (Nat.zero_le _))
theorem OwnTn.form {w : World} {a b : Nat} {v : Value} {d : Tn} (h : OwnTn w a b v d) : ∃ ad0 cap0 ad1 cap1, v = Tnv d (.slice ad0 d.2.2.2.1.length cap0) (.slice ad1 d.2.2.2.2.length cap1) := by
  obtain ⟨v0, v1, a1, rfl, _, h0, h1⟩ := h
  obtain ⟨ad0, cap0, rfl, _⟩ := h0.rd
  obtain ⟨ad1, cap1, rfl, _⟩ := h1.rd
  exact ⟨ad0, cap0, ad1, cap1, rfl⟩
/-- All numbers fit. -/
def InTn (d : Tn) : Prop := (-9223372036854775808 ≤ d.1 ∧ d.1 ≤ 9223372036854775807) ∧ (-9223372036854775808 ≤ d.2.1 ∧ d.2.1 ≤ 9223372036854775807) ∧ (-9223372036854775808 ≤ d.2.2.1 ∧ d.2.2.1 ≤ 9223372036854775807) ∧ InLl d.2.2.2.1 ∧ InLl d.2.2.2.2
def TnSize (d : Tn) : Nat := sizeLl d.2.2.2.1 + sizeLl d.2.2.2.2
def TnCount (d : Tn) : Nat := 0 * d.2.2.2.1.length + 0 * d.2.2.2.2.length

set_option maxHeartbeats 8000000 in
set_option maxRecDepth 100000 in
theorem toTones_own (v : Value) (d : Tn) (w : World) (hn : TnSize d ≤ 1048576) (hv : RdTn w v d) :
    Calls Tryd.prog 35 #[v] w fun e w' => ∃ u, e = .returned u ∧ OwnTn w' w.heap.size w'.heap.size u d ∧ Upd 0 0 w w' := by
  obtain ⟨l0, l1, rfl, hr0, hr1⟩ := hv
  obtain ⟨x0, x1, x2, zs0, zs1⟩ := d
  simp only [Tnv, TnSize] at hn ⊢
  have hn0 : sizeLl zs0 ≤ 1048576 := by omega
  have hn1 : sizeLl zs1 ≤ 1048576 := by omega
  have hB0 := (((Below.refl w.heap.size w).alloc (Nat.le_refl _) (.cells #[.int .i64 x0, .int .i64 x1, .int .i64 x2, l0, l1] 49)).alloc (by simp) (.cells #[.int .i64 0, .int .i64 0, .int .i64 0, .slice none 0 0, .slice none 0 0] 33)).alloc (by simp; omega) (.cells #[.int .i64 x0, .int .i64 x1, .int .i64 x2, .slice none 0 0, .slice none 0 0] 33)
  have hbx := ((heldF_new w [.int .i64 x0, .int .i64 x1, .int .i64 x2, l0, l1] 49).keep (Upd.of_below ((Below.refl _ _).alloc (Nat.le_refl _) (.cells #[.int .i64 0, .int .i64 0, .int .i64 0, .slice none 0 0, .slice none 0 0] 33)) 0 0)).keep (Upd.of_below ((Below.refl _ _).alloc (Nat.le_refl _) (.cells #[.int .i64 x0, .int .i64 x1, .int .i64 x2, .slice none 0 0, .slice none 0 0] 33)) 0 0)
  have hrs := (heldF_new (w.alloc (.cells #[.int .i64 x0, .int .i64 x1, .int .i64 x2, l0, l1] 49)) [.int .i64 0, .int .i64 0, .int .i64 0, .slice none 0 0, .slice none 0 0] 33).keep (Upd.of_below ((Below.refl _ _).alloc (Nat.le_refl _) (.cells #[.int .i64 x0, .int .i64 x1, .int .i64 x2, .slice none 0 0, .slice none 0 0] 33)) 0 0)
  have hot := heldF_new ((w.alloc (.cells #[.int .i64 x0, .int .i64 x1, .int .i64 x2, l0, l1] 49)).alloc (.cells #[.int .i64 0, .int .i64 0, .int .i64 0, .slice none 0 0, .slice none 0 0] 33)) [.int .i64 x0, .int .i64 x1, .int .i64 x2, .slice none 0 0, .slice none 0 0] 33
  have hsz : (((w.alloc (.cells #[.int .i64 x0, .int .i64 x1, .int .i64 x2, l0, l1] 49)).alloc (.cells #[.int .i64 0, .int .i64 0, .int .i64 0, .slice none 0 0, .slice none 0 0] 33)).alloc (.cells #[.int .i64 x0, .int .i64 x1, .int .i64 x2, .slice none 0 0, .slice none 0 0] 33)).heap.size = w.heap.size + 3 := by simp
  have e1 : (w.alloc (.cells #[.int .i64 x0, .int .i64 x1, .int .i64 x2, l0, l1] 49)).heap.size = w.heap.size + 1 := by simp
  have e2 : ((w.alloc (.cells #[.int .i64 x0, .int .i64 x1, .int .i64 x2, l0, l1] 49)).alloc (.cells #[.int .i64 0, .int .i64 0, .int .i64 0, .slice none 0 0, .slice none 0 0] 33)).heap.size = w.heap.size + 2 := by simp
  rw [e1] at hrs
  rw [e2] at hot
  clear e1 e2
  replace hr0 := hide hr0
  replace hr1 := hide hr1
  go_enter Tryd.func35, Tryd.ntmps35
  go_wp2_with fail
  generalize (((w.alloc (.cells #[.int .i64 x0, .int .i64 x1, .int .i64 x2, l0, l1] 49)).alloc (.cells #[.int .i64 0, .int .i64 0, .int .i64 0, .slice none 0 0, .slice none 0 0] 33)).alloc (.cells #[.int .i64 x0, .int .i64 x1, .int .i64 x2, .slice none 0 0, .slice none 0 0] 33)) = w0 at hB0 hbx hrs hot hsz ⊢
  have hB := hide hB0
  replace hbx := hide hbx
  replace hrs := hide hrs
  replace hot := hide hot
  have hs0 : w.heap.size + 3 ≤ w0.heap.size := by omega
  clear hsz hB0
  obtain ⟨adx0, cpx0, hfx0, hax0⟩ := ((unhide hr0).below (unhide hB))
  rw [hfx0]
  refine (toIntSS_own adx0 cpx0 zs0 w0 hn0 hax0).mono ?_
  rintro e w1 ⟨u3, rfl, ho3, hu⟩
  obtain ⟨as0, cs0, rfl, _⟩ := ho3.rd
  replace ho3 := hide ho3
  replace hot := hide ((unhide hot).keep hu)
  replace hbx := hide ((unhide hbx).keep hu)
  replace hrs := hide ((unhide hrs).keep hu)
  replace hB := hide (below_upd (unhide hB) hu (Nat.le_refl _) (.inr (Nat.le_refl _)))
  have hs1 : w0.heap.size ≤ w1.heap.size := hu.size
  clear hu
  have cb0 := (unhide hbx).1.2 0 _ rfl
  have cb1 := (unhide hbx).1.2 1 _ rfl
  have cb2 := (unhide hbx).1.2 2 _ rfl
  have cb3 := (unhide hbx).1.2 3 _ rfl
  have cb4 := (unhide hbx).1.2 4 _ rfl
  have cbl := (unhide hbx).1.1
  have co0 := (unhide hot).1.2 0 _ rfl
  have co1 := (unhide hot).1.2 1 _ rfl
  have co2 := (unhide hot).1.2 2 _ rfl
  have co3 := (unhide hot).1.2 3 _ rfl
  have co4 := (unhide hot).1.2 4 _ rfl
  have col := (unhide hot).1.1
  have coz0 := (unhide hot).2 0
  have coz1 := (unhide hot).2 1
  have coz2 := (unhide hot).2 2
  have coz3 := (unhide hot).2 3
  have coz4 := (unhide hot).2 4
  go_wp2_with fail
  clear cb0 cb1 cb2 cb3 cb4 cbl co0 co1 co2 co3 co4 col coz0 coz1 coz2 coz3 coz4
  replace hot := hide ((unhide hot).set 3 (.slice as0 zs0.length cs0) (by simp))
  replace hbx := hide ((unhide hbx).other (g' := w.heap.size + 2) (by omega) 3 (.slice as0 zs0.length cs0))
  replace hrs := hide ((unhide hrs).other (g' := w.heap.size + 2) (by omega) 3 (.slice as0 zs0.length cs0))
  replace hB := hide ((unhide hB).setCell (p := ⟨w.heap.size + 2, 3, none⟩) (by first | (simp; done) | (simp; omega)) (.slice as0 zs0.length cs0))
  simp only [List.set_cons_zero, List.set_cons_succ] at hot
  replace ho3 := hide ((unhide ho3).set' (c := w.heap.size + 2) (by omega) 3 (.slice as0 zs0.length cs0))
  have hsz1 : (w1.setCell ⟨w.heap.size + 2, 3, none⟩ (.slice as0 zs0.length cs0)).heap.size = w1.heap.size := by simp
  generalize (w1.setCell ⟨w.heap.size + 2, 3, none⟩ (.slice as0 zs0.length cs0)) = W1 at hot hbx hrs hB hsz1 ho3 ⊢
  have hs1b : w1.heap.size ≤ W1.heap.size := by omega
  obtain ⟨adx1, cpx1, hfx1, hax1⟩ := ((unhide hr1).below (unhide hB))
  rw [hfx1]
  refine (toIntSS_own adx1 cpx1 zs1 W1 hn1 hax1).mono ?_
  rintro e w2 ⟨u4, rfl, ho4, hu⟩
  obtain ⟨as1, cs1, rfl, _⟩ := ho4.rd
  replace ho3 := hide ((unhide ho3).keep hu)
  replace ho4 := hide ho4
  replace hot := hide ((unhide hot).keep hu)
  replace hbx := hide ((unhide hbx).keep hu)
  replace hrs := hide ((unhide hrs).keep hu)
  replace hB := hide (below_upd (unhide hB) hu (Nat.le_refl _) (.inr (Nat.le_refl _)))
  have hs2 : W1.heap.size ≤ w2.heap.size := hu.size
  clear hu
  have cb0 := (unhide hbx).1.2 0 _ rfl
  have cb1 := (unhide hbx).1.2 1 _ rfl
  have cb2 := (unhide hbx).1.2 2 _ rfl
  have cb3 := (unhide hbx).1.2 3 _ rfl
  have cb4 := (unhide hbx).1.2 4 _ rfl
  have cbl := (unhide hbx).1.1
  have co0 := (unhide hot).1.2 0 _ rfl
  have co1 := (unhide hot).1.2 1 _ rfl
  have co2 := (unhide hot).1.2 2 _ rfl
  have co3 := (unhide hot).1.2 3 _ rfl
  have co4 := (unhide hot).1.2 4 _ rfl
  have col := (unhide hot).1.1
  have coz0 := (unhide hot).2 0
  have coz1 := (unhide hot).2 1
  have coz2 := (unhide hot).2 2
  have coz3 := (unhide hot).2 3
  have coz4 := (unhide hot).2 4
  have cr0 := (unhide hrs).1.2 0 _ rfl
  have cr1 := (unhide hrs).1.2 1 _ rfl
  have cr2 := (unhide hrs).1.2 2 _ rfl
  have cr3 := (unhide hrs).1.2 3 _ rfl
  have cr4 := (unhide hrs).1.2 4 _ rfl
  have crl := (unhide hrs).1.1
  have crz0 := (unhide hrs).2 0
  have crz1 := (unhide hrs).2 1
  have crz2 := (unhide hrs).2 2
  have crz3 := (unhide hrs).2 3
  have crz4 := (unhide hrs).2 4
  go_wp2
  refine bodyPost_ret (v := .agg #[.int .i64 x0, .int .i64 x1, .int .i64 x2, .slice as0 zs0.length cs0, .slice as1 zs1.length cs1]) (by simp [results, Tryd.results35, go_sem, cr0, cr1, cr2, cr3, cr4]) rfl ⟨_, rfl, ⟨_, _, w1.heap.size, rfl, ⟨(by first | omega | (simp; done) | (simp; omega)), (by first | omega | (simp; done) | (simp; omega))⟩, OwnLl.mono (((((((unhide ho3).set' (c := w.heap.size + 2) (by omega) 4 _).set' (c := w.heap.size + 1) (by omega) 0 _).set' (c := w.heap.size + 1) (by omega) 1 _).set' (c := w.heap.size + 1) (by omega) 2 _).set' (c := w.heap.size + 1) (by omega) 3 _).set' (c := w.heap.size + 1) (by omega) 4 _) (by first | omega | (simp; done) | (simp; omega)) (by first | omega | (simp; done) | (simp; omega)), OwnLl.mono (((((((unhide ho4).set' (c := w.heap.size + 2) (by omega) 4 _).set' (c := w.heap.size + 1) (by omega) 0 _).set' (c := w.heap.size + 1) (by omega) 1 _).set' (c := w.heap.size + 1) (by omega) 2 _).set' (c := w.heap.size + 1) (by omega) 3 _).set' (c := w.heap.size + 1) (by omega) 4 _) (by first | omega | (simp; done) | (simp; omega)) (by first | omega | (simp; done) | (simp; omega))⟩, Upd.of_below (((((((unhide hB).setCell (p := ⟨w.heap.size + 2, 4, none⟩) (by first | (simp; done) | (simp; omega)) _).setCell (p := ⟨w.heap.size + 1, 0, none⟩) (by first | (simp; done) | (simp; omega)) _).setCell (p := ⟨w.heap.size + 1, 1, none⟩) (by first | (simp; done) | (simp; omega)) _).setCell (p := ⟨w.heap.size + 1, 2, none⟩) (by first | (simp; done) | (simp; omega)) _).setCell (p := ⟨w.heap.size + 1, 3, none⟩) (by first | (simp; done) | (simp; omega)) _).setCell (p := ⟨w.heap.size + 1, 4, none⟩) (by first | (simp; done) | (simp; omega)) _) 0 0⟩

set_option maxHeartbeats 4000000 in
set_option maxRecDepth 100000 in
theorem szTones_any (x0 : Int) (x1 : Int) (x2 : Int) (zs0 : List Ln) (zs1 : List Ln) (ad0 : Option Addr) (cap0 : Nat) (ad1 : Option Addr) (cap1 : Nat) (left : Int) (w : World) (h0 : 0 ≤ left) (h1 : left ≤ 1099511627776) (hb0 : zs0.length ≤ 9223372036854775807) (hi0 : InLl zs0) (ha0 : ArgLl w ad0 zs0) (hb1 : zs1.length ≤ 9223372036854775807) (hi1 : InLl zs1) (ha1 : ArgLl w ad1 zs1) :
    Calls Tryd.prog 34 #[.agg #[.int .i64 x0, .int .i64 x1, .int .i64 x2, .slice ad0 zs0.length cap0, .slice ad1 zs1.length cap1], .int .i64 left] w fun e w' => e = .returned (.int .i64 (if left < ((sizeLl zs0 + sizeLl zs1 : Nat) : Int) then -1 else left - ((sizeLl zs0 + sizeLl zs1 : Nat) : Int))) ∧ Upd 0 0 w w' := by
  replace hi0 := hide hi0
  replace ha0 := hide ha0
  replace hi1 := hide hi1
  replace ha1 := hide ha1
  obtain ⟨R, hR⟩ : ∃ R : Int, (if left < ((sizeLl zs0 + sizeLl zs1 : Nat) : Int) then -1 else left - ((sizeLl zs0 + sizeLl zs1 : Nat) : Int)) = R := ⟨_, rfl⟩
  rw [hR]
  have hbx0 := heldF_new w [.int .i64 x0, .int .i64 x1, .int .i64 x2, .slice ad0 zs0.length cap0, .slice ad1 zs1.length cap1] 49
  have hB0 := (Below.refl w.heap.size w).alloc (Nat.le_refl _) (.cells #[.int .i64 x0, .int .i64 x1, .int .i64 x2, .slice ad0 zs0.length cap0, .slice ad1 zs1.length cap1] 49)
  obtain ⟨l0, e0⟩ : ∃ l : Int, l = left := ⟨_, rfl⟩
  rw [← e0] at hR h0 h1 ⊢
  subst e0
  skip
  obtain ⟨l1, e1⟩ : ∃ l : Int, l = l0 - ((((sizeLl zs0) : Nat)) : Int) := ⟨_, rfl⟩
  by_cases c0 : l0 < ((((sizeLl zs0) : Nat)) : Int)
  · have hRe : R = -1 := by rw [← hR, if_pos (by omega)]
    subst hRe
    replace hR := hide hR
    replace e1 := hide e1
    go_enter Tryd.func34, Tryd.ntmps34
    go_wp2_with fail
    generalize w.alloc (.cells #[.int .i64 x0, .int .i64 x1, .int .i64 x2, .slice ad0 zs0.length cap0, .slice ad1 zs1.length cap1] 49) = w0 at hbx0 hB0 ⊢
    have hbx := hide hbx0
    have hB := hide hB0
    clear hbx0 hB0
    have hC := szIntSS_in ad0 zs0 cap0 l0 w0 (by omega) (by omega) hb0 (unhide hi0) ((unhide ha0).below (unhide hB))
    rw [if_pos (by omega)] at hC
    replace hC := hide hC
    refine (unhide hC).mono ?_
    rintro e w1 ⟨rfl, hu⟩
    replace hbx := hide ((unhide hbx).keep hu)
    replace hB := hide (below_upd (unhide hB) hu (Nat.le_refl _) (.inr (Nat.le_refl _)))
    clear hu hC
    have cb0 := (unhide hbx).1.2 0 _ rfl
    have cb1 := (unhide hbx).1.2 1 _ rfl
    have cb2 := (unhide hbx).1.2 2 _ rfl
    have cb3 := (unhide hbx).1.2 3 _ rfl
    have cb4 := (unhide hbx).1.2 4 _ rfl
    go_wp2
    go_ret
    exact ⟨by first | rfl | exact ret_int (by have := unhide hR; omega), Upd.of_below (unhide hB) 0 0⟩
  · skip
    have q0 : decide (l1 < 0) = false := by simp; omega
    have n0 : 0 ≤ l1 := by omega
    have m0 : l1 ≤ 1099511627776 := by omega
    obtain ⟨l2, e2⟩ : ∃ l : Int, l = l1 - ((((sizeLl zs1) : Nat)) : Int) := ⟨_, rfl⟩
    by_cases c1 : l1 < ((((sizeLl zs1) : Nat)) : Int)
    · have hRe : R = -1 := by rw [← hR, if_pos (by omega)]
      subst hRe
      replace hR := hide hR
      replace e1 := hide e1
      replace e2 := hide e2
      go_enter Tryd.func34, Tryd.ntmps34
      go_wp2_with fail
      generalize w.alloc (.cells #[.int .i64 x0, .int .i64 x1, .int .i64 x2, .slice ad0 zs0.length cap0, .slice ad1 zs1.length cap1] 49) = w0 at hbx0 hB0 ⊢
      have hbx := hide hbx0
      have hB := hide hB0
      clear hbx0 hB0
      have hC := szIntSS_in ad0 zs0 cap0 l0 w0 (by omega) (by omega) hb0 (unhide hi0) ((unhide ha0).below (unhide hB))
      rw [if_neg (by omega)] at hC
      rw [← unhide e1] at hC
      replace hC := hide hC
      refine (unhide hC).mono ?_
      rintro e w1 ⟨rfl, hu⟩
      replace hbx := hide ((unhide hbx).keep hu)
      replace hB := hide (below_upd (unhide hB) hu (Nat.le_refl _) (.inr (Nat.le_refl _)))
      clear hu hC
      have cb0 := (unhide hbx).1.2 0 _ rfl
      have cb1 := (unhide hbx).1.2 1 _ rfl
      have cb2 := (unhide hbx).1.2 2 _ rfl
      have cb3 := (unhide hbx).1.2 3 _ rfl
      have cb4 := (unhide hbx).1.2 4 _ rfl
      go_wp2_with fail
      clear cb0 cb1 cb2 cb3 cb4
      have hC := szIntSS_in ad1 zs1 cap1 l1 w1 (by omega) (by omega) hb1 (unhide hi1) ((unhide ha1).below (unhide hB))
      rw [if_pos (by omega)] at hC
      replace hC := hide hC
      refine (unhide hC).mono ?_
      rintro e w2 ⟨rfl, hu⟩
      replace hbx := hide ((unhide hbx).keep hu)
      replace hB := hide (below_upd (unhide hB) hu (Nat.le_refl _) (.inr (Nat.le_refl _)))
      clear hu hC
      have cb0 := (unhide hbx).1.2 0 _ rfl
      have cb1 := (unhide hbx).1.2 1 _ rfl
      have cb2 := (unhide hbx).1.2 2 _ rfl
      have cb3 := (unhide hbx).1.2 3 _ rfl
      have cb4 := (unhide hbx).1.2 4 _ rfl
      go_wp2
      go_ret
      exact ⟨by first | rfl | exact ret_int (by have := unhide hR; omega), Upd.of_below (unhide hB) 0 0⟩
    · skip
      have q1 : decide (l2 < 0) = false := by simp; omega
      have n1 : 0 ≤ l2 := by omega
      have m1 : l2 ≤ 1099511627776 := by omega
      have hRe : R = l2 := by rw [← hR, if_neg (by omega)]; omega
      subst hRe
      replace hR := hide hR
      replace e1 := hide e1
      replace e2 := hide e2
      go_enter Tryd.func34, Tryd.ntmps34
      go_wp2_with fail
      generalize w.alloc (.cells #[.int .i64 x0, .int .i64 x1, .int .i64 x2, .slice ad0 zs0.length cap0, .slice ad1 zs1.length cap1] 49) = w0 at hbx0 hB0 ⊢
      have hbx := hide hbx0
      have hB := hide hB0
      clear hbx0 hB0
      have hC := szIntSS_in ad0 zs0 cap0 l0 w0 (by omega) (by omega) hb0 (unhide hi0) ((unhide ha0).below (unhide hB))
      rw [if_neg (by omega)] at hC
      rw [← unhide e1] at hC
      replace hC := hide hC
      refine (unhide hC).mono ?_
      rintro e w1 ⟨rfl, hu⟩
      replace hbx := hide ((unhide hbx).keep hu)
      replace hB := hide (below_upd (unhide hB) hu (Nat.le_refl _) (.inr (Nat.le_refl _)))
      clear hu hC
      have cb0 := (unhide hbx).1.2 0 _ rfl
      have cb1 := (unhide hbx).1.2 1 _ rfl
      have cb2 := (unhide hbx).1.2 2 _ rfl
      have cb3 := (unhide hbx).1.2 3 _ rfl
      have cb4 := (unhide hbx).1.2 4 _ rfl
      go_wp2_with fail
      clear cb0 cb1 cb2 cb3 cb4
      have hC := szIntSS_in ad1 zs1 cap1 l1 w1 (by omega) (by omega) hb1 (unhide hi1) ((unhide ha1).below (unhide hB))
      rw [if_neg (by omega)] at hC
      rw [← unhide e2] at hC
      replace hC := hide hC
      refine (unhide hC).mono ?_
      rintro e w2 ⟨rfl, hu⟩
      replace hbx := hide ((unhide hbx).keep hu)
      replace hB := hide (below_upd (unhide hB) hu (Nat.le_refl _) (.inr (Nat.le_refl _)))
      clear hu hC
      have cb0 := (unhide hbx).1.2 0 _ rfl
      have cb1 := (unhide hbx).1.2 1 _ rfl
      have cb2 := (unhide hbx).1.2 2 _ rfl
      have cb3 := (unhide hbx).1.2 3 _ rfl
      have cb4 := (unhide hbx).1.2 4 _ rfl
      go_wp2
      go_ret
      exact ⟨by first | rfl | exact ret_int (by have := unhide hR; omega), Upd.of_below (unhide hB) 0 0⟩

set_option maxHeartbeats 4000000 in
set_option maxRecDepth 100000 in
theorem eqTones_rd (u v : Value) (d : Tn) (w : World) (hn : TnSize d ≤ 1048576) (hu : RdTn w u d) (hv : RdTn w v d) :
    Calls Tryd.prog 31 #[u, v] w fun e w' => e = .returned (.bool true) ∧ Upd 0 0 w w' := by
  obtain ⟨p0, p1, rfl, hu0, hu1⟩ := hu
  obtain ⟨v0, v1, rfl, hv0, hv1⟩ := hv
  obtain ⟨x0, x1, x2, zs0, zs1⟩ := d
  simp only [Tnv, TnSize] at hn ⊢
  have hn0 : sizeLl zs0 ≤ 1048576 := by omega
  have hn1 : sizeLl zs1 ≤ 1048576 := by omega
  replace hu0 := hide hu0
  replace hv0 := hide hv0
  replace hu1 := hide hu1
  replace hv1 := hide hv1
  have hB0 := ((Below.refl w.heap.size w).alloc (Nat.le_refl _) (.cells #[.int .i64 x0, .int .i64 x1, .int .i64 x2, p0, p1] 33)).alloc (by simp) (.cells #[.int .i64 x0, .int .i64 x1, .int .i64 x2, v0, v1] 33)
  have hbx0 := (heldF_new w [.int .i64 x0, .int .i64 x1, .int .i64 x2, p0, p1] 33).keep (Upd.of_below ((Below.refl _ _).alloc (Nat.le_refl _) (.cells #[.int .i64 x0, .int .i64 x1, .int .i64 x2, v0, v1] 33)) 0 0)
  have hby0 := heldF_new (w.alloc (.cells #[.int .i64 x0, .int .i64 x1, .int .i64 x2, p0, p1] 33)) [.int .i64 x0, .int .i64 x1, .int .i64 x2, v0, v1] 33
  have e1 : (w.alloc (.cells #[.int .i64 x0, .int .i64 x1, .int .i64 x2, p0, p1] 33)).heap.size = w.heap.size + 1 := by simp
  rw [e1] at hby0
  clear e1
  go_enter Tryd.func31, Tryd.ntmps31
  go_wp2_with fail
  generalize (w.alloc (.cells #[.int .i64 x0, .int .i64 x1, .int .i64 x2, p0, p1] 33)).alloc (.cells #[.int .i64 x0, .int .i64 x1, .int .i64 x2, v0, v1] 33) = w0 at hbx0 hby0 hB0 ⊢
  have hbx := hide hbx0
  have hby := hide hby0
  have hB := hide hB0
  clear hbx0 hby0 hB0
  refine (eqIntSS_rd _ _ zs0 w0 hn0 ((unhide hu0).below (unhide hB)) ((unhide hv0).below (unhide hB))).mono ?_
  rintro e w1 ⟨rfl, hu⟩
  replace hbx := hide ((unhide hbx).keep hu)
  replace hby := hide ((unhide hby).keep hu)
  replace hB := hide (below_upd (unhide hB) hu (Nat.le_refl _) (.inr (Nat.le_refl _)))
  clear hu
  have cb0 := (unhide hbx).1.2 0 _ rfl
  have cd0 := (unhide hby).1.2 0 _ rfl
  have cb1 := (unhide hbx).1.2 1 _ rfl
  have cd1 := (unhide hby).1.2 1 _ rfl
  have cb2 := (unhide hbx).1.2 2 _ rfl
  have cd2 := (unhide hby).1.2 2 _ rfl
  have cb3 := (unhide hbx).1.2 3 _ rfl
  have cd3 := (unhide hby).1.2 3 _ rfl
  have cb4 := (unhide hbx).1.2 4 _ rfl
  have cd4 := (unhide hby).1.2 4 _ rfl
  go_wp2_with fail
  clear cb0 cd0 cb1 cd1 cb2 cd2 cb3 cd3 cb4 cd4
  refine (eqIntSS_rd _ _ zs1 w1 hn1 ((unhide hu1).below (unhide hB)) ((unhide hv1).below (unhide hB))).mono ?_
  rintro e w2 ⟨rfl, hu⟩
  replace hbx := hide ((unhide hbx).keep hu)
  replace hby := hide ((unhide hby).keep hu)
  replace hB := hide (below_upd (unhide hB) hu (Nat.le_refl _) (.inr (Nat.le_refl _)))
  clear hu
  have cb0 := (unhide hbx).1.2 0 _ rfl
  have cd0 := (unhide hby).1.2 0 _ rfl
  have cb1 := (unhide hbx).1.2 1 _ rfl
  have cd1 := (unhide hby).1.2 1 _ rfl
  have cb2 := (unhide hbx).1.2 2 _ rfl
  have cd2 := (unhide hby).1.2 2 _ rfl
  have cb3 := (unhide hbx).1.2 3 _ rfl
  have cd3 := (unhide hby).1.2 3 _ rfl
  have cb4 := (unhide hbx).1.2 4 _ rfl
  have cd4 := (unhide hby).1.2 4 _ rfl
  go_wp2
  go_ret
  exact ⟨rfl, Upd.of_below (unhide hB) 0 0⟩

end Go.Proofs.YtnoojbppfbmbgaaDoor
