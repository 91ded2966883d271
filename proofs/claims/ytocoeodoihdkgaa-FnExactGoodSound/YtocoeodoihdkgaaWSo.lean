/- Sounds as arguments and answers; the walks of the laws' own helpers on them. -/
import Derived.Test.YtocoeodoihdkgaaWHeld
import Derived.Test.YtocoeodoihdkgaaWLLl
import Derived.Deep.RegionHeld3
namespace Go.Proofs.Ytocoeodoihdkgaa
open Go.RowKit

abbrev So := Int × Int × Int × List Ln
abbrev Sov (d : So) (v0 : Value) : Value := .agg #[.int .i64 d.1, .int .i64 d.2.1, .int .i64 d.2.2.1, v0]
def RdSo (w : World) (v : Value) (d : So) : Prop := ∃ v0, v = Sov d v0 ∧ RdLl w v0 d.2.2.2
def OwnSo (w : World) (a b : Nat) (v : Value) (d : So) : Prop := ∃ v0, v = Sov d v0 ∧ OwnLl w a b v0 d.2.2.2
theorem OwnSo.rd {w : World} {a b : Nat} {v : Value} {d : So} (h : OwnSo w a b v d) : RdSo w v d := by
  obtain ⟨v0, rfl, h0⟩ := h
  exact ⟨v0, rfl, h0.rd⟩
theorem RdSo.below {w w' : World} {v : Value} {d : So} (h : RdSo w v d) (hb : Below w.heap.size w w') : RdSo w' v d := by
  obtain ⟨v0, rfl, h0⟩ := h
  exact ⟨v0, rfl, h0.below hb⟩
theorem OwnSo.upd {w w' : World} {a b c e : Nat} {v : Value} {d : So} (h : OwnSo w a b v d) (u : Upd c e w w') (hd : b ≤ c ∨ e ≤ a) : OwnSo w' a b v d := by
  obtain ⟨v0, rfl, h0⟩ := h
  exact ⟨v0, rfl, h0.upd u (by omega)⟩
theorem OwnSo.keep {w w' : World} {a b : Nat} {v : Value} {d : So} (h : OwnSo w a b v d) (u : Upd 0 0 w w') : OwnSo w' a b v d := h.upd u (.inr (Nat.zero_le _))
theorem OwnSo.form {w : World} {a b : Nat} {v : Value} {d : So} (h : OwnSo w a b v d) : ∃ ad0 cap0, v = Sov d (.slice ad0 d.2.2.2.length cap0) := by
  obtain ⟨v0, rfl, h0⟩ := h
  obtain ⟨ad0, cap0, rfl, _⟩ := h0.rd
  exact ⟨ad0, cap0, rfl⟩
/-- All numbers fit. -/
def InSo (d : So) : Prop := (-9223372036854775808 ≤ d.1 ∧ d.1 ≤ 9223372036854775807) ∧ (-9223372036854775808 ≤ d.2.1 ∧ d.2.1 ≤ 9223372036854775807) ∧ (-9223372036854775808 ≤ d.2.2.1 ∧ d.2.2.1 ≤ 9223372036854775807) ∧ InLl d.2.2.2
def SoSize (d : So) : Nat := sizeLl d.2.2.2
def SoCount (d : So) : Nat := 0 * d.2.2.2.length

set_option maxHeartbeats 8000000 in
set_option maxRecDepth 100000 in
theorem toSound_own (v : Value) (d : So) (w : World) (hn : SoSize d ≤ 1048576) (hv : RdSo w v d) :
    Calls Try.prog 27 #[v] w fun e w' => ∃ u, e = .returned u ∧ OwnSo w' w.heap.size w'.heap.size u d ∧ Upd 0 0 w w' := by
  obtain ⟨l0, rfl, hr0⟩ := hv
  obtain ⟨x0, x1, x2, zs0⟩ := d
  simp only [Sov, SoSize] at hn ⊢
  have hn0 : sizeLl zs0 ≤ 1048576 := by omega
  have hB0 := (((Below.refl w.heap.size w).alloc (Nat.le_refl _) (.cells #[.int .i64 x0, .int .i64 x1, .int .i64 x2, l0] 48)).alloc (by simp) (.cells #[.int .i64 0, .int .i64 0, .int .i64 0, .slice none 0 0] 51)).alloc (by simp; omega) (.cells #[.int .i64 x0, .int .i64 x1, .int .i64 x2, .slice none 0 0] 51)
  have hbx := ((heldF_new w [.int .i64 x0, .int .i64 x1, .int .i64 x2, l0] 48).keep (Upd.of_below ((Below.refl _ _).alloc (Nat.le_refl _) (.cells #[.int .i64 0, .int .i64 0, .int .i64 0, .slice none 0 0] 51)) 0 0)).keep (Upd.of_below ((Below.refl _ _).alloc (Nat.le_refl _) (.cells #[.int .i64 x0, .int .i64 x1, .int .i64 x2, .slice none 0 0] 51)) 0 0)
  have hrs := (heldF_new (w.alloc (.cells #[.int .i64 x0, .int .i64 x1, .int .i64 x2, l0] 48)) [.int .i64 0, .int .i64 0, .int .i64 0, .slice none 0 0] 51).keep (Upd.of_below ((Below.refl _ _).alloc (Nat.le_refl _) (.cells #[.int .i64 x0, .int .i64 x1, .int .i64 x2, .slice none 0 0] 51)) 0 0)
  have hot := heldF_new ((w.alloc (.cells #[.int .i64 x0, .int .i64 x1, .int .i64 x2, l0] 48)).alloc (.cells #[.int .i64 0, .int .i64 0, .int .i64 0, .slice none 0 0] 51)) [.int .i64 x0, .int .i64 x1, .int .i64 x2, .slice none 0 0] 51
  have hsz : (((w.alloc (.cells #[.int .i64 x0, .int .i64 x1, .int .i64 x2, l0] 48)).alloc (.cells #[.int .i64 0, .int .i64 0, .int .i64 0, .slice none 0 0] 51)).alloc (.cells #[.int .i64 x0, .int .i64 x1, .int .i64 x2, .slice none 0 0] 51)).heap.size = w.heap.size + 3 := by simp
  have e1 : (w.alloc (.cells #[.int .i64 x0, .int .i64 x1, .int .i64 x2, l0] 48)).heap.size = w.heap.size + 1 := by simp
  have e2 : ((w.alloc (.cells #[.int .i64 x0, .int .i64 x1, .int .i64 x2, l0] 48)).alloc (.cells #[.int .i64 0, .int .i64 0, .int .i64 0, .slice none 0 0] 51)).heap.size = w.heap.size + 2 := by simp
  rw [e1] at hrs
  rw [e2] at hot
  clear e1 e2
  replace hr0 := hide hr0
  go_enter Try.func27, Try.ntmps27
  go_wp2_with fail
  generalize (((w.alloc (.cells #[.int .i64 x0, .int .i64 x1, .int .i64 x2, l0] 48)).alloc (.cells #[.int .i64 0, .int .i64 0, .int .i64 0, .slice none 0 0] 51)).alloc (.cells #[.int .i64 x0, .int .i64 x1, .int .i64 x2, .slice none 0 0] 51)) = w0 at hB0 hbx hrs hot hsz ⊢
  have hB := hide hB0
  replace hbx := hide hbx
  replace hrs := hide hrs
  replace hot := hide hot
  have hs0 : w.heap.size + 3 ≤ w0.heap.size := by omega
  clear hsz hB0
  obtain ⟨adx0, cpx0, hfx0, hax0⟩ := ((unhide hr0).below (unhide hB))
  rw [hfx0]
  refine (toIntSS_own adx0 cpx0 zs0 w0 hn0 hax0).mono ?_
  rintro e w1 ⟨u3, rfl, ho3, hu⟩
  obtain ⟨as0, cs0, rfl, _⟩ := ho3.rd
  replace ho3 := hide ho3
  replace hot := hide ((unhide hot).keep hu)
  replace hbx := hide ((unhide hbx).keep hu)
  replace hrs := hide ((unhide hrs).keep hu)
  replace hB := hide (below_upd (unhide hB) hu (Nat.le_refl _) (.inr (Nat.le_refl _)))
  have hs1 : w0.heap.size ≤ w1.heap.size := hu.size
  clear hu
  have cb0 := (unhide hbx).1.2 0 _ rfl
  have cb1 := (unhide hbx).1.2 1 _ rfl
  have cb2 := (unhide hbx).1.2 2 _ rfl
  have cb3 := (unhide hbx).1.2 3 _ rfl
  have cbl := (unhide hbx).1.1
  have co0 := (unhide hot).1.2 0 _ rfl
  have co1 := (unhide hot).1.2 1 _ rfl
  have co2 := (unhide hot).1.2 2 _ rfl
  have co3 := (unhide hot).1.2 3 _ rfl
  have col := (unhide hot).1.1
  have coz0 := (unhide hot).2 0
  have coz1 := (unhide hot).2 1
  have coz2 := (unhide hot).2 2
  have coz3 := (unhide hot).2 3
  have cr0 := (unhide hrs).1.2 0 _ rfl
  have cr1 := (unhide hrs).1.2 1 _ rfl
  have cr2 := (unhide hrs).1.2 2 _ rfl
  have cr3 := (unhide hrs).1.2 3 _ rfl
  have crl := (unhide hrs).1.1
  have crz0 := (unhide hrs).2 0
  have crz1 := (unhide hrs).2 1
  have crz2 := (unhide hrs).2 2
  have crz3 := (unhide hrs).2 3
  go_wp2
  refine bodyPost_ret (v := .agg #[.int .i64 x0, .int .i64 x1, .int .i64 x2, .slice as0 zs0.length cs0]) (by simp [results, Try.results27, go_sem, cr0, cr1, cr2, cr3]) rfl ⟨_, rfl, ⟨_, rfl, OwnLl.mono ((((((unhide ho3).set' (c := w.heap.size + 2) (by omega) 3 _).set' (c := w.heap.size + 1) (by omega) 0 _).set' (c := w.heap.size + 1) (by omega) 1 _).set' (c := w.heap.size + 1) (by omega) 2 _).set' (c := w.heap.size + 1) (by omega) 3 _) (by first | omega | (simp; done) | (simp; omega)) (by first | omega | (simp; done) | (simp; omega))⟩, Upd.of_below ((((((unhide hB).setCell (p := ⟨w.heap.size + 2, 3, none⟩) (by first | (simp; done) | (simp; omega)) _).setCell (p := ⟨w.heap.size + 1, 0, none⟩) (by first | (simp; done) | (simp; omega)) _).setCell (p := ⟨w.heap.size + 1, 1, none⟩) (by first | (simp; done) | (simp; omega)) _).setCell (p := ⟨w.heap.size + 1, 2, none⟩) (by first | (simp; done) | (simp; omega)) _).setCell (p := ⟨w.heap.size + 1, 3, none⟩) (by first | (simp; done) | (simp; omega)) _) 0 0⟩

set_option maxHeartbeats 4000000 in
set_option maxRecDepth 100000 in
theorem szSound_any (x0 : Int) (x1 : Int) (x2 : Int) (zs0 : List Ln) (ad0 : Option Addr) (cap0 : Nat) (left : Int) (w : World) (h0 : 0 ≤ left) (h1 : left ≤ 1099511627776) (hb0 : zs0.length ≤ 9223372036854775807) (hi0 : InLl zs0) (ha0 : ArgLl w ad0 zs0) :
    Calls Try.prog 25 #[.agg #[.int .i64 x0, .int .i64 x1, .int .i64 x2, .slice ad0 zs0.length cap0], .int .i64 left] w fun e w' => e = .returned (.int .i64 (if left < ((sizeLl zs0 : Nat) : Int) then -1 else left - ((sizeLl zs0 : Nat) : Int))) ∧ Upd 0 0 w w' := by
  replace hi0 := hide hi0
  replace ha0 := hide ha0
  obtain ⟨R, hR⟩ : ∃ R : Int, (if left < ((sizeLl zs0 : Nat) : Int) then -1 else left - ((sizeLl zs0 : Nat) : Int)) = R := ⟨_, rfl⟩
  rw [hR]
  have hbx0 := heldF_new w [.int .i64 x0, .int .i64 x1, .int .i64 x2, .slice ad0 zs0.length cap0] 48
  have hB0 := (Below.refl w.heap.size w).alloc (Nat.le_refl _) (.cells #[.int .i64 x0, .int .i64 x1, .int .i64 x2, .slice ad0 zs0.length cap0] 48)
  obtain ⟨l0, e0⟩ : ∃ l : Int, l = left := ⟨_, rfl⟩
  rw [← e0] at hR h0 h1 ⊢
  subst e0
  skip
  obtain ⟨l1, e1⟩ : ∃ l : Int, l = l0 - ((((sizeLl zs0) : Nat)) : Int) := ⟨_, rfl⟩
  by_cases c0 : l0 < ((((sizeLl zs0) : Nat)) : Int)
  · have hRe : R = -1 := by rw [← hR, if_pos (by omega)]
    subst hRe
    replace hR := hide hR
    replace e1 := hide e1
    go_enter Try.func25, Try.ntmps25
    go_wp2_with fail
    generalize w.alloc (.cells #[.int .i64 x0, .int .i64 x1, .int .i64 x2, .slice ad0 zs0.length cap0] 48) = w0 at hbx0 hB0 ⊢
    have hbx := hide hbx0
    have hB := hide hB0
    clear hbx0 hB0
    have hC := szIntSS_in ad0 zs0 cap0 l0 w0 (by omega) (by omega) hb0 (unhide hi0) ((unhide ha0).below (unhide hB))
    rw [if_pos (by omega)] at hC
    replace hC := hide hC
    refine (unhide hC).mono ?_
    rintro e w1 ⟨rfl, hu⟩
    replace hbx := hide ((unhide hbx).keep hu)
    replace hB := hide (below_upd (unhide hB) hu (Nat.le_refl _) (.inr (Nat.le_refl _)))
    clear hu hC
    have cb0 := (unhide hbx).1.2 0 _ rfl
    have cb1 := (unhide hbx).1.2 1 _ rfl
    have cb2 := (unhide hbx).1.2 2 _ rfl
    have cb3 := (unhide hbx).1.2 3 _ rfl
    go_wp2
    go_ret
    exact ⟨by first | rfl | exact ret_int (by have := unhide hR; omega), Upd.of_below (unhide hB) 0 0⟩
  · skip
    have q0 : decide (l1 < 0) = false := by simp; omega
    have n0 : 0 ≤ l1 := by omega
    have m0 : l1 ≤ 1099511627776 := by omega
    have hRe : R = l1 := by rw [← hR, if_neg (by omega)]; omega
    subst hRe
    replace hR := hide hR
    replace e1 := hide e1
    go_enter Try.func25, Try.ntmps25
    go_wp2_with fail
    generalize w.alloc (.cells #[.int .i64 x0, .int .i64 x1, .int .i64 x2, .slice ad0 zs0.length cap0] 48) = w0 at hbx0 hB0 ⊢
    have hbx := hide hbx0
    have hB := hide hB0
    clear hbx0 hB0
    have hC := szIntSS_in ad0 zs0 cap0 l0 w0 (by omega) (by omega) hb0 (unhide hi0) ((unhide ha0).below (unhide hB))
    rw [if_neg (by omega)] at hC
    rw [← unhide e1] at hC
    replace hC := hide hC
    refine (unhide hC).mono ?_
    rintro e w1 ⟨rfl, hu⟩
    replace hbx := hide ((unhide hbx).keep hu)
    replace hB := hide (below_upd (unhide hB) hu (Nat.le_refl _) (.inr (Nat.le_refl _)))
    clear hu hC
    have cb0 := (unhide hbx).1.2 0 _ rfl
    have cb1 := (unhide hbx).1.2 1 _ rfl
    have cb2 := (unhide hbx).1.2 2 _ rfl
    have cb3 := (unhide hbx).1.2 3 _ rfl
    go_wp2
    go_ret
    exact ⟨by first | rfl | exact ret_int (by have := unhide hR; omega), Upd.of_below (unhide hB) 0 0⟩

set_option maxHeartbeats 4000000 in
set_option maxRecDepth 100000 in
theorem eqSound_rd (u v : Value) (d : So) (w : World) (hn : SoSize d ≤ 1048576) (hu : RdSo w u d) (hv : RdSo w v d) :
    Calls Try.prog 29 #[u, v] w fun e w' => e = .returned (.bool true) ∧ Upd 0 0 w w' := by
  obtain ⟨p0, rfl, hu0⟩ := hu
  obtain ⟨v0, rfl, hv0⟩ := hv
  obtain ⟨x0, x1, x2, zs0⟩ := d
  simp only [Sov, SoSize] at hn ⊢
  have hn0 : sizeLl zs0 ≤ 1048576 := by omega
  replace hu0 := hide hu0
  replace hv0 := hide hv0
  have hB0 := ((Below.refl w.heap.size w).alloc (Nat.le_refl _) (.cells #[.int .i64 x0, .int .i64 x1, .int .i64 x2, p0] 51)).alloc (by simp) (.cells #[.int .i64 x0, .int .i64 x1, .int .i64 x2, v0] 51)
  have hbx0 := (heldF_new w [.int .i64 x0, .int .i64 x1, .int .i64 x2, p0] 51).keep (Upd.of_below ((Below.refl _ _).alloc (Nat.le_refl _) (.cells #[.int .i64 x0, .int .i64 x1, .int .i64 x2, v0] 51)) 0 0)
  have hby0 := heldF_new (w.alloc (.cells #[.int .i64 x0, .int .i64 x1, .int .i64 x2, p0] 51)) [.int .i64 x0, .int .i64 x1, .int .i64 x2, v0] 51
  have e1 : (w.alloc (.cells #[.int .i64 x0, .int .i64 x1, .int .i64 x2, p0] 51)).heap.size = w.heap.size + 1 := by simp
  rw [e1] at hby0
  clear e1
  go_enter Try.func29, Try.ntmps29
  go_wp2_with fail
  generalize (w.alloc (.cells #[.int .i64 x0, .int .i64 x1, .int .i64 x2, p0] 51)).alloc (.cells #[.int .i64 x0, .int .i64 x1, .int .i64 x2, v0] 51) = w0 at hbx0 hby0 hB0 ⊢
  have hbx := hide hbx0
  have hby := hide hby0
  have hB := hide hB0
  clear hbx0 hby0 hB0
  refine (eqIntSS_rd _ _ zs0 w0 hn0 ((unhide hu0).below (unhide hB)) ((unhide hv0).below (unhide hB))).mono ?_
  rintro e w1 ⟨rfl, hu⟩
  replace hbx := hide ((unhide hbx).keep hu)
  replace hby := hide ((unhide hby).keep hu)
  replace hB := hide (below_upd (unhide hB) hu (Nat.le_refl _) (.inr (Nat.le_refl _)))
  clear hu
  have cb0 := (unhide hbx).1.2 0 _ rfl
  have cd0 := (unhide hby).1.2 0 _ rfl
  have cb1 := (unhide hbx).1.2 1 _ rfl
  have cd1 := (unhide hby).1.2 1 _ rfl
  have cb2 := (unhide hbx).1.2 2 _ rfl
  have cd2 := (unhide hby).1.2 2 _ rfl
  have cb3 := (unhide hbx).1.2 3 _ rfl
  have cd3 := (unhide hby).1.2 3 _ rfl
  go_wp2
  go_ret
  exact ⟨rfl, Upd.of_below (unhide hB) 0 0⟩

end Go.Proofs.Ytocoeodoihdkgaa
