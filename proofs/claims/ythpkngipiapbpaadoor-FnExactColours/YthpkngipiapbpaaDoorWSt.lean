/- Stills as arguments and answers; the walks of the laws' own helpers on them. -/
import Derived.Test.YthpkngipiapbpaaDoorWHeld
import Derived.Test.YthpkngipiapbpaaDoorWIm
import Derived.Test.YthpkngipiapbpaaDoorWInts
import Derived.Test.YthpkngipiapbpaaDoorWNs
import Derived.Deep.RegionHeld3
namespace Go.Proofs.YthpkngipiapbpaaDoor
open Go.RowKit

abbrev St := Im × List Int × List Nt × Bool
abbrev Stv (d : St) (v0 v1 v2 : Value) : Value := .agg #[.int .i64 d.1.1, .int .i64 d.1.2.1, .int .i64 d.1.2.2.1, .int .i64 d.1.2.2.2.1, v0, v1, v2, .bool d.2.2.2]
def RdSt (w : World) (v : Value) (d : St) : Prop := ∃ v0 v1 v2, v = Stv d v0 v1 v2 ∧ RdI w v0 d.1.2.2.2.2 ∧ RdI w v1 d.2.1 ∧ RdNt w v2 d.2.2.1
def OwnSt (w : World) (a b : Nat) (v : Value) (d : St) : Prop := ∃ v0 v1 v2 a1 a2, v = Stv d v0 v1 v2 ∧ (a ≤ a1 ∧ a1 ≤ a2 ∧ a2 ≤ b) ∧ OwnI w a a1 v0 d.1.2.2.2.2 ∧ OwnI w a1 a2 v1 d.2.1 ∧ OwnNt w a2 b v2 d.2.2.1
theorem OwnSt.rd {w : World} {a b : Nat} {v : Value} {d : St} (h : OwnSt w a b v d) : RdSt w v d := by
  obtain ⟨v0, v1, v2, a1, a2, rfl, _, h0, h1, h2⟩ := h
  exact ⟨v0, v1, v2, rfl, h0.rd, h1.rd, h2.rd⟩
theorem RdSt.below {w w' : World} {v : Value} {d : St} (h : RdSt w v d) (hb : Below w.heap.size w w') : RdSt w' v d := by
  obtain ⟨v0, v1, v2, rfl, h0, h1, h2⟩ := h
  exact ⟨v0, v1, v2, rfl, h0.below hb, h1.below hb, h2.below hb⟩
theorem OwnSt.upd {w w' : World} {a b c e : Nat} {v : Value} {d : St} (h : OwnSt w a b v d) (u : Upd c e w w') (hd : b ≤ c ∨ e ≤ a) : OwnSt w' a b v d := by
  obtain ⟨v0, v1, v2, a1, a2, rfl, hch, h0, h1, h2⟩ := h
  exact ⟨v0, v1, v2, a1, a2, rfl, hch, h0.upd u (by omega), h1.upd u (by omega), h2.upd u (by omega)⟩
theorem OwnSt.keep {w w' : World} {a b : Nat} {v : Value} {d : St} (h : OwnSt w a b v d) (u : Upd 0 0 w w') : OwnSt w' a b v d := h.upd u (.inr (Nat.zero_le _))
theorem OwnSt.form {w : World} {a b : Nat} {v : Value} {d : St} (h : OwnSt w a b v d) : ∃ ad0 cap0 ad1 cap1 ad2 cap2, v = Stv d (.slice ad0 d.1.2.2.2.2.length cap0) (.slice ad1 d.2.1.length cap1) (.slice ad2 d.2.2.1.length cap2) := by
  obtain ⟨v0, v1, v2, a1, a2, rfl, _, h0, h1, h2⟩ := h
  obtain ⟨ad0, cap0, rfl, _⟩ := h0.rd
  obtain ⟨ad1, cap1, rfl, _⟩ := h1.rd
  obtain ⟨ad2, cap2, rfl, _⟩ := h2.rd
  exact ⟨ad0, cap0, ad1, cap1, ad2, cap2, rfl⟩
/-- All numbers fit. -/
def InSt (d : St) : Prop := InIm d.1 ∧ InI d.2.1 ∧ InNt d.2.2.1
def StSize (d : St) : Nat := d.1.2.2.2.2.length + d.2.1.length + ntSize d.2.2.1
def StCount (d : St) : Nat := d.1.2.2.2.2.length + d.2.1.length + 2 * d.2.2.1.length

set_option maxHeartbeats 8000000 in
set_option maxRecDepth 100000 in
theorem toStill_own (v : Value) (d : St) (w : World) (hn : StSize d ≤ 1048576) (hv : RdSt w v d) :
    Calls Tryd.prog 8 #[v] w fun e w' => ∃ u, e = .returned u ∧ OwnSt w' w.heap.size w'.heap.size u d ∧ Upd 0 0 w w' := by
  obtain ⟨l0, l1, l2, rfl, hr0, hr1, hr2⟩ := hv
  obtain ⟨⟨x0, x1, x2, x3, zs0⟩, zs1, zs2, x4⟩ := d
  simp only [Stv, StSize] at hn ⊢
  have hn0 : zs0.length ≤ 1048576 := by omega
  have hn1 : zs1.length ≤ 1048576 := by omega
  have hn2 : zs2.length ≤ 1048576 := by unfold ntSize at hn; omega
  have hB0 := (((Below.refl w.heap.size w).alloc (Nat.le_refl _) (.cells #[.int .i64 x0, .int .i64 x1, .int .i64 x2, .int .i64 x3, l0, l1, l2, .bool x4] 27)).alloc (by simp) (.cells #[.int .i64 0, .int .i64 0, .int .i64 0, .int .i64 0, .slice none 0 0, .slice none 0 0, .slice none 0 0, .bool false] 33)).alloc (by simp; omega) (.cells #[.int .i64 0, .int .i64 0, .int .i64 0, .int .i64 0, .slice none 0 0, .slice none 0 0, .slice none 0 0, .bool false] 33)
  have hbx := ((heldF_new w [.int .i64 x0, .int .i64 x1, .int .i64 x2, .int .i64 x3, l0, l1, l2, .bool x4] 27).keep (Upd.of_below ((Below.refl _ _).alloc (Nat.le_refl _) (.cells #[.int .i64 0, .int .i64 0, .int .i64 0, .int .i64 0, .slice none 0 0, .slice none 0 0, .slice none 0 0, .bool false] 33)) 0 0)).keep (Upd.of_below ((Below.refl _ _).alloc (Nat.le_refl _) (.cells #[.int .i64 0, .int .i64 0, .int .i64 0, .int .i64 0, .slice none 0 0, .slice none 0 0, .slice none 0 0, .bool false] 33)) 0 0)
  have hrs := (heldF_new (w.alloc (.cells #[.int .i64 x0, .int .i64 x1, .int .i64 x2, .int .i64 x3, l0, l1, l2, .bool x4] 27)) [.int .i64 0, .int .i64 0, .int .i64 0, .int .i64 0, .slice none 0 0, .slice none 0 0, .slice none 0 0, .bool false] 33).keep (Upd.of_below ((Below.refl _ _).alloc (Nat.le_refl _) (.cells #[.int .i64 0, .int .i64 0, .int .i64 0, .int .i64 0, .slice none 0 0, .slice none 0 0, .slice none 0 0, .bool false] 33)) 0 0)
  have hot := heldF_new ((w.alloc (.cells #[.int .i64 x0, .int .i64 x1, .int .i64 x2, .int .i64 x3, l0, l1, l2, .bool x4] 27)).alloc (.cells #[.int .i64 0, .int .i64 0, .int .i64 0, .int .i64 0, .slice none 0 0, .slice none 0 0, .slice none 0 0, .bool false] 33)) [.int .i64 0, .int .i64 0, .int .i64 0, .int .i64 0, .slice none 0 0, .slice none 0 0, .slice none 0 0, .bool false] 33
  have hsz : (((w.alloc (.cells #[.int .i64 x0, .int .i64 x1, .int .i64 x2, .int .i64 x3, l0, l1, l2, .bool x4] 27)).alloc (.cells #[.int .i64 0, .int .i64 0, .int .i64 0, .int .i64 0, .slice none 0 0, .slice none 0 0, .slice none 0 0, .bool false] 33)).alloc (.cells #[.int .i64 0, .int .i64 0, .int .i64 0, .int .i64 0, .slice none 0 0, .slice none 0 0, .slice none 0 0, .bool false] 33)).heap.size = w.heap.size + 3 := by simp
  have e1 : (w.alloc (.cells #[.int .i64 x0, .int .i64 x1, .int .i64 x2, .int .i64 x3, l0, l1, l2, .bool x4] 27)).heap.size = w.heap.size + 1 := by simp
  have e2 : ((w.alloc (.cells #[.int .i64 x0, .int .i64 x1, .int .i64 x2, .int .i64 x3, l0, l1, l2, .bool x4] 27)).alloc (.cells #[.int .i64 0, .int .i64 0, .int .i64 0, .int .i64 0, .slice none 0 0, .slice none 0 0, .slice none 0 0, .bool false] 33)).heap.size = w.heap.size + 2 := by simp
  rw [e1] at hrs
  rw [e2] at hot
  clear e1 e2
  replace hr0 := hide hr0
  replace hr1 := hide hr1
  replace hr2 := hide hr2
  go_enter Tryd.func8, Tryd.ntmps8
  go_wp2_with fail
  generalize (((w.alloc (.cells #[.int .i64 x0, .int .i64 x1, .int .i64 x2, .int .i64 x3, l0, l1, l2, .bool x4] 27)).alloc (.cells #[.int .i64 0, .int .i64 0, .int .i64 0, .int .i64 0, .slice none 0 0, .slice none 0 0, .slice none 0 0, .bool false] 33)).alloc (.cells #[.int .i64 0, .int .i64 0, .int .i64 0, .int .i64 0, .slice none 0 0, .slice none 0 0, .slice none 0 0, .bool false] 33)) = w0 at hB0 hbx hrs hot hsz ⊢
  have hB := hide hB0
  replace hbx := hide hbx
  replace hrs := hide hrs
  replace hot := hide hot
  have hs0 : w.heap.size + 3 ≤ w0.heap.size := by omega
  clear hsz hB0
  refine (toImage_own _ (x0, x1, x2, x3, zs0) w0 hn0 ⟨l0, rfl, (unhide hr0).below (unhide hB)⟩).mono ?_
  rintro e w1 ⟨u0, rfl, ho0, hu⟩
  obtain ⟨s0, rfl, ho0_0⟩ := ho0
  simp only [imv, ims] at ho0_0 ⊢
  obtain ⟨as0, cs0, rfl, _⟩ := ho0_0.rd
  replace ho0_0 := hide ho0_0
  replace hot := hide ((unhide hot).keep hu)
  replace hbx := hide ((unhide hbx).keep hu)
  replace hrs := hide ((unhide hrs).keep hu)
  replace hB := hide (below_upd (unhide hB) hu (Nat.le_refl _) (.inr (Nat.le_refl _)))
  have hs1 : w0.heap.size ≤ w1.heap.size := hu.size
  clear hu
  have cb0 := (unhide hbx).1.2 0 _ rfl
  have cb1 := (unhide hbx).1.2 1 _ rfl
  have cb2 := (unhide hbx).1.2 2 _ rfl
  have cb3 := (unhide hbx).1.2 3 _ rfl
  have cb4 := (unhide hbx).1.2 4 _ rfl
  have cb5 := (unhide hbx).1.2 5 _ rfl
  have cb6 := (unhide hbx).1.2 6 _ rfl
  have cb7 := (unhide hbx).1.2 7 _ rfl
  have cbl := (unhide hbx).1.1
  have co0 := (unhide hot).1.2 0 _ rfl
  have co1 := (unhide hot).1.2 1 _ rfl
  have co2 := (unhide hot).1.2 2 _ rfl
  have co3 := (unhide hot).1.2 3 _ rfl
  have co4 := (unhide hot).1.2 4 _ rfl
  have co5 := (unhide hot).1.2 5 _ rfl
  have co6 := (unhide hot).1.2 6 _ rfl
  have co7 := (unhide hot).1.2 7 _ rfl
  have col := (unhide hot).1.1
  have coz0 := (unhide hot).2 0
  have coz1 := (unhide hot).2 1
  have coz2 := (unhide hot).2 2
  have coz3 := (unhide hot).2 3
  have coz4 := (unhide hot).2 4
  have coz5 := (unhide hot).2 5
  have coz6 := (unhide hot).2 6
  have coz7 := (unhide hot).2 7
  go_wp2_with fail
  clear cb0 cb1 cb2 cb3 cb4 cb5 cb6 cb7 cbl co0 co1 co2 co3 co4 co5 co6 co7 col coz0 coz1 coz2 coz3 coz4 coz5 coz6 coz7
  replace hot := hide ((((((unhide hot).set 0 (.int .i64 x0) (by simp)).set 1 (.int .i64 x1) (by simp)).set 2 (.int .i64 x2) (by simp)).set 3 (.int .i64 x3) (by simp)).set 4 (.slice as0 zs0.length cs0) (by simp))
  replace hbx := hide ((((((unhide hbx).other (g' := w.heap.size + 2) (by omega) 0 (.int .i64 x0)).other (g' := w.heap.size + 2) (by omega) 1 (.int .i64 x1)).other (g' := w.heap.size + 2) (by omega) 2 (.int .i64 x2)).other (g' := w.heap.size + 2) (by omega) 3 (.int .i64 x3)).other (g' := w.heap.size + 2) (by omega) 4 (.slice as0 zs0.length cs0))
  replace hrs := hide ((((((unhide hrs).other (g' := w.heap.size + 2) (by omega) 0 (.int .i64 x0)).other (g' := w.heap.size + 2) (by omega) 1 (.int .i64 x1)).other (g' := w.heap.size + 2) (by omega) 2 (.int .i64 x2)).other (g' := w.heap.size + 2) (by omega) 3 (.int .i64 x3)).other (g' := w.heap.size + 2) (by omega) 4 (.slice as0 zs0.length cs0))
  replace hB := hide ((((((unhide hB).setCell (p := ⟨w.heap.size + 2, 0, none⟩) (by first | (simp; done) | (simp; omega)) (.int .i64 x0)).setCell (p := ⟨w.heap.size + 2, 1, none⟩) (by first | (simp; done) | (simp; omega)) (.int .i64 x1)).setCell (p := ⟨w.heap.size + 2, 2, none⟩) (by first | (simp; done) | (simp; omega)) (.int .i64 x2)).setCell (p := ⟨w.heap.size + 2, 3, none⟩) (by first | (simp; done) | (simp; omega)) (.int .i64 x3)).setCell (p := ⟨w.heap.size + 2, 4, none⟩) (by first | (simp; done) | (simp; omega)) (.slice as0 zs0.length cs0))
  simp only [List.set_cons_zero, List.set_cons_succ] at hot
  replace ho0_0 := hide ((((((unhide ho0_0).set' (c := w.heap.size + 2) (by omega) 0 (.int .i64 x0)).set' (c := w.heap.size + 2) (by omega) 1 (.int .i64 x1)).set' (c := w.heap.size + 2) (by omega) 2 (.int .i64 x2)).set' (c := w.heap.size + 2) (by omega) 3 (.int .i64 x3)).set' (c := w.heap.size + 2) (by omega) 4 (.slice as0 zs0.length cs0))
  have hsz1 : (((((w1.setCell ⟨w.heap.size + 2, 0, none⟩ (.int .i64 x0)).setCell ⟨w.heap.size + 2, 1, none⟩ (.int .i64 x1)).setCell ⟨w.heap.size + 2, 2, none⟩ (.int .i64 x2)).setCell ⟨w.heap.size + 2, 3, none⟩ (.int .i64 x3)).setCell ⟨w.heap.size + 2, 4, none⟩ (.slice as0 zs0.length cs0)).heap.size = w1.heap.size := by simp
  generalize (((((w1.setCell ⟨w.heap.size + 2, 0, none⟩ (.int .i64 x0)).setCell ⟨w.heap.size + 2, 1, none⟩ (.int .i64 x1)).setCell ⟨w.heap.size + 2, 2, none⟩ (.int .i64 x2)).setCell ⟨w.heap.size + 2, 3, none⟩ (.int .i64 x3)).setCell ⟨w.heap.size + 2, 4, none⟩ (.slice as0 zs0.length cs0)) = W1 at hot hbx hrs hB hsz1 ho0_0 ⊢
  have hs1b : w1.heap.size ≤ W1.heap.size := by omega
  obtain ⟨adx1, cpx1, hfx1, hax1⟩ := ((unhide hr1).below (unhide hB))
  rw [hfx1]
  refine (toIntS_own adx1 cpx1 zs1 W1 hn1 hax1).mono ?_
  rintro e w2 ⟨u1, rfl, ho1, hu⟩
  obtain ⟨as1, cs1, rfl, _⟩ := ho1.rd
  replace ho0_0 := hide ((unhide ho0_0).keep hu)
  replace ho1 := hide ho1
  replace hot := hide ((unhide hot).keep hu)
  replace hbx := hide ((unhide hbx).keep hu)
  replace hrs := hide ((unhide hrs).keep hu)
  replace hB := hide (below_upd (unhide hB) hu (Nat.le_refl _) (.inr (Nat.le_refl _)))
  have hs2 : W1.heap.size ≤ w2.heap.size := hu.size
  clear hu
  have cb0 := (unhide hbx).1.2 0 _ rfl
  have cb1 := (unhide hbx).1.2 1 _ rfl
  have cb2 := (unhide hbx).1.2 2 _ rfl
  have cb3 := (unhide hbx).1.2 3 _ rfl
  have cb4 := (unhide hbx).1.2 4 _ rfl
  have cb5 := (unhide hbx).1.2 5 _ rfl
  have cb6 := (unhide hbx).1.2 6 _ rfl
  have cb7 := (unhide hbx).1.2 7 _ rfl
  have cbl := (unhide hbx).1.1
  have co0 := (unhide hot).1.2 0 _ rfl
  have co1 := (unhide hot).1.2 1 _ rfl
  have co2 := (unhide hot).1.2 2 _ rfl
  have co3 := (unhide hot).1.2 3 _ rfl
  have co4 := (unhide hot).1.2 4 _ rfl
  have co5 := (unhide hot).1.2 5 _ rfl
  have co6 := (unhide hot).1.2 6 _ rfl
  have co7 := (unhide hot).1.2 7 _ rfl
  have col := (unhide hot).1.1
  have coz0 := (unhide hot).2 0
  have coz1 := (unhide hot).2 1
  have coz2 := (unhide hot).2 2
  have coz3 := (unhide hot).2 3
  have coz4 := (unhide hot).2 4
  have coz5 := (unhide hot).2 5
  have coz6 := (unhide hot).2 6
  have coz7 := (unhide hot).2 7
  go_wp2_with fail
  clear cb0 cb1 cb2 cb3 cb4 cb5 cb6 cb7 cbl co0 co1 co2 co3 co4 co5 co6 co7 col coz0 coz1 coz2 coz3 coz4 coz5 coz6 coz7
  replace hot := hide ((unhide hot).set 5 (.slice as1 zs1.length cs1) (by simp))
  replace hbx := hide ((unhide hbx).other (g' := w.heap.size + 2) (by omega) 5 (.slice as1 zs1.length cs1))
  replace hrs := hide ((unhide hrs).other (g' := w.heap.size + 2) (by omega) 5 (.slice as1 zs1.length cs1))
  replace hB := hide ((unhide hB).setCell (p := ⟨w.heap.size + 2, 5, none⟩) (by first | (simp; done) | (simp; omega)) (.slice as1 zs1.length cs1))
  simp only [List.set_cons_zero, List.set_cons_succ] at hot
  replace ho0_0 := hide ((unhide ho0_0).set' (c := w.heap.size + 2) (by omega) 5 (.slice as1 zs1.length cs1))
  replace ho1 := hide ((unhide ho1).set' (c := w.heap.size + 2) (by omega) 5 (.slice as1 zs1.length cs1))
  have hsz2 : (w2.setCell ⟨w.heap.size + 2, 5, none⟩ (.slice as1 zs1.length cs1)).heap.size = w2.heap.size := by simp
  generalize (w2.setCell ⟨w.heap.size + 2, 5, none⟩ (.slice as1 zs1.length cs1)) = W2 at hot hbx hrs hB hsz2 ho0_0 ho1 ⊢
  have hs2b : w2.heap.size ≤ W2.heap.size := by omega
  obtain ⟨adx2, cpx2, hfx2, hax2⟩ := ((unhide hr2).below (unhide hB))
  rw [hfx2]
  refine (toNoteS_own adx2 cpx2 zs2 W2 hn2 hax2).mono ?_
  rintro e w3 ⟨u2, rfl, ho2, hu⟩
  obtain ⟨as2, cs2, rfl, _⟩ := ho2.rd
  replace ho0_0 := hide ((unhide ho0_0).keep hu)
  replace ho1 := hide ((unhide ho1).keep hu)
  replace ho2 := hide ho2
  replace hot := hide ((unhide hot).keep hu)
  replace hbx := hide ((unhide hbx).keep hu)
  replace hrs := hide ((unhide hrs).keep hu)
  replace hB := hide (below_upd (unhide hB) hu (Nat.le_refl _) (.inr (Nat.le_refl _)))
  have hs3 : W2.heap.size ≤ w3.heap.size := hu.size
  clear hu
  have cb0 := (unhide hbx).1.2 0 _ rfl
  have cb1 := (unhide hbx).1.2 1 _ rfl
  have cb2 := (unhide hbx).1.2 2 _ rfl
  have cb3 := (unhide hbx).1.2 3 _ rfl
  have cb4 := (unhide hbx).1.2 4 _ rfl
  have cb5 := (unhide hbx).1.2 5 _ rfl
  have cb6 := (unhide hbx).1.2 6 _ rfl
  have cb7 := (unhide hbx).1.2 7 _ rfl
  have cbl := (unhide hbx).1.1
  have co0 := (unhide hot).1.2 0 _ rfl
  have co1 := (unhide hot).1.2 1 _ rfl
  have co2 := (unhide hot).1.2 2 _ rfl
  have co3 := (unhide hot).1.2 3 _ rfl
  have co4 := (unhide hot).1.2 4 _ rfl
  have co5 := (unhide hot).1.2 5 _ rfl
  have co6 := (unhide hot).1.2 6 _ rfl
  have co7 := (unhide hot).1.2 7 _ rfl
  have col := (unhide hot).1.1
  have coz0 := (unhide hot).2 0
  have coz1 := (unhide hot).2 1
  have coz2 := (unhide hot).2 2
  have coz3 := (unhide hot).2 3
  have coz4 := (unhide hot).2 4
  have coz5 := (unhide hot).2 5
  have coz6 := (unhide hot).2 6
  have coz7 := (unhide hot).2 7
  have cr0 := (unhide hrs).1.2 0 _ rfl
  have cr1 := (unhide hrs).1.2 1 _ rfl
  have cr2 := (unhide hrs).1.2 2 _ rfl
  have cr3 := (unhide hrs).1.2 3 _ rfl
  have cr4 := (unhide hrs).1.2 4 _ rfl
  have cr5 := (unhide hrs).1.2 5 _ rfl
  have cr6 := (unhide hrs).1.2 6 _ rfl
  have cr7 := (unhide hrs).1.2 7 _ rfl
  have crl := (unhide hrs).1.1
  have crz0 := (unhide hrs).2 0
  have crz1 := (unhide hrs).2 1
  have crz2 := (unhide hrs).2 2
  have crz3 := (unhide hrs).2 3
  have crz4 := (unhide hrs).2 4
  have crz5 := (unhide hrs).2 5
  have crz6 := (unhide hrs).2 6
  have crz7 := (unhide hrs).2 7
  go_wp2
  refine bodyPost_ret (v := .agg #[.int .i64 x0, .int .i64 x1, .int .i64 x2, .int .i64 x3, .slice as0 zs0.length cs0, .slice as1 zs1.length cs1, .slice as2 zs2.length cs2, .bool x4]) (by simp [results, Tryd.results8, go_sem, cr0, cr1, cr2, cr3, cr4, cr5, cr6, cr7]) rfl ⟨_, rfl, ⟨_, _, _, w1.heap.size, w2.heap.size, rfl, ⟨(by first | omega | (simp; done) | (simp; omega)), (by first | omega | (simp; done) | (simp; omega)), (by first | omega | (simp; done) | (simp; omega))⟩, own_mono (((((((((((unhide ho0_0).set' (c := w.heap.size + 2) (by omega) 6 _).set' (c := w.heap.size + 2) (by omega) 7 _).set' (c := w.heap.size + 1) (by omega) 0 _).set' (c := w.heap.size + 1) (by omega) 1 _).set' (c := w.heap.size + 1) (by omega) 2 _).set' (c := w.heap.size + 1) (by omega) 3 _).set' (c := w.heap.size + 1) (by omega) 4 _).set' (c := w.heap.size + 1) (by omega) 5 _).set' (c := w.heap.size + 1) (by omega) 6 _).set' (c := w.heap.size + 1) (by omega) 7 _) (by first | omega | (simp; done) | (simp; omega)) (by first | omega | (simp; done) | (simp; omega)), own_mono (((((((((((unhide ho1).set' (c := w.heap.size + 2) (by omega) 6 _).set' (c := w.heap.size + 2) (by omega) 7 _).set' (c := w.heap.size + 1) (by omega) 0 _).set' (c := w.heap.size + 1) (by omega) 1 _).set' (c := w.heap.size + 1) (by omega) 2 _).set' (c := w.heap.size + 1) (by omega) 3 _).set' (c := w.heap.size + 1) (by omega) 4 _).set' (c := w.heap.size + 1) (by omega) 5 _).set' (c := w.heap.size + 1) (by omega) 6 _).set' (c := w.heap.size + 1) (by omega) 7 _) (by first | omega | (simp; done) | (simp; omega)) (by first | omega | (simp; done) | (simp; omega)), own_mono (((((((((((unhide ho2).set' (c := w.heap.size + 2) (by omega) 6 _).set' (c := w.heap.size + 2) (by omega) 7 _).set' (c := w.heap.size + 1) (by omega) 0 _).set' (c := w.heap.size + 1) (by omega) 1 _).set' (c := w.heap.size + 1) (by omega) 2 _).set' (c := w.heap.size + 1) (by omega) 3 _).set' (c := w.heap.size + 1) (by omega) 4 _).set' (c := w.heap.size + 1) (by omega) 5 _).set' (c := w.heap.size + 1) (by omega) 6 _).set' (c := w.heap.size + 1) (by omega) 7 _) (by first | omega | (simp; done) | (simp; omega)) (by first | omega | (simp; done) | (simp; omega))⟩, Upd.of_below (((((((((((unhide hB).setCell (p := ⟨w.heap.size + 2, 6, none⟩) (by first | (simp; done) | (simp; omega)) _).setCell (p := ⟨w.heap.size + 2, 7, none⟩) (by first | (simp; done) | (simp; omega)) _).setCell (p := ⟨w.heap.size + 1, 0, none⟩) (by first | (simp; done) | (simp; omega)) _).setCell (p := ⟨w.heap.size + 1, 1, none⟩) (by first | (simp; done) | (simp; omega)) _).setCell (p := ⟨w.heap.size + 1, 2, none⟩) (by first | (simp; done) | (simp; omega)) _).setCell (p := ⟨w.heap.size + 1, 3, none⟩) (by first | (simp; done) | (simp; omega)) _).setCell (p := ⟨w.heap.size + 1, 4, none⟩) (by first | (simp; done) | (simp; omega)) _).setCell (p := ⟨w.heap.size + 1, 5, none⟩) (by first | (simp; done) | (simp; omega)) _).setCell (p := ⟨w.heap.size + 1, 6, none⟩) (by first | (simp; done) | (simp; omega)) _).setCell (p := ⟨w.heap.size + 1, 7, none⟩) (by first | (simp; done) | (simp; omega)) _) 0 0⟩

set_option maxHeartbeats 4000000 in
set_option maxRecDepth 100000 in
theorem szStill_any (x0 : Int) (x1 : Int) (x2 : Int) (x3 : Int) (zs0 : List Int) (zs1 : List Int) (zs2 : List Nt) (x4 : Bool) (ad0 : Option Addr) (cap0 : Nat) (ad1 : Option Addr) (cap1 : Nat) (ad2 : Option Addr) (cap2 : Nat) (left : Int) (w : World) (h0 : 0 ≤ left) (h1 : left ≤ 1099511627776) (hb0 : zs0.length ≤ 9223372036854775807) (hb1 : zs1.length ≤ 9223372036854775807) (hb2 : zs2.length ≤ 9223372036854775807) (hi2 : InNt zs2) (ha2 : ArgNt w ad2 zs2) :
    Calls Tryd.prog 6 #[.agg #[.int .i64 x0, .int .i64 x1, .int .i64 x2, .int .i64 x3, .slice ad0 zs0.length cap0, .slice ad1 zs1.length cap1, .slice ad2 zs2.length cap2, .bool x4], .int .i64 left] w fun e w' => e = .returned (.int .i64 (if left < ((zs0.length + zs1.length + ntSize zs2 : Nat) : Int) then -1 else left - ((zs0.length + zs1.length + ntSize zs2 : Nat) : Int))) ∧ Upd 0 0 w w' := by
  replace hi2 := hide hi2
  replace ha2 := hide ha2
  obtain ⟨R, hR⟩ : ∃ R : Int, (if left < ((zs0.length + zs1.length + ntSize zs2 : Nat) : Int) then -1 else left - ((zs0.length + zs1.length + ntSize zs2 : Nat) : Int)) = R := ⟨_, rfl⟩
  rw [hR]
  have hbx0 := heldF_new w [.int .i64 x0, .int .i64 x1, .int .i64 x2, .int .i64 x3, .slice ad0 zs0.length cap0, .slice ad1 zs1.length cap1, .slice ad2 zs2.length cap2, .bool x4] 27
  have hB0 := (Below.refl w.heap.size w).alloc (Nat.le_refl _) (.cells #[.int .i64 x0, .int .i64 x1, .int .i64 x2, .int .i64 x3, .slice ad0 zs0.length cap0, .slice ad1 zs1.length cap1, .slice ad2 zs2.length cap2, .bool x4] 27)
  obtain ⟨l0, e0⟩ : ∃ l : Int, l = left := ⟨_, rfl⟩
  rw [← e0] at hR h0 h1 ⊢
  subst e0
  skip
  obtain ⟨l1, e1⟩ : ∃ l : Int, l = l0 - ((((zs0.length) : Nat)) : Int) := ⟨_, rfl⟩
  by_cases c0 : l0 < ((((zs0.length) : Nat)) : Int)
  · have hRe : R = -1 := by rw [← hR, if_pos (by omega)]
    subst hRe
    replace hR := hide hR
    replace e1 := hide e1
    go_enter Tryd.func6, Tryd.ntmps6
    go_wp2_with fail
    generalize w.alloc (.cells #[.int .i64 x0, .int .i64 x1, .int .i64 x2, .int .i64 x3, .slice ad0 zs0.length cap0, .slice ad1 zs1.length cap1, .slice ad2 zs2.length cap2, .bool x4] 27) = w0 at hbx0 hB0 ⊢
    have hbx := hide hbx0
    have hB := hide hB0
    clear hbx0 hB0
    have hC := szImage_any x0 x1 x2 x3 ad0 zs0.length cap0 l0 w0 (by omega) (by omega) hb0
    rw [if_pos (by omega)] at hC
    replace hC := hide hC
    refine (unhide hC).mono ?_
    rintro e w1 ⟨rfl, hu⟩
    replace hbx := hide ((unhide hbx).keep hu)
    replace hB := hide (below_upd (unhide hB) hu (Nat.le_refl _) (.inr (Nat.le_refl _)))
    clear hu hC
    have cb0 := (unhide hbx).1.2 0 _ rfl
    have cb1 := (unhide hbx).1.2 1 _ rfl
    have cb2 := (unhide hbx).1.2 2 _ rfl
    have cb3 := (unhide hbx).1.2 3 _ rfl
    have cb4 := (unhide hbx).1.2 4 _ rfl
    have cb5 := (unhide hbx).1.2 5 _ rfl
    have cb6 := (unhide hbx).1.2 6 _ rfl
    have cb7 := (unhide hbx).1.2 7 _ rfl
    go_wp2
    go_ret
    exact ⟨by first | rfl | exact ret_int (by have := unhide hR; omega), Upd.of_below (unhide hB) 0 0⟩
  · skip
    have q0 : decide (l1 < 0) = false := by simp; omega
    have n0 : 0 ≤ l1 := by omega
    have m0 : l1 ≤ 1099511627776 := by omega
    obtain ⟨l2, e2⟩ : ∃ l : Int, l = l1 - ((((zs1.length) : Nat)) : Int) := ⟨_, rfl⟩
    by_cases c1 : l1 < ((((zs1.length) : Nat)) : Int)
    · have hRe : R = -1 := by rw [← hR, if_pos (by omega)]
      subst hRe
      replace hR := hide hR
      replace e1 := hide e1
      replace e2 := hide e2
      go_enter Tryd.func6, Tryd.ntmps6
      go_wp2_with fail
      generalize w.alloc (.cells #[.int .i64 x0, .int .i64 x1, .int .i64 x2, .int .i64 x3, .slice ad0 zs0.length cap0, .slice ad1 zs1.length cap1, .slice ad2 zs2.length cap2, .bool x4] 27) = w0 at hbx0 hB0 ⊢
      have hbx := hide hbx0
      have hB := hide hB0
      clear hbx0 hB0
      have hC := szImage_any x0 x1 x2 x3 ad0 zs0.length cap0 l0 w0 (by omega) (by omega) hb0
      rw [if_neg (by omega)] at hC
      rw [← unhide e1] at hC
      replace hC := hide hC
      refine (unhide hC).mono ?_
      rintro e w1 ⟨rfl, hu⟩
      replace hbx := hide ((unhide hbx).keep hu)
      replace hB := hide (below_upd (unhide hB) hu (Nat.le_refl _) (.inr (Nat.le_refl _)))
      clear hu hC
      have cb0 := (unhide hbx).1.2 0 _ rfl
      have cb1 := (unhide hbx).1.2 1 _ rfl
      have cb2 := (unhide hbx).1.2 2 _ rfl
      have cb3 := (unhide hbx).1.2 3 _ rfl
      have cb4 := (unhide hbx).1.2 4 _ rfl
      have cb5 := (unhide hbx).1.2 5 _ rfl
      have cb6 := (unhide hbx).1.2 6 _ rfl
      have cb7 := (unhide hbx).1.2 7 _ rfl
      go_wp2_with fail
      clear cb0 cb1 cb2 cb3 cb4 cb5 cb6 cb7
      have hC := upd_of_same (szIntS_any ad1 zs1.length cap1 l1 w1 (by omega) (by omega) hb1)
      rw [if_pos (by omega)] at hC
      replace hC := hide hC
      refine (unhide hC).mono ?_
      rintro e w2 ⟨rfl, hu⟩
      replace hbx := hide ((unhide hbx).keep hu)
      replace hB := hide (below_upd (unhide hB) hu (Nat.le_refl _) (.inr (Nat.le_refl _)))
      clear hu hC
      have cb0 := (unhide hbx).1.2 0 _ rfl
      have cb1 := (unhide hbx).1.2 1 _ rfl
      have cb2 := (unhide hbx).1.2 2 _ rfl
      have cb3 := (unhide hbx).1.2 3 _ rfl
      have cb4 := (unhide hbx).1.2 4 _ rfl
      have cb5 := (unhide hbx).1.2 5 _ rfl
      have cb6 := (unhide hbx).1.2 6 _ rfl
      have cb7 := (unhide hbx).1.2 7 _ rfl
      go_wp2
      go_ret
      exact ⟨by first | rfl | exact ret_int (by have := unhide hR; omega), Upd.of_below (unhide hB) 0 0⟩
    · skip
      have q1 : decide (l2 < 0) = false := by simp; omega
      have n1 : 0 ≤ l2 := by omega
      have m1 : l2 ≤ 1099511627776 := by omega
      obtain ⟨l3, e3⟩ : ∃ l : Int, l = l2 - ((((ntSize zs2) : Nat)) : Int) := ⟨_, rfl⟩
      by_cases c2 : l2 < ((((ntSize zs2) : Nat)) : Int)
      · have hRe : R = -1 := by rw [← hR, if_pos (by omega)]
        subst hRe
        replace hR := hide hR
        replace e1 := hide e1
        replace e2 := hide e2
        replace e3 := hide e3
        go_enter Tryd.func6, Tryd.ntmps6
        go_wp2_with fail
        generalize w.alloc (.cells #[.int .i64 x0, .int .i64 x1, .int .i64 x2, .int .i64 x3, .slice ad0 zs0.length cap0, .slice ad1 zs1.length cap1, .slice ad2 zs2.length cap2, .bool x4] 27) = w0 at hbx0 hB0 ⊢
        have hbx := hide hbx0
        have hB := hide hB0
        clear hbx0 hB0
        have hC := szImage_any x0 x1 x2 x3 ad0 zs0.length cap0 l0 w0 (by omega) (by omega) hb0
        rw [if_neg (by omega)] at hC
        rw [← unhide e1] at hC
        replace hC := hide hC
        refine (unhide hC).mono ?_
        rintro e w1 ⟨rfl, hu⟩
        replace hbx := hide ((unhide hbx).keep hu)
        replace hB := hide (below_upd (unhide hB) hu (Nat.le_refl _) (.inr (Nat.le_refl _)))
        clear hu hC
        have cb0 := (unhide hbx).1.2 0 _ rfl
        have cb1 := (unhide hbx).1.2 1 _ rfl
        have cb2 := (unhide hbx).1.2 2 _ rfl
        have cb3 := (unhide hbx).1.2 3 _ rfl
        have cb4 := (unhide hbx).1.2 4 _ rfl
        have cb5 := (unhide hbx).1.2 5 _ rfl
        have cb6 := (unhide hbx).1.2 6 _ rfl
        have cb7 := (unhide hbx).1.2 7 _ rfl
        go_wp2_with fail
        clear cb0 cb1 cb2 cb3 cb4 cb5 cb6 cb7
        have hC := upd_of_same (szIntS_any ad1 zs1.length cap1 l1 w1 (by omega) (by omega) hb1)
        rw [if_neg (by omega)] at hC
        rw [← unhide e2] at hC
        replace hC := hide hC
        refine (unhide hC).mono ?_
        rintro e w2 ⟨rfl, hu⟩
        replace hbx := hide ((unhide hbx).keep hu)
        replace hB := hide (below_upd (unhide hB) hu (Nat.le_refl _) (.inr (Nat.le_refl _)))
        clear hu hC
        have cb0 := (unhide hbx).1.2 0 _ rfl
        have cb1 := (unhide hbx).1.2 1 _ rfl
        have cb2 := (unhide hbx).1.2 2 _ rfl
        have cb3 := (unhide hbx).1.2 3 _ rfl
        have cb4 := (unhide hbx).1.2 4 _ rfl
        have cb5 := (unhide hbx).1.2 5 _ rfl
        have cb6 := (unhide hbx).1.2 6 _ rfl
        have cb7 := (unhide hbx).1.2 7 _ rfl
        go_wp2_with fail
        clear cb0 cb1 cb2 cb3 cb4 cb5 cb6 cb7
        have hC := szNoteS_any ad2 zs2 cap2 l2 w2 (by omega) (by omega) hb2 (unhide hi2) ((unhide ha2).below (unhide hB))
        rw [if_pos (by omega)] at hC
        replace hC := hide hC
        refine (unhide hC).mono ?_
        rintro e w3 ⟨rfl, hu⟩
        replace hbx := hide ((unhide hbx).keep hu)
        replace hB := hide (below_upd (unhide hB) hu (Nat.le_refl _) (.inr (Nat.le_refl _)))
        clear hu hC
        have cb0 := (unhide hbx).1.2 0 _ rfl
        have cb1 := (unhide hbx).1.2 1 _ rfl
        have cb2 := (unhide hbx).1.2 2 _ rfl
        have cb3 := (unhide hbx).1.2 3 _ rfl
        have cb4 := (unhide hbx).1.2 4 _ rfl
        have cb5 := (unhide hbx).1.2 5 _ rfl
        have cb6 := (unhide hbx).1.2 6 _ rfl
        have cb7 := (unhide hbx).1.2 7 _ rfl
        go_wp2
        go_ret
        exact ⟨by first | rfl | exact ret_int (by have := unhide hR; omega), Upd.of_below (unhide hB) 0 0⟩
      · skip
        have q2 : decide (l3 < 0) = false := by simp; omega
        have n2 : 0 ≤ l3 := by omega
        have m2 : l3 ≤ 1099511627776 := by omega
        have hRe : R = l3 := by rw [← hR, if_neg (by omega)]; omega
        subst hRe
        replace hR := hide hR
        replace e1 := hide e1
        replace e2 := hide e2
        replace e3 := hide e3
        go_enter Tryd.func6, Tryd.ntmps6
        go_wp2_with fail
        generalize w.alloc (.cells #[.int .i64 x0, .int .i64 x1, .int .i64 x2, .int .i64 x3, .slice ad0 zs0.length cap0, .slice ad1 zs1.length cap1, .slice ad2 zs2.length cap2, .bool x4] 27) = w0 at hbx0 hB0 ⊢
        have hbx := hide hbx0
        have hB := hide hB0
        clear hbx0 hB0
        have hC := szImage_any x0 x1 x2 x3 ad0 zs0.length cap0 l0 w0 (by omega) (by omega) hb0
        rw [if_neg (by omega)] at hC
        rw [← unhide e1] at hC
        replace hC := hide hC
        refine (unhide hC).mono ?_
        rintro e w1 ⟨rfl, hu⟩
        replace hbx := hide ((unhide hbx).keep hu)
        replace hB := hide (below_upd (unhide hB) hu (Nat.le_refl _) (.inr (Nat.le_refl _)))
        clear hu hC
        have cb0 := (unhide hbx).1.2 0 _ rfl
        have cb1 := (unhide hbx).1.2 1 _ rfl
        have cb2 := (unhide hbx).1.2 2 _ rfl
        have cb3 := (unhide hbx).1.2 3 _ rfl
        have cb4 := (unhide hbx).1.2 4 _ rfl
        have cb5 := (unhide hbx).1.2 5 _ rfl
        have cb6 := (unhide hbx).1.2 6 _ rfl
        have cb7 := (unhide hbx).1.2 7 _ rfl
        go_wp2_with fail
        clear cb0 cb1 cb2 cb3 cb4 cb5 cb6 cb7
        have hC := upd_of_same (szIntS_any ad1 zs1.length cap1 l1 w1 (by omega) (by omega) hb1)
        rw [if_neg (by omega)] at hC
        rw [← unhide e2] at hC
        replace hC := hide hC
        refine (unhide hC).mono ?_
        rintro e w2 ⟨rfl, hu⟩
        replace hbx := hide ((unhide hbx).keep hu)
        replace hB := hide (below_upd (unhide hB) hu (Nat.le_refl _) (.inr (Nat.le_refl _)))
        clear hu hC
        have cb0 := (unhide hbx).1.2 0 _ rfl
        have cb1 := (unhide hbx).1.2 1 _ rfl
        have cb2 := (unhide hbx).1.2 2 _ rfl
        have cb3 := (unhide hbx).1.2 3 _ rfl
        have cb4 := (unhide hbx).1.2 4 _ rfl
        have cb5 := (unhide hbx).1.2 5 _ rfl
        have cb6 := (unhide hbx).1.2 6 _ rfl
        have cb7 := (unhide hbx).1.2 7 _ rfl
        go_wp2_with fail
        clear cb0 cb1 cb2 cb3 cb4 cb5 cb6 cb7
        have hC := szNoteS_any ad2 zs2 cap2 l2 w2 (by omega) (by omega) hb2 (unhide hi2) ((unhide ha2).below (unhide hB))
        rw [if_neg (by omega)] at hC
        rw [← unhide e3] at hC
        replace hC := hide hC
        refine (unhide hC).mono ?_
        rintro e w3 ⟨rfl, hu⟩
        replace hbx := hide ((unhide hbx).keep hu)
        replace hB := hide (below_upd (unhide hB) hu (Nat.le_refl _) (.inr (Nat.le_refl _)))
        clear hu hC
        have cb0 := (unhide hbx).1.2 0 _ rfl
        have cb1 := (unhide hbx).1.2 1 _ rfl
        have cb2 := (unhide hbx).1.2 2 _ rfl
        have cb3 := (unhide hbx).1.2 3 _ rfl
        have cb4 := (unhide hbx).1.2 4 _ rfl
        have cb5 := (unhide hbx).1.2 5 _ rfl
        have cb6 := (unhide hbx).1.2 6 _ rfl
        have cb7 := (unhide hbx).1.2 7 _ rfl
        go_wp2
        go_ret
        exact ⟨by first | rfl | exact ret_int (by have := unhide hR; omega), Upd.of_below (unhide hB) 0 0⟩

set_option maxHeartbeats 4000000 in
set_option maxRecDepth 100000 in
theorem eqStill_rd (u v : Value) (d : St) (w : World) (hn : StSize d ≤ 1048576) (hu : RdSt w u d) (hv : RdSt w v d) :
    Calls Tryd.prog 10 #[u, v] w fun e w' => e = .returned (.bool true) ∧ Upd 0 0 w w' := by
  obtain ⟨p0, p1, p2, rfl, hu0, hu1, hu2⟩ := hu
  obtain ⟨v0, v1, v2, rfl, hv0, hv1, hv2⟩ := hv
  obtain ⟨⟨x0, x1, x2, x3, zs0⟩, zs1, zs2, x4⟩ := d
  simp only [Stv, StSize] at hn ⊢
  have hn0 : zs0.length ≤ 1048576 := by omega
  have hn1 : zs1.length ≤ 1048576 := by omega
  have hn2 : zs2.length ≤ 1048576 := by unfold ntSize at hn; omega
  replace hu0 := hide hu0
  replace hv0 := hide hv0
  replace hu1 := hide hu1
  replace hv1 := hide hv1
  replace hu2 := hide hu2
  replace hv2 := hide hv2
  have hB0 := ((Below.refl w.heap.size w).alloc (Nat.le_refl _) (.cells #[.int .i64 x0, .int .i64 x1, .int .i64 x2, .int .i64 x3, p0, p1, p2, .bool x4] 33)).alloc (by simp) (.cells #[.int .i64 x0, .int .i64 x1, .int .i64 x2, .int .i64 x3, v0, v1, v2, .bool x4] 33)
  have hbx0 := (heldF_new w [.int .i64 x0, .int .i64 x1, .int .i64 x2, .int .i64 x3, p0, p1, p2, .bool x4] 33).keep (Upd.of_below ((Below.refl _ _).alloc (Nat.le_refl _) (.cells #[.int .i64 x0, .int .i64 x1, .int .i64 x2, .int .i64 x3, v0, v1, v2, .bool x4] 33)) 0 0)
  have hby0 := heldF_new (w.alloc (.cells #[.int .i64 x0, .int .i64 x1, .int .i64 x2, .int .i64 x3, p0, p1, p2, .bool x4] 33)) [.int .i64 x0, .int .i64 x1, .int .i64 x2, .int .i64 x3, v0, v1, v2, .bool x4] 33
  have e1 : (w.alloc (.cells #[.int .i64 x0, .int .i64 x1, .int .i64 x2, .int .i64 x3, p0, p1, p2, .bool x4] 33)).heap.size = w.heap.size + 1 := by simp
  rw [e1] at hby0
  clear e1
  go_enter Tryd.func10, Tryd.ntmps10
  go_wp2_with fail
  generalize (w.alloc (.cells #[.int .i64 x0, .int .i64 x1, .int .i64 x2, .int .i64 x3, p0, p1, p2, .bool x4] 33)).alloc (.cells #[.int .i64 x0, .int .i64 x1, .int .i64 x2, .int .i64 x3, v0, v1, v2, .bool x4] 33) = w0 at hbx0 hby0 hB0 ⊢
  have hbx := hide hbx0
  have hby := hide hby0
  have hB := hide hB0
  clear hbx0 hby0 hB0
  refine (eqImage_rd _ _ (x0, x1, x2, x3, zs0) w0 hn0 ⟨p0, rfl, (unhide hu0).below (unhide hB)⟩ ⟨v0, rfl, (unhide hv0).below (unhide hB)⟩).mono ?_
  rintro e w1 ⟨rfl, hu⟩
  replace hbx := hide ((unhide hbx).keep hu)
  replace hby := hide ((unhide hby).keep hu)
  replace hB := hide (below_upd (unhide hB) hu (Nat.le_refl _) (.inr (Nat.le_refl _)))
  clear hu
  have cb0 := (unhide hbx).1.2 0 _ rfl
  have cd0 := (unhide hby).1.2 0 _ rfl
  have cb1 := (unhide hbx).1.2 1 _ rfl
  have cd1 := (unhide hby).1.2 1 _ rfl
  have cb2 := (unhide hbx).1.2 2 _ rfl
  have cd2 := (unhide hby).1.2 2 _ rfl
  have cb3 := (unhide hbx).1.2 3 _ rfl
  have cd3 := (unhide hby).1.2 3 _ rfl
  have cb4 := (unhide hbx).1.2 4 _ rfl
  have cd4 := (unhide hby).1.2 4 _ rfl
  have cb5 := (unhide hbx).1.2 5 _ rfl
  have cd5 := (unhide hby).1.2 5 _ rfl
  have cb6 := (unhide hbx).1.2 6 _ rfl
  have cd6 := (unhide hby).1.2 6 _ rfl
  have cb7 := (unhide hbx).1.2 7 _ rfl
  have cd7 := (unhide hby).1.2 7 _ rfl
  go_wp2_with fail
  clear cb0 cd0 cb1 cd1 cb2 cd2 cb3 cd3 cb4 cd4 cb5 cd5 cb6 cd6 cb7 cd7
  refine (eqIntS_rd _ _ zs1 w1 hn1 ((unhide hu1).below (unhide hB)) ((unhide hv1).below (unhide hB))).mono ?_
  rintro e w2 ⟨rfl, hu⟩
  replace hbx := hide ((unhide hbx).keep hu)
  replace hby := hide ((unhide hby).keep hu)
  replace hB := hide (below_upd (unhide hB) hu (Nat.le_refl _) (.inr (Nat.le_refl _)))
  clear hu
  have cb0 := (unhide hbx).1.2 0 _ rfl
  have cd0 := (unhide hby).1.2 0 _ rfl
  have cb1 := (unhide hbx).1.2 1 _ rfl
  have cd1 := (unhide hby).1.2 1 _ rfl
  have cb2 := (unhide hbx).1.2 2 _ rfl
  have cd2 := (unhide hby).1.2 2 _ rfl
  have cb3 := (unhide hbx).1.2 3 _ rfl
  have cd3 := (unhide hby).1.2 3 _ rfl
  have cb4 := (unhide hbx).1.2 4 _ rfl
  have cd4 := (unhide hby).1.2 4 _ rfl
  have cb5 := (unhide hbx).1.2 5 _ rfl
  have cd5 := (unhide hby).1.2 5 _ rfl
  have cb6 := (unhide hbx).1.2 6 _ rfl
  have cd6 := (unhide hby).1.2 6 _ rfl
  have cb7 := (unhide hbx).1.2 7 _ rfl
  have cd7 := (unhide hby).1.2 7 _ rfl
  go_wp2_with fail
  clear cb0 cd0 cb1 cd1 cb2 cd2 cb3 cd3 cb4 cd4 cb5 cd5 cb6 cd6 cb7 cd7
  refine (eqNoteS_rd _ _ zs2 w2 hn2 ((unhide hu2).below (unhide hB)) ((unhide hv2).below (unhide hB))).mono ?_
  rintro e w3 ⟨rfl, hu⟩
  replace hbx := hide ((unhide hbx).keep hu)
  replace hby := hide ((unhide hby).keep hu)
  replace hB := hide (below_upd (unhide hB) hu (Nat.le_refl _) (.inr (Nat.le_refl _)))
  clear hu
  have cb0 := (unhide hbx).1.2 0 _ rfl
  have cd0 := (unhide hby).1.2 0 _ rfl
  have cb1 := (unhide hbx).1.2 1 _ rfl
  have cd1 := (unhide hby).1.2 1 _ rfl
  have cb2 := (unhide hbx).1.2 2 _ rfl
  have cd2 := (unhide hby).1.2 2 _ rfl
  have cb3 := (unhide hbx).1.2 3 _ rfl
  have cd3 := (unhide hby).1.2 3 _ rfl
  have cb4 := (unhide hbx).1.2 4 _ rfl
  have cd4 := (unhide hby).1.2 4 _ rfl
  have cb5 := (unhide hbx).1.2 5 _ rfl
  have cd5 := (unhide hby).1.2 5 _ rfl
  have cb6 := (unhide hbx).1.2 6 _ rfl
  have cd6 := (unhide hby).1.2 6 _ rfl
  have cb7 := (unhide hbx).1.2 7 _ rfl
  have cd7 := (unhide hby).1.2 7 _ rfl
  go_wp2
  go_ret
  exact ⟨rfl, Upd.of_below (unhide hB) 0 0⟩

end Go.Proofs.YthpkngipiapbpaaDoor
