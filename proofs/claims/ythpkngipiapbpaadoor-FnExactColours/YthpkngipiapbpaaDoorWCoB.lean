/- Colours, as the program has it. -/
import Derived.Test.YthpkngipiapbpaaDoorPlainCo
import Derived.Test.YthpkngipiapbpaaDoorWCoA
import Derived.Test.YthpkngipiapbpaaDoorWGsF
import Derived.Test.YthpkngipiapbpaaDoorWClI
namespace Go.Proofs.YthpkngipiapbpaaDoor
open Go.RowKit

set_option maxHeartbeats 8000000 in
set_option maxRecDepth 1000000 in
theorem implColours (v : Value) (d : St) (w : World) (hT : Held w 1 passCells) (hn : StSize d ≤ 1048576) (hR : InSt d) (hv : RnSt w v d) :
    Calls Tryd.prog 20 #[v] w fun e w' => ∃ u, e = .returned u ∧ OwnIm w' w.heap.size w'.heap.size u (coloursF d) ∧ Upd 0 0 w w' := by
  have hv0 := hv.rd
  obtain ⟨l0, l1, l2, rfl, hr0, hr1, hr2⟩ := hv
  obtain ⟨⟨a, b, p, dp, zs⟩, zp, ps, wv⟩ := d
  change RdJ w l0 zs at hr0
  have hrJ := hide hr0
  replace hr0 := rdI_of_rdJ hr0
  change RdI w l1 zp at hr1
  change RdNt w l2 ps at hr2
  have hr0' := hide hr0
  have hr1' := hide hr1
  obtain ⟨ad, cap, rfl, hA0⟩ := hr0
  obtain ⟨ad1, cap1, rfl, hA1⟩ := hr1
  obtain ⟨ad2, cap2, rfl, _⟩ := hr2
  replace hA0 := hide hA0
  replace hA1 := hide hA1
  simp only [Stv]
  have hB0 := ((Below.refl w.heap.size w).alloc (Nat.le_refl _) (.cells (stcC a b p dp (.slice ad zs.length cap) (.slice ad1 zp.length cap1) (.slice ad2 ps.length cap2) wv).toArray 33)).alloc (by simp) (.cells (imcC 0 0 0 0 (.slice none 0 0)).toArray 30)
  have hbx := hide ((heldF_new w (stcC a b p dp (.slice ad zs.length cap) (.slice ad1 zp.length cap1) (.slice ad2 ps.length cap2) wv) 33).keep (Upd.of_below ((Below.refl _ _).alloc (Nat.le_refl _) (.cells (imcC 0 0 0 0 (.slice none 0 0)).toArray 30)) 0 0))
  have hrs := hide (heldF_new (w.alloc (.cells (stcC a b p dp (.slice ad zs.length cap) (.slice ad1 zp.length cap1) (.slice ad2 ps.length cap2) wv).toArray 33)) (imcC 0 0 0 0 (.slice none 0 0)) 30)
  have hG := hide (implGoodStill _ ((a, b, p, dp, zs), zp, ps, wv) _ (hT.upd (Upd.of_below hB0 0 0) (.inr (Nat.zero_le _))) hn hR (hv0.below hB0))
  clear hv0 hR hn hT
  have es : (w.alloc (.cells (stcC a b p dp (.slice ad zs.length cap) (.slice ad1 zp.length cap1) (.slice ad2 ps.length cap2) wv).toArray 33)).heap.size = w.heap.size + 1 := by simp
  rw [es] at hrs
  have es2 : ((w.alloc (.cells (stcC a b p dp (.slice ad zs.length cap) (.slice ad1 zp.length cap1) (.slice ad2 ps.length cap2) wv).toArray 33)).alloc (.cells (imcC 0 0 0 0 (.slice none 0 0)).toArray 30)).heap.size = w.heap.size + 2 := by simp
  clear es
  replace hB0 := hide hB0
  go_enter Tryd.func20, Tryd.ntmps20
  go_wp2_with fail
  change Hid (HeldF ((w.alloc (.cells #[.int .i64 a, .int .i64 b, .int .i64 p, .int .i64 dp, .slice ad zs.length cap, .slice ad1 zp.length cap1, .slice ad2 ps.length cap2, .bool wv] 33)).alloc (.cells #[.int .i64 0, .int .i64 0, .int .i64 0, .int .i64 0, .slice none 0 0] 30)) _ _) at hbx
  change Hid (HeldF ((w.alloc (.cells #[.int .i64 a, .int .i64 b, .int .i64 p, .int .i64 dp, .slice ad zs.length cap, .slice ad1 zp.length cap1, .slice ad2 ps.length cap2, .bool wv] 33)).alloc (.cells #[.int .i64 0, .int .i64 0, .int .i64 0, .int .i64 0, .slice none 0 0] 30)) _ _) at hrs
  change ((w.alloc (.cells #[.int .i64 a, .int .i64 b, .int .i64 p, .int .i64 dp, .slice ad zs.length cap, .slice ad1 zp.length cap1, .slice ad2 ps.length cap2, .bool wv] 33)).alloc (.cells #[.int .i64 0, .int .i64 0, .int .i64 0, .int .i64 0, .slice none 0 0] 30)).heap.size = _ at es2
  generalize ((w.alloc (.cells #[.int .i64 a, .int .i64 b, .int .i64 p, .int .i64 dp, .slice ad zs.length cap, .slice ad1 zp.length cap1, .slice ad2 ps.length cap2, .bool wv] 33)).alloc (.cells #[.int .i64 0, .int .i64 0, .int .i64 0, .int .i64 0, .slice none 0 0] 30)) = w0 at hbx hrs hB0 hG es2 ⊢
  refine (unhide hG).mono ?_
  rintro e w1 ⟨rfl, hu⟩
  replace hbx := hide ((unhide hbx).keep hu)
  replace hrs := hide ((unhide hrs).keep hu)
  replace hB0 := hide (below_upd (unhide hB0) hu (Nat.le_refl _) (.inr (Nat.le_refl _)))
  have hs1 : w.heap.size + 2 ≤ w1.heap.size := by have := hu.size; omega
  clear hu hG es2
  have c0 := (unhide hbx).1.2 0 _ rfl
  have c1 := (unhide hbx).1.2 1 _ rfl
  have c2 := (unhide hbx).1.2 2 _ rfl
  have c3 := (unhide hbx).1.2 3 _ rfl
  have c4 := (unhide hbx).1.2 4 _ rfl
  have c5 := (unhide hbx).1.2 5 _ rfl
  have r0 := (unhide hrs).1.2 0 _ rfl
  have r1 := (unhide hrs).1.2 1 _ rfl
  have r2 := (unhide hrs).1.2 2 _ rfl
  have r3 := (unhide hrs).1.2 3 _ rfl
  have r4 := (unhide hrs).1.2 4 _ rfl
  have z0 := (unhide hrs).2 0
  have z1 := (unhide hrs).2 1
  have z2 := (unhide hrs).2 2
  have z3 := (unhide hrs).2 3
  have z4 := (unhide hrs).2 4
  have cl := (unhide hbx).1.1
  have rl := (unhide hrs).1.1
  by_cases hgd : GoodSt ((a, b, p, dp, zs), zp, ps, wv)
  · rw [pB_yes hgd]
    have hzl : zs.length ≤ 16384 := goodIm_len hgd.1
    by_cases h0 : zp.length = 0
    · have hE := hide (coloursF_plain hgd h0)
      have q : ((zp.length : Int) == 0) = true := by rw [h0]; rfl
      replace hgd := hide hgd
      replace h0 := hide h0
      have hbi := hide (heldF_new w1 (imcC a b p dp (.slice ad zs.length cap)) 30)
      have hb2 := hide ((unhide hB0).alloc (unhide hB0).size (.cells #[.int .i64 a, .int .i64 b, .int .i64 p, .int .i64 dp, .slice ad zs.length cap] 30))
      have hrs2 := hide ((unhide hrs).keep (Upd.of_below ((Below.refl w1.heap.size w1).alloc (Nat.le_refl _) (.cells #[.int .i64 a, .int .i64 b, .int .i64 p, .int .i64 dp, .slice ad zs.length cap] 30)) 0 0))
      go_wp2_with fail
      change Hid (HeldF (w1.alloc (.cells #[.int .i64 a, .int .i64 b, .int .i64 p, .int .i64 dp, .slice ad zs.length cap] 30)) _ _) at hbi
      have hsz2 : (w1.alloc (.cells #[.int .i64 a, .int .i64 b, .int .i64 p, .int .i64 dp, .slice ad zs.length cap] 30)).heap.size = w1.heap.size + 1 := by simp
      generalize w1.alloc (.cells #[.int .i64 a, .int .i64 b, .int .i64 p, .int .i64 dp, .slice ad zs.length cap] 30) = w1' at hbi hb2 hrs2 hsz2 ⊢
      refine (cloneI _ zs w1' (by omega) ((unhide hrJ).below (unhide hb2))).mono ?_
      rintro e w2 ⟨v2, rfl, ho2, hu2⟩
      have hb3 := hide (below_upd (unhide hb2) hu2 (Nat.le_refl _) (.inr (Nat.le_refl _)))
      replace hbi := hide ((unhide hbi).keep hu2)
      replace hrs2 := hide ((unhide hrs2).keep hu2)
      have hs2 : w1.heap.size + 1 ≤ w2.heap.size := by have := hu2.size; omega
      rw [hsz2] at ho2
      have hO2 := hide ho2
      obtain ⟨ad2', cap2', rfl, _⟩ := OwnI.rd (unhide hO2)
      clear hu2 hb2 ho2 hsz2 c0 c1 c2 c3 c4 c5 r0 r1 r2 r3 r4 z0 z1 z2 z3 z4 cl rl
      have i0 := (unhide hbi).1.2 0 _ rfl
      have i1 := (unhide hbi).1.2 1 _ rfl
      have i2 := (unhide hbi).1.2 2 _ rfl
      have i3 := (unhide hbi).1.2 3 _ rfl
      have i4 := (unhide hbi).1.2 4 _ rfl
      have iz := (unhide hbi).2 4
      have r0 := (unhide hrs2).1.2 0 _ rfl
      have r1 := (unhide hrs2).1.2 1 _ rfl
      have r2 := (unhide hrs2).1.2 2 _ rfl
      have r3 := (unhide hrs2).1.2 3 _ rfl
      have r4 := (unhide hrs2).1.2 4 _ rfl
      have z0 := (unhide hrs2).2 0
      have z1 := (unhide hrs2).2 1
      have z2 := (unhide hrs2).2 2
      have z3 := (unhide hrs2).2 3
      have z4 := (unhide hrs2).2 4
      go_wp2
      refine bodyPost_ret (v := .agg #[.int .i64 a, .int .i64 b, .int .i64 p, .int .i64 dp, .slice ad2' zs.length cap2']) (by simp [results, Tryd.results20, go_sem, r0, r1, r2, r3, r4]) rfl ⟨_, rfl, ?_, Upd.of_below ?_ 0 0⟩
      · rw [unhide hE]
        refine ⟨_, rfl, own_mono ((((((unhide hO2).set' (c := w1.heap.size) (by omega) 4 _).set' (c := w.heap.size + 1) (by omega) 0 _).set' (c := w.heap.size + 1) (by omega) 1 _).set' (c := w.heap.size + 1) (by omega) 2 _).set' (c := w.heap.size + 1) (by omega) 3 _ |>.set' (c := w.heap.size + 1) (by omega) 4 _) (by omega) (by simp)⟩
      · exact (((((((unhide hb3).setCell (p := ⟨w1.heap.size, 4, none⟩) (by simp; omega) _).setCell (p := ⟨w.heap.size + 1, 0, none⟩) (by simp) _).setCell (p := ⟨w.heap.size + 1, 1, none⟩) (by simp) _).setCell (p := ⟨w.heap.size + 1, 2, none⟩) (by simp) _).setCell (p := ⟨w.heap.size + 1, 3, none⟩) (by simp) _).setCell (p := ⟨w.heap.size + 1, 4, none⟩) (by simp) _)
    · have hE := hide (coloursF_pal hgd h0)
      have q : ((zp.length : Int) == 0) = false := beq_eq_false_iff_ne.2 (by omega)
      have hin : Hid (∀ k, k < zs.length → 0 ≤ zs.getD k 0 ∧ zs.getD k 0 < (zp.length : Int)) := hide (fun k hk => ⟨(hgd.1.2.2 k hk).1, (hgd.2.2.1 (by show 0 < zp.length; omega)).2.2 k hk⟩)
      have hcol : Hid (∀ k, k < zp.length → 0 ≤ zp.getD k 0 ∧ zp.getD k 0 ≤ 16777215) := hide hgd.2.1.2
      have hzp : zp.length ≤ 256 := hgd.2.1.1
      replace hgd := hide hgd
      have hb2 := (unhide hB0).alloc (unhide hB0).size (.cells #[.int .i64 a, .int .i64 b, .int .i64 3, .int .i64 8, .slice none 0 0] 30)
      have hu2 : Upd 0 0 w1 (w1.alloc (.cells #[.int .i64 a, .int .i64 b, .int .i64 3, .int .i64 8, .slice none 0 0] 30)) := Upd.of_below ((Below.refl w1.heap.size w1).alloc (Nat.le_refl _) _) 0 0
      have hbo := heldF_new w1 (imcC a b 3 8 (.slice none 0 0)) 30
      have hbx2 := hide ((unhide hbx).keep hu2)
      have hrs2 := hide ((unhide hrs).keep hu2)
      have hs2 : (w1.alloc (.cells #[.int .i64 a, .int .i64 b, .int .i64 3, .int .i64 8, .slice none 0 0] 30)).heap.size = w1.heap.size + 1 := by simp
      replace hbo := hide hbo
      replace hb2 := hide hb2
      clear hu2
      go_wp2_with fail
      change Hid (HeldF (w1.alloc (.cells #[.int .i64 a, .int .i64 b, .int .i64 3, .int .i64 8, .slice none 0 0] 30)) _ _) at hbo
      clear c0 c1 c2 c3 c4 c5 r0 r1 r2 r3 r4 z0 z1 z2 z3 z4 cl rl hbx hrs
      generalize (w1.alloc (.cells #[.int .i64 a, .int .i64 b, .int .i64 3, .int .i64 8, .slice none 0 0] 30)) = w2 at hb2 hbo hbx2 hrs2 hs2 ⊢
      go_loopw [29] (fun i wx => ∃ (k : Nat) (v : Value), k ≤ zs.length ∧ i = .int .i64 k ∧ HeldF wx w1.heap.size (imcC a b 3 8 v) ∧ wx.ownsRow (w1.heap.size + 1) 3 1 v (colTo zs zp k).length (ints (colTo zs zp k)) ∧ Below w1.heap.size w2 wx) (fun i _ => zs.length - (intOf i).toNat)
      case atStart => exact ⟨0, .slice none 0 0, Nat.zero_le _, rfl, unhide hbo, World.ownsRow_nil _ _ _ _, Below.refl _ _⟩
      case round =>
        obtain ⟨k, v, hk, rfl, hbo2, hown, hbel⟩ := hrel
        have huw : Upd w1.heap.size wr.heap.size w2 wr := ⟨hbel.os, hbel.tape, hbel.output, hbel.size, fun j hj hn => hbel.block j (by have := hbel.size; omega)⟩
        have hbx3 := (unhide hbx2).upd huw (.inl (by omega))
        have hrs3 := hide ((unhide hrs2).upd huw (.inl (by omega)))
        have hb3 := below_upd (unhide hb2) huw (Nat.le_refl _) (.inl (by omega))
        have hszw := hbel.size
        have c5 := hbx3.1.2 5 _ rfl
        have cl := hbx3.1.1
        by_cases hlt : k < zs.length
        · obtain ⟨s0, s1⟩ := unhide hin k hlt
          obtain ⟨n, hnk⟩ := Int.eq_ofNat_of_zero_le s0
          obtain ⟨b', off', rfl, hbl, hcc⟩ := (unhide hA0) (ne_of_lt_length hlt)
          have hck := (hb3.cell (p := ⟨b', off' + k, none⟩) (by simpa using hbl)).trans (hcc k hlt)
          rw [hnk] at hck s1
          have hn1 : n < zp.length := by omega
          obtain ⟨b2, off2, rfl, hbl2, hcc2⟩ := (unhide hA1) (ne_of_lt_length hn1)
          have hck2 := (hb3.cell (p := ⟨b2, off2 + n, none⟩) (by simpa using hbl2)).trans (hcc2 n hn1)
          obtain ⟨k0, k1⟩ := unhide hcol n hn1
          have hsu := colTo_succ zs zp k hlt
          rw [hnk, Int.toNat_natCast] at hsu
          replace hsu := hide hsu
          have hln := colTo_len zs zp k hk
          generalize zp.getD n 0 = c at hck2 k0 k1 hsu
          have a1 := (col_and c).1
          have a2 := (col_and c).2
          have o4 := hbo2.1.2 4 _ rfl
          have oz := hbo2.2 4
          have ol := hbo2.1.1
          have hrn := hide (show RdJ (wr.alloc (.cells #[.int .i64 (c / 65536), .int .i64 (c / 256 % 256), .int .i64 (c % 256)] 3)) (.slice (some ⟨wr.heap.size, 0, none⟩) 3 3) (colB c) from .inr ⟨wr.heap.size, 0, 3, rfl, by simp, fun j hj => by
            rw [World.cell?_alloc_at _ _ _ _ rfl, Nat.zero_add]
            match j, hj with
            | 0, _ => rfl
            | 1, _ => rfl
            | 2, _ => rfl⟩)
          have hown2 := hide (hown.alloc (.cells #[.int .i64 (c / 65536), .int .i64 (c / 256 % 256), .int .i64 (c % 256)] 3))
          have hbo3 := hide (hbo2.keep (Upd.of_below ((Below.refl wr.heap.size wr).alloc (Nat.le_refl _) (.cells #[.int .i64 (c / 65536), .int .i64 (c / 256 % 256), .int .i64 (c % 256)] 3)) 0 0))
          have hbel3 := hide (hbel.alloc (by omega) (.cells #[.int .i64 (c / 65536), .int .i64 (c / 256 % 256), .int .i64 (c % 256)] 3))
          obtain ⟨cz, hcz⟩ : ∃ cz, colTo zs zp k = cz := ⟨_, rfl⟩
          rw [hcz] at hown2 hsu hln
          replace hcz := hide hcz
          clear hbx3 hb3 hcc hcc2 hbl hbl2 hown hbo2 hbel huw hnk s0
          replace hln := hide hln
          go_wp2_with (at_builtin; go_loud (refine wpList_appI rfl (.tmp 39) (.tmp 47) rfl (w1.heap.size + 1) v cz rfl (unhide hown2) _ (colB c) rfl (unhide hrn) (by have := unhide hln; simp [colB]; omega) (by simp; omega) ?_))
          intro v4 w4 ho4 hg4 _
          have hu4 := upd_of_grownI hg4 (unhide hown2)
          have hb4 := (unhide hbel3).trans (hu4.below (by simp; omega) (.inl (by omega)))
          have hbo4 := (unhide hbo3).upd hu4 (.inl (Nat.le_refl _))
          have o4' := hbo4.1.2 4 _ rfl
          have oz' := hbo4.2 4
          have ho5 : w4.ownsRow (w1.heap.size + 1) 3 1 v4 (cz ++ colB c).length (ints (cz ++ colB c)) := by rw [List.length_append]; exact ho4
          rw [← unhide hsu] at ho5
          obtain ⟨dz, hdz⟩ : ∃ dz, colTo zs zp (k + 1) = dz := ⟨_, rfl⟩
          rw [hdz] at ho5
          obtain ⟨ad4, cap4, rfl, _⟩ := OwnI.rd (Own.of ho5)
          have hbo5 := hide (hbo4.set 4 (.slice ad4 dz.length cap4) (by simp))
          have ho6 := hide (Own.set' (Own.of ho5) (c := w1.heap.size) (by omega) 4 (.slice ad4 dz.length cap4)).1
          have hb5 := hide (hb4.setCell (p := ⟨w1.heap.size, 4, none⟩) (by simp) (.slice ad4 dz.length cap4))
          have ho7 : Hid ((w4.setCell ⟨w1.heap.size, 4, none⟩ (.slice ad4 dz.length cap4)).ownsRow (w1.heap.size + 1) 3 1 (.slice ad4 dz.length cap4) (colTo zs zp (k + 1)).length (ints (colTo zs zp (k + 1)))) := hide (by rw [hdz]; exact unhide ho6)
          clear ho6
          replace hdz := hide hdz
          clear hu4 hb4 hbo4 ho5 ho4 hg4 o4 oz ol hown2 hbo3 hbel3 hrn
          go_wp2
          go_roundw
          case rel => exact ⟨k + 1, _, by omega, by go_num, unhide hbo5, unhide ho7, unhide hb5⟩
          case measure => simp [intOf]; omega
        · have hkl : k = zs.length := by omega
          subst hkl
          obtain ⟨cz, hcz⟩ : ∃ cz, colTo zs zp zs.length = cz := ⟨_, rfl⟩
          change Hid (coloursF ((a, b, p, dp, zs), zp, ps, wv) = (a, b, 3, 8, colTo zs zp zs.length)) at hE
          rw [hcz] at hown hE
          clear hcz
          have hO := hide (Own.of hown)
          obtain ⟨ad3, cap3, rfl, _⟩ := OwnI.rd (unhide hO)
          have o0 := hbo2.1.2 0 _ rfl
          have o1 := hbo2.1.2 1 _ rfl
          have o2 := hbo2.1.2 2 _ rfl
          have o3 := hbo2.1.2 3 _ rfl
          have o4 := hbo2.1.2 4 _ rfl
          have r0 := (unhide hrs3).1.2 0 _ rfl
          have r1 := (unhide hrs3).1.2 1 _ rfl
          have r2 := (unhide hrs3).1.2 2 _ rfl
          have r3 := (unhide hrs3).1.2 3 _ rfl
          have r4 := (unhide hrs3).1.2 4 _ rfl
          have z0 := (unhide hrs3).2 0
          have z1 := (unhide hrs3).2 1
          have z2 := (unhide hrs3).2 2
          have z3 := (unhide hrs3).2 3
          have z4 := (unhide hrs3).2 4
          replace hb3 := hide hb3
          clear hown hbo2 hbel huw hbx3
          go_wp2
          refine bodyPost_ret (v := .agg #[.int .i64 a, .int .i64 b, .int .i64 3, .int .i64 8, .slice ad3 cz.length cap3]) (by simp [results, Tryd.results20, go_sem, r0, r1, r2, r3, r4]) rfl ⟨_, rfl, ?_, Upd.of_below ?_ 0 0⟩
          · rw [unhide hE]
            refine ⟨_, rfl, own_mono (((((unhide hO).set' (c := w.heap.size + 1) (by omega) 0 _).set' (c := w.heap.size + 1) (by omega) 1 _).set' (c := w.heap.size + 1) (by omega) 2 _).set' (c := w.heap.size + 1) (by omega) 3 _ |>.set' (c := w.heap.size + 1) (by omega) 4 _) (by omega) (by simp)⟩
          · exact ((((((unhide hb3).setCell (p := ⟨w.heap.size + 1, 0, none⟩) (by simp) _).setCell (p := ⟨w.heap.size + 1, 1, none⟩) (by simp) _).setCell (p := ⟨w.heap.size + 1, 2, none⟩) (by simp) _).setCell (p := ⟨w.heap.size + 1, 3, none⟩) (by simp) _).setCell (p := ⟨w.heap.size + 1, 4, none⟩) (by simp) _)
  · rw [pB_no hgd]
    have hE := hide (coloursF_no hgd)
    go_wp2_with fail
    refine bodyPost_ret (v := .agg #[.int .i64 0, .int .i64 0, .int .i64 0, .int .i64 0, .slice none 0 0]) (by simp [results, Tryd.results20, go_sem, r0, r1, r2, r3, r4]) rfl ⟨_, rfl, ?_, Upd.of_below ?_ 0 0⟩
    · rw [unhide hE]; exact ⟨_, rfl, own_nilI _ _ _⟩
    · exact ((((((unhide hB0).setCell (p := ⟨w.heap.size + 1, 0, none⟩) (by simp) _).setCell (p := ⟨w.heap.size + 1, 1, none⟩) (by simp) _).setCell (p := ⟨w.heap.size + 1, 2, none⟩) (by simp) _).setCell (p := ⟨w.heap.size + 1, 3, none⟩) (by simp) _).setCell (p := ⟨w.heap.size + 1, 4, none⟩) (by simp) _)
end Go.Proofs.YthpkngipiapbpaaDoor
