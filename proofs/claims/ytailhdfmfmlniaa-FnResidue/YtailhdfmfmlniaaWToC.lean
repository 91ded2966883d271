/- DrawResidue and DrawTurn. -/
import Derived.Test.YtailhdfmfmlniaaWToB
namespace Go.Proofs.Ytailhdfmfmlniaa
open Go.RowKit

set_option maxHeartbeats 8000000 in
set_option maxRecDepth 100000 in
theorem specDrawResidue (ad : Option Addr) (cap : Nat) (zs : List Int) (w : World) (h : ArgB w ad zs) (hl : zs.length ≤ 1048576) :
    Calls Try.prog 18 #[.slice ad zs.length cap] w fun e w' => ∃ o v xs, e = .returned (.tuple #[.int .i64 o, v]) ∧ xs.length ≤ 4001 ∧ InR (-67108865) 67108864 xs ∧ OwnI w' w.heap.size w'.heap.size v xs ∧ Below w.heap.size w w' := by
  have hd := hide (specL10Drawn ad cap zs w h hl)
  clear h
  go_enter Try.func18, Try.ntmps18
  go_wp2_with fail
  refine (unhide hd).mono ?_
  rintro e w1 ⟨v, xs, rfl, hxl, hR, hO, hD⟩
  replace hR := hide hR
  replace hO := hide hO
  replace hD := hide hD
  go_wp2_with fail
  refine (curPickBig w.heap.size ad cap zs _ 5 w1 (unhide hD).cur (by omega) hl (by omega)).mono ?_
  rintro e w2 ⟨po, rfl, po0, po1, hc, ho⟩
  replace hD := hide ((unhide hD).pick hc ho)
  replace hO := hide (own_mono (Own.onlyT (unhide hO) (by omega) ho) (Nat.le_refl _) ho.size)
  clear hc ho hd
  go_wp2_with fail
  refine (curOne w.heap.size ad cap zs _ 12 w2 (unhide hD).cur (by omega) hl (by omega) (by omega)).mono ?_
  rintro e w3 ⟨b, rfl, hc, ho⟩
  replace hD := hide ((unhide hD).pick hc ho)
  replace hO := hide (own_mono (Own.onlyT (unhide hO) (by omega) ho) (Nat.le_refl _) ho.size)
  clear hc ho
  cases b
  · go_wp2
    go_ret2
    exact ⟨_, _, xs, rfl, hxl, unhide hR, own_mono (unhide hO) (by omega) (Nat.le_refl _), (unhide hD).be⟩
  · go_wp2_with fail
    refine (curPickBig w.heap.size ad cap zs _ 8 w3 (unhide hD).cur (by omega) hl (by omega)).mono ?_
    rintro e w4 ⟨pk, rfl, pk0, pk1, hc, ho⟩
    replace pk1 := pk1 (by omega)
    replace hD := hide ((unhide hD).pick hc ho)
    replace hO := hide (own_mono (Own.onlyT (unhide hO) (by omega) ho) (Nat.le_refl _) ho.size)
    clear hc ho
    go_wp2
    go_ret2
    exact ⟨_, _, xs, rfl, hxl, unhide hR, own_mono (unhide hO) (by omega) (Nat.le_refl _), (unhide hD).be⟩
set_option maxHeartbeats 16000000 in
set_option maxRecDepth 100000 in
theorem specDrawTurn (ad : Option Addr) (cap : Nat) (zs : List Int) (w : World) (h : ArgB w ad zs) (hl : zs.length ≤ 1048576) :
    Calls Try.prog 22 #[.slice ad zs.length cap] w fun e w' => ∃ way va xs vb ys, e = .returned (.tuple #[.int .i64 way, va, vb]) ∧ (-10 ≤ way ∧ way ≤ 10) ∧ xs.length ≤ 100 ∧ ys.length ≤ 100 ∧ InR (-67108865) 67108864 xs ∧ InR (-67108865) 67108864 ys ∧ RdI w' va xs ∧ RdI w' vb ys ∧ Below w.heap.size w w' := by
  have hD : DwSt w (w.alloc (.cells #[.slice ad zs.length cap, .int .i64 0, .int .u64 0] 87)) ad cap zs 0 := ⟨curIn_new _ ad cap zs h, (Below.refl w.heap.size w).alloc (Nat.le_refl _) _, by simp⟩
  replace hD := hide hD
  clear h
  go_enter Try.func22, Try.ntmps22
  go_wp2_with fail
  generalize w.alloc (.cells #[.slice ad zs.length cap, .int .i64 0, .int .u64 0] 87) = w0 at hD ⊢
  refine (curPickBig w.heap.size ad cap zs 0 30 w0 (unhide hD).cur (by omega) hl (by omega)).mono ?_
  rintro e w1 ⟨pn, rfl, pn0, pn1, hc, ho⟩
  replace pn1 := pn1 (by omega)
  replace hD := hide ((unhide hD).pick hc ho)
  clear hc ho
  go_wp2_with fail
  refine (curPickBig w.heap.size ad cap zs _ 25 w1 (unhide hD).cur (by omega) hl (by omega)).mono ?_
  rintro e w2 ⟨pb, rfl, pb0, pb1, hc, ho⟩
  replace pb1 := pb1 (by omega)
  replace hD := hide ((unhide hD).pick hc ho)
  clear hc ho
  obtain ⟨N, rfl⟩ := Int.eq_ofNat_of_zero_le pn0
  obtain ⟨pb, rfl⟩ := Int.eq_ofNat_of_zero_le pb0
  obtain ⟨B, hBB⟩ : ∃ B, 2 + pb = B := ⟨_, rfl⟩
  have eb : (2 : Int) + (pb : Int) = (B : Int) := by omega
  have hB1 : 2 ≤ B := by omega
  have hB2 : B ≤ 26 := by omega
  have hN : N ≤ 29 := by omega
  replace hBB := hide hBB
  have hT := hide (fun (m : Nat) (W : World) (hc : CurIn W w.heap.size ad cap zs m) (hm : m ≤ 1099510000000) => curTone w.heap.size ad cap zs m N B W hc hm hl (by omega) hB1 hB2)
  go_wp2_with fail
  replace eb := hide eb
  refine (unhide hT _ w2 (unhide hD).cur (by omega)).mono ?_
  rintro e w3 ⟨va, xs, rfl, hxl, hR, hO, hc, ho⟩
  have hs := (unhide hD).sz
  replace hD := hide ((unhide hD).pick hc ho)
  replace hO := hide (own_mono (a' := w.heap.size + 1) hO (by omega) (Nat.le_refl _))
  have hRx := hide (hR.wideT (lo' := -67108865) (hi' := 67108864) (by omega) (by omega))
  clear hc ho hs hR
  go_wp2_with fail
  refine (unhide hT _ w3 (unhide hD).cur (by omega)).mono ?_
  rintro e w4 ⟨vb, ys, rfl, hyl, hR, hO2, hc, ho⟩
  have hs := (unhide hD).sz
  replace hD := hide ((unhide hD).pick hc ho)
  have hw34 : Hid (w3.heap.size ≤ w4.heap.size) := hide ho.size
  replace hO := hide (Own.onlyT (unhide hO) (by omega) ho)
  replace hO2 := hide hO2
  have hRy := hide (hR.wideT (lo' := -67108865) (hi' := 67108864) (by omega) (by omega))
  have hs3 : Hid (w.heap.size + 1 ≤ w3.heap.size) := hide hs
  clear hc ho hR hT hs
  go_wp2_with fail
  refine (curPickBig w.heap.size ad cap zs _ 3 w4 (unhide hD).cur (by omega) hl (by omega)).mono ?_
  rintro e w5 ⟨pw, rfl, pw0, pw1, hc, ho⟩
  have hw45 : Hid (w4.heap.size ≤ w5.heap.size) := hide ho.size
  replace pw1 := pw1 (by omega)
  replace hD := hide ((unhide hD).pick hc ho)
  replace hO := hide (Own.onlyT (unhide hO) (by omega) ho)
  replace hO2 := hide (own_mono (Own.onlyT (unhide hO2) (by have := unhide hs3; omega) ho) (Nat.le_refl _) ho.size)
  clear hc ho
  go_wp2_with fail
  refine (curPickBig w.heap.size ad cap zs _ 12 w5 (unhide hD).cur (by omega) hl (by omega)).mono ?_
  rintro e w6 ⟨pk, rfl, pk0, pk1, hc, ho⟩
  have hw36 : Hid (w3.heap.size ≤ w6.heap.size) := hide (by have := ho.size; have := unhide hw45; have := unhide hw34; omega)
  replace pk1 := pk1 (by omega)
  replace hD := hide ((unhide hD).pick hc ho)
  replace hO := hide (Own.onlyT (unhide hO) (by omega) ho)
  replace hO2 := hide (own_mono (Own.onlyT (unhide hO2) (by have := unhide hs3; omega) ho) (Nat.le_refl _) ho.size)
  clear hc ho
  have hrx : Hid (∀ W, OnlyAt w.heap.size w6 W → RdI W va xs) := hide (fun W o => (rdX_of_own (Own.onlyT (unhide hO) (by omega) o)).rd)
  have hry : Hid (∀ W, OnlyAt w.heap.size w6 W → RdI W vb ys) := hide (fun W o => (rdX_of_own (Own.onlyT (unhide hO2) (by have := unhide hs3; omega) o)).rd)
  by_cases k0 : pk = 0
  · subst k0
    go_wp2_with fail
    refine (curPickBig w.heap.size ad cap zs _ 5 w6 (unhide hD).cur (by omega) hl (by omega)).mono ?_
    rintro e w7 ⟨p5, rfl, p50, p51, hc, ho⟩
    replace p51 := p51 (by omega)
    have hD7 := hide ((unhide hD).pick hc ho)
    have h1 := hide (unhide hrx w7 ho)
    have h2 := hide (unhide hry w7 ho)
    clear hc ho hrx hry hO hO2 hD
    go_wp2
    go_ret3
    exact ⟨_, va, xs, vb, ys, rfl, by omega, by omega, by omega, unhide hRx, unhide hRy, unhide h1, unhide h2, (unhide hD7).be⟩
  by_cases k1 : pk = 1
  · subst k1
    clear k0 hry hrx
    have hb6 := (Below.refl w6.heap.size w6).alloc (Nat.le_refl _) (.cells #[.int .i64 1] 3)
    have hO' := hide ((unhide hO).keep (Upd.of_below hb6 0 0))
    have ho2a : Hid ((w6.alloc (.cells #[.int .i64 1] 3)).ownsRow w3.heap.size 3 1 vb ys.length (ints ys)) := hide ((unhide hO2).1.alloc _)
    have hrj : Hid (RdJ (w6.alloc (.cells #[.int .i64 1] 3)) (.slice (some ⟨w6.heap.size, 0, none⟩) 1 1) [1]) := hide (.inr ⟨w6.heap.size, 0, 1, rfl, by simp, fun j hj => by
      have hj0 : j = 0 := by simp at hj; exact hj
      subst hj0
      rw [World.cell?_alloc_at _ _ _ _ rfl]; rfl⟩)
    have hbe := hide ((unhide hD).be.alloc (unhide hD).be.size (.cells #[.int .i64 1] 3))
    have hsz7 : Hid (w3.heap.size ≤ (w6.alloc (.cells #[.int .i64 1] 3)).heap.size) := hide (by have := unhide hw36; simp; omega)
    clear hD hO hO2 hb6
    go_wp2_with (at_builtin; go_loud (refine wpList_appI rfl (.tmp 38) (.tmp 39) rfl w3.heap.size _ ys rfl (unhide ho2a) _ [1] rfl (unhide hrj) (by simp; omega) (unhide hsz7) ?_))
    intro v2 w7 ho7 hg7 _
    have hu7 := upd_of_grownI hg7 (unhide ho2a)
    have h1 := hide ((rdX_of_own ((unhide hO').upd hu7 (.inl (Nat.le_refl _)))).rd)
    have h2 : Hid (RdI w7 v2 (ys ++ [1])) := hide ((rdX_of_own (show OwnI w7 w3.heap.size w7.heap.size v2 (ys ++ [1]) from by
      have hl : (ys ++ [1]).length = N + 1 := by simp; omega
      unfold OwnI; rw [hl]; exact Own.of ho7)).rd)
    have hbe7 := hide (below_upd (unhide hbe) hu7 (Nat.le_refl _) (.inl (by have := unhide hs3; omega)))
    have hRy2 := hide (inR_snoc (unhide hRy) (v := 1) (by omega))
    clear hO' ho2a hrj hbe hsz7 ho7 hg7 hu7
    go_wp2
    go_ret3
    exact ⟨_, va, xs, v2, ys ++ [1], rfl, by omega, by omega, by simp; omega, unhide hRx, unhide hRy2, unhide h1, unhide h2, unhide hbe7⟩
  by_cases k2 : pk = 2
  · subst k2
    clear k0 k1
    by_cases hN0 : N = 0
    · subst hN0
      have h1 := hide (unhide hrx w6 (OnlyAt.refl _ _))
      have h2 := hide (unhide hry w6 (OnlyAt.refl _ _))
      clear hrx hry hO hO2
      go_wp2
      go_ret3
      exact ⟨_, va, xs, vb, ys, rfl, by omega, by omega, by omega, unhide hRx, unhide hRy, unhide h1, unhide h2, (unhide hD).be⟩
    obtain ⟨g, capg, rfl, hgw, hgl, hcg, hrow⟩ := rowJ_of_own (unhide hO) (by omega)
    have hO2k := hide ((unhide hO2).upd ((Upd.refl g (g + 1) w6).setCell ⟨Nat.le_refl _, Nat.lt_succ_self _⟩ 0 (.int .i64 67108864)) (.inr (by omega)))
    have h2 := hide (rdX_of_own (unhide hO2k)).rd
    have hrs := hrow.set 0 (.int .i64 67108864)
    rw [ints_setT] at hrs
    have h1 : Hid (RdI (w6.setCell ⟨g, 0, none⟩ (.int .i64 67108864)) (.slice (some ⟨g, 0, none⟩) xs.length capg) (xs.set 0 67108864)) := hide (by
      have h3 : OwnI (w6.setCell ⟨g, 0, none⟩ (.int .i64 67108864)) g (g + 1) (.slice (some ⟨g, 0, none⟩) xs.length capg) (xs.set 0 67108864) := by have := hrs.own; unfold OwnI; rw [List.length_set]; exact this
      exact (rdX_of_own h3).rd)
    have hRx2 := hide ((unhide hRx).setT (x := 67108864) (by omega) 0)
    have hbe := hide ((unhide hD).be.setCell (p := ⟨g, 0, none⟩) (show w.heap.size ≤ g by omega) (.int .i64 67108864))
    obtain ⟨uu, hdst⟩ := hrow.has 0 (by omega)
    have hfz := hrow.frozen 0
    have kN : (0 : Int) < (N : Int) := by omega
    rw [hxl] at hrow h1 ⊢
    have hxs : Hid ((xs.set 0 67108864).length ≤ 100) := hide (by rw [List.length_set]; omega)
    replace hxl := hide hxl
    clear hrx hry hO hO2 hrow hrs hO2k hD
    go_wp2
    go_ret3
    exact ⟨_, _, xs.set 0 67108864, vb, ys, rfl, by omega, unhide hxs, by omega, unhide hRx2, unhide hRy, unhide h1, unhide h2, unhide hbe⟩
  have q0 : (pk == 0) = false := by rw [beq_eq_false_iff_ne]; exact k0
  have q1 : (pk == 1) = false := by rw [beq_eq_false_iff_ne]; exact k1
  have q2 : (pk == 2) = false := by rw [beq_eq_false_iff_ne]; exact k2
  have h1 := hide (unhide hrx w6 (OnlyAt.refl _ _))
  have h2 := hide (unhide hry w6 (OnlyAt.refl _ _))
  clear hrx hry hO hO2
  go_wp2
  go_ret3
  exact ⟨_, va, xs, vb, ys, rfl, by omega, by omega, by omega, unhide hRx, unhide hRy, unhide h1, unhide h2, (unhide hD).be⟩
end Go.Proofs.Ytailhdfmfmlniaa
