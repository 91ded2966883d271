/- The drawing of chapter 10's lists. -/
import Derived.Test.YtailhdfmfmlniaaWToA
import Derived.Test.YtailhdfmfmlniaaWRowJ
namespace Go.Proofs.Ytailhdfmfmlniaa
open Go.RowKit

theorem InR.wideT {lo hi lo' hi' : Int} {xs : List Int} (h : InR lo hi xs) (hl : lo' ≤ lo) (hh : hi ≤ hi') : InR lo' hi' xs := fun j hj => by have := h j hj; omega
theorem InR.int {lo hi : Int} {xs : List Int} (h : InR lo hi xs) (hl : -9223372036854775808 ≤ lo) (hh : hi ≤ 9223372036854775807) : InI xs := fun j => by
  by_cases hj : j < xs.length
  · have := h j hj; omega
  · rw [List.getD_eq_getElem?_getD, List.getElem?_eq_none (by omega)]; simp
theorem Own.onlyT {e : TypeId} {s : Nat} {w w' : World} {a b c : Nat} {v : Value} {n : Nat} {xs : List Value} (h : Own e s w a b v n xs) (hc : c < a) (o : OnlyAt c w w') : Own e s w' a b v n xs :=
  h.upd o.upd (.inr (by omega))
/-- What stands while a list's length is drawn. -/
structure DwSt (w wr : World) (ad : Option Addr) (cap : Nat) (zs : List Int) (m : Nat) : Prop where
  cur : CurIn wr w.heap.size ad cap zs m
  be : Below w.heap.size w wr
  sz : w.heap.size + 1 ≤ wr.heap.size
theorem DwSt.pick {w wr wx : World} {ad : Option Addr} {cap : Nat} {zs : List Int} {m m' : Nat} (h : DwSt w wr ad cap zs m) (hc : CurIn wx w.heap.size ad cap zs m') (ho : OnlyAt w.heap.size wr wx) : DwSt w wx ad cap zs m' :=
  ⟨hc, h.be.trans (ho.below (Nat.le_refl _) h.be.size), by have := ho.size; have := h.sz; omega⟩
theorem DwSt.more {w wr : World} {ad : Option Addr} {cap : Nat} {zs : List Int} {m m' : Nat} (h : DwSt w wr ad cap zs m) (hm : m ≤ m') : DwSt w wr ad cap zs m' := ⟨h.cur.more hm, h.be, h.sz⟩
set_option maxHeartbeats 16000000 in
set_option maxRecDepth 100000 in
theorem specL10Drawn (ad : Option Addr) (cap : Nat) (zs : List Int) (w : World) (h : ArgB w ad zs) (hl : zs.length ≤ 1048576) :
    Calls Try.prog 72 #[.slice ad zs.length cap] w fun e w' => ∃ v xs, e = .returned (.tuple #[v, .pointer (some ⟨w.heap.size, 0, none⟩)]) ∧ xs.length ≤ 4001 ∧ InR (-67108865) 67108864 xs ∧ OwnI w' (w.heap.size + 1) w'.heap.size v xs ∧ DwSt w w' ad cap zs 30000 := by
  have hD0 : DwSt w (w.alloc (.cells #[.slice ad zs.length cap, .int .i64 0, .int .u64 0] 87)) ad cap zs 0 := ⟨curIn_new _ ad cap zs h, (Below.refl w.heap.size w).alloc (Nat.le_refl _) _, by simp⟩
  replace hD0 := hide hD0
  have hcur0 : Hid (zs ≠ [] → ∀ b off, ad = some ⟨b, off, none⟩ → b < w.heap.size) := hide (fun hne b off e => by
    obtain ⟨b2, off2, e2, hl2, _⟩ := h.2 hne
    rw [e] at e2
    simp only [Option.some.injEq, Addr.mk.injEq, and_true] at e2
    omega)
  clear h
  go_enter Try.func72, Try.ntmps72
  go_wp2_with fail
  generalize w.alloc (.cells #[.slice ad zs.length cap, .int .i64 0, .int .u64 0] 87) = w0 at hD0 ⊢
  refine (curPickBig w.heap.size ad cap zs 0 25 w0 (unhide hD0).cur (by omega) hl (by omega)).mono ?_
  rintro e w1 ⟨pb, rfl, pb0, pb1, hc, ho⟩
  replace pb1 := pb1 (by omega)
  have hD := hide ((unhide hD0).pick hc ho)
  clear hc ho hD0
  go_wp2_with fail
  refine (curPickBig w.heap.size ad cap zs _ 40 w1 (unhide hD).cur (by omega) hl (by omega)).mono ?_
  rintro e w2 ⟨pn, rfl, pn0, pn1, hc, ho⟩
  replace pn1 := pn1 (by omega)
  replace hD := hide ((unhide hD).pick hc ho)
  clear hc ho
  go_wp2_with fail
  refine (curOne w.heap.size ad cap zs _ 3 w2 (unhide hD).cur (by omega) hl (by omega) (by omega)).mono ?_
  rintro e w3 ⟨b1, rfl, hc, ho⟩
  replace hD := hide ((unhide hD).pick hc ho)
  clear hc ho
  go_upto_if 17 with fail
  go_cut [6] (fun s wx => ∃ N : Nat, s = .int .i64 (N : Int) ∧ N ≤ 4001 ∧ Hid (DwSt w wx ad cap zs 100))
  case first =>
    cases b1
    · obtain ⟨N, rfl⟩ := Int.eq_ofNat_of_zero_le pn0
      go_wp2
      go_meet
      exact ⟨N, rfl, by omega, hide ((unhide hD).more (by omega))⟩
    · go_wp2_with fail
      refine (curPickBig w.heap.size ad cap zs _ 8 w3 (unhide hD).cur (by omega) hl (by omega)).mono ?_
      rintro e w4 ⟨pk, rfl, pk0, pk1, hc, ho⟩
      replace pk1 := pk1 (by omega)
      replace hD := hide ((unhide hD).pick hc ho)
      clear hc ho
      obtain ⟨N, rfl⟩ := Int.eq_ofNat_of_zero_le pk0
      go_wp2
      go_meet
      exact ⟨16 * N, by first | rfl | (congr 1; omega), by omega, hide ((unhide hD).more (by omega))⟩
  case rest =>
    clear hD pn0 pn1
    obtain ⟨N, rfl, hN, hD⟩ := hcut
    go_wp2_with fail
    refine (curOne w.heap.size ad cap zs _ 30 wc (unhide hD).cur (by omega) hl (by omega) (by omega)).mono ?_
    rintro e w4 ⟨b2, rfl, hc, ho⟩
    replace hD := hide ((unhide hD).pick hc ho)
    clear hc ho
    go_upto_if 22 with fail
    go_cut [6] (fun s wx => ∃ N : Nat, s = .int .i64 (N : Int) ∧ N ≤ 4001 ∧ Hid (DwSt w wx ad cap zs 200))
    case first =>
      cases b2
      · go_wp2
        go_meet
        exact ⟨N, rfl, hN, hide ((unhide hD).more (by omega))⟩
      · go_wp2_with fail
        refine (curPickBig w.heap.size ad cap zs _ 3 w4 (unhide hD).cur (by omega) hl (by omega)).mono ?_
        rintro e w5 ⟨pk, rfl, pk0, pk1, hc, ho⟩
        replace pk1 := pk1 (by omega)
        replace hD := hide ((unhide hD).pick hc ho)
        clear hc ho
        obtain ⟨M, rfl⟩ := Int.eq_ofNat_of_zero_le pk0
        go_wp2
        go_meet
        exact ⟨3999 + M, by first | rfl | (congr 1; omega), by omega, hide ((unhide hD).more (by omega))⟩
    case rest =>
      clear hD hN
      obtain ⟨N, rfl, hN, hD⟩ := hcut
      obtain ⟨pb, rfl⟩ := Int.eq_ofNat_of_zero_le pb0
      obtain ⟨B, hBB⟩ : ∃ B, 2 + pb = B := ⟨_, rfl⟩
      have eb : (2 : Int) + (pb : Int) = (B : Int) := by omega
      have hB1 : 2 ≤ B := by omega
      have hB2 : B ≤ 26 := by omega
      rw [eb]
      replace eb := hide eb
      replace hBB := hide hBB
      have hT := hide (curTone w.heap.size ad cap zs _ N B wc (unhide hD).cur (by omega) hl hN (by omega) (by omega))
      go_wp2_with fail
      refine (unhide hT).mono ?_
      rintro e w5 ⟨v, xs, rfl, hxl, hR, hO, hc, ho⟩
      have hs := (unhide hD).sz
      replace hD := hide ((unhide hD).pick hc ho)
      replace hO := hide (own_mono (a' := w.heap.size + 1) hO (by omega) (Nat.le_refl _))
      clear hc ho hT hs
      go_wp2_with fail
      refine (curOne w.heap.size ad cap zs _ 12 w5 (unhide hD).cur (by omega) hl (by omega) (by omega)).mono ?_
      rintro e w6 ⟨b3, rfl, hc, ho⟩
      replace hD := hide ((unhide hD).pick hc ho)
      replace hO := hide (own_mono (Own.onlyT (unhide hO) (by omega) ho) (Nat.le_refl _) ho.size)
      clear hc ho
      have hR2 := hide (hR.wideT (lo' := -67108865) (hi' := 67108864) (by omega) (by omega))
      clear hR
      cases b3
      · go_wp2
        go_ret2
        exact ⟨_, xs, rfl, by omega, unhide hR2, unhide hO, (unhide hD).more (by omega)⟩
      by_cases hN0 : N = 0
      · subst hN0
        go_wp2
        go_ret2
        exact ⟨_, xs, rfl, by omega, unhide hR2, unhide hO, (unhide hD).more (by omega)⟩
      obtain ⟨g, capg, rfl, hgw, hgl, hcg, hrow⟩ := rowJ_of_own (unhide hO) (by omega)
      have kN : (0 : Int) < (N : Int) := by omega
      clear hO
      rw [hxl] at hrow hcg ⊢
      replace hrow := hide hrow
      replace hxl := hide hxl
      go_wp2_with fail
      refine (curPickBig w.heap.size ad cap zs _ (N : Int) w6 (unhide hD).cur (by omega) hl (by omega)).mono ?_
      rintro e w7 ⟨px, rfl, px0, px1, hc, ho⟩
      replace px1 := px1 (by omega)
      replace hD := hide ((unhide hD).pick hc ho)
      replace hrow := hide ((unhide hrow).upd ho.upd (.inr (by omega)))
      have hgl7 : g < w7.heap.size := by have := ho.size; omega
      clear hc ho hgl
      obtain ⟨p, rfl⟩ := Int.eq_ofNat_of_zero_le px0
      go_wp2_with fail
      have hH := held_new w7 [.int .i64 67108863, .int .i64 67108864, .int .i64 (-67108864), .int .i64 (-67108865)] 3
      have hb7 := (Below.refl w7.heap.size w7).alloc (Nat.le_refl _) (.cells #[.int .i64 67108863, .int .i64 67108864, .int .i64 (-67108864), .int .i64 (-67108865)] 3)
      have hD8 : DwSt w (w7.alloc (.cells #[.int .i64 67108863, .int .i64 67108864, .int .i64 (-67108864), .int .i64 (-67108865)] 3)) ad cap zs (200 + 20000 + 1 + 3) := ⟨(unhide hD).cur.grown hb7, (unhide hD).be.alloc (unhide hD).be.size _, by have := (unhide hD).sz; simp; omega⟩
      have hr8 := (unhide hrow).keep (Upd.of_below hb7 0 0)
      obtain ⟨h, hh⟩ : ∃ h, w7.heap.size = h := ⟨_, rfl⟩
      have hwh : w.heap.size < h := by have := (unhide hD).sz; omega
      have hgh : g < h := by omega
      rw [hh] at hH ⊢
      change Held (w7.alloc (.cells #[.int .i64 67108863, .int .i64 67108864, .int .i64 (-67108864), .int .i64 (-67108865)] 3)) h [.int .i64 67108863, .int .i64 67108864, .int .i64 (-67108864), .int .i64 (-67108865)] at hH
      clear hD hrow hb7
      generalize w7.alloc (.cells #[.int .i64 67108863, .int .i64 67108864, .int .i64 (-67108864), .int .i64 (-67108865)] 3) = w8 at hH hD8 hr8 ⊢
      refine (curPickBig w.heap.size ad cap zs _ 4 w8 hD8.cur (by omega) hl (by omega)).mono ?_
      rintro e w9 ⟨q, rfl, q0, q1, hc, ho⟩
      replace q1 := q1 (by omega)
      have hD9 := hD8.pick hc ho
      have hr9 := hr8.upd ho.upd (.inr (by omega))
      have hH9 := hH.upd ho.upd (.inr (by omega))
      have hg9 : g < w9.heap.size := hr9.lt
      clear hc ho hD8 hr8 hH
      replace hh := hide hh
      have hpN : p < N := by omega
      obtain ⟨uu, hdst⟩ := hr9.has p hpN
      have hfz := hr9.frozen p
      have hfin : ∀ x : Int, -67108865 ≤ x ∧ x ≤ 67108864 → Hid (∃ ys : List Int, ys.length = N ∧ InR (-67108865) 67108864 ys ∧ OwnI (w9.setCell ⟨g, p, none⟩ (.int .i64 x)) (w.heap.size + 1) (w9.setCell ⟨g, p, none⟩ (.int .i64 x)).heap.size (.slice (some ⟨g, 0, none⟩) N capg) ys ∧ DwSt w (w9.setCell ⟨g, p, none⟩ (.int .i64 x)) ad cap zs 30000) := fun x hx => hide ⟨xs.set p x, by rw [List.length_set]; exact unhide hxl, (unhide hR2).setT hx p, by
        have h1 := hr9.set p (.int .i64 x)
        rw [ints_setT] at h1
        have h2 : OwnI (w9.setCell ⟨g, p, none⟩ (.int .i64 x)) g (g + 1) (.slice (some ⟨g, 0, none⟩) N capg) (xs.set p x) := by have := h1.own; unfold OwnI; rw [List.length_set, unhide hxl]; exact this
        exact own_mono h2 hgw (by simp; omega), ⟨(hD9.cur.more (by omega)).setFar (by omega) (fun b' off e hne => by
          have := unhide hcur0 hne b' off e
          omega), hD9.be.setCell (p := ⟨g, p, none⟩) (by simp; omega) _, by have := hD9.sz; simp; omega⟩⟩
      have kp : (0 : Int) ≤ (p : Int) := by omega
      rcases (show q = 0 ∨ q = 1 ∨ q = 2 ∨ q = 3 by omega) with e | e | e | e
      · subst e
        have hc0 : w9.cell? ⟨h, 0, none⟩ = some (.int .i64 67108863) := hH9.2 0 _ rfl
        have hf := hfin 67108863 (by omega)
        clear hfin hr9 hD9 hH9
        go_wp2
        go_ret2
        obtain ⟨ys, f1, f2, f3, f4⟩ := unhide hf
        exact ⟨_, ys, rfl, by omega, f2, f3, f4⟩
      · subst e
        have hc0 : w9.cell? ⟨h, 1, none⟩ = some (.int .i64 67108864) := hH9.2 1 _ rfl
        have hf := hfin 67108864 (by omega)
        clear hfin hr9 hD9 hH9
        go_wp2
        go_ret2
        obtain ⟨ys, f1, f2, f3, f4⟩ := unhide hf
        exact ⟨_, ys, rfl, by omega, f2, f3, f4⟩
      · subst e
        have hc0 : w9.cell? ⟨h, 2, none⟩ = some (.int .i64 (-67108864)) := hH9.2 2 _ rfl
        have hf := hfin (-67108864) (by omega)
        clear hfin hr9 hD9 hH9
        go_wp2
        go_ret2
        obtain ⟨ys, f1, f2, f3, f4⟩ := unhide hf
        exact ⟨_, ys, rfl, by omega, f2, f3, f4⟩
      · subst e
        have hc0 : w9.cell? ⟨h, 3, none⟩ = some (.int .i64 (-67108865)) := hH9.2 3 _ rfl
        have hf := hfin (-67108865) (by omega)
        clear hfin hr9 hD9 hH9
        go_wp2
        go_ret2
        obtain ⟨ys, f1, f2, f3, f4⟩ := unhide hf
        exact ⟨_, ys, rfl, by omega, f2, f3, f4⟩
end Go.Proofs.Ytailhdfmfmlniaa
