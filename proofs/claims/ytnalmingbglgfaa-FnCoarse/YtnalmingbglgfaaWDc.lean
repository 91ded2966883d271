/- The drawing of blocks and scales. -/
import Derived.Test.YtnalmingbglgfaaWDb
import Derived.Test.YtnalmingbglgfaaW8C
namespace Go.Proofs.Ytnalmingbglgfaa
open Go.RowKit

set_option maxHeartbeats 16000000 in
set_option maxRecDepth 100000 in
theorem specL8Scaled (ad : Option Addr) (cap : Nat) (zs : List Int) (w : World) (h : ArgB w ad zs) (hl : zs.length ≤ 1048576) :
    Calls Try.prog 62 #[.slice ad zs.length cap] w fun e w' => ∃ v xs u ts, e = .returned (.tuple #[v, u]) ∧ (xs.length = 64 ∨ xs.length = 63) ∧ InR (-32769) 32768 xs ∧ RdI w' v xs ∧ (ts.length = 64 ∨ ts.length = 63) ∧ InR 0 256 ts ∧ RdI w' u ts ∧ Below w.heap.size w w' := by
  have hB0 := (Below.refl w.heap.size w).alloc (Nat.le_refl _) (.cells #[.slice ad zs.length cap, .int .i64 0, .int .u64 0] 60)
  have hc0 := hide (curIn_new _ ad cap zs h)
  have hs0 : (w.alloc (.cells #[.slice ad zs.length cap, .int .i64 0, .int .u64 0] 60)).heap.size = w.heap.size + 1 := by simp
  have hDr := hide (fun (X : World) (hX : Below w.heap.size w X) => specL8Drawn ad cap zs X (h.below hX) hl)
  replace hB0 := hide hB0
  clear h
  go_enter Try.func62, Try.ntmps62
  go_wp2_with fail
  generalize w.alloc (.cells #[.slice ad zs.length cap, .int .i64 0, .int .u64 0] 60) = w0 at hc0 hB0 hs0 ⊢
  refine (curPickAny w.heap.size ad cap zs 0 100 w0 (unhide hc0) (by omega) hl (by omega)).mono ?_
  rintro e wa ⟨q, rfl, q0, q1, hca, ho⟩
  replace q1 := q1 (by omega)
  replace hB0 := hide ((unhide hB0).trans (ho.below (Nat.le_refl _) (by omega)))
  have hsa : w.heap.size + 1 ≤ wa.heap.size := by have := ho.size; omega
  replace hca := hide hca
  clear ho hc0 hs0
  go_wp2_with fail
  refine (curOne w.heap.size ad cap zs _ 2 wa (unhide hca) (by omega) hl (by omega) (by omega)).mono ?_
  rintro e wb ⟨b, rfl, hcb, ho⟩
  replace hB0 := hide ((unhide hB0).trans (ho.below (Nat.le_refl _) (by omega)))
  have hsb : w.heap.size + 1 ≤ wb.heap.size := by have := ho.size; omega
  replace hcb := hide hcb
  clear ho hca hsa
  go_wp2_with fail
  refine (specScales (1 + q) b wb (by omega) (by omega)).mono ?_
  rintro e w1 ⟨v, rfl, hO, hu⟩
  have hxk := scalesF_ok (1 + q) b (by omega)
  generalize scalesF (1 + q) b = xs at hO hxk
  obtain ⟨hxl, hR⟩ := hxk
  replace hB0 := hide (below_upd (unhide hB0) hu (by omega) (.inr (Nat.zero_le _)))
  have hs1 : w.heap.size + 1 ≤ w1.heap.size := by have := hu.size; omega
  have hc1 := hide ((unhide hcb).grown hu.none)
  obtain ⟨g, cp, rfl, ⟨g1, g2⟩, cp1, cp2⟩ := own_atC hO (by omega)
  unfold maxLen at cp2
  replace hO := hide (own_mono hO hsb (Nat.le_refl _))
  replace hR := hide hR
  clear hcb hu
  go_wp2_with fail
  refine (curPickAny w.heap.size ad cap zs _ 14 w1 (unhide hc1) (by omega) hl (by omega)).mono ?_
  rintro e w2 ⟨pk, rfl, pk0, pk1, hc2, ho⟩
  replace hB0 := hide ((unhide hB0).trans (ho.below (Nat.le_refl _) (by omega)))
  have hs2 : w1.heap.size ≤ w2.heap.size := ho.size
  replace hO := hide ((unhide hO).onlyD (by omega) ho)
  replace hc2 := hide hc2
  clear ho hc1
  rw [hxl] at cp1
  by_cases p1 : pk = 1
  · subst p1
    have hD := hide (rd_drop1 (unhide hO) hxl)
    clear hO
    go_wp2_with fail
    refine (unhide hDr w2 (unhide hB0)).mono ?_
    rintro e w3 ⟨v3, xs3, rfl, hl3, hR3, hr3, hb3⟩
    obtain ⟨ad3, cap3, rfl, hA3⟩ := hr3
    have hr3 := hide (show RdI w3 (.slice ad3 xs3.length cap3) xs3 from ⟨ad3, cap3, rfl, hA3⟩)
    replace hD := hide ((unhide hD).below hb3)
    replace hB0 := hide ((unhide hB0).trans (hb3.mono (unhide hB0).size))
    replace hl3 := hide hl3
    replace hR3 := hide hR3
    clear hA3 hb3
    go_wp2
    go_ret2
    exact ⟨_, xs3, _, xs.drop 1, rfl, unhide hl3, unhide hR3, unhide hr3, .inr (by rw [List.length_drop]; omega), ((unhide hR).drop 1).wide (by omega) (by omega), unhide hD, unhide hB0⟩
  · have q01 : (pk == 1) = false := beq_eq_false_iff_ne.2 p1
    by_cases p0 : pk = 0
    · subst p0
      go_wp2_with fail
      refine (curPickAny w.heap.size ad cap zs _ 64 w2 (unhide hc2) (by omega) hl (by omega)).mono ?_
      rintro e w3 ⟨P, rfl, P0, P1, hc3, ho⟩
      replace P1 := P1 (by omega)
      obtain ⟨K, rfl⟩ := Int.eq_ofNat_of_zero_le P0
      replace hB0 := hide ((unhide hB0).trans (ho.below (Nat.le_refl _) (by omega)))
      have hs3 : w2.heap.size ≤ w3.heap.size := ho.size
      replace hO := hide ((unhide hO).onlyD (by omega) ho)
      replace hc3 := hide hc3
      clear ho hc2
      have hu := Upd.of_below ((Below.refl w3.heap.size w3).alloc (Nat.le_refl _) (.cells #[.int .i64 0, .int .i64 256] 3)) 0 0
      have hcl := hide (heldF_new w3 [.int .i64 0, .int .i64 256] 3)
      have hc4 := hide ((unhide hc3).grown ((Below.refl w3.heap.size w3).alloc (Nat.le_refl _) (.cells #[.int .i64 0, .int .i64 256] 3)))
      replace hB0 := hide (below_upd (unhide hB0) hu (Nat.le_refl _) (.inr (Nat.le_refl _)))
      replace hO := hide ((unhide hO).keep hu)
      clear hc3 hu
      go_wp2_with fail
      refine (curPickAny w.heap.size ad cap zs _ 2 _ (unhide hc4) (by omega) hl (by omega)).mono ?_
      rintro e w4 ⟨y, rfl, y0, y1, hc5, ho⟩
      replace y1 := y1 (by omega)
      replace hB0 := hide ((unhide hB0).trans (ho.below (Nat.le_refl _) (by simp; omega)))
      replace hcl := hide ((unhide hcl).only ho (by omega))
      replace hO := hide ((unhide hO).onlyD (by omega) ho)
      have hK : K < 64 := by omega
      have hdst : ∃ u, w4.cell? ⟨g, K, none⟩ = some u := by
        rw [(unhide hO).1.cellAt K (by omega)]; exact ⟨_, List.getElem?_eq_getElem (by have := (unhide hO).1.1; omega)⟩
      obtain ⟨uu, hdst⟩ := hdst
      have hfz := (unhide hO).1.frozenAt K
      have hfin : ∀ x : Int, (0 ≤ x ∧ x ≤ 256) → Hid (InR 0 256 (xs.set K x) ∧ RdI (w4.setCell ⟨g, K, none⟩ (.int .i64 x)) (.slice (some ⟨g, 0, none⟩) 64 cp) (xs.set K x) ∧ Below w.heap.size w (w4.setCell ⟨g, K, none⟩ (.int .i64 x))) := fun x hx => by
        have h1 := ((unhide hO).1.stored K (.int .i64 x)).1
        have hlen : (xs.set K x).length = xs.length := List.length_set
        have e2 : (ints xs).set K (.int .i64 x) = ints (xs.set K x) := by unfold ints; rw [List.map_set]
        rw [e2] at h1
        have h2 : OwnI (w4.setCell ⟨g, K, none⟩ (.int .i64 x)) (w.heap.size + 1) (w4.setCell ⟨g, K, none⟩ (.int .i64 x)).heap.size (.slice (some ⟨g, 0, none⟩) 64 cp) (xs.set K x) := by
          unfold OwnI
          rw [hlen]
          rw [hxl] at h1 ⊢
          exact Own.of h1
        exact hide ⟨((unhide hR).wide (by omega) (by omega)).set hx K, rd_of_own h2, (unhide hB0).setCell (p := ⟨g, K, none⟩) (show w.heap.size ≤ g by omega) _⟩
      clear hO hc4 ho hB0
      rcases (show y = 0 ∨ y = 1 by omega) with e | e
      · subst e
        have k0 := (unhide hcl).1.2 0 _ rfl
        have hf := hfin 0 (by omega)
        clear hfin
        go_wp2_with fail
        obtain ⟨hR9, hD, hB0⟩ := unhide hf
        replace hR9 := hide hR9
        replace hD := hide hD
        replace hB0 := hide hB0
        clear hf
        generalize w4.setCell ⟨g, K, none⟩ (.int .i64 0) = w5 at hD hB0 ⊢
        refine (unhide hDr w5 (unhide hB0)).mono ?_
        rintro e w6 ⟨v3, xs3, rfl, hl3, hR3, hr3, hb3⟩
        obtain ⟨ad3, cap3, rfl, hA3⟩ := hr3
        have hr3 := hide (show RdI w6 (.slice ad3 xs3.length cap3) xs3 from ⟨ad3, cap3, rfl, hA3⟩)
        replace hD := hide ((unhide hD).below hb3)
        replace hB0 := hide ((unhide hB0).trans (hb3.mono (unhide hB0).size))
        replace hl3 := hide hl3
        replace hR3 := hide hR3
        clear hA3 hb3
        go_wp2
        go_ret2
        exact ⟨_, xs3, _, xs.set K 0, rfl, unhide hl3, unhide hR3, unhide hr3, .inl (by rw [List.length_set]; exact hxl), unhide hR9, unhide hD, unhide hB0⟩
      · subst e
        have k0 := (unhide hcl).1.2 1 _ rfl
        have hf := hfin 256 (by omega)
        clear hfin
        go_wp2_with fail
        obtain ⟨hR9, hD, hB0⟩ := unhide hf
        replace hR9 := hide hR9
        replace hD := hide hD
        replace hB0 := hide hB0
        clear hf
        generalize w4.setCell ⟨g, K, none⟩ (.int .i64 256) = w5 at hD hB0 ⊢
        refine (unhide hDr w5 (unhide hB0)).mono ?_
        rintro e w6 ⟨v3, xs3, rfl, hl3, hR3, hr3, hb3⟩
        obtain ⟨ad3, cap3, rfl, hA3⟩ := hr3
        have hr3 := hide (show RdI w6 (.slice ad3 xs3.length cap3) xs3 from ⟨ad3, cap3, rfl, hA3⟩)
        replace hD := hide ((unhide hD).below hb3)
        replace hB0 := hide ((unhide hB0).trans (hb3.mono (unhide hB0).size))
        replace hl3 := hide hl3
        replace hR3 := hide hR3
        clear hA3 hb3
        go_wp2
        go_ret2
        exact ⟨_, xs3, _, xs.set K 256, rfl, unhide hl3, unhide hR3, unhide hr3, .inl (by rw [List.length_set]; exact hxl), unhide hR9, unhide hD, unhide hB0⟩
    · have q0 : (pk == 0) = false := beq_eq_false_iff_ne.2 p0
      have hD := hide (rd_of_own (unhide hO))
      rw [hxl] at hD
      clear hO
      go_wp2_with fail
      refine (unhide hDr w2 (unhide hB0)).mono ?_
      rintro e w3 ⟨v3, xs3, rfl, hl3, hR3, hr3, hb3⟩
      obtain ⟨ad3, cap3, rfl, hA3⟩ := hr3
      have hr3 := hide (show RdI w3 (.slice ad3 xs3.length cap3) xs3 from ⟨ad3, cap3, rfl, hA3⟩)
      replace hD := hide ((unhide hD).below hb3)
      replace hB0 := hide ((unhide hB0).trans (hb3.mono (unhide hB0).size))
      replace hl3 := hide hl3
      replace hR3 := hide hR3
      clear hA3 hb3
      go_wp2
      go_ret2
      exact ⟨_, xs3, _, xs, rfl, unhide hl3, unhide hR3, unhide hr3, .inl hxl, (unhide hR).wide (by omega) (by omega), unhide hD, unhide hB0⟩
set_option maxHeartbeats 4000000 in
theorem specDrawCoarse (ad : Option Addr) (cap : Nat) (zs : List Int) (w : World) (h : ArgB w ad zs) (hl : zs.length ≤ 1048576) :
    Calls Try.prog 22 #[.slice ad zs.length cap] w fun e w' => ∃ v xs u ts, e = .returned (.tuple #[v, u]) ∧ (xs.length = 64 ∨ xs.length = 63) ∧ InR (-32769) 32768 xs ∧ RdI w' v xs ∧ (ts.length = 64 ∨ ts.length = 63) ∧ InR 0 256 ts ∧ RdI w' u ts ∧ Below w.heap.size w w' := by
  have hS := hide (specL8Scaled ad cap zs w h hl)
  clear h
  go_enter Try.func22, Try.ntmps22
  go_wp2_with fail
  refine (unhide hS).mono ?_
  rintro e w1 ⟨v, xs, u, ts, rfl, h1, h2, h3, h4, h5, h6, h7⟩
  obtain ⟨ad3, cap3, rfl, hA3⟩ := h3
  obtain ⟨ad4, cap4, rfl, hA4⟩ := h6
  have hr3 := hide (show RdI w1 (.slice ad3 xs.length cap3) xs from ⟨ad3, cap3, rfl, hA3⟩)
  have hr4 := hide (show RdI w1 (.slice ad4 ts.length cap4) ts from ⟨ad4, cap4, rfl, hA4⟩)
  replace h1 := hide h1
  replace h2 := hide h2
  replace h4 := hide h4
  replace h5 := hide h5
  replace h7 := hide h7
  clear hS hA3 hA4
  go_wp2
  go_ret2
  exact ⟨_, xs, _, ts, rfl, unhide h1, unhide h2, unhide hr3, unhide h4, unhide h5, unhide hr4, unhide h7⟩
end Go.Proofs.Ytnalmingbglgfaa
