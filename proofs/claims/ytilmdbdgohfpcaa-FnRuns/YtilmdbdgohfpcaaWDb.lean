/- The drawing of blocks, good or not. -/
import Derived.Test.YtilmdbdgohfpcaaWBk
namespace Go.Proofs.Ytilmdbdgohfpcaa
open Go.RowKit

theorem own_atC {e : TypeId} {s : Nat} {w : World} {a b : Nat} {v : Value} {n : Nat} {xs : List Value} (h : Own e s w a b v n xs) (hn : 0 < n) : ∃ g cp, v = .slice (some ⟨g, 0, none⟩) n cp ∧ (a ≤ g ∧ g < b) ∧ n ≤ cp ∧ cp ≤ maxLen := by
  rcases h.1.2 with ⟨_, h0⟩ | ⟨g, cp, cur, e, h1, h2, h3, h4, _⟩
  · omega
  · exact ⟨g, cp, e, ⟨h1, h.2 g (by rw [e]; rfl)⟩, h3, h4⟩
theorem Own.onlyD {e : TypeId} {s : Nat} {w w' : World} {a b c : Nat} {v : Value} {n : Nat} {xs : List Value} (h : Own e s w a b v n xs) (hc : c < a) (o : OnlyAt c w w') : Own e s w' a b v n xs := by
  refine ⟨⟨h.1.1, ?_⟩, h.2⟩
  rcases h.1.2 with hn | ⟨g, cap, cur, rfl, h1, h2, h3⟩
  · exact .inl hn
  · exact .inr ⟨g, cap, cur, rfl, h1, by rw [o.block g (h.1.lt g rfl).2 (by omega)]; exact h2, h3⟩
theorem InR.wide {lo hi lo' hi' : Int} {xs : List Int} (h : InR lo hi xs) (hl : lo' ≤ lo) (hh : hi ≤ hi') : InR lo' hi' xs := fun j hj => by have := h j hj; omega
theorem InR.drop {lo hi : Int} {xs : List Int} (h : InR lo hi xs) (k : Nat) : InR lo hi (xs.drop k) := by
  intro j hj
  rw [List.length_drop] at hj
  have e : (xs.drop k).getD j 0 = xs.getD (k + j) 0 := by
    rw [List.getD_eq_getElem?_getD, List.getElem?_drop, ← List.getD_eq_getElem?_getD]
  rw [e]; exact h _ (by omega)
theorem rd_drop1 {w : World} {g cp : Nat} {xs : List Int} {a b : Nat} (h : OwnI w a b (.slice (some ⟨g, 0, none⟩) xs.length cp) xs) (hn : xs.length = 64) : RdI w (.slice (some ⟨g, 1, none⟩) 63 (cp - 1)) (xs.drop 1) := by
  have hl : (xs.drop 1).length = 63 := by rw [List.length_drop]; omega
  refine ⟨some ⟨g, 1, none⟩, cp - 1, by rw [hl], fun _ => ⟨g, 1, rfl, (h.1.lt g rfl).2, fun j hj => ?_⟩⟩
  rw [hl] at hj
  rw [h.1.cellAt (1 + j) (by omega)]
  have e : (xs.drop 1).getD j 0 = xs.getD (1 + j) 0 := by
    rw [List.getD_eq_getElem?_getD, List.getElem?_drop, ← List.getD_eq_getElem?_getD]
  rw [e]
  exact getD_map_int xs .i64 (1 + j) (by omega)
theorem rd_of_own {w : World} {a b : Nat} {v : Value} {xs : List Int} (h : OwnI w a b v xs) : RdI w v xs := by
  obtain ⟨ad, cap, e, hA⟩ := readK_of_own h
  exact ⟨ad, cap, e, hA⟩

set_option maxHeartbeats 16000000 in
set_option maxRecDepth 100000 in
theorem specL8Drawn (ad : Option Addr) (cap : Nat) (zs : List Int) (w : World) (h : ArgB w ad zs) (hl : zs.length ≤ 1048576) :
    Calls Try.prog 28 #[.slice ad zs.length cap] w fun e w' => ∃ v xs, e = .returned v ∧ (xs.length = 64 ∨ xs.length = 63) ∧ InR (-32769) 32768 xs ∧ RdI w' v xs ∧ Below w.heap.size w w' := by
  have hB0 := (Below.refl w.heap.size w).alloc (Nat.le_refl _) (.cells #[.slice ad zs.length cap, .int .i64 0, .int .u64 0] 70)
  have hc0 := hide (curIn_new _ ad cap zs h)
  have hs0 : (w.alloc (.cells #[.slice ad zs.length cap, .int .i64 0, .int .u64 0] 70)).heap.size = w.heap.size + 1 := by simp
  replace hB0 := hide hB0
  clear h
  go_enter Try.func28, Try.ntmps28
  go_wp2_with fail
  generalize w.alloc (.cells #[.slice ad zs.length cap, .int .i64 0, .int .u64 0] 70) = w0 at hc0 hB0 hs0 ⊢
  refine (curBlock w.heap.size ad cap zs 0 w0 (unhide hc0) (by omega) hl).mono ?_
  rintro e w1 ⟨v, xs, rfl, hxl, hR, hO, hc1, ho⟩
  replace hB0 := hide ((unhide hB0).trans (ho.below (Nat.le_refl _) (by omega)))
  have hs1 : w.heap.size + 1 ≤ w1.heap.size := by have := ho.size; omega
  rw [hs0] at hO
  obtain ⟨g, cp, rfl, ⟨g1, g2⟩, cp1, cp2⟩ := own_atC hO (by omega)
  unfold maxLen at cp2
  replace hO := hide hO
  replace hR := hide hR
  replace hc1 := hide hc1
  clear ho hc0 hs0
  go_wp2_with fail
  refine (curPickAny w.heap.size ad cap zs _ 14 w1 (unhide hc1) (by omega) hl (by omega)).mono ?_
  rintro e w2 ⟨pk, rfl, pk0, pk1, hc2, ho⟩
  replace hB0 := hide ((unhide hB0).trans (ho.below (Nat.le_refl _) (by omega)))
  have hs2 : w1.heap.size ≤ w2.heap.size := ho.size
  replace hO := hide ((unhide hO).onlyD (by omega) ho)
  replace hc2 := hide hc2
  clear ho hc1
  rw [hxl] at cp1
  by_cases p0 : pk = 0
  · subst p0
    have hD := hide (rd_drop1 (unhide hO) hxl)
    clear hO
    go_wp2
    go_ret
    exact ⟨_, xs.drop 1, rfl, .inr (by rw [List.length_drop]; omega), ((unhide hR).drop 1).wide (by omega) (by omega), unhide hD, unhide hB0⟩
  · have q0 : (pk == 0) = false := beq_eq_false_iff_ne.2 p0
    by_cases p1 : pk = 1
    · subst p1
      go_wp2_with fail
      refine (curPickAny w.heap.size ad cap zs _ 64 w2 (unhide hc2) (by omega) hl (by omega)).mono ?_
      rintro e w3 ⟨P, rfl, P0, P1, hc3, ho⟩
      replace P1 := P1 (by omega)
      obtain ⟨K, rfl⟩ := Int.eq_ofNat_of_zero_le P0
      replace hB0 := hide ((unhide hB0).trans (ho.below (Nat.le_refl _) (by omega)))
      have hs3 : w2.heap.size ≤ w3.heap.size := ho.size
      replace hO := hide ((unhide hO).onlyD (by omega) ho)
      replace hc3 := hide hc3
      clear ho hc2
      have hu := Upd.of_below ((Below.refl w3.heap.size w3).alloc (Nat.le_refl _) (.cells #[.int .i64 32768, .int .i64 (-32769)] 3)) 0 0
      have hcl := hide (heldF_new w3 [.int .i64 32768, .int .i64 (-32769)] 3)
      have hc4 := hide ((unhide hc3).grown ((Below.refl w3.heap.size w3).alloc (Nat.le_refl _) (.cells #[.int .i64 32768, .int .i64 (-32769)] 3)))
      replace hB0 := hide (below_upd (unhide hB0) hu (Nat.le_refl _) (.inr (Nat.le_refl _)))
      replace hO := hide ((unhide hO).keep hu)
      clear hc3 hu
      go_wp2_with fail
      refine (curPickAny w.heap.size ad cap zs _ 2 _ (unhide hc4) (by omega) hl (by omega)).mono ?_
      rintro e w4 ⟨y, rfl, y0, y1, hc5, ho⟩
      replace y1 := y1 (by omega)
      replace hB0 := hide ((unhide hB0).trans (ho.below (Nat.le_refl _) (by simp; omega)))
      replace hcl := hide ((unhide hcl).only ho (by omega))
      replace hO := hide ((unhide hO).onlyD (by omega) ho)
      have hK : K < 64 := by omega
      have hdst : ∃ u, w4.cell? ⟨g, K, none⟩ = some u := by
        rw [(unhide hO).1.cellAt K (by omega)]; exact ⟨_, List.getElem?_eq_getElem (by have := (unhide hO).1.1; omega)⟩
      obtain ⟨uu, hdst⟩ := hdst
      have hfz := (unhide hO).1.frozenAt K
      have hfin : ∀ x : Int, (-32769 ≤ x ∧ x ≤ 32768) → Hid (InR (-32769) 32768 (xs.set K x) ∧ RdI (w4.setCell ⟨g, K, none⟩ (.int .i64 x)) (.slice (some ⟨g, 0, none⟩) 64 cp) (xs.set K x) ∧ Below w.heap.size w (w4.setCell ⟨g, K, none⟩ (.int .i64 x))) := fun x hx => by
        have h1 := ((unhide hO).1.stored K (.int .i64 x)).1
        have hlen : (xs.set K x).length = xs.length := List.length_set
        have e2 : (ints xs).set K (.int .i64 x) = ints (xs.set K x) := by unfold ints; rw [List.map_set]
        rw [e2] at h1
        have h2 : OwnI (w4.setCell ⟨g, K, none⟩ (.int .i64 x)) (w.heap.size + 1) (w4.setCell ⟨g, K, none⟩ (.int .i64 x)).heap.size (.slice (some ⟨g, 0, none⟩) 64 cp) (xs.set K x) := by
          unfold OwnI
          rw [hlen]
          rw [hxl] at h1 ⊢
          exact Own.of h1
        exact hide ⟨((unhide hR).wide (by omega) (by omega)).set hx K, rd_of_own h2, (unhide hB0).setCell (p := ⟨g, K, none⟩) (show w.heap.size ≤ g by omega) _⟩
      clear hO hc4 ho hB0
      rcases (show y = 0 ∨ y = 1 by omega) with e | e
      · subst e
        have k0 := (unhide hcl).1.2 0 _ rfl
        have hf := hfin 32768 (by omega)
        clear hfin
        go_wp2
        go_ret
        exact ⟨_, xs.set K 32768, rfl, .inl (by rw [List.length_set]; exact hxl), (unhide hf).1, (unhide hf).2.1, (unhide hf).2.2⟩
      · subst e
        have k0 := (unhide hcl).1.2 1 _ rfl
        have hf := hfin (-32769) (by omega)
        clear hfin
        go_wp2
        go_ret
        exact ⟨_, xs.set K (-32769), rfl, .inl (by rw [List.length_set]; exact hxl), (unhide hf).1, (unhide hf).2.1, (unhide hf).2.2⟩
    · have q1 : (pk == 1) = false := beq_eq_false_iff_ne.2 p1
      have hD := hide (rd_of_own (unhide hO))
      rw [hxl] at hD
      clear hO
      go_wp2
      go_ret
      exact ⟨_, xs, rfl, .inl hxl, (unhide hR).wide (by omega) (by omega), unhide hD, unhide hB0⟩
end Go.Proofs.Ytilmdbdgohfpcaa
