/- The specification's drawn blocks, with what capacity they have. -/
import Derived.Test.YtilmdbdgohfpcaaWDb
namespace Go.Proofs.Ytilmdbdgohfpcaa
open Go.RowKit

def RdB (w : World) (v : Value) (zs : List Int) : Prop := ∃ ad cap, v = .slice ad zs.length cap ∧ zs.length ≤ cap ∧ cap ≤ 9223372036854775807 ∧ ArgI w ad zs
theorem RdB.rd {w : World} {v : Value} {zs : List Int} (h : RdB w v zs) : RdI w v zs := by
  obtain ⟨ad, cap, e, _, _, hA⟩ := h
  exact ⟨ad, cap, e, hA⟩
theorem RdB.below {w w' : World} {v : Value} {zs : List Int} (h : RdB w v zs) (hb : Below w.heap.size w w') : RdB w' v zs := by
  obtain ⟨ad, cap, e, h1, h2, h⟩ := h
  exact ⟨ad, cap, e, h1, h2, h.below hb⟩
theorem rd_of_ownB {w : World} {a b : Nat} {v : Value} {zs : List Int} (h : OwnI w a b v zs) : RdB w v zs := by
  obtain ⟨ad, cap, rfl, hA⟩ := readK_of_own h
  refine ⟨ad, cap, rfl, ?_, ?_, hA⟩
  · rcases h.1.2 with ⟨e, hn⟩ | ⟨g, cp, cur, e, h1, h2, h3, h4, _⟩
    · simp only [Value.slice.injEq] at e; omega
    · simp only [Value.slice.injEq] at e; omega
  · rcases h.1.2 with ⟨e, hn⟩ | ⟨g, cp, cur, e, h1, h2, h3, h4, _⟩
    · simp only [Value.slice.injEq] at e; omega
    · simp only [Value.slice.injEq] at e; unfold maxLen at h4; omega
theorem rd_drop1B {w : World} {g cp : Nat} {xs : List Int} {a b : Nat} (h : OwnI w a b (.slice (some ⟨g, 0, none⟩) xs.length cp) xs) (hn : xs.length = 64) : RdB w (.slice (some ⟨g, 1, none⟩) 63 (cp - 1)) (xs.drop 1) := by
  obtain ⟨ad, cap, e, hA⟩ := rd_drop1 h hn
  obtain ⟨ad', cap', e', h1, h2, _⟩ := rd_of_ownB h
  cases e'
  simp only [Value.slice.injEq] at e
  obtain ⟨rfl, e2, rfl⟩ := e
  exact ⟨_, _, by rw [e2], by omega, by omega, hA⟩

set_option maxHeartbeats 16000000 in
set_option maxRecDepth 100000 in
theorem specL8DrawnC (ad : Option Addr) (cap : Nat) (zs : List Int) (w : World) (h : ArgB w ad zs) (hl : zs.length ≤ 1048576) :
    Calls Try.prog 28 #[.slice ad zs.length cap] w fun e w' => ∃ v xs, e = .returned v ∧ (xs.length = 64 ∨ xs.length = 63) ∧ InR (-32769) 32768 xs ∧ RdB w' v xs ∧ Below w.heap.size w w' := by
  have hB0 := (Below.refl w.heap.size w).alloc (Nat.le_refl _) (.cells #[.slice ad zs.length cap, .int .i64 0, .int .u64 0] 70)
  have hc0 := hide (curIn_new _ ad cap zs h)
  have hs0 : (w.alloc (.cells #[.slice ad zs.length cap, .int .i64 0, .int .u64 0] 70)).heap.size = w.heap.size + 1 := by simp
  replace hB0 := hide hB0
  clear h
  go_enter Try.func28, Try.ntmps28
  go_wp2_with fail
  generalize w.alloc (.cells #[.slice ad zs.length cap, .int .i64 0, .int .u64 0] 70) = w0 at hc0 hB0 hs0 ⊢
  refine (curBlock w.heap.size ad cap zs 0 w0 (unhide hc0) (by omega) hl).mono ?_
  rintro e w1 ⟨v, xs, rfl, hxl, hR, hO, hc1, ho⟩
  replace hB0 := hide ((unhide hB0).trans (ho.below (Nat.le_refl _) (by omega)))
  have hs1 : w.heap.size + 1 ≤ w1.heap.size := by have := ho.size; omega
  rw [hs0] at hO
  obtain ⟨g, cp, rfl, ⟨g1, g2⟩, cp1, cp2⟩ := own_atC hO (by omega)
  unfold maxLen at cp2
  replace hO := hide hO
  replace hR := hide hR
  replace hc1 := hide hc1
  clear ho hc0 hs0
  go_wp2_with fail
  refine (curPickAny w.heap.size ad cap zs _ 14 w1 (unhide hc1) (by omega) hl (by omega)).mono ?_
  rintro e w2 ⟨pk, rfl, pk0, pk1, hc2, ho⟩
  replace hB0 := hide ((unhide hB0).trans (ho.below (Nat.le_refl _) (by omega)))
  have hs2 : w1.heap.size ≤ w2.heap.size := ho.size
  replace hO := hide ((unhide hO).onlyD (by omega) ho)
  replace hc2 := hide hc2
  clear ho hc1
  rw [hxl] at cp1
  by_cases p0 : pk = 0
  · subst p0
    have hD := hide (rd_drop1B (unhide hO) hxl)
    clear hO
    go_wp2
    go_ret
    exact ⟨_, xs.drop 1, rfl, .inr (by rw [List.length_drop]; omega), ((unhide hR).drop 1).wide (by omega) (by omega), unhide hD, unhide hB0⟩
  · have q0 : (pk == 0) = false := beq_eq_false_iff_ne.2 p0
    by_cases p1 : pk = 1
    · subst p1
      go_wp2_with fail
      refine (curPickAny w.heap.size ad cap zs _ 64 w2 (unhide hc2) (by omega) hl (by omega)).mono ?_
      rintro e w3 ⟨P, rfl, P0, P1, hc3, ho⟩
      replace P1 := P1 (by omega)
      obtain ⟨K, rfl⟩ := Int.eq_ofNat_of_zero_le P0
      replace hB0 := hide ((unhide hB0).trans (ho.below (Nat.le_refl _) (by omega)))
      have hs3 : w2.heap.size ≤ w3.heap.size := ho.size
      replace hO := hide ((unhide hO).onlyD (by omega) ho)
      replace hc3 := hide hc3
      clear ho hc2
      have hu := Upd.of_below ((Below.refl w3.heap.size w3).alloc (Nat.le_refl _) (.cells #[.int .i64 32768, .int .i64 (-32769)] 3)) 0 0
      have hcl := hide (heldF_new w3 [.int .i64 32768, .int .i64 (-32769)] 3)
      have hc4 := hide ((unhide hc3).grown ((Below.refl w3.heap.size w3).alloc (Nat.le_refl _) (.cells #[.int .i64 32768, .int .i64 (-32769)] 3)))
      replace hB0 := hide (below_upd (unhide hB0) hu (Nat.le_refl _) (.inr (Nat.le_refl _)))
      replace hO := hide ((unhide hO).keep hu)
      clear hc3 hu
      go_wp2_with fail
      refine (curPickAny w.heap.size ad cap zs _ 2 _ (unhide hc4) (by omega) hl (by omega)).mono ?_
      rintro e w4 ⟨y, rfl, y0, y1, hc5, ho⟩
      replace y1 := y1 (by omega)
      replace hB0 := hide ((unhide hB0).trans (ho.below (Nat.le_refl _) (by simp; omega)))
      replace hcl := hide ((unhide hcl).only ho (by omega))
      replace hO := hide ((unhide hO).onlyD (by omega) ho)
      have hK : K < 64 := by omega
      have hdst : ∃ u, w4.cell? ⟨g, K, none⟩ = some u := by
        rw [(unhide hO).1.cellAt K (by omega)]; exact ⟨_, List.getElem?_eq_getElem (by have := (unhide hO).1.1; omega)⟩
      obtain ⟨uu, hdst⟩ := hdst
      have hfz := (unhide hO).1.frozenAt K
      have hfin : ∀ x : Int, (-32769 ≤ x ∧ x ≤ 32768) → Hid (InR (-32769) 32768 (xs.set K x) ∧ RdB (w4.setCell ⟨g, K, none⟩ (.int .i64 x)) (.slice (some ⟨g, 0, none⟩) 64 cp) (xs.set K x) ∧ Below w.heap.size w (w4.setCell ⟨g, K, none⟩ (.int .i64 x))) := fun x hx => by
        have h1 := ((unhide hO).1.stored K (.int .i64 x)).1
        have hlen : (xs.set K x).length = xs.length := List.length_set
        have e2 : (ints xs).set K (.int .i64 x) = ints (xs.set K x) := by unfold ints; rw [List.map_set]
        rw [e2] at h1
        have h2 : OwnI (w4.setCell ⟨g, K, none⟩ (.int .i64 x)) (w.heap.size + 1) (w4.setCell ⟨g, K, none⟩ (.int .i64 x)).heap.size (.slice (some ⟨g, 0, none⟩) 64 cp) (xs.set K x) := by
          unfold OwnI
          rw [hlen]
          rw [hxl] at h1 ⊢
          exact Own.of h1
        exact hide ⟨((unhide hR).wide (by omega) (by omega)).set hx K, rd_of_ownB h2, (unhide hB0).setCell (p := ⟨g, K, none⟩) (show w.heap.size ≤ g by omega) _⟩
      clear hO hc4 ho hB0
      rcases (show y = 0 ∨ y = 1 by omega) with e | e
      · subst e
        have k0 := (unhide hcl).1.2 0 _ rfl
        have hf := hfin 32768 (by omega)
        clear hfin
        go_wp2
        go_ret
        exact ⟨_, xs.set K 32768, rfl, .inl (by rw [List.length_set]; exact hxl), (unhide hf).1, (unhide hf).2.1, (unhide hf).2.2⟩
      · subst e
        have k0 := (unhide hcl).1.2 1 _ rfl
        have hf := hfin (-32769) (by omega)
        clear hfin
        go_wp2
        go_ret
        exact ⟨_, xs.set K (-32769), rfl, .inl (by rw [List.length_set]; exact hxl), (unhide hf).1, (unhide hf).2.1, (unhide hf).2.2⟩
    · have q1 : (pk == 1) = false := beq_eq_false_iff_ne.2 p1
      have hD := hide (rd_of_ownB (unhide hO))
      rw [hxl] at hD
      clear hO
      go_wp2
      go_ret
      exact ⟨_, xs, rfl, .inl hxl, (unhide hR).wide (by omega) (by omega), unhide hD, unhide hB0⟩
end Go.Proofs.Ytilmdbdgohfpcaa
