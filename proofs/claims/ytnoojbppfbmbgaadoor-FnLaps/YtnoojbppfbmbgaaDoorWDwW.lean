/- The specification's draw of samples for waves. -/
import Derived.Test.YtnoojbppfbmbgaaDoorWToB
import Derived.Test.YtnoojbppfbmbgaaDoorWRowJ
import Derived.Test.YtnoojbppfbmbgaaDoorWHeld
namespace Go.Proofs.YtnoojbppfbmbgaaDoor
open Go.RowKit

theorem rowL_of {w : World} {base n : Nat} {v : Value} {xs : List Value} (h : w.ownsRow base 3 1 v n xs) (hn : 0 < n) : ∃ g cap, v = .slice (some ⟨g, 0, none⟩) n cap ∧ base ≤ g ∧ n ≤ cap ∧ g < w.heap.size ∧ (∀ k, k < n → w.cell? ⟨g, k, none⟩ = xs[k]?) ∧ (∀ k, w.frozen? ⟨g, k, none⟩ = false) := by
  have hl := h.1
  have hlt := h.lt
  rcases h.2 with ⟨rfl, h1⟩ | ⟨g, cap, cur, rfl, h1, h2, h3, h4, h5, h6⟩
  · omega
  · have hc := fun k (hk : k < n) => World.ownsRow.cellAt h k (show k < n * 1 by omega)
    have hf := World.ownsRow.frozenAt h
    exact ⟨g, cap, rfl, h1, by omega, (hlt g rfl).2, fun k hk => hc k hk, fun k => hf k⟩
set_option maxHeartbeats 16000000 in
set_option maxRecDepth 100000 in
theorem specSixteen (va : Value) (c : Nat) (ad : Option Addr) (cap : Nat) (zs : List Int) (w : World) (h : CurIn w c ad cap zs 0) (hl : zs.length ≤ 1048576) (hcw : c < w.heap.size) :
    Calls Tryd.prog 36 #[va, .pointer (some ⟨c, 0, none⟩)] w fun e w' => ∃ v xs, e = .returned v ∧ (xs.length = 16 ∨ xs.length = 15) ∧ InR (-33554432) 33554432 xs ∧ RdX w' v xs ∧ OnlyAt c w w' := by
  have hT := hide (curTone c ad cap zs 0 16 16 w h (by omega) hl (by omega) (by omega) (by omega))
  clear h
  go_enter Tryd.func36, Tryd.ntmps36
  go_wp2_with fail
  refine (unhide hT).mono ?_
  rintro e w1 ⟨v, xs, rfl, hxl, hR, hO, hC, ho⟩
  replace hR := hide hR
  replace hxl := hide hxl
  have hs1 := ho.size
  replace ho := hide ho
  clear hT
  go_wp2_with fail
  refine (curPick c ad cap zs _ 14 w1 hC (by omega) hl (by omega) (by omega)).mono ?_
  rintro e w2 ⟨p, rfl, p0, p1, hC2, ho2⟩
  have hO2 := Own.onlyT hO hcw ho2
  have hrow := hO2.1
  rw [unhide hxl] at hrow
  obtain ⟨g, cp, rfl, hg, hcp, hgl, hcell, hfr⟩ := rowL_of hrow (by omega)
  replace ho := hide ((unhide ho).trans ho2)
  replace hC2 := hide hC2
  replace hcell := hide hcell
  clear hO hO2 hrow ho2 hC
  have hrd : Hid (RdX w2 (.slice (some ⟨g, 0, none⟩) 16 cp) xs) := hide (.inr ⟨g, 0, cp, by rw [unhide hxl], by have := unhide hxl; omega, hgl, fun j hj => by
    rw [Nat.zero_add, unhide hcell j (by have := unhide hxl; omega)]
    exact getD_map_int xs .i64 j hj⟩)
  by_cases c0 : p = 0
  · subst c0
    have hrd2 : Hid (RdX w2 (.slice (some ⟨g, 1, none⟩) 15 (cp - 1)) (xs.drop 1)) := hide (.inr ⟨g, 1, cp - 1, by rw [List.length_drop, unhide hxl], by rw [List.length_drop, unhide hxl]; omega, hgl, fun j hj => by
      rw [List.length_drop, unhide hxl] at hj
      rw [Nat.add_comm 1 j, unhide hcell (j + 1) (by omega), List.getD_eq_getElem?_getD, List.getElem?_drop, Nat.add_comm 1 j, ← List.getD_eq_getElem?_getD]
      exact getD_map_int xs .i64 (j + 1) (by have := unhide hxl; omega)⟩)
    have hR2 : Hid (InR (-33554432) 33554432 (xs.drop 1)) := hide (fun j hj => by
      rw [List.length_drop] at hj
      rw [List.getD_eq_getElem?_getD, List.getElem?_drop, ← List.getD_eq_getElem?_getD]
      exact unhide hR (1 + j) (by omega))
    have hl2 : Hid ((xs.drop 1).length = 15) := hide (by rw [List.length_drop, unhide hxl])
    clear p0 p1
    go_wp2
    go_ret
    exact ⟨_, xs.drop 1, rfl, .inr (unhide hl2), unhide hR2, unhide hrd2, unhide ho⟩
  by_cases c1 : p = 1
  · subst c1
    go_wp2_with fail
    refine (curPick c ad cap zs _ 16 w2 (unhide hC2) (by omega) hl (by omega) (by omega)).mono ?_
    rintro e w3 ⟨i, rfl, i0, i1, hC3, ho3⟩
    obtain ⟨I, rfl⟩ := Int.eq_ofNat_of_zero_le i0
    have hI : I < 16 := by omega
    have hg3 : g < w3.heap.size := Nat.lt_of_lt_of_le hgl ho3.size
    have hbN := (Below.refl w3.heap.size w3).alloc (Nat.le_refl _) (.cells #[.int .i64 32768, .int .i64 (-32769)] 3)
    have hC4 := hide (hC3.grown hbN)
    have ho4 := hide (ho3.trans (OnlyAt.of_belowT hbN))
    have hlt4 := hide (heldF_new w3 [.int .i64 32768, .int .i64 (-32769)] 3)
    have hs4 : (w3.alloc (.cells #[.int .i64 32768, .int .i64 (-32769)] 3)).heap.size = w3.heap.size + 1 := by simp
    have hcw3 : c ≠ w3.heap.size := by have := ho3.size; omega
    clear hC3 ho3 hbN
    go_wp2_with fail
    change Hid (HeldF (w3.alloc (.cells #[.int .i64 32768, .int .i64 (-32769)] 3)) w3.heap.size [.int .i64 32768, .int .i64 (-32769)]) at hlt4
    generalize w3.alloc (.cells #[.int .i64 32768, .int .i64 (-32769)] 3) = w4 at hC4 ho4 hlt4 hs4 ⊢
    refine (curPick c ad cap zs _ 2 w4 (unhide hC4) (by omega) hl (by omega) (by omega)).mono ?_
    rintro e w5 ⟨y, rfl, y0, y1, hC5, ho5⟩
    have ho25 := hide ((unhide ho4).trans ho5)
    have d0 : w5.cell? ⟨w3.heap.size, 0, none⟩ = some (.int .i64 32768) := (ho5.cell (p := ⟨w3.heap.size, 0, none⟩) (by show w3.heap.size < w4.heap.size; omega) (by show w3.heap.size ≠ c; omega)).trans ((unhide hlt4).1.2 0 _ rfl)
    have d1 : w5.cell? ⟨w3.heap.size, 1, none⟩ = some (.int .i64 (-32769)) := (ho5.cell (p := ⟨w3.heap.size, 1, none⟩) (by show w3.heap.size < w4.heap.size; omega) (by show w3.heap.size ≠ c; omega)).trans ((unhide hlt4).1.2 1 _ rfl)
    have hgc : g ≠ c := by omega
    have hc5 : Hid (∀ k, k < 16 → w5.cell? ⟨g, k, none⟩ = (ints xs)[k]?) := hide (fun k hk => ((unhide ho25).cell (p := ⟨g, k, none⟩) hgl hgc).trans (unhide hcell k hk))
    have hfz : w5.frozen? ⟨g, I, none⟩ = false := ((unhide ho25).frozen (p := ⟨g, I, none⟩) hgl hgc).trans (hfr I)
    have hdst : w5.cell? ⟨g, I, none⟩ = some (.int .i64 (xs.getD I 0)) := by
      rw [unhide hc5 I hI]
      exact getD_map_int xs .i64 I (by have := unhide hxl; omega)
    have hgl5 : g < w5.heap.size := Nat.lt_of_lt_of_le hgl (unhide ho25).size
    have hfin : Hid (∀ z : Int, -32769 ≤ z ∧ z ≤ 32768 → (xs.set I z).length = 16 ∧ InR (-33554432) 33554432 (xs.set I z) ∧ RdX (w5.setCell ⟨g, I, none⟩ (.int .i64 z)) (.slice (some ⟨g, 0, none⟩) 16 cp) (xs.set I z) ∧ OnlyAt c w (w5.setCell ⟨g, I, none⟩ (.int .i64 z))) := hide (fun z hz => by
      refine ⟨by rw [List.length_set]; exact unhide hxl, InR.setT (unhide hR) (by omega) I, .inr ⟨g, 0, cp, by rw [List.length_set, unhide hxl], by rw [List.length_set]; have := unhide hxl; omega, by simpa using hgl5, fun j hj => ?_⟩, OnlyAt.pastT ((unhide ho).trans (unhide ho25)) hg⟩
      rw [List.length_set] at hj
      rw [Nat.zero_add]
      by_cases h : I = j
      · subst h
        rw [World.cell?_setCell_same (h := hdst)]
        rw [List.getD_eq_getElem?_getD, List.getElem?_set, if_pos rfl, if_pos hj]
        rfl
      · have hne : (⟨g, I, none⟩ : Addr) ≠ ⟨g, j, none⟩ := fun e => h (Addr.mk.inj e).2.1
        rw [World.cell?_setCell_other (w := w5) (h := hne)]
        rw [unhide hc5 j (by have := unhide hxl; omega)]
        rw [show (xs.set I z).getD j 0 = xs.getD j 0 from by rw [List.getD_eq_getElem?_getD, List.getElem?_set, if_neg h, ← List.getD_eq_getElem?_getD]]
        exact getD_map_int xs .i64 j hj)
    have iI : (0 : Int) ≤ (I : Int) := by omega
    have iL : (I : Int) < 16 := by omega
    clear hc5 hC5 ho5 hlt4 hC4 ho4 hC2 hcell hfr hrd p0 p1 i0 i1 c0
    rcases (show y = 0 ∨ y = 1 by omega) with e | e
    · subst e
      obtain ⟨f1, f2, f3, f4⟩ := unhide hfin 32768 (by omega)
      replace f3 := hide f3
      replace f4 := hide f4
      clear hfin y0 y1
      go_wp2
      go_ret
      exact ⟨_, _, rfl, .inl f1, f2, unhide f3, unhide f4⟩
    · subst e
      obtain ⟨f1, f2, f3, f4⟩ := unhide hfin (-32769) (by omega)
      replace f3 := hide f3
      replace f4 := hide f4
      clear hfin y0 y1
      go_wp2
      go_ret
      exact ⟨_, _, rfl, .inl f1, f2, unhide f3, unhide f4⟩
  · have q0 : (p == 0) = false := by rw [beq_eq_false_iff_ne]; exact c0
    have q1 : (p == 1) = false := by rw [beq_eq_false_iff_ne]; exact c1
    have q0' : decide (p = 0) = false := decide_eq_false c0
    have q1' : decide (p = 1) = false := decide_eq_false c1
    go_wp2
    go_ret
    exact ⟨_, xs, rfl, .inl (unhide hxl), unhide hR, unhide hrd, unhide ho⟩
set_option maxHeartbeats 4000000 in
set_option maxRecDepth 100000 in
theorem specDrawWaves (ad : Option Addr) (cap : Nat) (zs : List Int) (w : World) (h : ArgB w ad zs) (hl : zs.length ≤ 1048576) :
    Calls Tryd.prog 11 #[.slice ad zs.length cap] w fun e w' => ∃ v xs, e = .returned v ∧ (xs.length = 16 ∨ xs.length = 15) ∧ InR (-33554432) 33554432 xs ∧ RdX w' v xs ∧ Below w.heap.size w w' := by
  have hC := hide (curIn_new w ad cap zs h)
  have hB := hide ((Below.refl w.heap.size w).alloc (Nat.le_refl _) (.cells #[.slice ad zs.length cap, .int .i64 0, .int .u64 0] 56))
  have hs : w.heap.size < (w.alloc (.cells #[.slice ad zs.length cap, .int .i64 0, .int .u64 0] 56)).heap.size := by simp
  clear h
  go_enter Tryd.func11, Tryd.ntmps11
  go_wp2_with fail
  generalize w.alloc (.cells #[.slice ad zs.length cap, .int .i64 0, .int .u64 0] 56) = w0 at hC hB hs ⊢
  refine (specSixteen _ w.heap.size ad cap zs w0 (unhide hC) hl hs).mono ?_
  rintro e w1 ⟨v, xs, rfl, h1, h2, h3, h4⟩
  have hB1 := hide ((unhide hB).trans (h4.below (Nat.le_refl _) (unhide hB).size))
  replace h1 := hide h1
  replace h2 := hide h2
  replace h3 := hide h3
  clear h4
  go_wp2
  go_ret
  exact ⟨_, xs, rfl, unhide h1, unhide h2, unhide h3, unhide hB1⟩
end Go.Proofs.YtnoojbppfbmbgaaDoor
