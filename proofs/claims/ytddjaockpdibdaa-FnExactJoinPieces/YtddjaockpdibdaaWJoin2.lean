/- The walk of the program's joiner over one piece. -/
import Derived.Test.YtddjaockpdibdaaWJoin1
namespace Go.Proofs.Ytddjaockpdibdaa
open Go.RowKit

theorem GrowJ.ofBelow {c o : Nat} {g : Option Nat} {w w' : World} (hb : Below w.heap.size w w') (hc : c < w.heap.size) : GrowJ c o g g w w' :=
  ⟨hb.os, hb.tape, hb.output, hb.size, fun k hk _ _ => hb.block k hk, fun j _ => hb.cell (by simpa using hc), fun j => hb.frozen (by simpa using hc), .inl rfl⟩
theorem Jo.below {w w' : World} {c o : Nat} {g : Option Nat} {l : List Int} {most : Nat} (h : Jo w c o g l most) (hb : Below w.heap.size w w') : Jo w' c o g l most := by
  obtain ⟨v, hv, ⟨h0, h1, h2, h3⟩, ho⟩ := h
  exact ⟨v, hv, ⟨Nat.lt_of_lt_of_le h0 hb.size, (hb.cell (by simpa using h0)).trans h1, (hb.cell (by simpa using h0)).trans h2, (hb.frozen (by simpa using h0)).trans h3⟩, ownsP_below ho hb⟩
theorem Jo.lt {w : World} {c o : Nat} {g : Option Nat} {l : List Int} {most : Nat} (h : Jo w c o g l most) : c < w.heap.size := by
  obtain ⟨v, hv, ⟨h0, _⟩, _⟩ := h
  exact h0
theorem u8_wrap_in (x : Int) (h0 : 0 ≤ x) (h1 : x ≤ 255) : IntKind.u8.wrap x = x := by
  simp [IntKind.wrap, IntKind.bits, IntKind.signed]; omega

set_option maxHeartbeats 4000000 in
theorem joPiece (c o : Nat) (g : Option Nat) (l : List Int) (x y z : Int) (w : World) (h : Jo w c o g l 40000) (hB : InB l) (hl : l.length ≤ 40000) :
    Calls Try.prog 79 #[.pointer (some ⟨c, o, none⟩), .agg #[.int .i64 x, .int .i64 y, .int .i64 z]] w fun e w' =>
      ∃ g', GrowJ c o g g' w w' ∧ e = .returned (.int .i64 (joinStep l (x, y, z)).1) ∧ ((joinStep l (x, y, z)).1 = 0 → Jo w' c o g' (joinStep l (x, y, z)).2 40000) := by
  have hb0 := (Below.refl w.heap.size w).alloc (Nat.le_refl _) (.cells #[.int .i64 x, .int .i64 y, .int .i64 z] 102)
  have hJ0 := hide (h.below hb0)
  have hlt := h.lt
  have c0 : (w.alloc (.cells #[.int .i64 x, .int .i64 y, .int .i64 z] 102)).cell? ⟨w.heap.size, 0, none⟩ = some (.int .i64 x) := by rw [World.cell?_alloc_at _ _ _ _ rfl]; rfl
  have c1 : (w.alloc (.cells #[.int .i64 x, .int .i64 y, .int .i64 z] 102)).cell? ⟨w.heap.size, 1, none⟩ = some (.int .i64 y) := by rw [World.cell?_alloc_at _ _ _ _ rfl]; rfl
  have c2 : (w.alloc (.cells #[.int .i64 x, .int .i64 y, .int .i64 z] 102)).cell? ⟨w.heap.size, 2, none⟩ = some (.int .i64 z) := by rw [World.cell?_alloc_at _ _ _ _ rfl]; rfl
  have hs0 : w.heap.size < (w.alloc (.cells #[.int .i64 x, .int .i64 y, .int .i64 z] 102)).heap.size := by simp
  replace hb0 := hide hb0
  replace hB := hide hB
  clear h
  by_cases hL : litP (x, y, z)
  · have q : decide (litP (x, y, z)) = true := decide_eq_true hL
    have hx0 : 0 ≤ x := hL.2.2.1
    have hx1 : x ≤ 255 := hL.2.2.2
    have hw := u8_wrap_in x hx0 hx1
    by_cases hf : l.length = 40000
    · have hE := hide (joinStep_lit_many hL (Nat.le_of_eq hf.symm))
      replace hL := hide hL
      go_enter Try.func79, Try.ntmps79
      go_wp2_with fail
      generalize w.alloc (.cells #[.int .i64 x, .int .i64 y, .int .i64 z] 102) = w1 at hJ0 c0 c1 c2 hs0 hb0 ⊢
      refine (isLiteral_any x y z w1).mono ?_
      rintro e w2 ⟨rfl, hb2⟩
      have d0 := (hb2.cell (p := ⟨w.heap.size, 0, none⟩) (by simpa using hs0)).trans c0
      have hJ2 := hide ((unhide hJ0).below hb2)
      have hb3 := hide ((unhide hb0).trans (hb2.mono (unhide hb0).size))
      clear c0 c1 c2 hJ0 hb0 hb2
      go_wp2_with fail
      refine (joFull c o 40000 g l x w2 (unhide hJ2) hf).mono ?_
      rintro e w4 ⟨rfl, nq, rfl⟩
      go_wp2
      go_ret
      rw [unhide hE]
      exact ⟨g, (GrowJ.ofBelow (unhide hb3) hlt).drewN _, rfl, fun h => by simp at h⟩
    · have hE := hide (joinStep_lit hL (l := l) (by omega))
      replace hL := hide hL
      replace hf := hide hf
      go_enter Try.func79, Try.ntmps79
      go_wp2_with fail
      generalize w.alloc (.cells #[.int .i64 x, .int .i64 y, .int .i64 z] 102) = w1 at hJ0 c0 c1 c2 hs0 hb0 ⊢
      refine (isLiteral_any x y z w1).mono ?_
      rintro e w2 ⟨rfl, hb2⟩
      have d0 := (hb2.cell (p := ⟨w.heap.size, 0, none⟩) (by simpa using hs0)).trans c0
      have hJ2 := hide ((unhide hJ0).below hb2)
      have hb3 := hide ((unhide hb0).trans (hb2.mono (unhide hb0).size))
      clear c0 c1 c2 hJ0 hb0 hb2
      go_wp2_with fail
      refine (joAdd c o 40000 g l x w2 (unhide hJ2) (Nat.le_refl _) (by have := unhide hf; omega)).mono ?_
      rintro e w4 ⟨rfl, g4, hJ4, hG4⟩
      replace hJ4 := hide hJ4
      replace hG4 := hide ((GrowJ.ofBelow (unhide hb3) hlt).trans hG4)
      go_wp2
      go_ret
      rw [unhide hE]
      exact ⟨g4, unhide hG4, rfl, fun _ => unhide hJ4⟩
  · have q : decide (litP (x, y, z)) = false := decide_eq_false hL
    by_cases hC : copP (x, y, z)
    · have qc : decide (copP (x, y, z)) = true := decide_eq_true hC
      obtain ⟨Y, rfl⟩ := Int.eq_ofNat_of_zero_le (show 0 ≤ y by have := hC.2.1; simp only at this; omega)
      obtain ⟨Z, rfl⟩ := Int.eq_ofNat_of_zero_le (show 0 ≤ z by have := hC.2.2.2.1; simp only at this; omega)
      have hY : Y ≤ 1000 := by have := hC.2.2.1; simp only at this; omega
      have hZ : 0 < Z := by have := hC.2.2.2.1; simp only at this; omega
      have hcall : Hid (∀ W, Jo W c o g l 40000 → Calls Try.prog 106 #[.pointer (some ⟨c, o, none⟩), .int .i64 Y, .int .i64 Z] W fun e w' => ∃ g', GrowJ c o g g' W w' ∧ e = .returned (.int .i64 (joinStep l (x, Y, Z)).1) ∧ ((joinStep l (x, Y, Z)).1 = 0 → Jo w' c o g' (joinStep l (x, Y, Z)).2 40000)) := by
        refine hide fun W hW => ?_
        by_cases hr : l.length < Z
        · rw [joinStep_range hC (by simp only; omega)]
          refine (joAgainFar c o 40000 Y Z g l W hW hr).mono ?_
          rintro e w' ⟨rfl, rfl⟩
          exact ⟨g, GrowJ.refl _ _ _ _, rfl, fun h => by simp at h⟩
        · refine (joAgain c o 40000 Y Z g l W hW (Nat.le_refl _) hl (unhide hB) hZ (by omega) hY).mono ?_
          rintro e w' ⟨g', hG, h | h⟩
          · obtain ⟨h1, rfl, _⟩ := h
            rw [joinStep_many hC (by simp only; omega) (by simp only [Int.toNat_natCast]; omega)]
            exact ⟨g', hG, rfl, fun h => by simp at h⟩
          · obtain ⟨h1, rfl, hJ⟩ := h
            rw [joinStep_copy hC (by simp only; omega) (by simp only [Int.toNat_natCast]; omega)]
            exact ⟨g', hG, rfl, fun _ => by simpa using hJ⟩
      replace hL := hide hL
      replace hC := hide hC
      go_enter Try.func79, Try.ntmps79
      go_wp2_with fail
      generalize w.alloc (.cells #[.int .i64 x, .int .i64 Y, .int .i64 Z] 102) = w1 at hJ0 c0 c1 c2 hs0 hb0 ⊢
      refine (isLiteral_any x Y Z w1).mono ?_
      rintro e w2 ⟨rfl, hb2⟩
      have d0 := (hb2.cell (p := ⟨w.heap.size, 0, none⟩) (by simpa using hs0)).trans c0
      have d1 := (hb2.cell (p := ⟨w.heap.size, 1, none⟩) (by simpa using hs0)).trans c1
      have d2 := (hb2.cell (p := ⟨w.heap.size, 2, none⟩) (by simpa using hs0)).trans c2
      have hs2 := Nat.lt_of_lt_of_le hs0 hb2.size
      have hJ2 := hide ((unhide hJ0).below hb2)
      have hb3 := hide ((unhide hb0).trans (hb2.mono (unhide hb0).size))
      clear c0 c1 c2 hJ0 hb0 hb2
      go_wp2_with fail
      refine (isCopy_any x Y Z w2).mono ?_
      rintro e w3 ⟨rfl, hb2⟩
      have e1 := (hb2.cell (p := ⟨w.heap.size, 1, none⟩) (by simpa using hs2)).trans d1
      have e2 := (hb2.cell (p := ⟨w.heap.size, 2, none⟩) (by simpa using hs2)).trans d2
      have hJ3 := hide ((unhide hJ2).below hb2)
      have hb4 := hide ((unhide hb3).trans (hb2.mono (unhide hb3).size))
      clear d0 d1 d2 hJ2 hb2 hb3
      go_wp2_with fail
      refine (unhide hcall w3 (unhide hJ3)).mono ?_
      rintro e w5 ⟨g5, hG, rfl, hJ5⟩
      replace hJ5 := hide hJ5
      replace hG := hide ((GrowJ.ofBelow (unhide hb4) hlt).trans hG)
      go_wp2
      go_ret
      exact ⟨g5, unhide hG, rfl, unhide hJ5⟩
    · have qc : decide (copP (x, y, z)) = false := decide_eq_false hC
      have hE := hide (joinStep_bad (l := l) hL hC)
      replace hL := hide hL
      replace hC := hide hC
      go_enter Try.func79, Try.ntmps79
      go_wp2_with fail
      generalize w.alloc (.cells #[.int .i64 x, .int .i64 y, .int .i64 z] 102) = w1 at hJ0 c0 c1 c2 hs0 hb0 ⊢
      refine (isLiteral_any x y z w1).mono ?_
      rintro e w2 ⟨rfl, hb2⟩
      have d0 := (hb2.cell (p := ⟨w.heap.size, 0, none⟩) (by simpa using hs0)).trans c0
      have d1 := (hb2.cell (p := ⟨w.heap.size, 1, none⟩) (by simpa using hs0)).trans c1
      have d2 := (hb2.cell (p := ⟨w.heap.size, 2, none⟩) (by simpa using hs0)).trans c2
      have hb3 := hide ((unhide hb0).trans (hb2.mono (unhide hb0).size))
      clear c0 c1 c2 hJ0 hb0 hb2
      go_wp2_with fail
      refine (isCopy_any x y z w2).mono ?_
      rintro e w3 ⟨rfl, hb2⟩
      have hb4 := hide ((unhide hb3).trans (hb2.mono (unhide hb3).size))
      clear d0 d1 d2 hb2 hb3
      go_wp2
      go_ret
      rw [unhide hE]
      exact ⟨g, GrowJ.ofBelow (unhide hb4) hlt, rfl, fun h => by simp at h⟩
end Go.Proofs.Ytddjaockpdibdaa
