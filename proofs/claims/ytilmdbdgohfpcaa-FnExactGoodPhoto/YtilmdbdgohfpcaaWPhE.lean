/- The specification's cut of a photo. -/
import Derived.Test.YtilmdbdgohfpcaaPlainPh
import Derived.Test.YtilmdbdgohfpcaaWHeld
import Derived.Test.YtilmdbdgohfpcaaWUpd
import Derived.Test.YtilmdbdgohfpcaaWAppI
import Derived.Test.YtilmdbdgohfpcaaWPhA
namespace Go.Proofs.Ytilmdbdgohfpcaa
open Go.RowKit

/-- The sides of the planes, one behind the other. -/
def wsF (a : Int) (hf : Bool) (k : Nat) : List Int := a :: List.replicate (k - 1) (if hf then (a + 1) / 2 else a)
theorem wsF_one (a : Int) (hf : Bool) : wsF a hf 1 = [a] := rfl
theorem wsF_succ (a : Int) (hf : Bool) (k : Nat) (h : 1 ≤ k) : wsF a hf (k + 1) = wsF a hf k ++ [if hf then (a + 1) / 2 else a] := by
  unfold wsF
  rw [show k + 1 - 1 = (k - 1) + 1 by omega, List.replicate_succ', List.cons_append]
theorem wsF_length (a : Int) (hf : Bool) (k : Nat) (h : 1 ≤ k) : (wsF a hf k).length = k := by unfold wsF; simp; omega

theorem ownsRow_same {V V' : World} {base : Nat} {e : TypeId} {size n : Nat} {v : Value} {xs : List Value} (h : V.ownsRow base e size v n xs) (hk : ∀ g, v.ownBlock = some g → V'.heap[g]? = V.heap[g]?) : V'.ownsRow base e size v n xs := by
  refine ⟨h.1, ?_⟩
  rcases h.2 with hn | ⟨g, cap, cur, rfl, h1, h2, h3⟩
  · exact .inl hn
  · exact .inr ⟨g, cap, cur, rfl, h1, (hk g rfl).trans h2, h3⟩
theorem HeldF.same {W W' : World} {g : Nat} {cs : List Value} (h : HeldF W g cs) (e : W'.heap[g]? = W.heap[g]?) : HeldF W' g cs := by
  obtain ⟨⟨h1, h2⟩, h3⟩ := h
  have hl : g < W'.heap.size := by
    rcases Nat.lt_or_ge g W'.heap.size with h | h
    · exact h
    · rw [Array.getElem?_eq_none h, Array.getElem?_eq_getElem h1] at e; cases e
  refine ⟨⟨hl, fun j v hj => ?_⟩, fun j => ?_⟩
  · have := h2 j v hj
    unfold World.cell? at this ⊢
    rw [e]; exact this
  · have := h3 j
    unfold World.frozen? at this ⊢
    rw [e]; exact this
abbrev slv (g n c : Nat) : Value := .slice (some ⟨g, 0, none⟩) n c
/-- The shape under way: of the five blocks that are laid first the box of the photo, the answer, the two lists' first rows, the shape's struct. -/
structure ShSt (w W : World) (gw cw gh ch : Nat) (xs ys : List Int) (bx : List Value) (z2 z3 z4 : Value) : Prop where
  st : HeldF W (w.heap.size + 4) [slv gw xs.length cw, slv gh ys.length ch, z2, z3, z4]
  bx : HeldF W w.heap.size bx
  rx : HeldF W (w.heap.size + 1) [.slice none 0 0, .slice none 0 0, .int .i64 0, .int .i64 0, .int .i64 0]
  rw : W.ownsRow w.heap.size 3 1 (slv gw xs.length cw) xs.length (ints xs)
  rh : W.ownsRow w.heap.size 3 1 (slv gh ys.length ch) ys.length (ints ys)
  pw : gw = w.heap.size + 2 ∨ w.heap.size + 5 ≤ gw
  ph : gh = w.heap.size + 3 ∨ w.heap.size + 5 ≤ gh
  ne : gw ≠ gh
  be : Below w.heap.size w W
theorem ownOne (W : World) (b : Nat) (x : Int) (hb : b ≤ W.heap.size) : (W.alloc (.cells #[.int .i64 x] 3)).ownsRow b 3 1 (slv W.heap.size 1 1) 1 (ints [x]) :=
  ⟨rfl, .inr ⟨W.heap.size, 1, #[.int .i64 x], rfl, hb, heap_alloc_new W _, Nat.le_refl _, by unfold maxLen; omega, rfl, rfl⟩⟩
theorem shSt_new (w : World) (a b : Int) (bx : List Value) (z4 : Value) (t : TypeId) : ∃ W, ((((w.alloc (.cells bx.toArray 46)).alloc (.cells #[.slice none 0 0, .slice none 0 0, .int .i64 0, .int .i64 0, .int .i64 0] t)).alloc (.cells #[.int .i64 a] 3)).alloc (.cells #[.int .i64 b] 3)).alloc
      (.cells #[slv (w.heap.size + 1 + 1) 1 1, slv (w.heap.size + 1 + 1 + 1) 1 1, .int .i64 0, .int .i64 0, z4] t) = W ∧ ShSt w W (w.heap.size + 2) 1 (w.heap.size + 3) 1 [a] [b] bx (.int .i64 0) (.int .i64 0) z4 := by
  refine ⟨_, rfl, ?_⟩
  have hB := heldF_new w bx 46
  have s1 : (w.alloc (.cells bx.toArray 46)).heap.size = w.heap.size + 1 := by simp
  have b1 := (Below.refl w.heap.size w).alloc (Nat.le_refl _) (.cells bx.toArray 46)
  generalize w.alloc (.cells bx.toArray 46) = w1 at hB s1 b1 ⊢
  have u1 : Upd 0 0 w1 (w1.alloc (.cells #[.slice none 0 0, .slice none 0 0, .int .i64 0, .int .i64 0, .int .i64 0] t)) := Upd.of_below ((Below.refl w1.heap.size w1).alloc (Nat.le_refl _) _) 0 0
  have hR := heldF_new w1 [.slice none 0 0, .slice none 0 0, .int .i64 0, .int .i64 0, .int .i64 0] t
  have s2 : (w1.alloc (.cells #[.slice none 0 0, .slice none 0 0, .int .i64 0, .int .i64 0, .int .i64 0] t)).heap.size = w.heap.size + 2 := by simp; omega
  have b2 := b1.alloc (by omega) (.cells #[.slice none 0 0, .slice none 0 0, .int .i64 0, .int .i64 0, .int .i64 0] t)
  change HeldF (w1.alloc (.cells #[.slice none 0 0, .slice none 0 0, .int .i64 0, .int .i64 0, .int .i64 0] t)) w1.heap.size _ at hR
  replace hB := hB.keep u1
  generalize w1.alloc (.cells #[.slice none 0 0, .slice none 0 0, .int .i64 0, .int .i64 0, .int .i64 0] t) = w2 at hB hR s2 b2 ⊢
  rw [s1] at hR
  have u2 : Upd 0 0 w2 (w2.alloc (.cells #[.int .i64 a] 3)) := Upd.of_below ((Below.refl w2.heap.size w2).alloc (Nat.le_refl _) _) 0 0
  have hA := Own.of (ownOne w2 w.heap.size a (by omega))
  have s3 : (w2.alloc (.cells #[.int .i64 a] 3)).heap.size = w.heap.size + 3 := by simp; omega
  have b3 := b2.alloc (by omega) (.cells #[.int .i64 a] 3)
  replace hB := hB.keep u2
  replace hR := hR.keep u2
  generalize w2.alloc (.cells #[.int .i64 a] 3) = w3 at hB hR hA s3 b3 ⊢
  have u3 : Upd 0 0 w3 (w3.alloc (.cells #[.int .i64 b] 3)) := Upd.of_below ((Below.refl w3.heap.size w3).alloc (Nat.le_refl _) _) 0 0
  have hC := Own.of (ownOne w3 w.heap.size b (by omega))
  have s4 : (w3.alloc (.cells #[.int .i64 b] 3)).heap.size = w.heap.size + 4 := by simp; omega
  have b4 := b3.alloc (by omega) (.cells #[.int .i64 b] 3)
  replace hB := hB.keep u3
  replace hR := hR.keep u3
  replace hA := hA.keep u3
  generalize w3.alloc (.cells #[.int .i64 b] 3) = w4 at hB hR hA hC s4 b4 ⊢
  have u4 : Upd 0 0 w4 (w4.alloc (.cells #[slv (w.heap.size + 1 + 1) 1 1, slv (w.heap.size + 1 + 1 + 1) 1 1, .int .i64 0, .int .i64 0, z4] t)) := Upd.of_below ((Below.refl w4.heap.size w4).alloc (Nat.le_refl _) _) 0 0
  have hS := heldF_new w4 [slv (w.heap.size + 1 + 1) 1 1, slv (w.heap.size + 1 + 1 + 1) 1 1, .int .i64 0, .int .i64 0, z4] t
  rw [s4] at hS
  rw [s2] at hA
  rw [s3] at hC
  exact ⟨hS, hB.keep u4, hR.keep u4, (hA.keep u4).1, (hC.keep u4).1, .inl rfl, .inl rfl, by omega, b4.alloc (by omega) _⟩
theorem ShSt.append0 {w W W5 w6 : World} {gw cw gh ch : Nat} {xs ys : List Int} {bx : List Value} {z2 z3 z4 : Value} (h : ShSt w W gw cw gh ch xs ys bx z2 z3 z4) (x : Int) (hu : Upd 0 0 W W5)
    {g' c' : Nat} (ho : w6.ownsRow w.heap.size 3 1 (slv g' (xs.length + 1) c') (xs.length + 1) (ints xs ++ [.int .i64 x])) (hg : W5.grownBy w6 (slv gw xs.length cw).ownBlock) (hat : g' = gw ∨ g' = W5.heap.size) :
    ShSt w (w6.setCell ⟨w.heap.size + 4, 0, none⟩ (slv g' (xs.length + 1) c')) g' c' gh ch (xs ++ [x]) ys bx z2 z3 z4 ∧ HeldF w6 (w.heap.size + 4) [slv gw xs.length cw, slv gh ys.length ch, z2, z3, z4] := by
  obtain ⟨st, hbx, hrx, rw, rh, pw, ph, n1, be⟩ := h
  have hs := hu.size
  have lc := st.1.1
  have lb := hbx.1.1
  have lr := hrx.1.1
  have lo := (rh.lt gh rfl).2
  have blk : ∀ k, k < W.heap.size → k ≠ gw → w6.heap[k]? = W.heap[k]? := fun k hk hn => (hg.block k (by omega) (fun e => hn (by simpa [Value.ownBlock] using e))).trans (hu.block k hk (.inr (Nat.zero_le _)))
  have st6 := st.same (blk _ lc (by omega))
  have bx6 := hbx.same (blk _ lb (by omega))
  have rx6 := hrx.same (blk _ lr (by omega))
  have ro6 := ownsRow_same rh (fun g hq => by
    have : gh = g := by simpa [Value.ownBlock] using hq
    subst this
    exact blk gh lo (by omega))
  have be6 : Below w.heap.size w w6 := by
    refine be.trans ⟨hg.os.trans hu.os, hg.tape.trans hu.tape, hg.output.trans hu.output, Nat.le_trans hs hg.size, fun k hk => blk k (Nat.lt_of_lt_of_le hk be.size) (fun e => ?_)⟩
    have := (rw.lt gw rfl).1
    omega
  have pg : g' ≠ w.heap.size + 4 := by rcases hat with e | e <;> omega
  refine ⟨⟨?_, bx6.other (by omega) 0 _, rx6.other (by omega) 0 _, ?_, ?_, by rcases hat with e | e <;> omega, ph, by rcases hat with e | e <;> omega, be6.setCell (p := ⟨w.heap.size + 4, 0, none⟩) (show w.heap.size ≤ w.heap.size + 4 by omega) _⟩, st6⟩
  · have := st6.set 0 (slv g' (xs.length + 1) c') (by simp)
    rw [List.length_append]
    simpa using this
  · have e : ints (xs ++ [x]) = ints xs ++ [.int .i64 x] := by unfold ints; simp
    rw [e, List.length_append]
    refine ownsRow_same ho (fun g hq => ?_)
    have : g' = g := by simpa [Value.ownBlock] using hq
    subst this
    exact Below.heap_setCell _ _ _ g' (show g' ≠ w.heap.size + 4 by omega)
  · refine ownsRow_same ro6 (fun g hq => ?_)
    have : gh = g := by simpa [Value.ownBlock] using hq
    subst this
    exact Below.heap_setCell _ _ _ gh (show gh ≠ w.heap.size + 4 by omega)
theorem ShSt.append1 {w W W5 w6 : World} {gw cw gh ch : Nat} {xs ys : List Int} {bx : List Value} {z2 z3 z4 : Value} (h : ShSt w W gw cw gh ch xs ys bx z2 z3 z4) (x : Int) (hu : Upd 0 0 W W5)
    {g' c' : Nat} (ho : w6.ownsRow w.heap.size 3 1 (slv g' (ys.length + 1) c') (ys.length + 1) (ints ys ++ [.int .i64 x])) (hg : W5.grownBy w6 (slv gh ys.length ch).ownBlock) (hat : g' = gh ∨ g' = W5.heap.size) :
    ShSt w (w6.setCell ⟨w.heap.size + 4, 1, none⟩ (slv g' (ys.length + 1) c')) gw cw g' c' xs (ys ++ [x]) bx z2 z3 z4 ∧ HeldF w6 (w.heap.size + 4) [slv gw xs.length cw, slv gh ys.length ch, z2, z3, z4] := by
  obtain ⟨st, hbx, hrx, rw, rh, pw, ph, n1, be⟩ := h
  have hs := hu.size
  have lc := st.1.1
  have lb := hbx.1.1
  have lr := hrx.1.1
  have lo := (rw.lt gw rfl).2
  have blk : ∀ k, k < W.heap.size → k ≠ gh → w6.heap[k]? = W.heap[k]? := fun k hk hn => (hg.block k (by omega) (fun e => hn (by simpa [Value.ownBlock] using e))).trans (hu.block k hk (.inr (Nat.zero_le _)))
  have st6 := st.same (blk _ lc (by omega))
  have bx6 := hbx.same (blk _ lb (by omega))
  have rx6 := hrx.same (blk _ lr (by omega))
  have ro6 := ownsRow_same rw (fun g hq => by
    have : gw = g := by simpa [Value.ownBlock] using hq
    subst this
    exact blk gw lo (by omega))
  have be6 : Below w.heap.size w w6 := by
    refine be.trans ⟨hg.os.trans hu.os, hg.tape.trans hu.tape, hg.output.trans hu.output, Nat.le_trans hs hg.size, fun k hk => blk k (Nat.lt_of_lt_of_le hk be.size) (fun e => ?_)⟩
    have := (rh.lt gh rfl).1
    omega
  have pg : g' ≠ w.heap.size + 4 := by rcases hat with e | e <;> omega
  refine ⟨⟨?_, bx6.other (by omega) 1 _, rx6.other (by omega) 1 _, ?_, ?_, pw, by rcases hat with e | e <;> omega, by rcases hat with e | e <;> omega, be6.setCell (p := ⟨w.heap.size + 4, 1, none⟩) (show w.heap.size ≤ w.heap.size + 4 by omega) _⟩, st6⟩
  · have := st6.set 1 (slv g' (ys.length + 1) c') (by simp)
    rw [List.length_append]
    simpa using this
  · refine ownsRow_same ro6 (fun g hq => ?_)
    have : gw = g := by simpa [Value.ownBlock] using hq
    subst this
    exact Below.heap_setCell _ _ _ gw (show gw ≠ w.heap.size + 4 by omega)
  · have e : ints (ys ++ [x]) = ints ys ++ [.int .i64 x] := by unfold ints; simp
    rw [e, List.length_append]
    refine ownsRow_same ho (fun g hq => ?_)
    have : g' = g := by simpa [Value.ownBlock] using hq
    subst this
    exact Below.heap_setCell _ _ _ g' (show g' ≠ w.heap.size + 4 by omega)
theorem ShSt.set2 {w W : World} {gw cw gh ch : Nat} {xs ys : List Int} {bx : List Value} {z2 z3 z4 : Value} (h : ShSt w W gw cw gh ch xs ys bx z2 z3 z4) (u : Value) :
    ShSt w (W.setCell ⟨w.heap.size + 4, 2, none⟩ u) gw cw gh ch xs ys bx u z3 z4 := by
  obtain ⟨st, hbx, hrx, rw, rh, pw, ph, n1, be⟩ := h
  refine ⟨by simpa using st.set 2 u (by simp), hbx.other (by omega) 2 _, hrx.other (by omega) 2 _, ownsRow_same rw (fun g hq => ?_), ownsRow_same rh (fun g hq => ?_), pw, ph, n1, be.setCell (p := ⟨w.heap.size + 4, 2, none⟩) (show w.heap.size ≤ w.heap.size + 4 by omega) _⟩
  · have : gw = g := by simpa [Value.ownBlock] using hq
    subst this
    exact Below.heap_setCell _ _ _ gw (show gw ≠ w.heap.size + 4 by omega)
  · have : gh = g := by simpa [Value.ownBlock] using hq
    subst this
    exact Below.heap_setCell _ _ _ gh (show gh ≠ w.heap.size + 4 by omega)
theorem ShSt.set3 {w W : World} {gw cw gh ch : Nat} {xs ys : List Int} {bx : List Value} {z2 z3 z4 : Value} (h : ShSt w W gw cw gh ch xs ys bx z2 z3 z4) (u : Value) :
    ShSt w (W.setCell ⟨w.heap.size + 4, 3, none⟩ u) gw cw gh ch xs ys bx z2 u z4 := by
  obtain ⟨st, hbx, hrx, rw, rh, pw, ph, n1, be⟩ := h
  refine ⟨by simpa using st.set 3 u (by simp), hbx.other (by omega) 3 _, hrx.other (by omega) 3 _, ownsRow_same rw (fun g hq => ?_), ownsRow_same rh (fun g hq => ?_), pw, ph, n1, be.setCell (p := ⟨w.heap.size + 4, 3, none⟩) (show w.heap.size ≤ w.heap.size + 4 by omega) _⟩
  · have : gw = g := by simpa [Value.ownBlock] using hq
    subst this
    exact Below.heap_setCell _ _ _ gw (show gw ≠ w.heap.size + 4 by omega)
  · have : gh = g := by simpa [Value.ownBlock] using hq
    subst this
    exact Below.heap_setCell _ _ _ gh (show gh ≠ w.heap.size + 4 by omega)
theorem ShSt.set4 {w W : World} {gw cw gh ch : Nat} {xs ys : List Int} {bx : List Value} {z2 z3 z4 : Value} (h : ShSt w W gw cw gh ch xs ys bx z2 z3 z4) (u : Value) :
    ShSt w (W.setCell ⟨w.heap.size + 4, 4, none⟩ u) gw cw gh ch xs ys bx z2 z3 u := by
  obtain ⟨st, hbx, hrx, rw, rh, pw, ph, n1, be⟩ := h
  refine ⟨by simpa using st.set 4 u (by simp), hbx.other (by omega) 4 _, hrx.other (by omega) 4 _, ownsRow_same rw (fun g hq => ?_), ownsRow_same rh (fun g hq => ?_), pw, ph, n1, be.setCell (p := ⟨w.heap.size + 4, 4, none⟩) (show w.heap.size ≤ w.heap.size + 4 by omega) _⟩
  · have : gw = g := by simpa [Value.ownBlock] using hq
    subst this
    exact Below.heap_setCell _ _ _ gw (show gw ≠ w.heap.size + 4 by omega)
  · have : gh = g := by simpa [Value.ownBlock] using hq
    subst this
    exact Below.heap_setCell _ _ _ gh (show gh ≠ w.heap.size + 4 by omega)
abbrev fiveAt (W : World) (g : Nat) (u0 u1 u2 u3 u4 : Value) : World := ((((W.setCell ⟨g, 0, none⟩ u0).setCell ⟨g, 1, none⟩ u1).setCell ⟨g, 2, none⟩ u2).setCell ⟨g, 3, none⟩ u3).setCell ⟨g, 4, none⟩ u4
theorem five_block (W : World) (g k : Nat) (u0 u1 u2 u3 u4 : Value) (h : k ≠ g) : (fiveAt W g u0 u1 u2 u3 u4).heap[k]? = W.heap[k]? := by
  unfold fiveAt
  rw [Below.heap_setCell _ _ _ k h, Below.heap_setCell _ _ _ k h, Below.heap_setCell _ _ _ k h, Below.heap_setCell _ _ _ k h, Below.heap_setCell _ _ _ k h]
theorem ShSt.answer {w W : World} {gw cw gh ch : Nat} {xs ys : List Int} {bx : List Value} {z2 z3 z4 : Value} (h : ShSt w W gw cw gh ch xs ys bx z2 z3 z4) (u0 u1 u2 u3 u4 : Value) :
    HeldF (fiveAt W (w.heap.size + 1) u0 u1 u2 u3 u4) (w.heap.size + 1) [u0, u1, u2, u3, u4] ∧ OwnI (fiveAt W (w.heap.size + 1) u0 u1 u2 u3 u4) w.heap.size (fiveAt W (w.heap.size + 1) u0 u1 u2 u3 u4).heap.size (slv gw xs.length cw) xs ∧
      OwnI (fiveAt W (w.heap.size + 1) u0 u1 u2 u3 u4) w.heap.size (fiveAt W (w.heap.size + 1) u0 u1 u2 u3 u4).heap.size (slv gh ys.length ch) ys ∧ Upd 0 0 w (fiveAt W (w.heap.size + 1) u0 u1 u2 u3 u4) := by
  obtain ⟨st, hbx, hrx, rw, rh, pw, ph, n1, be⟩ := h
  refine ⟨?_, Own.of (ownsRow_same rw (fun g hq => ?_)), Own.of (ownsRow_same rh (fun g hq => ?_)), Upd.of_below ?_ 0 0⟩
  · simpa using ((((hrx.set 0 u0 (by simp)).set 1 u1 (by simp)).set 2 u2 (by simp)).set 3 u3 (by simp)).set 4 u4 (by simp)
  · have : gw = g := by simpa [Value.ownBlock] using hq
    subst this
    exact five_block W _ gw u0 u1 u2 u3 u4 (by omega)
  · have : gh = g := by simpa [Value.ownBlock] using hq
    subst this
    exact five_block W _ gh u0 u1 u2 u3 u4 (by omega)
  · unfold fiveAt
    exact ((((be.setCell (p := ⟨w.heap.size + 1, 0, none⟩) (by simp) _).setCell (p := ⟨w.heap.size + 1, 1, none⟩) (by simp) _).setCell (p := ⟨w.heap.size + 1, 2, none⟩) (by simp) _).setCell (p := ⟨w.heap.size + 1, 3, none⟩) (by simp) _).setCell (p := ⟨w.heap.size + 1, 4, none⟩) (by simp) _
end Go.Proofs.Ytilmdbdgohfpcaa
