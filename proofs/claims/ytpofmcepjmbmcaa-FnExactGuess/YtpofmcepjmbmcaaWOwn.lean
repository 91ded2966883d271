/- Memory of the call's own, by the blocks in which it lies: what a step keeps, and what a value in such blocks reads as. -/
import Derived.Test.YtpofmcepjmbmcaaWBytes
namespace Go.Proofs.Ytpofmcepjmbmcaa
open Go.RowKit

/-- The world is as it was but for the blocks from a on, below b, and for what is new. -/
structure Upd (a b : Nat) (w w' : World) : Prop where
  os : w'.os = w.os
  tape : w'.tape = w.tape
  output : w'.output = w.output
  size : w.heap.size ≤ w'.heap.size
  block : ∀ k, k < w.heap.size → (k < a ∨ b ≤ k) → w'.heap[k]? = w.heap[k]?
theorem Upd.refl (a b : Nat) (w : World) : Upd a b w w := ⟨rfl, rfl, rfl, Nat.le_refl _, fun _ _ _ => rfl⟩
theorem Upd.trans {a b : Nat} {x w w' : World} (h : Upd a b x w) (k : Upd a b w w') : Upd a b x w' :=
  ⟨k.os.trans h.os, k.tape.trans h.tape, k.output.trans h.output, Nat.le_trans h.size k.size, fun i hi hn => (k.block i (Nat.lt_of_lt_of_le hi h.size) hn).trans (h.block i hi hn)⟩
theorem Upd.drewN {a b : Nat} {x w : World} (h : Upd a b x w) (n : Nat) : Upd a b x (w.drewN n) := h.trans ⟨rfl, rfl, rfl, Nat.le_refl _, fun _ _ _ => rfl⟩
theorem Upd.setCell {a b : Nat} {x w : World} (h : Upd a b x w) {r : Nat} (hr : a ≤ r ∧ r < b) (o : Nat) (u : Value) : Upd a b x (w.setCell ⟨r, o, none⟩ u) :=
  h.trans ⟨rfl, rfl, rfl, by simp, fun k _ hk => Below.heap_setCell w ⟨r, o, none⟩ u k (by simp; omega)⟩
theorem Upd.of_below {w w' : World} (h : Below w.heap.size w w') (a b : Nat) : Upd a b w w' := ⟨h.os, h.tape, h.output, h.size, fun k hk _ => h.block k hk⟩
theorem Upd.below {B a b : Nat} {w w' : World} (h : Upd a b w w') (hB : B ≤ w.heap.size) (ha : B ≤ a ∨ b ≤ a) : Below B w w' :=
  ⟨h.os, h.tape, h.output, h.size, fun k hk => h.block k (by omega) (by omega)⟩
theorem Upd.none {w w' : World} (h : Upd 0 0 w w') : Below w.heap.size w w' := h.below (Nat.le_refl _) (.inr (Nat.le_refl _))
theorem below_upd {B a b : Nat} {x w w' : World} (h : Below B x w) (k : Upd a b w w') (hx : B ≤ x.heap.size) (ha : B ≤ a ∨ b ≤ a) : Below B x w' :=
  h.trans (k.below (Nat.le_trans hx h.size) ha)

/-- A value of the call's own: its elements lie in a block from a on, below b. -/
def Own (e : TypeId) (s : Nat) (w : World) (a b : Nat) (v : Value) (n : Nat) (xs : List Value) : Prop := w.ownsRow a e s v n xs ∧ ∀ k, v.ownBlock = some k → k < b
theorem Own.of {e : TypeId} {s : Nat} {w : World} {a : Nat} {v : Value} {n : Nat} {xs : List Value} (h : w.ownsRow a e s v n xs) : Own e s w a w.heap.size v n xs := ⟨h, fun k hk => (h.lt k hk).2⟩
theorem Own.upd {e : TypeId} {s : Nat} {w w' : World} {a b c d : Nat} {v : Value} {n : Nat} {xs : List Value} (h : Own e s w a b v n xs) (u : Upd c d w w') (hd : b ≤ c ∨ d ≤ a) : Own e s w' a b v n xs := by
  refine ⟨⟨h.1.1, ?_⟩, h.2⟩
  rcases h.1.2 with hn | ⟨g, cap, cur, rfl, h1, h2, h3⟩
  · exact .inl hn
  · have hl := h.1.lt g rfl
    have hb := h.2 g rfl
    exact .inr ⟨g, cap, cur, rfl, h1, by rw [u.block g hl.2 (by omega)]; exact h2, h3⟩
theorem Own.keep {e : TypeId} {s : Nat} {w w' : World} {a b : Nat} {v : Value} {n : Nat} {xs : List Value} (h : Own e s w a b v n xs) (u : Upd 0 0 w w') : Own e s w' a b v n xs := h.upd u (.inr (Nat.zero_le _))

theorem own_mono {e : TypeId} {s : Nat} {w : World} {a b a' b' : Nat} {v : Value} {n : Nat} {xs : List Value} (h : Own e s w a b v n xs) (ha : a' ≤ a) (hb : b ≤ b') : Own e s w a' b' v n xs := by
  refine ⟨⟨h.1.1, ?_⟩, fun k hk => Nat.lt_of_lt_of_le (h.2 k hk) hb⟩
  rcases h.1.2 with hn | ⟨g, cap, cur, rfl, h1, h2, h3⟩
  · exact .inl hn
  · exact .inr ⟨g, cap, cur, rfl, Nat.le_trans ha h1, h2, h3⟩

/-- Cells of numbers of a kind. -/
def KindAt (k : IntKind) (w : World) (b off : Nat) (zs : List Int) : Prop := ∀ j, j < zs.length → w.cell? ⟨b, off + j, none⟩ = some (.int k (zs.getD j 0))
/-- Numbers that can be read: where there are any, in the cells of a block. -/
def ReadK (k : IntKind) (w : World) (ad : Option Addr) (zs : List Int) : Prop := zs ≠ [] → ∃ b off, ad = some ⟨b, off, none⟩ ∧ b < w.heap.size ∧ KindAt k w b off zs
theorem ReadK.below {k : IntKind} {w w' : World} {ad : Option Addr} {zs : List Int} (h : ReadK k w ad zs) (hb : Below w.heap.size w w') : ReadK k w' ad zs := by
  intro hne
  obtain ⟨b, off, e, hl, hc⟩ := h hne
  exact ⟨b, off, e, Nat.lt_of_lt_of_le hl hb.size, fun j hj => (hb.cell (by simpa using hl)).trans (hc j hj)⟩
theorem ne_of_lt_length {α : Type} {k : Nat} {zs : List α} (h : k < zs.length) : zs ≠ [] := by rintro rfl; simp at h
theorem readK_of_own {k : IntKind} {e : TypeId} {w : World} {a b : Nat} {v : Value} {zs : List Int} (h : Own e 1 w a b v zs.length (zs.map (.int k))) :
    ∃ ad cap, v = .slice ad zs.length cap ∧ ReadK k w ad zs := by
  rcases h.1.2 with ⟨rfl, hn⟩ | ⟨g, cap, cur, rfl, h1, h2, h3⟩
  · refine ⟨none, 0, by rw [hn], fun hne => absurd (List.length_eq_zero_iff.1 hn) hne⟩
  · refine ⟨some ⟨g, 0, none⟩, cap, rfl, fun _ => ⟨g, 0, rfl, (h.1.lt g rfl).2, fun j hj => ?_⟩⟩
    rw [Nat.zero_add, h.1.cellAt j (by omega)]
    exact getD_map_int zs k j hj
/-- The numbers that a marking leaves. -/
def marks (k n : Nat) : List Int := (List.range n).map fun j => ((k + j : Nat) : Int)
def marksB (k n : Nat) : List Int := (List.range n).map fun j => (((k + j) % 256 : Nat) : Int)
@[simp] theorem marks_length (k n : Nat) : (marks k n).length = n := by simp [marks]
@[simp] theorem marksB_length (k n : Nat) : (marksB k n).length = n := by simp [marksB]
theorem marks_getD (k n j : Nat) (h : j < n) : (marks k n).getD j 0 = ((k + j : Nat) : Int) := by simp [marks, h]
theorem marksB_getD (k n j : Nat) (h : j < n) : (marksB k n).getD j 0 = (((k + j) % 256 : Nat) : Int) := by simp [marksB, h]
/-- A row of which the first t elements are new. -/
def partSet (k : IntKind) (xs : List Value) (zs : List Int) (t : Nat) : List Value := (zs.take t).map (.int k) ++ xs.drop t
theorem partSet_zero (k : IntKind) (xs : List Value) (zs : List Int) : partSet k xs zs 0 = xs := by simp [partSet]
theorem partSet_all (k : IntKind) (xs : List Value) (zs : List Int) (h : xs.length = zs.length) : partSet k xs zs zs.length = zs.map (.int k) := by
  unfold partSet; rw [List.take_length, ← h, List.drop_length, List.append_nil]
theorem partSet_set (k : IntKind) (xs : List Value) (zs : List Int) (t : Nat) (h : t < zs.length) (hl : xs.length = zs.length) : (partSet k xs zs t).set t (.int k (zs.getD t 0)) = partSet k xs zs (t + 1) := by
  unfold partSet
  rw [take_snoc_getD zs 0 t h, List.map_append, List.set_append, if_neg (by simp; omega), List.append_assoc]
  congr 1
  have e : (xs.drop t) = xs[t] :: xs.drop (t + 1) := by rw [List.drop_eq_getElem_cons]
  simp [Nat.min_eq_left (Nat.le_of_lt h)]
  rw [e]; rfl
theorem partSet_length (k : IntKind) (xs : List Value) (zs : List Int) (t : Nat) (h : t ≤ zs.length) (hl : xs.length = zs.length) : (partSet k xs zs t).length = zs.length := by
  unfold partSet; simp; omega
theorem upd_of_same {P : Program} {f : FuncId} {args : Array Value} {w : World} {r : Ending} (h : Calls P f args w fun e w' => e = r ∧ w' = w) : Calls P f args w fun e w' => e = r ∧ Upd 0 0 w w' := by
  refine h.mono ?_
  rintro e w' ⟨rfl, rfl⟩
  exact ⟨rfl, Upd.refl _ _ _⟩
theorem upd_of_belowC {P : Program} {f : FuncId} {args : Array Value} {w : World} {r : Ending} (h : Calls P f args w fun e w' => e = r ∧ Below w.heap.size w w') : Calls P f args w fun e w' => e = r ∧ Upd 0 0 w w' := by
  refine h.mono ?_
  rintro e w' ⟨he, hb⟩
  exact ⟨he, Upd.of_below hb _ _⟩
/-- The first cells of a block. -/
def Held (w : World) (g : Nat) (cs : List Value) : Prop := g < w.heap.size ∧ ∀ j v, cs[j]? = some v → w.cell? ⟨g, j, none⟩ = some v
theorem held_new (w : World) (cs : List Value) (t : TypeId) : Held (w.alloc (.cells cs.toArray t)) w.heap.size cs := by
  refine ⟨by simp, fun j v h => ?_⟩
  rw [World.cell?_alloc_at _ _ _ _ rfl]; simpa using h
theorem Held.upd {w w' : World} {g c e : Nat} {cs : List Value} (h : Held w g cs) (u : Upd c e w w') (hd : g + 1 ≤ c ∨ e ≤ g) : Held w' g cs := by
  refine ⟨Nat.lt_of_lt_of_le h.1 u.size, fun j v hj => ?_⟩
  rw [World.cell?_of_block (w := w) (a := ⟨g, j, none⟩) (u.block g h.1 (by omega))]
  exact h.2 j v hj
theorem Held.keep {w w' : World} {g : Nat} {cs : List Value} (h : Held w g cs) (u : Upd 0 0 w w') : Held w' g cs := h.upd u (.inr (Nat.zero_le _))
def InI (zs : List Int) : Prop := ∀ j, -9223372036854775808 ≤ zs.getD j 0 ∧ zs.getD j 0 ≤ 9223372036854775807
end Go.Proofs.Ytpofmcepjmbmcaa
