/- A row of ints of a call's own, of any capacity, under way: its cells, stores into it and into others. -/
import Derived.Test.YtpofmcepjmbmcaaWAppI
import Derived.Test.YtpofmcepjmbmcaaWOwn2
import Derived.Test.YtpofmcepjmbmcaaWInts
namespace Go.Proofs.Ytpofmcepjmbmcaa
open Go.RowKit

def RowJ (w : World) (g n cap : Nat) (xs : List Value) : Prop := w.ownsRow g 3 1 (.slice (some ⟨g, 0, none⟩) n cap) n xs
theorem RowJ.own {w : World} {g n cap : Nat} {xs : List Value} (h : RowJ w g n cap xs) : Own 3 1 w g (g + 1) (.slice (some ⟨g, 0, none⟩) n cap) n xs :=
  ⟨h, fun k hk => by simp [Value.ownBlock] at hk; omega⟩
theorem RowJ.upd {w w' : World} {g n cap c e : Nat} {xs : List Value} (h : RowJ w g n cap xs) (u : Upd c e w w') (hd : g + 1 ≤ c ∨ e ≤ g) : RowJ w' g n cap xs := (h.own.upd u hd).1
theorem RowJ.keep {w w' : World} {g n cap : Nat} {xs : List Value} (h : RowJ w g n cap xs) (u : Upd 0 0 w w') : RowJ w' g n cap xs := h.upd u (.inr (Nat.zero_le _))
theorem RowJ.other {w : World} {g n cap c : Nat} {xs : List Value} (h : RowJ w g n cap xs) (hne : c ≠ g) (o : Nat) (u : Value) : RowJ (w.setCell ⟨c, o, none⟩ u) g n cap xs :=
  h.upd ((Upd.refl c (c + 1) w).setCell ⟨Nat.le_refl _, Nat.lt_succ_self _⟩ o u) (by omega)
theorem RowJ.set {w : World} {g n cap : Nat} {xs : List Value} (h : RowJ w g n cap xs) (k : Nat) (u : Value) : RowJ (w.setCell ⟨g, k, none⟩ u) g n cap (xs.set k u) := (World.ownsRow.stored h k u).1
theorem RowJ.len {w : World} {g n cap : Nat} {xs : List Value} (h : RowJ w g n cap xs) : xs.length = n := by have h' : w.ownsRow g 3 1 (.slice (some ⟨g, 0, none⟩) n cap) n xs := h; have := h'.1; omega
theorem RowJ.cell {w : World} {g n cap : Nat} {xs : List Value} (h : RowJ w g n cap xs) (k : Nat) (hk : k < n) : w.cell? ⟨g, k, none⟩ = xs[k]? := World.ownsRow.cellAt h k (by omega)
theorem RowJ.frozen {w : World} {g n cap : Nat} {xs : List Value} (h : RowJ w g n cap xs) (k : Nat) : w.frozen? ⟨g, k, none⟩ = false := World.ownsRow.frozenAt h k
theorem RowJ.has {w : World} {g n cap : Nat} {xs : List Value} (h : RowJ w g n cap xs) (k : Nat) (hk : k < n) : ∃ u, w.cell? ⟨g, k, none⟩ = some u := by
  rw [h.cell k hk]; exact ⟨_, List.getElem?_eq_getElem (by have := h.len; omega)⟩
theorem RowJ.lt {w : World} {g n cap : Nat} {xs : List Value} (h : RowJ w g n cap xs) : g < w.heap.size := by
  have h' : w.ownsRow g 3 1 (.slice (some ⟨g, 0, none⟩) n cap) n xs := h
  exact (h'.lt g rfl).2
theorem RowJ.ownI {w : World} {g cap : Nat} {zs : List Int} (h : RowJ w g zs.length cap (ints zs)) : OwnI w g (g + 1) (.slice (some ⟨g, 0, none⟩) zs.length cap) zs := h.own
theorem RowJ.alloc {w : World} {g n cap : Nat} {xs : List Value} (h : RowJ w g n cap xs) (o : Obj) : RowJ (w.alloc o) g n cap xs :=
  h.keep (Upd.of_below ((Below.refl w.heap.size w).alloc (Nat.le_refl _) o) 0 0)
/-- A list of a call's own, of at least one number, as a row. -/
theorem rowJ_of_own {w : World} {a b : Nat} {v : Value} {zs : List Int} (h : OwnI w a b v zs) (hne : 0 < zs.length) : ∃ g cap, v = .slice (some ⟨g, 0, none⟩) zs.length cap ∧ a ≤ g ∧ g < b ∧ zs.length ≤ cap ∧ RowJ w g zs.length cap (ints zs) := by
  obtain ⟨⟨h1, h2⟩, h3⟩ := h
  rcases h2 with ⟨rfl, hn⟩ | ⟨g, cap, cur, rfl, h4, h5, h6⟩
  · omega
  · exact ⟨g, cap, rfl, h4, h3 g rfl, h6.1, h1, .inr ⟨g, cap, cur, rfl, Nat.le_refl _, h5, h6⟩⟩
/-- How a list is read that may be cut. -/
def RdX (w : World) (u : Value) (ys : List Int) : Prop := (u = .slice none 0 0 ∧ ys = []) ∨ ∃ b off cap, u = .slice (some ⟨b, off, none⟩) ys.length cap ∧ ys.length ≤ cap ∧ b < w.heap.size ∧ KindAt .i64 w b off ys
theorem RdX.rj {w : World} {u : Value} {ys : List Int} (h : RdX w u ys) : RdJ w u ys := by
  rcases h with h | ⟨b, off, cap, e, _, h1, h2⟩
  · exact .inl h
  · exact .inr ⟨b, off, cap, e, h1, h2⟩
theorem RdX.rd {w : World} {u : Value} {ys : List Int} (h : RdX w u ys) : RdI w u ys := by
  rcases h with ⟨rfl, rfl⟩ | ⟨b, off, cap, rfl, _, h1, h2⟩
  · exact ⟨none, 0, rfl, fun h => absurd rfl h⟩
  · exact ⟨_, cap, rfl, fun _ => ⟨b, off, rfl, h1, h2⟩⟩
theorem RdX.below {w w' : World} {u : Value} {ys : List Int} (h : RdX w u ys) (hb : Below w.heap.size w w') : RdX w' u ys := by
  rcases h with h | ⟨b, off, cap, e, h0, h1, h2⟩
  · exact .inl h
  · exact .inr ⟨b, off, cap, e, h0, Nat.lt_of_lt_of_le h1 hb.size, fun j hj => (hb.cell (by simpa using h1)).trans (h2 j hj)⟩
theorem rdX_of_own {w : World} {a b : Nat} {v : Value} {zs : List Int} (h : OwnI w a b v zs) : RdX w v zs := by
  obtain ⟨ad, cap, rfl, hA⟩ := OwnI.rd h
  rcases h.1.2 with ⟨e, hn⟩ | ⟨g, cap', cur, e, h4, h5, h6⟩
  · exact .inl ⟨e, List.length_eq_zero_iff.1 hn⟩
  · simp only [Value.slice.injEq] at e
    obtain ⟨rfl, _, rfl⟩ := e
    refine .inr ⟨g, 0, cap, rfl, h6.1, (h.1.lt g rfl).2, fun j hj => ?_⟩
    obtain ⟨b', off', e', _, hc⟩ := hA (ne_of_lt_length hj)
    simp only [Option.some.injEq, Addr.mk.injEq] at e'
    obtain ⟨rfl, rfl, _⟩ := e'
    exact hc j hj
theorem partSet_start (k : Nat) (xs A : List Int) (h : A.take k = xs.take k) : partSet .i64 (ints xs) A k = ints xs := by
  unfold partSet ints
  rw [h, ← List.map_drop, ← List.map_append, List.take_append_drop]
theorem partSet_cell (k : Nat) (xs A : List Int) (hk : k < xs.length) (hl : A.length = xs.length) : (partSet .i64 (ints xs) A k)[k]? = some (.int .i64 (xs.getD k 0)) := by
  unfold partSet ints
  rw [List.getElem?_append_right (by simp; omega)]
  simp only [List.length_map, List.length_take]
  rw [Nat.min_eq_left (by omega), Nat.sub_self, List.getElem?_drop, Nat.add_zero]
  exact getD_map_int xs .i64 k hk
end Go.Proofs.Ytpofmcepjmbmcaa
