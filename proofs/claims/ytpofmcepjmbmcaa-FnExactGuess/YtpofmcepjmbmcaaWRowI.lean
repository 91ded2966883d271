/- A row of ints of a call's own, made full, under way: its cells, stores into it and into others. -/
import Derived.Test.YtpofmcepjmbmcaaWAppI
import Derived.Test.YtpofmcepjmbmcaaWOwn2
import Derived.Test.YtpofmcepjmbmcaaWInts
namespace Go.Proofs.Ytpofmcepjmbmcaa
open Go.RowKit

def RowI (w : World) (g n : Nat) (xs : List Value) : Prop := w.ownsRow g 3 1 (.slice (some ⟨g, 0, none⟩) n n) n xs
theorem RowI.own {w : World} {g n : Nat} {xs : List Value} (h : RowI w g n xs) : Own 3 1 w g (g + 1) (.slice (some ⟨g, 0, none⟩) n n) n xs :=
  ⟨h, fun k hk => by simp [Value.ownBlock] at hk; omega⟩
theorem RowI.upd {w w' : World} {g n c e : Nat} {xs : List Value} (h : RowI w g n xs) (u : Upd c e w w') (hd : g + 1 ≤ c ∨ e ≤ g) : RowI w' g n xs := (h.own.upd u hd).1
theorem RowI.keep {w w' : World} {g n : Nat} {xs : List Value} (h : RowI w g n xs) (u : Upd 0 0 w w') : RowI w' g n xs := h.upd u (.inr (Nat.zero_le _))
theorem RowI.other {w : World} {g n c : Nat} {xs : List Value} (h : RowI w g n xs) (hne : c ≠ g) (o : Nat) (u : Value) : RowI (w.setCell ⟨c, o, none⟩ u) g n xs :=
  h.upd ((Upd.refl c (c + 1) w).setCell ⟨Nat.le_refl _, Nat.lt_succ_self _⟩ o u) (by omega)
theorem RowI.set {w : World} {g n : Nat} {xs : List Value} (h : RowI w g n xs) (k : Nat) (u : Value) : RowI (w.setCell ⟨g, k, none⟩ u) g n (xs.set k u) := (World.ownsRow.stored h k u).1
theorem RowI.len {w : World} {g n : Nat} {xs : List Value} (h : RowI w g n xs) : xs.length = n := by have h' : w.ownsRow g 3 1 (.slice (some ⟨g, 0, none⟩) n n) n xs := h; have := h'.1; omega
theorem RowI.cell {w : World} {g n : Nat} {xs : List Value} (h : RowI w g n xs) (k : Nat) (hk : k < n) : w.cell? ⟨g, k, none⟩ = xs[k]? := World.ownsRow.cellAt h k (by omega)
theorem RowI.frozen {w : World} {g n : Nat} {xs : List Value} (h : RowI w g n xs) (k : Nat) : w.frozen? ⟨g, k, none⟩ = false := World.ownsRow.frozenAt h k
theorem RowI.has {w : World} {g n : Nat} {xs : List Value} (h : RowI w g n xs) (k : Nat) (hk : k < n) : ∃ u, w.cell? ⟨g, k, none⟩ = some u := by
  rw [h.cell k hk]; exact ⟨_, List.getElem?_eq_getElem (by have := h.len; omega)⟩
theorem RowI.lt {w : World} {g n : Nat} {xs : List Value} (h : RowI w g n xs) : g < w.heap.size := by
  have h' : w.ownsRow g 3 1 (.slice (some ⟨g, 0, none⟩) n n) n xs := h
  exact (h'.lt g rfl).2
theorem RowI.ownI {w : World} {g : Nat} {zs : List Int} (h : RowI w g zs.length (ints zs)) : OwnI w g (g + 1) (.slice (some ⟨g, 0, none⟩) zs.length zs.length) zs := h.own
theorem RowI.alloc {w : World} {g n : Nat} {xs : List Value} (h : RowI w g n xs) (o : Obj) : RowI (w.alloc o) g n xs :=
  h.keep (Upd.of_below ((Below.refl w.heap.size w).alloc (Nat.le_refl _) o) 0 0)
theorem alloc_newR (w : World) (o : Obj) : (w.alloc o).heap[w.heap.size]? = Option.some o := by unfold World.alloc; simp
/-- A row of n numbers made in any world. -/
theorem mkRowI (n : Nat) (hn : n ≤ 1048576) : ∃ o : Obj, ∀ (X : World), (Instr.makeSlice 29 (.int .i64 (n : Int)) (.int .i64 (n : Int))).run Try.prog X = .ok (.slice (some ⟨X.heap.size, 0, none⟩) n n) (X.alloc o) ∧
    RowI (X.alloc o) X.heap.size n (List.replicate n (.int .i64 0)) := by
  obtain ⟨i0, hi, hz0, hz1, hz2⟩ := info_parts infoI
  refine ⟨.cells (madeCells (Value.int .i64 0).cells ((n : Int).toNat * i0.size)) 3, fun X => ⟨?_, ?_⟩⟩
  · have h := run_makeSlice (P := Try.prog) (w := X) 29 3 i0 (.int .i64 0) Try.underlying29 hi hz0 .i64 .i64 (n : Int) (n : Int) (by omega) (by omega) (by rw [hz1]; omega) (by rw [hz2]; omega) (by omega)
    simpa using h
  · refine ⟨by simp, .inr ⟨X.heap.size, n, _, rfl, Nat.le_refl _, alloc_newR X _, Nat.le_refl _, by unfold maxLen; omega, by rw [size_madeCells, hz1]; simp, ?_⟩⟩
    rw [hz1]
    simp [toList_madeCells_one, Value.cells]
end Go.Proofs.Ytpofmcepjmbmcaa
