/- The walks of TakeLow and TakeHigh: the program's small parts. -/
import Derived.Test.YtpofmcepjmbmcaaPlainT
import Derived.Test.YtpofmcepjmbmcaaWBytes2
namespace Go.Proofs.Ytpofmcepjmbmcaa
open Go.RowKit

/-- The reader in the variable at block r. -/
def ReaderAt (w : World) (r : Nat) (o : Int) (s : Value) (p : Int) : Prop := r < w.heap.size ∧ w.cell? ⟨r, 0, none⟩ = some (.int .i64 o) ∧ w.cell? ⟨r, 1, none⟩ = some s ∧ w.cell? ⟨r, 2, none⟩ = some (.int .i64 p)

/-- The world is as it was but for block r, and for what is new. -/
structure OnlyAt (r : Nat) (w w' : World) : Prop where
  os : w'.os = w.os
  tape : w'.tape = w.tape
  output : w'.output = w.output
  size : w.heap.size ≤ w'.heap.size
  block : ∀ k, k < w.heap.size → k ≠ r → w'.heap[k]? = w.heap[k]?
theorem OnlyAt.refl (r : Nat) (w : World) : OnlyAt r w w := ⟨rfl, rfl, rfl, Nat.le_refl _, fun _ _ _ => rfl⟩
theorem OnlyAt.trans {r : Nat} {a w w' : World} (h : OnlyAt r a w) (k : OnlyAt r w w') : OnlyAt r a w' :=
  ⟨k.os.trans h.os, k.tape.trans h.tape, k.output.trans h.output, Nat.le_trans h.size k.size, fun i hi hn => (k.block i (Nat.lt_of_lt_of_le hi h.size) hn).trans (h.block i hi hn)⟩
theorem OnlyAt.drewN {r : Nat} {a w : World} (h : OnlyAt r a w) (n : Nat) : OnlyAt r a (w.drewN n) := h.trans ⟨rfl, rfl, rfl, Nat.le_refl _, fun _ _ _ => rfl⟩
theorem OnlyAt.setCell {r : Nat} {a w : World} (h : OnlyAt r a w) (o : Nat) (u : Value) : OnlyAt r a (w.setCell ⟨r, o, none⟩ u) :=
  h.trans ⟨rfl, rfl, rfl, by simp, fun k _ hk => Below.heap_setCell w ⟨r, o, none⟩ u k hk⟩
theorem OnlyAt.cell {r : Nat} {w w' : World} (h : OnlyAt r w w') {p : Addr} (hp : p.block < w.heap.size) (hr : p.block ≠ r) : w'.cell? p = w.cell? p := World.cell?_of_block (h.block p.block hp hr)
theorem OnlyAt.frozen {r : Nat} {w w' : World} (h : OnlyAt r w w') {p : Addr} (hp : p.block < w.heap.size) (hr : p.block ≠ r) : w'.frozen? p = w.frozen? p := World.frozen?_of_block (h.block p.block hp hr)
theorem OnlyAt.below {r B : Nat} {w w' : World} (h : OnlyAt r w w') (hB : B ≤ r) (hs : B ≤ w.heap.size) : Below B w w' :=
  ⟨h.os, h.tape, h.output, h.size, fun k hk => h.block k (by omega) (by omega)⟩
theorem ReaderAt.drewN {w : World} {r : Nat} {o : Int} {s : Value} {p : Int} (h : ReaderAt w r o s p) (nq : Nat) : ReaderAt (w.drewN nq) r o s p := h
theorem ReaderAt.moved {w : World} {r : Nat} {o : Int} {s : Value} {p : Int} (h : ReaderAt w r o s p) (q : Int) : ReaderAt (w.setCell ⟨r, 2, none⟩ (.int .i64 q)) r o s q := by
  obtain ⟨h0, h1, h2, h3⟩ := h
  refine ⟨by simpa using h0, ?_, ?_, ?_⟩
  · rw [World.cell?_setCell_other _ _ _ _ (by simp)]; exact h1
  · rw [World.cell?_setCell_other _ _ _ _ (by simp)]; exact h2
  · exact World.cell?_setCell_same _ _ _ h3

end Go.Proofs.Ytpofmcepjmbmcaa
