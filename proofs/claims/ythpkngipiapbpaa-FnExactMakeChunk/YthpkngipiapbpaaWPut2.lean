/- The walk of PutNumber: the specification's. -/
import Derived.Test.YthpkngipiapbpaaWPut
namespace Go.Proofs.Ythpkngipiapbpaa
open Go.RowKit

theorem putL_len (n : Nat) : ∀ l, l ≤ 9 → n < 2 ^ (64 - 7 * l) → (putL n).length + l ≤ 10 := by
  induction n using Nat.strongRecOn with
  | ind n ih =>
    intro l hl hn
    by_cases h : n < 128
    · rw [putL_last n h]; simp; omega
    · have hs := put_step n l h hn
      have := ih (n / 128) (by omega) (l + 1) (by omega) hs.2
      rw [putL_more n h, List.length_cons]; omega
theorem owns_below {w w' : World} {base : Nat} {e : TypeId} {size g n cap : Nat} {xs : List Value} (h : w.ownsRow base e size (.slice (some ⟨g, 0, none⟩) n cap) n xs) (hb : Below w.heap.size w w') : w'.ownsRow base e size (.slice (some ⟨g, 0, none⟩) n cap) n xs :=
  h.kept (row := none) ⟨hb.os, hb.tape, hb.output, hb.size, fun k hk _ => hb.block k hk⟩ (.inr (by simp [Value.ownBlock]))
theorem OwnB.only {w w' : World} {r g : Nat} {zs : List Int} (h : OwnB w g zs) (ho : OnlyAt r w w') (hne : g ≠ r) : OwnB w' g zs :=
  ⟨Nat.lt_of_lt_of_le h.1 ho.size, fun j hj => (ho.cell (by simpa using h.1) (by simpa using hne)).trans (h.2 j hj)⟩
theorem Marked.below {w w' : World} {g n k : Nat} (h : Marked w g n k) (hg : g < w.heap.size) (hb : Below w.heap.size w w') : Marked w' g n k :=
  fun j hj => (hb.cell (by simpa using hg)).trans (h j hj)
end Go.Proofs.Ythpkngipiapbpaa
