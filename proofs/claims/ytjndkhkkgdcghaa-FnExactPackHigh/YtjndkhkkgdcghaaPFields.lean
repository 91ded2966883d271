/- Opening a list of fields: what the form's reading of it says of cells. -/
import Derived.Test.YtjndkhkkgdcghaaWFields3
import Derived.Test.YtjndkhkkgdcghaaPBytes
import Derived.Deep.SlicePairs
namespace Go.Proofs.Ytjndkhkkgdcghaa
open Go.ChangeShapes Go.WideShapes Go.ChangeAt Go.RowKit

theorem cellsF : Try.prog.cellsOf 71 = 2 := by kernel_rfl
theorem cellsI : Try.prog.cellsOf 3 = 1 := by kernel_rfl
theorem cellsU : Try.prog.cellsOf 27 = 1 := by kernel_rfl
theorem getD_range (f : Nat → Int × Int) (n j : Nat) (h : j < n) : ((List.range n).map f).getD j (0, 0) = f j := by
  rw [List.getD_eq_getElem?_getD, List.getElem?_map, List.getElem?_range h]; rfl
theorem getD_range_past (f : Nat → Int × Int) (n j : Nat) (h : n ≤ j) : ((List.range n).map f).getD j (0, 0) = (0, 0) := by
  rw [List.getD_eq_getElem?_getD, List.getElem?_eq_none (by simp; exact h)]; rfl

theorem open_fields {H : Type} {enc : TypeId × Value → H} {W : World} {base : Nat} {v : Value} {d : DataW H} {p : List MemPlace}
    (hv : Value.okWide Try.prog W .any base 43 v) (h0 : DataW.Trod enc Try.prog W 0 (fun _ => true) true 43 v d p) (hlt : ∀ x ∈ p, x.block < W.heap.size) :
    ∃ ad cap fs, v = .slice ad fs.length cap ∧ ArgF W ad fs ∧ fs.length ≤ 9223372036854775807 := by
  obtain ⟨a0, len, cap, rfl⟩ := okWide_slice Try.underlying43 hv
  obtain ⟨fuel, hf⟩ := h0
  rcases Go.Deep.open_slice_pairs Try.underlying43 Try.underlying71 cellsF rfl rfl cellsI cellsU hf with ⟨hcs, hx⟩ | ⟨a, len', cap', m, n, V0, V1, D0, D1, P0, P1, hcs, _, hl, hm, hz, hx, hcell⟩
  · simp [Value.cells] at hcs
    obtain ⟨rfl, rfl, rfl⟩ := hcs
    exact ⟨none, 0, [], rfl, ⟨fun j => by simp, fun h => absurd rfl h⟩, by simp⟩
  · simp [Value.cells] at hcs
    obtain ⟨rfl, rfl, rfl⟩ := hcs
    simp only [Prod.mk.injEq] at hx
    obtain ⟨rfl, rfl⟩ := hx
    simp only [if_true] at hz
    have each : ∀ i, i < len → W.cell? (a.add (i * 2)) = some (.int .i64 (intOf (V0 i))) ∧ W.cell? (a.add (i * 2 + 1)) = some (.int .u64 (intOf (V1 i))) ∧ (-9223372036854775808 ≤ intOf (V0 i) ∧ intOf (V0 i) ≤ 9223372036854775807) ∧ 0 ≤ intOf (V1 i) ∧ intOf (V1 i) < 18446744073709551616 := by
      intro i hi
      obtain ⟨e0, e1, t0, t1⟩ := hcell i (by omega)
      obtain ⟨n0, q0, _, w0⟩ := DataW.trod_int Try.underlying3 t0
      obtain ⟨n1, q1, _, w1⟩ := DataW.trod_int Try.underlying27 t1
      simp only [List.cons.injEq, and_true] at q0 q1
      rw [q0] at e0 ⊢
      rw [q1] at e1 ⊢
      exact ⟨e0, e1, i64_of_wf w0, (u64_of_wf w1).1, by have := (u64_of_wf w1).2; simp only [intOf]; omega⟩
    have hlen : ((List.range len).map fun i => (intOf (V0 i), intOf (V1 i))).length = len := by simp
    refine ⟨some a, cap, (List.range len).map fun i => (intOf (V0 i), intOf (V1 i)), by rw [hlen], ⟨?_, ?_⟩, by rw [hlen]; unfold maxLen at hm; omega⟩
    · intro j
      by_cases hj : j < len
      · rw [getD_range _ _ _ hj]; exact (each j hj).2.2
      · rw [getD_range_past _ _ _ (by omega)]; exact ⟨⟨by decide, by decide⟩, by decide, by decide⟩
    · intro hne
      have hpos : 0 < len := by
        rcases Nat.eq_zero_or_pos len with h | h
        · subst h; simp at hne
        · exact h
      obtain ⟨b, off, spot⟩ := a
      have hspot : spot = none := by simpa [Addr.add] using World.cell?_spot (each 0 hpos).1
      subst hspot
      refine ⟨b, off, rfl, hlt (.cell b off) (List.mem_append_left _ (MemPlace.mem_row.2 ⟨0, by omega, by simp⟩)), fun j hj => ?_⟩
      rw [hlen] at hj
      rw [getD_range _ _ _ hj]
      have := each j hj
      rw [add_plain, add_plain, ← Nat.add_assoc] at this
      exact ⟨this.1, this.2.1⟩
end Go.Proofs.Ytjndkhkkgdcghaa
