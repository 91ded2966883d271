/- Opening a list of lists of ints: what the form's reading of it says of cells. -/
import Derived.Test.YtocoeodoihdkgaaWLLl
import Derived.Test.YtocoeodoihdkgaaPOpenR
import Derived.Test.YtocoeodoihdkgaaPEach
import Derived.Deep.SlicePairs
namespace Go.Proofs.Ytocoeodoihdkgaa
open Go.ChangeShapes Go.WideShapes Go.ChangeAt Go.RowKit

theorem cellsLLl : Try.prog.cellsOf 23 = 1 := by kernel_rfl

set_option maxRecDepth 100000 in
set_option maxHeartbeats 1000000 in
theorem open_Ll_row {H : Type} {enc : TypeId × Value → H} {W : World} {fuel : Nat} {v : Value} {x : DataW H × List MemPlace}
    (hf : DataW.trod enc Try.prog W 0 (fun _ => true) true fuel 46 [v] = some x) (hlt : ∀ y ∈ x.2, y.block < W.heap.size) :
    ∃ ad cap ps, v = .slice ad ps.length cap ∧ ArgLl W ad ps ∧ ps.length ≤ 9223372036854775807 ∧ InLl ps := by
  rcases Go.Deep.open_slice Try.underlying46 hf with ⟨hcs, hx⟩ | ⟨a, len, cap, m, n, D, Pl, hcs, _, hl, hm, hmm, hx, hcell⟩
  · simp only [List.cons.injEq, and_true] at hcs
    subst hcs
    exact ⟨none, 0, [], rfl, fun h => absurd rfl h, by simp, ⟨fun j => by simp [Ln0, InI], fun j => by simp [Ln0, Lls]⟩⟩
  · simp only [List.cons.injEq, and_true] at hcs
    subst hcs hx
    simp only [if_true] at hmm
    have each : ∀ i, i < len → ∃ x : Ln × Value, (W.cell? (a.add i) = some (x.2)) ∧ RdI W x.2 (Lls x.1) ∧ InI x.1 ∧ (Lls x.1).length ≤ 9223372036854775807 := by
      intro i hi
      obtain ⟨cs', h1, h2⟩ := hcell i (by omega)
      rw [cellsLLl] at h1
      obtain ⟨_, hlen, hc⟩ := World.cells?_some h1
      have hlti : ∀ y ∈ Pl i, y.block < W.heap.size := fun y hy => hlt y (List.mem_append_right _ (List.mem_flatMap.2 ⟨i, List.mem_range.2 (by omega), hy⟩))
      match cs', hlen with
      | [v0], _ =>
        have e0 := hc 0 (by omega)
        rw [Go.Deep.add_add] at e0
        obtain ⟨ad, cap, zs, e, hA, hl, hw⟩ := open_row_at Try.underlying23 Try.underlying3 cellsI h2 (fun y hy => hlti y hy)
        subst e
        exact ⟨(zs, .slice ad zs.length cap), by simpa using e0, ⟨ad, cap, rfl, hA⟩, inI_of_wf hw, hl⟩
    obtain ⟨qs, hql, hqs⟩ := list_of_each ((Ln0, Value.int .i64 0) : Ln × Value) _ len each
    have hfst : ∀ j, ((qs.map Prod.fst).getD j Ln0) = (qs.getD j (Ln0, Value.int .i64 0)).1 := fun j => by
      simp only [List.getD_eq_getElem?_getD, List.getElem?_map]
      cases qs[j]? <;> rfl
    refine ⟨some a, cap, qs.map Prod.fst, by rw [List.length_map, hql], ?_, by rw [List.length_map, hql]; unfold maxLen at hm; omega, fun j => ?_, fun j => ?_⟩
    · intro hne
      have hpos : 0 < len := by
        rcases Nat.eq_zero_or_pos len with h | h
        · subst h; exact absurd (List.map_eq_nil_iff.2 (List.length_eq_zero_iff.1 hql)) hne
        · exact h
      obtain ⟨b, off, spot⟩ := a
      have hspot : spot = none := by simpa [Addr.add] using World.cell?_spot (hqs 0 hpos).1
      subst hspot
      refine ⟨b, off, fun j => (qs.getD j (Ln0, Value.int .i64 0)).2, rfl, hlt (.cell b off) (List.mem_append_left _ (MemPlace.mem_row.2 ⟨0, by rw [cellsLLl]; omega, by simp⟩)), fun j hj => ?_, fun j hj => ?_⟩
      · rw [List.length_map, hql] at hj
        have := (hqs j hj).1
        rw [add_plain] at this
        exact this
      · rw [List.length_map, hql] at hj
        rw [hfst j]
        exact (hqs j hj).2.1
    · rw [hfst j]
      by_cases hj : j < len
      · exact (hqs j hj).2.2.1
      · rw [List.getD_eq_getElem?_getD, List.getElem?_eq_none (by omega)]; simp [Ln0, InI]
    · rw [hfst j]
      by_cases hj : j < len
      · exact (hqs j hj).2.2.2
      · rw [List.getD_eq_getElem?_getD, List.getElem?_eq_none (by omega)]; simp [Ln0, Lls]

set_option maxRecDepth 100000 in
theorem open_Lls {H : Type} {enc : TypeId × Value → H} {W : World} {base : Nat} {v : Value} {d : DataW H} {p : List MemPlace}
    (hv : Value.okWide Try.prog W .any base 46 v) (h0 : DataW.Trod enc Try.prog W 0 (fun _ => true) true 46 v d p) (hlt : ∀ x ∈ p, x.block < W.heap.size) :
    ∃ ad cap ps, v = .slice ad ps.length cap ∧ ArgLl W ad ps ∧ InLl ps ∧ ps.length ≤ 9223372036854775807 := by
  obtain ⟨a0, len, cap, rfl⟩ := okWide_slice Try.underlying46 hv
  obtain ⟨fuel, hf⟩ := h0
  obtain ⟨ad, cap', ps, e, hA, hl, hR⟩ := open_Ll_row (v := .slice a0 len cap) (by simpa [Value.cells] using hf) hlt
  exact ⟨ad, cap', ps, e, hA, hR, hl⟩
end Go.Proofs.Ytocoeodoihdkgaa
