/- Opening a list of Frames, each with a list of its own: what the form's reading of it says of cells. -/
import Derived.Test.YtnfifpngiocbnaaWLFs
import Derived.Test.YtnfifpngiocbnaaPOpenR
import Derived.Test.YtnfifpngiocbnaaPEach
import Derived.Deep.SlicePairs
namespace Go.Proofs.Ytnfifpngiocbnaa
open Go.ChangeShapes Go.WideShapes Go.ChangeAt Go.RowKit

theorem cellsLFs : Try.prog.cellsOf 161 = 8 := by kernel_rfl
theorem cellsLFst0 : Try.prog.cellsOf 3 = 1 := by kernel_rfl
theorem cellsLFst1 : Try.prog.cellsOf 23 = 1 := by kernel_rfl

set_option maxRecDepth 100000 in
set_option maxHeartbeats 1000000 in
theorem open_Fs_row {H : Type} {enc : TypeId × Value → H} {W : World} {fuel : Nat} {v : Value} {x : DataW H × List MemPlace}
    (hf : DataW.trod enc Try.prog W 0 (fun _ => true) true fuel 59 [v] = some x) (hlt : ∀ y ∈ x.2, y.block < W.heap.size) :
    ∃ ad cap ps, v = .slice ad ps.length cap ∧ ArgFs W ad ps ∧ ps.length ≤ 9223372036854775807 ∧ InFs ps := by
  rcases Go.Deep.open_slice Try.underlying59 hf with ⟨hcs, hx⟩ | ⟨a, len, cap, m, n, D, Pl, hcs, _, hl, hm, hmm, hx, hcell⟩
  · simp only [List.cons.injEq, and_true] at hcs
    subst hcs
    exact ⟨none, 0, [], rfl, fun h => absurd rfl h, by simp, ⟨fun j => by simp [Fr0, InFr, InI], fun j => by simp [Fr0, Fss]⟩⟩
  · simp only [List.cons.injEq, and_true] at hcs
    subst hcs hx
    simp only [if_true] at hmm
    have each : ∀ i, i < len → ∃ x : Fr × Value, (W.cell? (a.add (i * 8)) = some (.int .i64 x.1.1) ∧ W.cell? (a.add (i * 8 + 1)) = some (.int .i64 x.1.2.1) ∧ W.cell? (a.add (i * 8 + 2)) = some (.int .i64 x.1.2.2.1) ∧ W.cell? (a.add (i * 8 + 3)) = some (.int .i64 x.1.2.2.2.1) ∧ W.cell? (a.add (i * 8 + 4)) = some (.int .i64 x.1.2.2.2.2.1) ∧ W.cell? (a.add (i * 8 + 5)) = some (.int .i64 x.1.2.2.2.2.2.1) ∧ W.cell? (a.add (i * 8 + 6)) = some (.int .i64 x.1.2.2.2.2.2.2.1) ∧ W.cell? (a.add (i * 8 + 7)) = some (x.2)) ∧ RdI W x.2 (Fss x.1) ∧ InFr x.1 ∧ (Fss x.1).length ≤ 9223372036854775807 := by
      intro i hi
      obtain ⟨cs', h1, h2⟩ := hcell i (by omega)
      rw [cellsLFs] at h1
      obtain ⟨_, hlen, hc⟩ := World.cells?_some h1
      obtain ⟨xs, k, hk, hxy, _, hxl, hfl⟩ := DataW.trod_struct Try.underlying161 h2
      have hlti : ∀ y ∈ Pl i, y.block < W.heap.size := fun y hy => hlt y (List.mem_append_right _ (List.mem_flatMap.2 ⟨i, List.mem_range.2 (by omega), hy⟩))
      match xs, hxl, cs', hlen with
      | [y0, y1, y2, y3, y4, y5, y6, y7], _, [v0, v1, v2, v3, v4, v5, v6, v7], _ =>
        have g0 := hfl 0 _ rfl
        have g1 := hfl 1 _ rfl
        have g2 := hfl 2 _ rfl
        have g3 := hfl 3 _ rfl
        have g4 := hfl 4 _ rfl
        have g5 := hfl 5 _ rfl
        have g6 := hfl 6 _ rfl
        have g7 := hfl 7 _ rfl
        simp [cellsLFst0, cellsLFst1] at g0 g1 g2 g3 g4 g5 g6 g7
        have e0 := hc 0 (by omega)
        have e1 := hc 1 (by omega)
        have e2 := hc 2 (by omega)
        have e3 := hc 3 (by omega)
        have e4 := hc 4 (by omega)
        have e5 := hc 5 (by omega)
        have e6 := hc 6 (by omega)
        have e7 := hc 7 (by omega)
        rw [Go.Deep.add_add] at e0 e1 e2 e3 e4 e5 e6 e7
        have hp : Pl i = y0.2 ++ (y1.2 ++ (y2.2 ++ (y3.2 ++ (y4.2 ++ (y5.2 ++ (y6.2 ++ (y7.2))))))) := by simpa using congrArg Prod.snd hxy
        obtain ⟨n0, q0, _, w0⟩ := DataW.trod_int Try.underlying3 g0
        obtain ⟨n1, q1, _, w1⟩ := DataW.trod_int Try.underlying3 g1
        obtain ⟨n2, q2, _, w2⟩ := DataW.trod_int Try.underlying3 g2
        obtain ⟨n3, q3, _, w3⟩ := DataW.trod_int Try.underlying3 g3
        obtain ⟨n4, q4, _, w4⟩ := DataW.trod_int Try.underlying3 g4
        obtain ⟨n5, q5, _, w5⟩ := DataW.trod_int Try.underlying3 g5
        obtain ⟨n6, q6, _, w6⟩ := DataW.trod_int Try.underlying3 g6
        simp only [List.cons.injEq, and_true] at q0 q1 q2 q3 q4 q5 q6
        subst q0 q1 q2 q3 q4 q5 q6
        obtain ⟨ad, cap, zs, e, hA, hl, hw⟩ := open_row_at Try.underlying23 Try.underlying3 cellsI g7 (fun y hy => hlti y (by rw [hp]; simp [hy]))
        subst e
        exact ⟨((n0, n1, n2, n3, n4, n5, n6, zs), .slice ad zs.length cap), ⟨by simpa using e0, by simpa using e1, by simpa using e2, by simpa using e3, by simpa using e4, by simpa using e5, by simpa using e6, by simpa using e7⟩, ⟨ad, cap, rfl, hA⟩, ⟨i64_of_wf w0, i64_of_wf w1, i64_of_wf w2, i64_of_wf w3, i64_of_wf w4, i64_of_wf w5, i64_of_wf w6, inI_of_wf hw⟩, hl⟩
    obtain ⟨qs, hql, hqs⟩ := list_of_each ((Fr0, Value.int .i64 0) : Fr × Value) _ len each
    have hfst : ∀ j, ((qs.map Prod.fst).getD j Fr0) = (qs.getD j (Fr0, Value.int .i64 0)).1 := fun j => by
      simp only [List.getD_eq_getElem?_getD, List.getElem?_map]
      cases qs[j]? <;> rfl
    refine ⟨some a, cap, qs.map Prod.fst, by rw [List.length_map, hql], ?_, by rw [List.length_map, hql]; unfold maxLen at hm; omega, fun j => ?_, fun j => ?_⟩
    · intro hne
      have hpos : 0 < len := by
        rcases Nat.eq_zero_or_pos len with h | h
        · subst h; exact absurd (List.map_eq_nil_iff.2 (List.length_eq_zero_iff.1 hql)) hne
        · exact h
      obtain ⟨b, off, spot⟩ := a
      have hspot : spot = none := by simpa [Addr.add] using World.cell?_spot (hqs 0 hpos).1.1
      subst hspot
      refine ⟨b, off, fun j => (qs.getD j (Fr0, Value.int .i64 0)).2, rfl, hlt (.cell b off) (List.mem_append_left _ (MemPlace.mem_row.2 ⟨0, by rw [cellsLFs]; omega, by simp⟩)), fun j hj => ?_, fun j hj => ?_⟩
      · rw [List.length_map, hql] at hj
        have := (hqs j hj).1
        rw [add_plain, add_plain, add_plain, add_plain, add_plain, add_plain, add_plain, add_plain, ← Nat.add_assoc, ← Nat.add_assoc, ← Nat.add_assoc, ← Nat.add_assoc, ← Nat.add_assoc, ← Nat.add_assoc, ← Nat.add_assoc] at this
        rw [hfst j]
        exact this
      · rw [List.length_map, hql] at hj
        rw [hfst j]
        exact (hqs j hj).2.1
    · rw [hfst j]
      by_cases hj : j < len
      · exact (hqs j hj).2.2.1
      · rw [List.getD_eq_getElem?_getD, List.getElem?_eq_none (by omega)]; simp [Fr0, InFr, InI]
    · rw [hfst j]
      by_cases hj : j < len
      · exact (hqs j hj).2.2.2
      · rw [List.getD_eq_getElem?_getD, List.getElem?_eq_none (by omega)]; simp [Fr0, Fss]
end Go.Proofs.Ytnfifpngiocbnaa
