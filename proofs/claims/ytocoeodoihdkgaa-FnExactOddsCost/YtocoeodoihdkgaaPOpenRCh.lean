/- Opening a list of Choices: what the form's reading of it says of cells. -/
import Derived.Test.YtocoeodoihdkgaaWRCh
import Derived.Test.YtocoeodoihdkgaaPOpen
import Derived.Deep.SlicePairs
namespace Go.Proofs.Ytocoeodoihdkgaa
open Go.ChangeShapes Go.WideShapes Go.ChangeAt Go.RowKit

theorem cellsRCh : Try.prog.cellsOf 113 = 2 := by kernel_rfl
theorem cellsRCht0 : Try.prog.cellsOf 3 = 1 := by kernel_rfl
theorem list_of_eachCh {α : Type} (d : α) (p : Nat → α → Prop) (n : Nat) (h : ∀ i, i < n → ∃ x, p i x) : ∃ l : List α, l.length = n ∧ ∀ i, i < n → p i (l.getD i d) := by
  induction n with
  | zero => exact ⟨[], rfl, fun i hi => by omega⟩
  | succ n ih =>
    obtain ⟨l, hl, hp⟩ := ih (fun i hi => h i (by omega))
    obtain ⟨x, hx⟩ := h n (by omega)
    refine ⟨l ++ [x], by simp [hl], fun i hi => ?_⟩
    rw [List.getD_eq_getElem?_getD]
    by_cases e : i < n
    · rw [List.getElem?_append_left (by omega), ← List.getD_eq_getElem?_getD]; exact hp i e
    · have : i = l.length := by omega
      subst this
      rw [List.getElem?_append_right (Nat.le_refl _), Nat.sub_self]
      rw [hl]; exact hx

set_option maxRecDepth 100000 in
theorem open_Ch_row {H : Type} {enc : TypeId × Value → H} {W : World} {fuel : Nat} {v : Value} {x : DataW H × List MemPlace}
    (hf : DataW.trod enc Try.prog W 0 (fun _ => true) true fuel 61 [v] = some x) (hlt : ∀ y ∈ x.2, y.block < W.heap.size) :
    ∃ ad cap ps, v = .slice ad ps.length cap ∧ ArgCh W ad ps ∧ ps.length ≤ 9223372036854775807 ∧ InCh ps := by
  rcases Go.Deep.open_slice Try.underlying61 hf with ⟨hcs, hx⟩ | ⟨a, len, cap, m, n, D, Pl, hcs, _, hl, hm, hmm, hx, hcell⟩
  · simp only [List.cons.injEq, and_true] at hcs
    subst hcs
    exact ⟨none, 0, [], rfl, fun h => absurd rfl h, by simp, fun j => by simp [Ch0]⟩
  · simp only [List.cons.injEq, and_true] at hcs
    subst hcs hx
    simp only [if_true] at hmm
    have each : ∀ i, i < len → ∃ x : Ch, W.cell? (a.add (i * 2)) = some (.int .i64 x.1) ∧ W.cell? (a.add (i * 2 + 1)) = some (.int .i64 x.2) ∧ (-9223372036854775808 ≤ x.1 ∧ x.1 ≤ 9223372036854775807) ∧ (-9223372036854775808 ≤ x.2 ∧ x.2 ≤ 9223372036854775807) := by
      intro i hi
      obtain ⟨cs', h1, h2⟩ := hcell i (by omega)
      rw [cellsRCh] at h1
      obtain ⟨_, hlen, hc⟩ := World.cells?_some h1
      obtain ⟨xs, k, hk, hxy, _, hxl, hfl⟩ := DataW.trod_struct Try.underlying113 h2
      match xs, hxl, cs', hlen with
      | [y0, y1], _, [v0, v1], _ =>
        have g0 := hfl 0 _ rfl
        have g1 := hfl 1 _ rfl
        simp [cellsRCht0] at g0 g1
        have e0 := hc 0 (by omega)
        have e1 := hc 1 (by omega)
        rw [Go.Deep.add_add] at e0 e1
        obtain ⟨n0, q0, _, w0⟩ := DataW.trod_int Try.underlying3 g0
        obtain ⟨n1, q1, _, w1⟩ := DataW.trod_int Try.underlying3 g1
        simp only [List.cons.injEq, and_true] at q0 q1
        subst q0 q1
        exact ⟨(n0, n1), by simpa using e0, by simpa using e1, i64_of_wf w0, i64_of_wf w1⟩
    obtain ⟨ps, hpl, hps⟩ := list_of_eachCh Ch0 _ len each
    refine ⟨some a, cap, ps, by rw [hpl], ?_, by rw [hpl]; unfold maxLen at hm; omega, ?_⟩
    · intro hne
      have hpos : 0 < len := by
        rcases Nat.eq_zero_or_pos len with h | h
        · subst h; exact absurd (List.length_eq_zero_iff.1 hpl) hne
        · exact h
      obtain ⟨b, off, spot⟩ := a
      have hspot : spot = none := by simpa [Addr.add] using World.cell?_spot (hps 0 hpos).1
      subst hspot
      refine ⟨b, off, rfl, hlt (.cell b off) (List.mem_append_left _ (MemPlace.mem_row.2 ⟨0, by rw [cellsRCh]; omega, by simp⟩)), fun j hj => ?_⟩
      rw [hpl] at hj
      have := hps j hj
      rw [add_plain, add_plain, ← Nat.add_assoc] at this
      exact ⟨this.1, this.2.1⟩
    · intro j
      by_cases hj : j < len
      · exact (hps j hj).2.2
      · rw [List.getD_eq_getElem?_getD, List.getElem?_eq_none (by omega)]; simp
set_option maxRecDepth 100000 in
theorem open_Chs {H : Type} {enc : TypeId × Value → H} {W : World} {base : Nat} {v : Value} {d : DataW H} {p : List MemPlace}
    (hv : Value.okWide Try.prog W .any base 61 v) (h0 : DataW.Trod enc Try.prog W 0 (fun _ => true) true 61 v d p) (hlt : ∀ x ∈ p, x.block < W.heap.size) :
    ∃ ad cap ps, v = .slice ad ps.length cap ∧ ArgCh W ad ps ∧ InCh ps ∧ ps.length ≤ 9223372036854775807 := by
  obtain ⟨a0, len, cap, rfl⟩ := okWide_slice Try.underlying61 hv
  obtain ⟨fuel, hf⟩ := h0
  obtain ⟨ad, cap', ps, e, hA, hl, hR⟩ := open_Ch_row (v := .slice a0 len cap) (by simpa [Value.cells] using hf) hlt
  exact ⟨ad, cap', ps, e, hA, hR, hl⟩
end Go.Proofs.Ytocoeodoihdkgaa
