/- Opening an argument that is a Photo: what the form's reading of it says. -/
import Derived.Test.YtilmdbdgohfpcaaPOpenR
import Derived.Test.YtilmdbdgohfpcaaPOpenLLl
import Derived.Test.YtilmdbdgohfpcaaWPh
import Derived.ChangeMaps5
namespace Go.Proofs.Ytilmdbdgohfpcaa
open Go.ChangeShapes Go.WideShapes Go.ChangeAt Go.RowKit

theorem cellsPha : Try.prog.cellsOf 43 = 7 := by kernel_rfl
theorem cellsPht0 : Try.prog.cellsOf 3 = 1 := by kernel_rfl
theorem cellsPht1 : Try.prog.cellsOf 4 = 1 := by kernel_rfl
theorem cellsPht2 : Try.prog.cellsOf 41 = 1 := by kernel_rfl

set_option maxRecDepth 100000 in
set_option maxHeartbeats 1000000 in
theorem open_Ph {H : Type} {enc : TypeId × Value → H} {W : World} {base : Nat} {v : Value} {d : DataW H} {p : List MemPlace}
    (hv : Value.okWide Try.prog W .any base 43 v) (h0 : DataW.Trod enc Try.prog W 0 (fun _ => true) true 43 v d p) (hlt : ∀ x ∈ p, x.block < W.heap.size) :
    ∃ (x : Ph) (ad0 : Option Addr) (cap0 : Nat), v = .agg #[.int .i64 x.1, .int .i64 x.2.1, .int .i64 x.2.2.1, .bool x.2.2.2.1, .bool x.2.2.2.2.1, .int .i64 x.2.2.2.2.2.1, (.slice ad0 x.2.2.2.2.2.2.length cap0)] ∧ ArgLl W ad0 x.2.2.2.2.2.2 ∧ InPh x ∧ (x.2.2.2.2.2.2.length ≤ 9223372036854775807) := by
  obtain ⟨cs, rfl, hsz⟩ := okWide_struct Try.underlying43 hv
  rw [cellsPha] at hsz
  obtain ⟨fuel, hf⟩ := h0
  obtain ⟨xs, k, _, hxy, hcl, hxl, hfl⟩ := DataW.trod_struct Try.underlying43 hf
  obtain ⟨cl⟩ := cs
  simp only [List.size_toArray] at hsz
  match xs, hxl, cl, hsz with
  | [y0, y1, y2, y3, y4, y5, y6], _, [v0, v1, v2, v3, v4, v5, v6], _ =>
    have g0 := hfl 0 _ rfl
    have g1 := hfl 1 _ rfl
    have g2 := hfl 2 _ rfl
    have g3 := hfl 3 _ rfl
    have g4 := hfl 4 _ rfl
    have g5 := hfl 5 _ rfl
    have g6 := hfl 6 _ rfl
    simp [cellsPht0, cellsPht1, cellsPht2, Value.cells] at g0 g1 g2 g3 g4 g5 g6
    have hp : p = y0.2 ++ (y1.2 ++ (y2.2 ++ (y3.2 ++ (y4.2 ++ (y5.2 ++ (y6.2)))))) := by simpa using congrArg Prod.snd hxy
    obtain ⟨n0, q0, _, w0⟩ := DataW.trod_int Try.underlying3 g0
    simp only [List.cons.injEq, and_true] at q0
    subst q0
    obtain ⟨n1, q1, _, w1⟩ := DataW.trod_int Try.underlying3 g1
    simp only [List.cons.injEq, and_true] at q1
    subst q1
    obtain ⟨n2, q2, _, w2⟩ := DataW.trod_int Try.underlying3 g2
    simp only [List.cons.injEq, and_true] at q2
    subst q2
    obtain ⟨n3, q3, _⟩ := DataW.trod_bool Try.underlying4 g3
    simp only [List.cons.injEq, and_true] at q3
    subst q3
    obtain ⟨n4, q4, _⟩ := DataW.trod_bool Try.underlying4 g4
    simp only [List.cons.injEq, and_true] at q4
    subst q4
    obtain ⟨n5, q5, _, w5⟩ := DataW.trod_int Try.underlying3 g5
    simp only [List.cons.injEq, and_true] at q5
    subst q5
    obtain ⟨ad0, cap0, zs0, e0, hA0, hl0, hw0⟩ := open_Ll_row g6 (fun y hy => hlt y (by rw [hp]; simp [hy]))
    subst e0
    exact ⟨(n0, n1, n2, n3, n4, n5, zs0), ad0, cap0, rfl, hA0, ⟨i64_of_wf w0, i64_of_wf w1, i64_of_wf w2, i64_of_wf w5, hw0⟩, hl0⟩
end Go.Proofs.Ytilmdbdgohfpcaa
