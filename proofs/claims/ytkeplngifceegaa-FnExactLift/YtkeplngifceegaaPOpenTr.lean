/- Opening an argument that is a Triple: what the form's reading of it says. -/
import Derived.Test.YtkeplngifceegaaPOpenR
import Derived.Test.YtkeplngifceegaaWTr
import Derived.ChangeMaps5
namespace Go.Proofs.Ytkeplngifceegaa
open Go.ChangeShapes Go.WideShapes Go.ChangeAt Go.RowKit

theorem cellsTra : Try.prog.cellsOf 41 = 3 := by kernel_rfl
theorem cellsTrt0 : Try.prog.cellsOf 3 = 1 := by kernel_rfl

set_option maxRecDepth 100000 in
set_option maxHeartbeats 1000000 in
theorem open_Tr {H : Type} {enc : TypeId × Value → H} {W : World} {base : Nat} {v : Value} {d : DataW H} {p : List MemPlace}
    (hv : Value.okWide Try.prog W .any base 41 v) (h0 : DataW.Trod enc Try.prog W 0 (fun _ => true) true 41 v d p) (_hlt : ∀ x ∈ p, x.block < W.heap.size) :
    ∃ (x : Tr), v = .agg #[.int .i64 x.1, .int .i64 x.2.1, .int .i64 x.2.2] ∧ InTr x := by
  obtain ⟨cs, rfl, hsz⟩ := okWide_struct Try.underlying41 hv
  rw [cellsTra] at hsz
  obtain ⟨fuel, hf⟩ := h0
  obtain ⟨xs, k, _, hxy, hcl, hxl, hfl⟩ := DataW.trod_struct Try.underlying41 hf
  obtain ⟨cl⟩ := cs
  simp only [List.size_toArray] at hsz
  match xs, hxl, cl, hsz with
  | [y0, y1, y2], _, [v0, v1, v2], _ =>
    have g0 := hfl 0 _ rfl
    have g1 := hfl 1 _ rfl
    have g2 := hfl 2 _ rfl
    simp [cellsTrt0, Value.cells] at g0 g1 g2
    have hp : p = y0.2 ++ (y1.2 ++ (y2.2)) := by simpa using congrArg Prod.snd hxy
    obtain ⟨n0, q0, _, w0⟩ := DataW.trod_int Try.underlying3 g0
    simp only [List.cons.injEq, and_true] at q0
    subst q0
    obtain ⟨n1, q1, _, w1⟩ := DataW.trod_int Try.underlying3 g1
    simp only [List.cons.injEq, and_true] at q1
    subst q1
    obtain ⟨n2, q2, _, w2⟩ := DataW.trod_int Try.underlying3 g2
    simp only [List.cons.injEq, and_true] at q2
    subst q2
    exact ⟨(n0, n1, n2), rfl, ⟨i64_of_wf w0, i64_of_wf w1, i64_of_wf w2⟩⟩
end Go.Proofs.Ytkeplngifceegaa
