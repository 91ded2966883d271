/- Opening an argument that is a Sound: what the form's reading of it says. -/
import Derived.Test.YtocoeodoihdkgaaPOpenR
import Derived.Test.YtocoeodoihdkgaaPOpenLLl
import Derived.Test.YtocoeodoihdkgaaWSo
import Derived.ChangeMaps5
namespace Go.Proofs.Ytocoeodoihdkgaa
open Go.ChangeShapes Go.WideShapes Go.ChangeAt Go.RowKit

theorem cellsSoa : Try.prog.cellsOf 48 = 4 := by kernel_rfl
theorem cellsSot0 : Try.prog.cellsOf 3 = 1 := by kernel_rfl
theorem cellsSot1 : Try.prog.cellsOf 46 = 1 := by kernel_rfl

set_option maxRecDepth 100000 in
set_option maxHeartbeats 1000000 in
theorem open_So {H : Type} {enc : TypeId × Value → H} {W : World} {base : Nat} {v : Value} {d : DataW H} {p : List MemPlace}
    (hv : Value.okWide Try.prog W .any base 48 v) (h0 : DataW.Trod enc Try.prog W 0 (fun _ => true) true 48 v d p) (hlt : ∀ x ∈ p, x.block < W.heap.size) :
    ∃ (x : So) (ad0 : Option Addr) (cap0 : Nat), v = .agg #[.int .i64 x.1, .int .i64 x.2.1, .int .i64 x.2.2.1, (.slice ad0 x.2.2.2.length cap0)] ∧ ArgLl W ad0 x.2.2.2 ∧ InSo x ∧ (x.2.2.2.length ≤ 9223372036854775807) := by
  obtain ⟨cs, rfl, hsz⟩ := okWide_struct Try.underlying48 hv
  rw [cellsSoa] at hsz
  obtain ⟨fuel, hf⟩ := h0
  obtain ⟨xs, k, _, hxy, hcl, hxl, hfl⟩ := DataW.trod_struct Try.underlying48 hf
  obtain ⟨cl⟩ := cs
  simp only [List.size_toArray] at hsz
  match xs, hxl, cl, hsz with
  | [y0, y1, y2, y3], _, [v0, v1, v2, v3], _ =>
    have g0 := hfl 0 _ rfl
    have g1 := hfl 1 _ rfl
    have g2 := hfl 2 _ rfl
    have g3 := hfl 3 _ rfl
    simp [cellsSot0, cellsSot1, Value.cells] at g0 g1 g2 g3
    have hp : p = y0.2 ++ (y1.2 ++ (y2.2 ++ (y3.2))) := by simpa using congrArg Prod.snd hxy
    obtain ⟨n0, q0, _, w0⟩ := DataW.trod_int Try.underlying3 g0
    simp only [List.cons.injEq, and_true] at q0
    subst q0
    obtain ⟨n1, q1, _, w1⟩ := DataW.trod_int Try.underlying3 g1
    simp only [List.cons.injEq, and_true] at q1
    subst q1
    obtain ⟨n2, q2, _, w2⟩ := DataW.trod_int Try.underlying3 g2
    simp only [List.cons.injEq, and_true] at q2
    subst q2
    obtain ⟨ad0, cap0, zs0, e0, hA0, hl0, hw0⟩ := open_Ll_row g3 (fun y hy => hlt y (by rw [hp]; simp [hy]))
    subst e0
    exact ⟨(n0, n1, n2, zs0), ad0, cap0, rfl, hA0, ⟨i64_of_wf w0, i64_of_wf w1, i64_of_wf w2, hw0⟩, hl0⟩
end Go.Proofs.Ytocoeodoihdkgaa
