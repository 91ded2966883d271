/- Opening an argument that is a Plan: what the form's reading of it says. -/
import Derived.Test.YtailhdfmfmlniaaPOpenR
import Derived.Test.YtailhdfmfmlniaaWPa
import Derived.ChangeMaps5
namespace Go.Proofs.Ytailhdfmfmlniaa
open Go.ChangeShapes Go.WideShapes Go.ChangeAt Go.RowKit

theorem cellsPaa : Try.prog.cellsOf 42 = 3 := by kernel_rfl
theorem cellsPat0 : Try.prog.cellsOf 3 = 1 := by kernel_rfl
theorem cellsPat1 : Try.prog.cellsOf 23 = 1 := by kernel_rfl

set_option maxRecDepth 100000 in
set_option maxHeartbeats 1000000 in
theorem open_Pa {H : Type} {enc : TypeId × Value → H} {W : World} {base : Nat} {v : Value} {d : DataW H} {p : List MemPlace}
    (hv : Value.okWide Try.prog W .any base 42 v) (h0 : DataW.Trod enc Try.prog W 0 (fun _ => true) true 42 v d p) (hlt : ∀ x ∈ p, x.block < W.heap.size) :
    ∃ (x : Pa) (ad0 : Option Addr) (cap0 : Nat), v = .agg #[.int .i64 x.1, .int .i64 x.2.1, (.slice ad0 x.2.2.length cap0)] ∧ ArgI W ad0 x.2.2 ∧ InPa x ∧ (x.2.2.length ≤ 9223372036854775807) := by
  obtain ⟨cs, rfl, hsz⟩ := okWide_struct Try.underlying42 hv
  rw [cellsPaa] at hsz
  obtain ⟨fuel, hf⟩ := h0
  obtain ⟨xs, k, _, hxy, hcl, hxl, hfl⟩ := DataW.trod_struct Try.underlying42 hf
  obtain ⟨cl⟩ := cs
  simp only [List.size_toArray] at hsz
  match xs, hxl, cl, hsz with
  | [y0, y1, y2], _, [v0, v1, v2], _ =>
    have g0 := hfl 0 _ rfl
    have g1 := hfl 1 _ rfl
    have g2 := hfl 2 _ rfl
    simp [cellsPat0, cellsPat1, Value.cells] at g0 g1 g2
    have hp : p = y0.2 ++ (y1.2 ++ (y2.2)) := by simpa using congrArg Prod.snd hxy
    obtain ⟨n0, q0, _, w0⟩ := DataW.trod_int Try.underlying3 g0
    simp only [List.cons.injEq, and_true] at q0
    subst q0
    obtain ⟨n1, q1, _, w1⟩ := DataW.trod_int Try.underlying3 g1
    simp only [List.cons.injEq, and_true] at q1
    subst q1
    obtain ⟨ad0, cap0, zs0, e0, hA0, hl0, hw0⟩ := open_row_at Try.underlying23 Try.underlying3 cellsI g2 (fun y hy => hlt y (by rw [hp]; simp [hy]))
    subst e0
    exact ⟨(n0, n1, zs0), ad0, cap0, rfl, hA0, ⟨i64_of_wf w0, i64_of_wf w1, inI_of_wf hw0⟩, hl0⟩
end Go.Proofs.Ytailhdfmfmlniaa
