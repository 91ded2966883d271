/- Opening an argument that is a Plane: what the form's reading of it says. -/
import Derived.Test.YtkeplngifceegaaPOpenIm
import Derived.Test.YtkeplngifceegaaWPl
import Derived.ChangeMaps5
namespace Go.Proofs.Ytkeplngifceegaa
open Go.ChangeShapes Go.WideShapes Go.ChangeAt Go.RowKit

theorem cellsPla : Try.prog.cellsOf 45 = 3 := by kernel_rfl
theorem cellsPlt0 : Try.prog.cellsOf 27 = 1 := by kernel_rfl
theorem cellsPlt1 : Try.prog.cellsOf 3 = 1 := by kernel_rfl

set_option maxRecDepth 100000 in
theorem open_Pl {H : Type} {enc : TypeId × Value → H} {W : World} {base : Nat} {v : Value} {d : DataW H} {p : List MemPlace}
    (hv : Value.okWide Try.prog W .any base 45 v) (h0 : DataW.Trod enc Try.prog W 0 (fun _ => true) true 45 v d p) (hlt : ∀ x ∈ p, x.block < W.heap.size) :
    ∃ (x : Pl) (ad : Option Addr) (cap : Nat), v = .agg #[.int .i64 x.1, .int .i64 x.2.1, (.slice ad x.2.2.length cap)] ∧ ArgI W ad x.2.2 ∧ InPl x ∧ x.2.2.length ≤ 9223372036854775807 := by
  obtain ⟨cs, rfl, hsz⟩ := okWide_struct Try.underlying45 hv
  rw [cellsPla] at hsz
  obtain ⟨fuel, hf⟩ := h0
  obtain ⟨xs, k, _, hxy, hcl, hxl, hfl⟩ := DataW.trod_struct Try.underlying45 hf
  obtain ⟨cl⟩ := cs
  simp only [List.size_toArray] at hsz
  match xs, hxl, cl, hsz with
  | [y0, y1, y2], _, [v0, v1, v2], _ =>
    have g0 := hfl 0 _ rfl
    have g1 := hfl 1 _ rfl
    have g2 := hfl 2 _ rfl
    simp [cellsPlt0, cellsPlt1, Value.cells] at g0 g1 g2
    obtain ⟨n0, q0, _, w0⟩ := DataW.trod_int Try.underlying3 g0
    obtain ⟨n1, q1, _, w1⟩ := DataW.trod_int Try.underlying3 g1
    simp only [List.cons.injEq, and_true] at q0 q1
    subst q0 q1
    have hp : p = y0.2 ++ (y1.2 ++ (y2.2)) := by simpa using congrArg Prod.snd hxy
    obtain ⟨ad, cap, zs, e, hA, hl, hw⟩ := open_row_at Try.underlying27 Try.underlying3 cellsI g2 (fun y hy => hlt y (by rw [hp]; simp [hy]))
    subst e
    exact ⟨(n0, n1, zs), ad, cap, rfl, hA, ⟨i64_of_wf w0, i64_of_wf w1, inI_of_wf hw⟩, hl⟩
end Go.Proofs.Ytkeplngifceegaa
