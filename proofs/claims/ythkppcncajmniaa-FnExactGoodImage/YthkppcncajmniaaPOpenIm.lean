/- Opening an argument that is an image: what the form's reading of it says. -/
import Derived.Test.YthkppcncajmniaaPOpenR
import Derived.Test.YthkppcncajmniaaWIm
namespace Go.Proofs.Ythkppcncajmniaa
open Go.ChangeShapes Go.WideShapes Go.ChangeAt Go.RowKit

theorem cellsIm : Try.prog.cellsOf 24 = 5 := by kernel_rfl
theorem cellsLI : Try.prog.cellsOf 22 = 1 := by kernel_rfl

set_option maxRecDepth 100000 in
theorem open_image {H : Type} {enc : TypeId × Value → H} {W : World} {base : Nat} {v : Value} {d : DataW H} {p : List MemPlace}
    (hv : Value.okWide Try.prog W .any base 24 v) (h0 : DataW.Trod enc Try.prog W 0 (fun _ => true) true 24 v d p) (hlt : ∀ x ∈ p, x.block < W.heap.size) :
    ∃ (x : Im) (ad : Option Addr) (cap : Nat), v = .agg #[.int .i64 x.1, .int .i64 x.2.1, .int .i64 x.2.2.1, .int .i64 x.2.2.2.1, .slice ad x.2.2.2.2.length cap] ∧ ArgI W ad x.2.2.2.2 ∧ InIm x ∧ x.2.2.2.2.length ≤ 9223372036854775807 := by
  obtain ⟨cs, rfl, hsz⟩ := okWide_struct Try.underlying24 hv
  rw [cellsIm] at hsz
  obtain ⟨fuel, hf⟩ := h0
  obtain ⟨xs, k, _, hxy, hcl, hxl, hfl⟩ := DataW.trod_struct Try.underlying24 hf
  obtain ⟨cl⟩ := cs
  simp only [List.size_toArray] at hsz
  match xs, hxl, cl, hsz with
  | [y0, y1, y2, y3, y4], _, [v0, v1, v2, v3, v4], _ =>
    have g0 := hfl 0 _ rfl
    have g1 := hfl 1 _ rfl
    have g2 := hfl 2 _ rfl
    have g3 := hfl 3 _ rfl
    have g4 := hfl 4 _ rfl
    simp [cellsI, cellsLI, Value.cells] at g0 g1 g2 g3 g4
    obtain ⟨n0, q0, _, w0⟩ := DataW.trod_int Try.underlying3 g0
    obtain ⟨n1, q1, _, w1⟩ := DataW.trod_int Try.underlying3 g1
    obtain ⟨n2, q2, _, w2⟩ := DataW.trod_int Try.underlying3 g2
    obtain ⟨n3, q3, _, w3⟩ := DataW.trod_int Try.underlying3 g3
    simp only [List.cons.injEq, and_true] at q0 q1 q2 q3
    subst q0 q1 q2 q3
    have hp : p = y0.2 ++ (y1.2 ++ (y2.2 ++ (y3.2 ++ y4.2))) := by simpa using congrArg Prod.snd hxy
    obtain ⟨ad, cap, zs, e, hA, hl, hw⟩ := open_row_at Try.underlying22 Try.underlying3 cellsI g4 (fun y hy => hlt y (by rw [hp]; simp [hy]))
    subst e
    exact ⟨(n0, n1, n2, n3, zs), ad, cap, rfl, hA, ⟨i64_of_wf w0, i64_of_wf w1, i64_of_wf w2, i64_of_wf w3, inI_of_wf hw⟩, hl⟩
end Go.Proofs.Ythkppcncajmniaa
