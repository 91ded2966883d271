/- Opening an argument that is a Chunk: what the form's reading of it says. -/
import Derived.Test.YthpkngipiapbpaaPOpenIm
import Derived.Test.YthpkngipiapbpaaWCk
import Derived.ChangeMaps5
namespace Go.Proofs.Ythpkngipiapbpaa
open Go.ChangeShapes Go.WideShapes Go.ChangeAt Go.RowKit

theorem cellsCka : Try.prog.cellsOf 24 = 2 := by kernel_rfl
theorem cellsCkt0 : Try.prog.cellsOf 22 = 1 := by kernel_rfl
theorem cellsCkt1 : Try.prog.cellsOf 9 = 1 := by kernel_rfl

set_option maxRecDepth 100000 in
theorem open_Ck {H : Type} {enc : TypeId × Value → H} {W : World} {base : Nat} {v : Value} {d : DataW H} {p : List MemPlace}
    (hv : Value.okWide Try.prog W .any base 24 v) (h0 : DataW.Trod enc Try.prog W 0 (fun _ => true) true 24 v d p) (hlt : ∀ x ∈ p, x.block < W.heap.size) :
    ∃ (x : Ck) (ad : Option Addr) (cap : Nat), v = .agg #[.string x.1, (.slice ad x.2.length cap)] ∧ ArgY W ad x.2 ∧ InCk x ∧ (x.1.size ≤ 9223372036854775807 ∧ x.2.length ≤ 9223372036854775807) := by
  obtain ⟨cs, rfl, hsz⟩ := okWide_struct Try.underlying24 hv
  rw [cellsCka] at hsz
  obtain ⟨fuel, hf⟩ := h0
  obtain ⟨xs, k, _, hxy, hcl, hxl, hfl⟩ := DataW.trod_struct Try.underlying24 hf
  obtain ⟨cl⟩ := cs
  simp only [List.size_toArray] at hsz
  match xs, hxl, cl, hsz with
  | [y0, y1], _, [v0, v1], _ =>
    have g0 := hfl 0 _ rfl
    have g1 := hfl 1 _ rfl
    simp [cellsCkt0, cellsCkt1, Value.cells] at g0 g1
    obtain ⟨n0, q0, _, w0⟩ := DataW.trod_string Try.underlying9 g0
    simp only [List.cons.injEq, and_true] at q0
    subst q0
    have hp : p = y0.2 ++ (y1.2) := by simpa using congrArg Prod.snd hxy
    obtain ⟨ad, cap, zs, e, hA, hl, hw⟩ := open_row_at Try.underlying22 Try.underlying5 cellsY g1 (fun y hy => hlt y (by rw [hp]; simp [hy]))
    subst e
    exact ⟨(n0, zs), ad, cap, rfl, hA, ⟨(by have := w0; unfold maxLen at this; exact this), inB_of_wf hw⟩, ⟨(by have := w0; unfold maxLen at this; exact this), hl⟩⟩
end Go.Proofs.Ythpkngipiapbpaa
