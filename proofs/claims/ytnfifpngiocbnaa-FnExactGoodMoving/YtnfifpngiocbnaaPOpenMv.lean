/- Opening an argument that is a Moving: what the form's reading of it says. -/
import Derived.Test.YtnfifpngiocbnaaPOpenR
import Derived.Test.YtnfifpngiocbnaaPOpenLFs
import Derived.Test.YtnfifpngiocbnaaWMv
import Derived.ChangeMaps5
namespace Go.Proofs.Ytnfifpngiocbnaa
open Go.ChangeShapes Go.WideShapes Go.ChangeAt Go.RowKit

theorem cellsMva : Try.prog.cellsOf 61 = 5 := by kernel_rfl
theorem cellsMvt0 : Try.prog.cellsOf 3 = 1 := by kernel_rfl
theorem cellsMvt1 : Try.prog.cellsOf 23 = 1 := by kernel_rfl
theorem cellsMvt2 : Try.prog.cellsOf 59 = 1 := by kernel_rfl

set_option maxRecDepth 100000 in
set_option maxHeartbeats 1000000 in
theorem open_Mv {H : Type} {enc : TypeId × Value → H} {W : World} {base : Nat} {v : Value} {d : DataW H} {p : List MemPlace}
    (hv : Value.okWide Try.prog W .any base 61 v) (h0 : DataW.Trod enc Try.prog W 0 (fun _ => true) true 61 v d p) (hlt : ∀ x ∈ p, x.block < W.heap.size) :
    ∃ (x : Mv) (ad0 : Option Addr) (cap0 : Nat) (ad1 : Option Addr) (cap1 : Nat), v = .agg #[.int .i64 x.1, .int .i64 x.2.1, (.slice ad0 x.2.2.1.length cap0), .int .i64 x.2.2.2.1, (.slice ad1 x.2.2.2.2.length cap1)] ∧ ArgI W ad0 x.2.2.1 ∧ ArgFs W ad1 x.2.2.2.2 ∧ InMv x ∧ (x.2.2.1.length ≤ 9223372036854775807 ∧ x.2.2.2.2.length ≤ 9223372036854775807) := by
  obtain ⟨cs, rfl, hsz⟩ := okWide_struct Try.underlying61 hv
  rw [cellsMva] at hsz
  obtain ⟨fuel, hf⟩ := h0
  obtain ⟨xs, k, _, hxy, hcl, hxl, hfl⟩ := DataW.trod_struct Try.underlying61 hf
  obtain ⟨cl⟩ := cs
  simp only [List.size_toArray] at hsz
  match xs, hxl, cl, hsz with
  | [y0, y1, y2, y3, y4], _, [v0, v1, v2, v3, v4], _ =>
    have g0 := hfl 0 _ rfl
    have g1 := hfl 1 _ rfl
    have g2 := hfl 2 _ rfl
    have g3 := hfl 3 _ rfl
    have g4 := hfl 4 _ rfl
    simp [cellsMvt0, cellsMvt1, cellsMvt2, Value.cells] at g0 g1 g2 g3 g4
    have hp : p = y0.2 ++ (y1.2 ++ (y2.2 ++ (y3.2 ++ (y4.2)))) := by simpa using congrArg Prod.snd hxy
    obtain ⟨n0, q0, _, w0⟩ := DataW.trod_int Try.underlying3 g0
    simp only [List.cons.injEq, and_true] at q0
    subst q0
    obtain ⟨n1, q1, _, w1⟩ := DataW.trod_int Try.underlying3 g1
    simp only [List.cons.injEq, and_true] at q1
    subst q1
    obtain ⟨ad0, cap0, zs0, e0, hA0, hl0, hw0⟩ := open_row_at Try.underlying23 Try.underlying3 cellsI g2 (fun y hy => hlt y (by rw [hp]; simp [hy]))
    subst e0
    obtain ⟨n3, q3, _, w3⟩ := DataW.trod_int Try.underlying3 g3
    simp only [List.cons.injEq, and_true] at q3
    subst q3
    obtain ⟨ad1, cap1, zs1, e1, hA1, hl1, hw1⟩ := open_Fs_row g4 (fun y hy => hlt y (by rw [hp]; simp [hy]))
    subst e1
    exact ⟨(n0, n1, zs0, n3, zs1), ad0, cap0, ad1, cap1, rfl, hA0, hA1, ⟨i64_of_wf w0, i64_of_wf w1, inI_of_wf hw0, i64_of_wf w3, hw1⟩, ⟨hl0, hl1⟩⟩
end Go.Proofs.Ytnfifpngiocbnaa
