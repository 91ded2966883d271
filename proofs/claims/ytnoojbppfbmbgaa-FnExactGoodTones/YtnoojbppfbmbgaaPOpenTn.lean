/- Opening an argument that is a Tones: what the form's reading of it says. -/
import Derived.Test.YtnoojbppfbmbgaaPOpenR
import Derived.Test.YtnoojbppfbmbgaaPOpenLLl
import Derived.Test.YtnoojbppfbmbgaaWTn
import Derived.ChangeMaps5
namespace Go.Proofs.Ytnoojbppfbmbgaa
open Go.ChangeShapes Go.WideShapes Go.ChangeAt Go.RowKit

theorem cellsTna : Try.prog.cellsOf 42 = 5 := by kernel_rfl
theorem cellsTnt0 : Try.prog.cellsOf 3 = 1 := by kernel_rfl
theorem cellsTnt1 : Try.prog.cellsOf 40 = 1 := by kernel_rfl

set_option maxRecDepth 100000 in
set_option maxHeartbeats 1000000 in
theorem open_Tn {H : Type} {enc : TypeId × Value → H} {W : World} {base : Nat} {v : Value} {d : DataW H} {p : List MemPlace}
    (hv : Value.okWide Try.prog W .any base 42 v) (h0 : DataW.Trod enc Try.prog W 0 (fun _ => true) true 42 v d p) (hlt : ∀ x ∈ p, x.block < W.heap.size) :
    ∃ (x : Tn) (ad0 : Option Addr) (cap0 : Nat) (ad1 : Option Addr) (cap1 : Nat), v = .agg #[.int .i64 x.1, .int .i64 x.2.1, .int .i64 x.2.2.1, (.slice ad0 x.2.2.2.1.length cap0), (.slice ad1 x.2.2.2.2.length cap1)] ∧ ArgLl W ad0 x.2.2.2.1 ∧ ArgLl W ad1 x.2.2.2.2 ∧ InTn x ∧ (x.2.2.2.1.length ≤ 9223372036854775807 ∧ x.2.2.2.2.length ≤ 9223372036854775807) := by
  obtain ⟨cs, rfl, hsz⟩ := okWide_struct Try.underlying42 hv
  rw [cellsTna] at hsz
  obtain ⟨fuel, hf⟩ := h0
  obtain ⟨xs, k, _, hxy, hcl, hxl, hfl⟩ := DataW.trod_struct Try.underlying42 hf
  obtain ⟨cl⟩ := cs
  simp only [List.size_toArray] at hsz
  match xs, hxl, cl, hsz with
  | [y0, y1, y2, y3, y4], _, [v0, v1, v2, v3, v4], _ =>
    have g0 := hfl 0 _ rfl
    have g1 := hfl 1 _ rfl
    have g2 := hfl 2 _ rfl
    have g3 := hfl 3 _ rfl
    have g4 := hfl 4 _ rfl
    simp [cellsTnt0, cellsTnt1, Value.cells] at g0 g1 g2 g3 g4
    have hp : p = y0.2 ++ (y1.2 ++ (y2.2 ++ (y3.2 ++ (y4.2)))) := by simpa using congrArg Prod.snd hxy
    obtain ⟨n0, q0, _, w0⟩ := DataW.trod_int Try.underlying3 g0
    simp only [List.cons.injEq, and_true] at q0
    subst q0
    obtain ⟨n1, q1, _, w1⟩ := DataW.trod_int Try.underlying3 g1
    simp only [List.cons.injEq, and_true] at q1
    subst q1
    obtain ⟨n2, q2, _, w2⟩ := DataW.trod_int Try.underlying3 g2
    simp only [List.cons.injEq, and_true] at q2
    subst q2
    obtain ⟨ad0, cap0, zs0, e0, hA0, hl0, hw0⟩ := open_Ll_row g3 (fun y hy => hlt y (by rw [hp]; simp [hy]))
    subst e0
    obtain ⟨ad1, cap1, zs1, e1, hA1, hl1, hw1⟩ := open_Ll_row g4 (fun y hy => hlt y (by rw [hp]; simp [hy]))
    subst e1
    exact ⟨(n0, n1, n2, zs0, zs1), ad0, cap0, ad1, cap1, rfl, hA0, hA1, ⟨i64_of_wf w0, i64_of_wf w1, i64_of_wf w2, hw0, hw1⟩, ⟨hl0, hl1⟩⟩
end Go.Proofs.Ytnoojbppfbmbgaa
