/- Opening an argument that is a Still: what the form's reading of it says. -/
import Derived.Test.YthpkngipiapbpaaDoorPOpenR
import Derived.Test.YthpkngipiapbpaaDoorPOpenRNt
import Derived.Test.YthpkngipiapbpaaDoorWSt
import Derived.ChangeMaps5
namespace Go.Proofs.YthpkngipiapbpaaDoor
open Go.ChangeShapes Go.WideShapes Go.ChangeAt Go.RowKit

theorem cellsSta : Tryd.prog.cellsOf 27 = 8 := by kernel_rfl
theorem cellsStt0 : Tryd.prog.cellsOf 24 = 5 := by kernel_rfl
theorem cellsStt1 : Tryd.prog.cellsOf 3 = 1 := by kernel_rfl
theorem cellsStt2 : Tryd.prog.cellsOf 22 = 1 := by kernel_rfl
theorem cellsStt3 : Tryd.prog.cellsOf 25 = 1 := by kernel_rfl
theorem cellsStt4 : Tryd.prog.cellsOf 4 = 1 := by kernel_rfl

set_option maxRecDepth 100000 in
set_option maxHeartbeats 1000000 in
theorem open_St {H : Type} {enc : TypeId × Value → H} {W : World} {base : Nat} {v : Value} {d : DataW H} {p : List MemPlace}
    (hv : Value.okWide Tryd.prog W .any base 27 v) (h0 : DataW.Trod enc Tryd.prog W 0 (fun _ => true) true 27 v d p) (hlt : ∀ x ∈ p, x.block < W.heap.size) :
    ∃ (x : St) (ad0 : Option Addr) (cap0 : Nat) (ad1 : Option Addr) (cap1 : Nat) (ad2 : Option Addr) (cap2 : Nat), v = .agg #[.int .i64 x.1.1, .int .i64 x.1.2.1, .int .i64 x.1.2.2.1, .int .i64 x.1.2.2.2.1, (.slice ad0 x.1.2.2.2.2.length cap0), (.slice ad1 x.2.1.length cap1), (.slice ad2 x.2.2.1.length cap2), .bool x.2.2.2] ∧ ArgI W ad0 x.1.2.2.2.2 ∧ ArgI W ad1 x.2.1 ∧ ArgNt W ad2 x.2.2.1 ∧ InSt x ∧ (x.1.2.2.2.2.length ≤ 9223372036854775807 ∧ x.2.1.length ≤ 9223372036854775807 ∧ x.2.2.1.length ≤ 9223372036854775807) := by
  obtain ⟨cs, rfl, hsz⟩ := okWide_struct Tryd.underlying27 hv
  rw [cellsSta] at hsz
  obtain ⟨fuel, hf⟩ := h0
  obtain ⟨xs, k, _, hxy, hcl, hxl, hfl⟩ := DataW.trod_struct Tryd.underlying27 hf
  obtain ⟨cl⟩ := cs
  simp only [List.size_toArray] at hsz
  match xs, hxl, cl, hsz with
  | [y0, y1, y2, y3], _, [v0, v1, v2, v3, v4, v5, v6, v7], _ =>
    have g0 := hfl 0 _ rfl
    have g1 := hfl 1 _ rfl
    have g2 := hfl 2 _ rfl
    have g3 := hfl 3 _ rfl
    simp [cellsStt0, cellsStt2, cellsStt3, cellsStt4, Value.cells] at g0 g1 g2 g3
    have hp : p = y0.2 ++ (y1.2 ++ (y2.2 ++ (y3.2))) := by simpa using congrArg Prod.snd hxy
    obtain ⟨zs_0, k0, _, hxy0, hcl0, hxl0, hfl0⟩ := DataW.trod_struct Tryd.underlying24 g0
    match zs_0, hxl0 with
    | [z0_0, z0_1, z0_2, z0_3, z0_4], _ =>
    have gg0 := hfl0 0 _ rfl
    have gg1 := hfl0 1 _ rfl
    have gg2 := hfl0 2 _ rfl
    have gg3 := hfl0 3 _ rfl
    have gg4 := hfl0 4 _ rfl
    simp [cellsStt1, cellsStt2] at gg0 gg1 gg2 gg3 gg4
    have hp0 : y0.2 = z0_0.2 ++ (z0_1.2 ++ (z0_2.2 ++ (z0_3.2 ++ (z0_4.2)))) := by simpa using congrArg Prod.snd hxy0
    obtain ⟨n0, q0, _, w0⟩ := DataW.trod_int Tryd.underlying3 gg0
    simp only [List.cons.injEq, and_true] at q0
    subst q0
    obtain ⟨n1, q1, _, w1⟩ := DataW.trod_int Tryd.underlying3 gg1
    simp only [List.cons.injEq, and_true] at q1
    subst q1
    obtain ⟨n2, q2, _, w2⟩ := DataW.trod_int Tryd.underlying3 gg2
    simp only [List.cons.injEq, and_true] at q2
    subst q2
    obtain ⟨n3, q3, _, w3⟩ := DataW.trod_int Tryd.underlying3 gg3
    simp only [List.cons.injEq, and_true] at q3
    subst q3
    obtain ⟨ad0, cap0, zs0, e0, hA0, hl0, hw0⟩ := open_row_at Tryd.underlying22 Tryd.underlying3 cellsI gg4 (fun y hy => hlt y (by rw [hp, hp0]; simp [hy]))
    subst e0
    obtain ⟨ad1, cap1, zs1, e1, hA1, hl1, hw1⟩ := open_row_at Tryd.underlying22 Tryd.underlying3 cellsI g1 (fun y hy => hlt y (by rw [hp]; simp [hy]))
    subst e1
    obtain ⟨ad2, cap2, zs2, e2, hA2, hl2, hw2⟩ := open_Nt_row g2 (fun y hy => hlt y (by rw [hp]; simp [hy]))
    subst e2
    obtain ⟨n7, q7, _⟩ := DataW.trod_bool Tryd.underlying4 g3
    simp only [List.cons.injEq, and_true] at q7
    subst q7
    exact ⟨((n0, n1, n2, n3, zs0), zs1, zs2, n7), ad0, cap0, ad1, cap1, ad2, cap2, rfl, hA0, hA1, hA2, ⟨⟨i64_of_wf w0, i64_of_wf w1, i64_of_wf w2, i64_of_wf w3, inI_of_wf hw0⟩, inI_of_wf hw1, hw2⟩, ⟨hl0, hl1, hl2⟩⟩
end Go.Proofs.YthpkngipiapbpaaDoor
