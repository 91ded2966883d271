/- What the listed table of waves says of cells. -/
import Derived.Test.YtnalmingbglgfaaDoorPOpen
import Derived.Test.YtnalmingbglgfaaDoorPlainFx
import Derived.OpenShut
import Derived.Test.YtnalmingbglgfaaDoorRows
import Derived.Stop.Joined
import Derived.LaidMore
namespace Go.Proofs.YtnalmingbglgfaaDoor
open Go.ChangeShapes Go.WideShapes Go.ChangeAt Go.RowKit

theorem lits_ints {H : Type} {enc : TypeId × Value → H} {W : World} {base : Nat} {spare : Nat → Bool} {held : Bool} {t : TypeId} {n fuel : Nat} {cs : List Value} {y : DataW H × List MemPlace} {zs : List Int}
    (ht : Tryd.prog.underlying t = some (.array n 3)) (h : DataW.trod enc Tryd.prog W base spare held fuel t cs = some y) (hy : y.1 = .agg (zs.map fun z => .lit (.int .i64 z))) (hn : zs.length = n) :
    ∀ (j : Nat) (z : Int), zs[j]? = some z → cs[j]? = some (Value.int .i64 z) := by
  obtain ⟨xs, k, _, rfl, hl, hxl, hel⟩ := DataW.trod_array ht h
  simp only [DataW.agg.injEq] at hy
  intro j z hz
  have hlen : xs.length = zs.length := by have := congrArg List.length hy; simpa using this
  have hj : j < xs.length := by have := (List.getElem?_eq_some_iff.1 hz).1; omega
  have hj2 := hel j (by omega)
  rw [List.getElem?_eq_getElem hj, cellsI] at hj2
  obtain ⟨m, q, q2, _⟩ := DataW.trod_int Tryd.underlying3 hj2
  have hv : xs[j].1 = .lit (.int .i64 z) := by
    have h1 := congrArg (fun l => l[j]?) hy
    simp only [List.getElem?_map, List.getElem?_eq_getElem hj, hz, Option.map_some, Option.some.injEq] at h1
    exact h1
  have hm : m = z := by
    have := q2
    rw [this] at hv
    simpa using hv
  subst hm
  have h3 : ((cs.drop (j * 1)).take 1)[0]? = some (Value.int .i64 m) := by rw [q]; rfl
  rw [List.getElem?_take, if_pos (by omega), List.getElem?_drop] at h3
  simpa using h3
theorem waveGlobal : Tryd.prog.globalNamed "loop.example/g00016/impl.waveHeights" = some 0 := by kernel_rfl
theorem waveGlobalT : (Tryd.prog.globals[0]?).map (·.type) = some 31 := by kernel_rfl
theorem laid_waves {W : World} (h : laidMetH Tryd.prog [("loop.example/g00016/impl.waveHeights", Rows.laid_loop_example_g00016_impl_waveHeights)] W) : Held W 0 [.int .i64 2896, .int .i64 4017, .int .i64 3784, .int .i64 3406, .int .i64 2896, .int .i64 2276, .int .i64 1567, .int .i64 799] := by
  rw [MakeChecks.laidMetH_plain _ _ _ (by kernel_rfl)] at h
  obtain ⟨ps, ⟨g0, t0, cs0, f0, p0, q0, hg0, ht0, hv0, hd0, _, _⟩, _, _⟩ := h
  obtain rfl := Option.some.inj (waveGlobal.symm.trans hg0)
  obtain rfl := Option.some.inj (waveGlobalT.symm.trans ht0)
  have hc := lits_ints (zs := hT) Tryd.underlying31 hd0 rfl rfl
  have hcell := fun o => World.var?_cell hg0 hv0 o
  refine ⟨?_, fun j v hj => ?_⟩
  · have h0 := hc 0 _ rfl
    have h1 := hcell 0
    rw [show cs0[0]? = some (Value.int .i64 2896) by simpa using h0] at h1
    exact World.block_lt_of_cell? _ _ h1
  · have hlt : j < 8 := (List.getElem?_eq_some_iff.1 hj).1
    rw [hcell j]
    rcases (show j = 0 ∨ j = 1 ∨ j = 2 ∨ j = 3 ∨ j = 4 ∨ j = 5 ∨ j = 6 ∨ j = 7 by omega) with e | e | e | e | e | e | e | e <;> subst e <;> (rw [← Option.some.inj hj]; simpa using hc _ _ rfl)
end Go.Proofs.YtnalmingbglgfaaDoor
