/- What the listed table of cosines says of cells. -/
import Derived.Test.YtnoojbppfbmbgaaDoorPLaidWv
import Derived.Test.YtnoojbppfbmbgaaDoorWCsA
namespace Go.Proofs.YtnoojbppfbmbgaaDoor
open Go.ChangeShapes Go.WideShapes Go.ChangeAt Go.RowKit

theorem cosGlobal : Tryd.prog.globalNamed "loop.example/g00016/impl.quarterCosines" = some 0 := by kernel_rfl
theorem cosGlobalT : (Tryd.prog.globals[0]?).map (·.type) = some 112 := by kernel_rfl
theorem laid_cos {W : World} (h : laidMetH Tryd.prog [("loop.example/g00016/impl.quarterCosines", Rows.laid_loop_example_g00016_impl_quarterCosines)] W) : Held W 0 cosCells := by
  rw [MakeChecks.laidMetH_plain _ _ _ (by kernel_rfl)] at h
  obtain ⟨ps, ⟨g0, t0, cs0, f0, p0, q0, hg0, ht0, hv0, hd0, _, _⟩, _, _⟩ := h
  obtain rfl := Option.some.inj (cosGlobal.symm.trans hg0)
  obtain rfl := Option.some.inj (cosGlobalT.symm.trans ht0)
  have hc := lits_ints (zs := cosQ) Tryd.underlying112 hd0 rfl rfl
  have hcell := fun o => World.var?_cell hg0 hv0 o
  refine ⟨?_, fun j v hj => ?_⟩
  · have h0 := hc 0 _ rfl
    have h1 := hcell 0
    rw [show cs0[0]? = some (Value.int .i64 16384) by simpa using h0] at h1
    exact World.block_lt_of_cell? _ _ h1
  · rw [hcell j]
    unfold cosCells at hj
    rw [List.getElem?_map] at hj
    obtain ⟨z, hz, rfl⟩ := Option.map_eq_some_iff.1 hj
    simpa using hc j z hz
end Go.Proofs.YtnoojbppfbmbgaaDoor
