/- What the listed table of the small waves says of cells. -/
import Derived.Test.YtpofmcepjmbmcaaDoorPLaidAA
import Derived.Test.YtpofmcepjmbmcaaDoorWSbA
namespace Go.Proofs.YtpofmcepjmbmcaaDoor
open Go.ChangeShapes Go.WideShapes Go.ChangeAt Go.RowKit

theorem smwGlobal : Tryd.prog.globalNamed "loop.example/g00016/impl.smallWaves" = some 1 := by kernel_rfl
theorem smwGlobalT : (Tryd.prog.globals[1]?).map (·.type) = some 79 := by kernel_rfl
theorem laid_smw {W : World} (h : laidMetH Tryd.prog [("loop.example/g00016/impl.smallWaves", Rows.laid_loop_example_g00016_impl_smallWaves)] W) : Held W 1 (ints smW) := by
  rw [MakeChecks.laidMetH_plain _ _ _ (by kernel_rfl)] at h
  obtain ⟨ps, ⟨g0, t0, cs0, f0, p0, q0, hg0, ht0, hv0, hd0, _, _⟩, _, _⟩ := h
  obtain rfl := Option.some.inj (smwGlobal.symm.trans hg0)
  obtain rfl := Option.some.inj (smwGlobalT.symm.trans ht0)
  have hc := lits_rows (zss := [[1, 1, 1, 1], [2, 1, -1, -2], [1, -1, -1, 1], [1, -2, 2, -1]]) (m := 4) Tryd.underlying79 Tryd.underlying78 (by kernel_rfl) hd0 rfl (by decide) rfl
  have hcell := fun o => World.var?_cell hg0 hv0 o
  refine ⟨?_, fun j v hj => ?_⟩
  · have h0 := hc 0 0 _ _ rfl rfl
    have h1 := hcell 0
    rw [show cs0[0]? = some (Value.int .i64 1) by simpa using h0] at h1
    exact World.block_lt_of_cell? _ _ h1
  · rw [hcell j]
    have hlt : j < 16 := by
      have := (List.getElem?_eq_some_iff.1 hj).1
      simpa [ints, smW] using this
    rw [← hj]
    rcases (show j = 0 ∨ j = 1 ∨ j = 2 ∨ j = 3 ∨ j = 4 ∨ j = 5 ∨ j = 6 ∨ j = 7 ∨ j = 8 ∨ j = 9 ∨ j = 10 ∨ j = 11 ∨ j = 12 ∨ j = 13 ∨ j = 14 ∨ j = 15 by omega) with e | e | e | e | e | e | e | e | e | e | e | e | e | e | e | e <;> subst e
    · exact (show cs0[0]? = some (.int .i64 1) by simpa using hc 0 0 _ _ rfl rfl)
    · exact (show cs0[1]? = some (.int .i64 1) by simpa using hc 0 1 _ _ rfl rfl)
    · exact (show cs0[2]? = some (.int .i64 1) by simpa using hc 0 2 _ _ rfl rfl)
    · exact (show cs0[3]? = some (.int .i64 1) by simpa using hc 0 3 _ _ rfl rfl)
    · exact (show cs0[4]? = some (.int .i64 2) by simpa using hc 1 0 _ _ rfl rfl)
    · exact (show cs0[5]? = some (.int .i64 1) by simpa using hc 1 1 _ _ rfl rfl)
    · exact (show cs0[6]? = some (.int .i64 (-1)) by simpa using hc 1 2 _ _ rfl rfl)
    · exact (show cs0[7]? = some (.int .i64 (-2)) by simpa using hc 1 3 _ _ rfl rfl)
    · exact (show cs0[8]? = some (.int .i64 1) by simpa using hc 2 0 _ _ rfl rfl)
    · exact (show cs0[9]? = some (.int .i64 (-1)) by simpa using hc 2 1 _ _ rfl rfl)
    · exact (show cs0[10]? = some (.int .i64 (-1)) by simpa using hc 2 2 _ _ rfl rfl)
    · exact (show cs0[11]? = some (.int .i64 1) by simpa using hc 2 3 _ _ rfl rfl)
    · exact (show cs0[12]? = some (.int .i64 1) by simpa using hc 3 0 _ _ rfl rfl)
    · exact (show cs0[13]? = some (.int .i64 (-2)) by simpa using hc 3 1 _ _ rfl rfl)
    · exact (show cs0[14]? = some (.int .i64 2) by simpa using hc 3 2 _ _ rfl rfl)
    · exact (show cs0[15]? = some (.int .i64 (-1)) by simpa using hc 3 3 _ _ rfl rfl)
end Go.Proofs.YtpofmcepjmbmcaaDoor
