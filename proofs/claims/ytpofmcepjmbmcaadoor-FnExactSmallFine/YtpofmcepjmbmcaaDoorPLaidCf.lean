/- What the listed tables of factors say of cells. -/
import Derived.Test.YtpofmcepjmbmcaaDoorPLaidAA
import Derived.Test.YtpofmcepjmbmcaaDoorWSkD
namespace Go.Proofs.YtpofmcepjmbmcaaDoor
open Go.ChangeShapes Go.WideShapes Go.ChangeAt Go.RowKit

theorem cofGlobal : Tryd.prog.globalNamed "loop.example/g00016/impl.coarseFactors" = some 0 := by kernel_rfl
theorem cofGlobalT : (Tryd.prog.globals[0]?).map (·.type) = some 97 := by kernel_rfl
theorem laid_cof {W : World} (h : laidMetH Tryd.prog [("loop.example/g00016/impl.coarseFactors", Rows.laid_loop_example_g00016_impl_coarseFactors)] W) : Held W 0 (ints coT) := by
  rw [MakeChecks.laidMetH_plain _ _ _ (by kernel_rfl)] at h
  obtain ⟨ps, ⟨g0, t0, cs0, f0, p0, q0, hg0, ht0, hv0, hd0, _, _⟩, _, _⟩ := h
  obtain rfl := Option.some.inj (cofGlobal.symm.trans hg0)
  obtain rfl := Option.some.inj (cofGlobalT.symm.trans ht0)
  have hc := lits_rows (zss := [[13107, 5243, 8066], [11916, 4660, 7490], [10082, 4194, 6554], [9362, 3647, 5825], [8192, 3355, 5243], [7282, 2893, 4559]]) (m := 3) Tryd.underlying97 Tryd.underlying96 (by kernel_rfl) hd0 rfl (by decide) rfl
  have hcell := fun o => World.var?_cell hg0 hv0 o
  refine ⟨?_, fun j v hj => ?_⟩
  · have h0 := hc 0 0 _ _ rfl rfl
    have h1 := hcell 0
    rw [show cs0[0]? = some (Value.int .i64 13107) by simpa using h0] at h1
    exact World.block_lt_of_cell? _ _ h1
  · rw [hcell j]
    have hlt : j < 18 := by
      have := (List.getElem?_eq_some_iff.1 hj).1
      simpa [ints, coT] using this
    rw [← hj]
    rcases (show j = 0 ∨ j = 1 ∨ j = 2 ∨ j = 3 ∨ j = 4 ∨ j = 5 ∨ j = 6 ∨ j = 7 ∨ j = 8 ∨ j = 9 ∨ j = 10 ∨ j = 11 ∨ j = 12 ∨ j = 13 ∨ j = 14 ∨ j = 15 ∨ j = 16 ∨ j = 17 by omega) with e | e | e | e | e | e | e | e | e | e | e | e | e | e | e | e | e | e <;> subst e
    · exact (show cs0[0]? = some (.int .i64 13107) by simpa using hc 0 0 _ _ rfl rfl)
    · exact (show cs0[1]? = some (.int .i64 5243) by simpa using hc 0 1 _ _ rfl rfl)
    · exact (show cs0[2]? = some (.int .i64 8066) by simpa using hc 0 2 _ _ rfl rfl)
    · exact (show cs0[3]? = some (.int .i64 11916) by simpa using hc 1 0 _ _ rfl rfl)
    · exact (show cs0[4]? = some (.int .i64 4660) by simpa using hc 1 1 _ _ rfl rfl)
    · exact (show cs0[5]? = some (.int .i64 7490) by simpa using hc 1 2 _ _ rfl rfl)
    · exact (show cs0[6]? = some (.int .i64 10082) by simpa using hc 2 0 _ _ rfl rfl)
    · exact (show cs0[7]? = some (.int .i64 4194) by simpa using hc 2 1 _ _ rfl rfl)
    · exact (show cs0[8]? = some (.int .i64 6554) by simpa using hc 2 2 _ _ rfl rfl)
    · exact (show cs0[9]? = some (.int .i64 9362) by simpa using hc 3 0 _ _ rfl rfl)
    · exact (show cs0[10]? = some (.int .i64 3647) by simpa using hc 3 1 _ _ rfl rfl)
    · exact (show cs0[11]? = some (.int .i64 5825) by simpa using hc 3 2 _ _ rfl rfl)
    · exact (show cs0[12]? = some (.int .i64 8192) by simpa using hc 4 0 _ _ rfl rfl)
    · exact (show cs0[13]? = some (.int .i64 3355) by simpa using hc 4 1 _ _ rfl rfl)
    · exact (show cs0[14]? = some (.int .i64 5243) by simpa using hc 4 2 _ _ rfl rfl)
    · exact (show cs0[15]? = some (.int .i64 7282) by simpa using hc 5 0 _ _ rfl rfl)
    · exact (show cs0[16]? = some (.int .i64 2893) by simpa using hc 5 1 _ _ rfl rfl)
    · exact (show cs0[17]? = some (.int .i64 4559) by simpa using hc 5 2 _ _ rfl rfl)
theorem fifGlobal : Tryd.prog.globalNamed "loop.example/g00016/impl.fineFactors" = some 2 := by kernel_rfl
theorem fifGlobalT : (Tryd.prog.globals[2]?).map (·.type) = some 97 := by kernel_rfl
theorem laid_fif {W : World} (h : laidMetH Tryd.prog [("loop.example/g00016/impl.fineFactors", Rows.laid_loop_example_g00016_impl_fineFactors)] W) : Held W 2 (ints fiT) := by
  rw [MakeChecks.laidMetH_plain _ _ _ (by kernel_rfl)] at h
  obtain ⟨ps, ⟨g0, t0, cs0, f0, p0, q0, hg0, ht0, hv0, hd0, _, _⟩, _, _⟩ := h
  obtain rfl := Option.some.inj (fifGlobal.symm.trans hg0)
  obtain rfl := Option.some.inj (fifGlobalT.symm.trans ht0)
  have hc := lits_rows (zss := [[10, 16, 13], [11, 18, 14], [13, 20, 16], [14, 23, 18], [16, 25, 20], [18, 29, 23]]) (m := 3) Tryd.underlying97 Tryd.underlying96 (by kernel_rfl) hd0 rfl (by decide) rfl
  have hcell := fun o => World.var?_cell hg0 hv0 o
  refine ⟨?_, fun j v hj => ?_⟩
  · have h0 := hc 0 0 _ _ rfl rfl
    have h1 := hcell 0
    rw [show cs0[0]? = some (Value.int .i64 10) by simpa using h0] at h1
    exact World.block_lt_of_cell? _ _ h1
  · rw [hcell j]
    have hlt : j < 18 := by
      have := (List.getElem?_eq_some_iff.1 hj).1
      simpa [ints, fiT] using this
    rw [← hj]
    rcases (show j = 0 ∨ j = 1 ∨ j = 2 ∨ j = 3 ∨ j = 4 ∨ j = 5 ∨ j = 6 ∨ j = 7 ∨ j = 8 ∨ j = 9 ∨ j = 10 ∨ j = 11 ∨ j = 12 ∨ j = 13 ∨ j = 14 ∨ j = 15 ∨ j = 16 ∨ j = 17 by omega) with e | e | e | e | e | e | e | e | e | e | e | e | e | e | e | e | e | e <;> subst e
    · exact (show cs0[0]? = some (.int .i64 10) by simpa using hc 0 0 _ _ rfl rfl)
    · exact (show cs0[1]? = some (.int .i64 16) by simpa using hc 0 1 _ _ rfl rfl)
    · exact (show cs0[2]? = some (.int .i64 13) by simpa using hc 0 2 _ _ rfl rfl)
    · exact (show cs0[3]? = some (.int .i64 11) by simpa using hc 1 0 _ _ rfl rfl)
    · exact (show cs0[4]? = some (.int .i64 18) by simpa using hc 1 1 _ _ rfl rfl)
    · exact (show cs0[5]? = some (.int .i64 14) by simpa using hc 1 2 _ _ rfl rfl)
    · exact (show cs0[6]? = some (.int .i64 13) by simpa using hc 2 0 _ _ rfl rfl)
    · exact (show cs0[7]? = some (.int .i64 20) by simpa using hc 2 1 _ _ rfl rfl)
    · exact (show cs0[8]? = some (.int .i64 16) by simpa using hc 2 2 _ _ rfl rfl)
    · exact (show cs0[9]? = some (.int .i64 14) by simpa using hc 3 0 _ _ rfl rfl)
    · exact (show cs0[10]? = some (.int .i64 23) by simpa using hc 3 1 _ _ rfl rfl)
    · exact (show cs0[11]? = some (.int .i64 18) by simpa using hc 3 2 _ _ rfl rfl)
    · exact (show cs0[12]? = some (.int .i64 16) by simpa using hc 4 0 _ _ rfl rfl)
    · exact (show cs0[13]? = some (.int .i64 25) by simpa using hc 4 1 _ _ rfl rfl)
    · exact (show cs0[14]? = some (.int .i64 20) by simpa using hc 4 2 _ _ rfl rfl)
    · exact (show cs0[15]? = some (.int .i64 18) by simpa using hc 5 0 _ _ rfl rfl)
    · exact (show cs0[16]? = some (.int .i64 29) by simpa using hc 5 1 _ _ rfl rfl)
    · exact (show cs0[17]? = some (.int .i64 23) by simpa using hc 5 2 _ _ rfl rfl)
end Go.Proofs.YtpofmcepjmbmcaaDoor
