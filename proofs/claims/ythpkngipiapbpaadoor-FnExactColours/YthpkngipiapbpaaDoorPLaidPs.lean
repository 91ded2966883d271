/- What the listed table of passes says of cells. -/
import Derived.Test.YthpkngipiapbpaaDoorPLaid
import Derived.Test.YthpkngipiapbpaaDoorWPaB
import Derived.Test.YthpkngipiapbpaaDoorRows
import Derived.Stop.Joined
import Derived.LaidMore
namespace Go.Proofs.YthpkngipiapbpaaDoor
open Go.ChangeShapes Go.WideShapes Go.ChangeAt Go.RowKit

def passZss : List (List Int) := [[0, 0, 8, 8, 0, 0], [4, 0, 8, 8, 0, 0], [0, 4, 4, 8, 0, 0], [2, 0, 4, 4, 0, 0], [0, 2, 2, 4, 0, 0], [1, 0, 2, 2, 0, 0], [0, 1, 1, 2, 0, 0]]
theorem passGlobal : Tryd.prog.globalNamed "loop.example/g00016/impl.passSteps" = some 1 := by kernel_rfl
theorem passGlobalT : (Tryd.prog.globals[1]?).map (·.type) = some 122 := by kernel_rfl
theorem passCellsOf : Tryd.prog.cellsOf 101 = 6 := by kernel_rfl
theorem passFlat : passCells = passZss.flatten.map (.int .i64) := rfl
theorem passFlat_at : ∀ j, j < 42 → passZss.flatten[j]? = (passZss[j / 6]?).bind (·[j % 6]?) := by decide
theorem laid_passes {W : World} (h : laidMetH Tryd.prog [("loop.example/g00016/impl.passSteps", Rows.laid_loop_example_g00016_impl_passSteps)] W) : Held W 1 passCells := by
  rw [MakeChecks.laidMetH_plain _ _ _ (by kernel_rfl)] at h
  obtain ⟨ps, ⟨g0, t0, cs0, f0, p0, q0, hg0, ht0, hv0, hd0, _, _⟩, _, _⟩ := h
  obtain rfl := Option.some.inj (passGlobal.symm.trans hg0)
  obtain rfl := Option.some.inj (passGlobalT.symm.trans ht0)
  have hc := lits_array (zss := passZss) Tryd.underlying122 Tryd.underlying101 (fun j f hf => by
    match j, hf with
    | 0, hf => simp at hf; subst hf; exact ⟨rfl, rfl⟩
    | 1, hf => simp at hf; subst hf; exact ⟨rfl, rfl⟩
    | 2, hf => simp at hf; subst hf; exact ⟨rfl, rfl⟩
    | 3, hf => simp at hf; subst hf; exact ⟨rfl, rfl⟩
    | 4, hf => simp at hf; subst hf; exact ⟨rfl, rfl⟩
    | 5, hf => simp at hf; subst hf; exact ⟨rfl, rfl⟩
    | j + 6, hf => simp at hf) passCellsOf hd0 rfl (by decide) rfl
  have hcell := fun o => World.var?_cell hg0 hv0 o
  refine ⟨?_, fun j v hj => ?_⟩
  · have h0 := hc 0 0 0 _ rfl rfl
    have h1 := hcell 0
    rw [show cs0[0]? = some (Value.int .i64 0) by simpa using h0] at h1
    exact World.block_lt_of_cell? _ _ h1
  · have hlt : j < 42 := (List.getElem?_eq_some_iff.1 hj).1
    have e := hcell j
    have hv : ∃ z zs, passZss[j / 6]? = some zs ∧ zs[j % 6]? = some z ∧ v = .int .i64 z := by
      rw [passFlat, List.getElem?_map] at hj
      have h2 := passFlat_at j hlt
      cases h3 : passZss.flatten[j]? with
      | none => rw [h3] at hj; simp at hj
      | some z =>
        rw [h3] at hj h2
        simp only [Option.map_some, Option.some.injEq] at hj
        cases h4 : passZss[j / 6]? with
        | none => rw [h4] at h2; simp at h2
        | some zs =>
          rw [h4] at h2
          exact ⟨z, zs, rfl, by simpa using h2.symm, hj.symm⟩
    obtain ⟨z, zs, a, b, rfl⟩ := hv
    have h2 := hc (j / 6) (j % 6) z zs a b
    rw [show j / 6 * 6 + j % 6 = j by omega] at h2
    rw [e]
    simpa using h2
end Go.Proofs.YthpkngipiapbpaaDoor
