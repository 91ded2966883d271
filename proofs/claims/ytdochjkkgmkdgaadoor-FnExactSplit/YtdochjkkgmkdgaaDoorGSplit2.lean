/- The texts behind FnExactSplit, part 2: what each of them says stands at its head. -/
import Derived.Test.YtdochjkkgmkdgaaDoorGSplit1
import Derived.OpenShut
import Derived.Test.YtdochjkkgmkdgaaDoorRows
import Derived.Stop.Joined
import Derived.LaidMore
/- What a table of numbers that a variable holds says of cells: a struct's numbers, an array of structs of numbers. -/
namespace Go.Proofs.YtdochjkkgmkdgaaDoor
open Go.ChangeShapes Go.WideShapes Go.ChangeAt Go.RowKit

theorem lits_struct {H : Type} {enc : TypeId × Value → H} {W : World} {base : Nat} {spare : Nat → Bool} {held : Bool} {t : TypeId} {fs : Array Go.Field} {fuel : Nat} {seg : List Value} {y : DataW H × List MemPlace} {zs : List Int}
    (ht : Tryd.prog.underlying t = some (.struct fs)) (hfs : ∀ (j : Nat) (f : Go.Field), fs[j]? = some f → f.type = 3 ∧ f.offset = j)
    (h : DataW.trod enc Tryd.prog W base spare held fuel t seg = some y) (hy : y.1 = .agg (zs.map fun z => .lit (.int .i64 z))) :
    ∀ (j : Nat) (z : Int), zs[j]? = some z → seg[j]? = some (Value.int .i64 z) := by
  obtain ⟨ys, k, _, rfl, hl, hyl, hfl⟩ := DataW.trod_struct ht h
  simp only [DataW.agg.injEq] at hy
  intro j z hz
  have hlen : ys.length = zs.length := by have := congrArg List.length hy; simpa using this
  have hj : j < ys.length := by have := (List.getElem?_eq_some_iff.1 hz).1; omega
  have hjf : j < fs.size := by omega
  obtain ⟨e1, e2⟩ := hfs j fs[j] (Array.getElem?_eq_getElem hjf)
  have hj2 := hfl j fs[j] (Array.getElem?_eq_getElem hjf)
  rw [e1, e2, cellsI, List.getElem?_eq_getElem hj] at hj2
  obtain ⟨n, q, q2, _⟩ := DataW.trod_int Tryd.underlying3 hj2
  have hv : ys[j].1 = .lit (.int .i64 z) := by
    have h1 := congrArg (fun l => l[j]?) hy
    simp only [List.getElem?_map, List.getElem?_eq_getElem hj, hz, Option.map_some, Option.some.injEq] at h1
    exact h1
  have hn : n = z := by
    have := q2
    rw [this] at hv
    simpa using hv
  subst hn
  have h3 : ((seg.drop j).take 1)[0]? = some (Value.int .i64 n) := by rw [q]; rfl
  rw [List.getElem?_take, if_pos (by omega), List.getElem?_drop] at h3
  simpa using h3
theorem lits_array {H : Type} {enc : TypeId × Value → H} {W : World} {base : Nat} {spare : Nat → Bool} {held : Bool} {t e : TypeId} {fs : Array Go.Field} {n m fuel : Nat} {cs : List Value} {y : DataW H × List MemPlace} {zss : List (List Int)}
    (ht : Tryd.prog.underlying t = some (.array n e)) (he : Tryd.prog.underlying e = some (.struct fs)) (hfs : ∀ (j : Nat) (f : Go.Field), fs[j]? = some f → f.type = 3 ∧ f.offset = j) (hm : Tryd.prog.cellsOf e = m)
    (h : DataW.trod enc Tryd.prog W base spare held fuel t cs = some y) (hy : y.1 = .agg (zss.map fun zs => .agg (zs.map fun z => .lit (.int .i64 z)))) (hz : ∀ zs ∈ zss, zs.length = m) (hn : zss.length = n) :
    ∀ (i j : Nat) (z : Int) (zs : List Int), zss[i]? = some zs → zs[j]? = some z → cs[i * m + j]? = some (Value.int .i64 z) := by
  obtain ⟨xs, k, _, rfl, hl, hxl, hel⟩ := DataW.trod_array ht h
  simp only [DataW.agg.injEq] at hy
  intro i j z zs hzs hjz
  have hi : i < xs.length := by have := (List.getElem?_eq_some_iff.1 hzs).1; omega
  have h1 := hel i (by omega)
  rw [List.getElem?_eq_getElem hi, hm] at h1
  have hv : xs[i].1 = .agg (zs.map fun z => .lit (.int .i64 z)) := by
    have h1 := congrArg (fun l => l[i]?) hy
    simp only [List.getElem?_map, List.getElem?_eq_getElem hi, hzs, Option.map_some, Option.some.injEq] at h1
    exact h1
  have h2 := lits_struct he hfs h1 hv j z hjz
  have hjm : j < m := by have := (List.getElem?_eq_some_iff.1 hjz).1; have := hz zs (List.mem_of_getElem? hzs); omega
  rw [List.getElem?_take, if_pos hjm, List.getElem?_drop] at h2
  exact h2
end Go.Proofs.YtdochjkkgmkdgaaDoor

/- What the listed table of passes says of cells. -/
namespace Go.Proofs.YtdochjkkgmkdgaaDoor
open Go.ChangeShapes Go.WideShapes Go.ChangeAt Go.RowKit

def passZss : List (List Int) := [[0, 0, 8, 8, 0, 0], [4, 0, 8, 8, 0, 0], [0, 4, 4, 8, 0, 0], [2, 0, 4, 4, 0, 0], [0, 2, 2, 4, 0, 0], [1, 0, 2, 2, 0, 0], [0, 1, 1, 2, 0, 0]]
theorem passGlobal : Tryd.prog.globalNamed "loop.example/g00016/impl.passSteps" = some 0 := by kernel_rfl
theorem passGlobalT : (Tryd.prog.globals[0]?).map (·.type) = some 54 := by kernel_rfl
theorem passCellsOf : Tryd.prog.cellsOf 33 = 6 := by kernel_rfl
theorem passFlat : passCells = passZss.flatten.map (.int .i64) := rfl
theorem passFlat_at : ∀ j, j < 42 → passZss.flatten[j]? = (passZss[j / 6]?).bind (·[j % 6]?) := by decide
theorem laid_passes {W : World} (h : laidMetH Tryd.prog [("loop.example/g00016/impl.passSteps", Rows.laid_loop_example_g00016_impl_passSteps)] W) : Held W 0 passCells := by
  rw [MakeChecks.laidMetH_plain _ _ _ (by kernel_rfl)] at h
  obtain ⟨ps, ⟨g0, t0, cs0, f0, p0, q0, hg0, ht0, hv0, hd0, _, _⟩, _, _⟩ := h
  obtain rfl := Option.some.inj (passGlobal.symm.trans hg0)
  obtain rfl := Option.some.inj (passGlobalT.symm.trans ht0)
  have hc := lits_array (zss := passZss) Tryd.underlying54 Tryd.underlying33 (fun j f hf => by
    match j, hf with
    | 0, hf => simp at hf; subst hf; exact ⟨rfl, rfl⟩
    | 1, hf => simp at hf; subst hf; exact ⟨rfl, rfl⟩
    | 2, hf => simp at hf; subst hf; exact ⟨rfl, rfl⟩
    | 3, hf => simp at hf; subst hf; exact ⟨rfl, rfl⟩
    | 4, hf => simp at hf; subst hf; exact ⟨rfl, rfl⟩
    | 5, hf => simp at hf; subst hf; exact ⟨rfl, rfl⟩
    | j + 6, hf => simp at hf) passCellsOf hd0 rfl (by decide) rfl
  have hcell := fun o => World.var?_cell hg0 hv0 o
  refine ⟨?_, fun j v hj => ?_⟩
  · have h0 := hc 0 0 0 _ rfl rfl
    have h1 := hcell 0
    rw [show cs0[0]? = some (Value.int .i64 0) by simpa using h0] at h1
    exact World.block_lt_of_cell? _ _ h1
  · have hlt : j < 42 := (List.getElem?_eq_some_iff.1 hj).1
    have e := hcell j
    have hv : ∃ z zs, passZss[j / 6]? = some zs ∧ zs[j % 6]? = some z ∧ v = .int .i64 z := by
      rw [passFlat, List.getElem?_map] at hj
      have h2 := passFlat_at j hlt
      cases h3 : passZss.flatten[j]? with
      | none => rw [h3] at hj; simp at hj
      | some z =>
        rw [h3] at hj h2
        simp only [Option.map_some, Option.some.injEq] at hj
        cases h4 : passZss[j / 6]? with
        | none => rw [h4] at h2; simp at h2
        | some zs =>
          rw [h4] at h2
          exact ⟨z, zs, rfl, by simpa using h2.symm, hj.symm⟩
    obtain ⟨z, zs, a, b, rfl⟩ := hv
    have h2 := hc (j / 6) (j % 6) z zs a b
    rw [show j / 6 * 6 + j % 6 = j by omega] at h2
    rw [e]
    simpa using h2
end Go.Proofs.YtdochjkkgmkdgaaDoor
