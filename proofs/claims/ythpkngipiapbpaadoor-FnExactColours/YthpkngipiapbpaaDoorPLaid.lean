/- What a table of numbers that a variable holds says of cells: a struct's numbers, an array of structs of numbers. -/
import Derived.Test.YthpkngipiapbpaaDoorPOpen
import Derived.OpenShut
namespace Go.Proofs.YthpkngipiapbpaaDoor
open Go.ChangeShapes Go.WideShapes Go.ChangeAt Go.RowKit

theorem lits_struct {H : Type} {enc : TypeId × Value → H} {W : World} {base : Nat} {spare : Nat → Bool} {held : Bool} {t : TypeId} {fs : Array Go.Field} {fuel : Nat} {seg : List Value} {y : DataW H × List MemPlace} {zs : List Int}
    (ht : Tryd.prog.underlying t = some (.struct fs)) (hfs : ∀ (j : Nat) (f : Go.Field), fs[j]? = some f → f.type = 3 ∧ f.offset = j)
    (h : DataW.trod enc Tryd.prog W base spare held fuel t seg = some y) (hy : y.1 = .agg (zs.map fun z => .lit (.int .i64 z))) :
    ∀ (j : Nat) (z : Int), zs[j]? = some z → seg[j]? = some (Value.int .i64 z) := by
  obtain ⟨ys, k, _, rfl, hl, hyl, hfl⟩ := DataW.trod_struct ht h
  simp only [DataW.agg.injEq] at hy
  intro j z hz
  have hlen : ys.length = zs.length := by have := congrArg List.length hy; simpa using this
  have hj : j < ys.length := by have := (List.getElem?_eq_some_iff.1 hz).1; omega
  have hjf : j < fs.size := by omega
  obtain ⟨e1, e2⟩ := hfs j fs[j] (Array.getElem?_eq_getElem hjf)
  have hj2 := hfl j fs[j] (Array.getElem?_eq_getElem hjf)
  rw [e1, e2, cellsI, List.getElem?_eq_getElem hj] at hj2
  obtain ⟨n, q, q2, _⟩ := DataW.trod_int Tryd.underlying3 hj2
  have hv : ys[j].1 = .lit (.int .i64 z) := by
    have h1 := congrArg (fun l => l[j]?) hy
    simp only [List.getElem?_map, List.getElem?_eq_getElem hj, hz, Option.map_some, Option.some.injEq] at h1
    exact h1
  have hn : n = z := by
    have := q2
    rw [this] at hv
    simpa using hv
  subst hn
  have h3 : ((seg.drop j).take 1)[0]? = some (Value.int .i64 n) := by rw [q]; rfl
  rw [List.getElem?_take, if_pos (by omega), List.getElem?_drop] at h3
  simpa using h3
theorem lits_array {H : Type} {enc : TypeId × Value → H} {W : World} {base : Nat} {spare : Nat → Bool} {held : Bool} {t e : TypeId} {fs : Array Go.Field} {n m fuel : Nat} {cs : List Value} {y : DataW H × List MemPlace} {zss : List (List Int)}
    (ht : Tryd.prog.underlying t = some (.array n e)) (he : Tryd.prog.underlying e = some (.struct fs)) (hfs : ∀ (j : Nat) (f : Go.Field), fs[j]? = some f → f.type = 3 ∧ f.offset = j) (hm : Tryd.prog.cellsOf e = m)
    (h : DataW.trod enc Tryd.prog W base spare held fuel t cs = some y) (hy : y.1 = .agg (zss.map fun zs => .agg (zs.map fun z => .lit (.int .i64 z)))) (hz : ∀ zs ∈ zss, zs.length = m) (hn : zss.length = n) :
    ∀ (i j : Nat) (z : Int) (zs : List Int), zss[i]? = some zs → zs[j]? = some z → cs[i * m + j]? = some (Value.int .i64 z) := by
  obtain ⟨xs, k, _, rfl, hl, hxl, hel⟩ := DataW.trod_array ht h
  simp only [DataW.agg.injEq] at hy
  intro i j z zs hzs hjz
  have hi : i < xs.length := by have := (List.getElem?_eq_some_iff.1 hzs).1; omega
  have h1 := hel i (by omega)
  rw [List.getElem?_eq_getElem hi, hm] at h1
  have hv : xs[i].1 = .agg (zs.map fun z => .lit (.int .i64 z)) := by
    have h1 := congrArg (fun l => l[i]?) hy
    simp only [List.getElem?_map, List.getElem?_eq_getElem hi, hzs, Option.map_some, Option.some.injEq] at h1
    exact h1
  have h2 := lits_struct he hfs h1 hv j z hjz
  have hjm : j < m := by have := (List.getElem?_eq_some_iff.1 hjz).1; have := hz zs (List.mem_of_getElem? hzs); omega
  rw [List.getElem?_take, if_pos hjm, List.getElem?_drop] at h2
  exact h2
end Go.Proofs.YthpkngipiapbpaaDoor
