/- What a listed table of rows of numbers says of cells. -/
import Derived.Test.YtpofmcepjmbmcaaDoorPOpen
import Derived.OpenShut
import Derived.Test.YtpofmcepjmbmcaaDoorRows
import Derived.Stop.Joined
import Derived.LaidMore
namespace Go.Proofs.YtpofmcepjmbmcaaDoor
open Go.ChangeShapes Go.WideShapes Go.ChangeAt Go.RowKit

theorem lits_ints1 {H : Type} {enc : TypeId × Value → H} {W : World} {base : Nat} {spare : Nat → Bool} {held : Bool} {t : TypeId} {n fuel : Nat} {cs : List Value} {y : DataW H × List MemPlace} {zs : List Int}
    (ht : Tryd.prog.underlying t = some (.array n 3)) (h : DataW.trod enc Tryd.prog W base spare held fuel t cs = some y) (hy : y.1 = .agg (zs.map fun z => .lit (.int .i64 z))) (hn : zs.length = n) :
    ∀ (j : Nat) (z : Int), zs[j]? = some z → cs[j]? = some (Value.int .i64 z) := by
  obtain ⟨xs, k, _, rfl, hl, hxl, hel⟩ := DataW.trod_array ht h
  simp only [DataW.agg.injEq] at hy
  intro j z hz
  have hlen : xs.length = zs.length := by have := congrArg List.length hy; simpa using this
  have hj : j < xs.length := by have := (List.getElem?_eq_some_iff.1 hz).1; omega
  have hj2 := hel j (by omega)
  rw [List.getElem?_eq_getElem hj, cellsI] at hj2
  obtain ⟨m, q, q2, _⟩ := DataW.trod_int Tryd.underlying3 hj2
  have hv : xs[j].1 = .lit (.int .i64 z) := by
    have h1 := congrArg (fun l => l[j]?) hy
    simp only [List.getElem?_map, List.getElem?_eq_getElem hj, hz, Option.map_some, Option.some.injEq] at h1
    exact h1
  have hm : m = z := by
    have := q2
    rw [this] at hv
    simpa using hv
  subst hm
  have h3 : ((cs.drop (j * 1)).take 1)[0]? = some (Value.int .i64 m) := by rw [q]; rfl
  rw [List.getElem?_take, if_pos (by omega), List.getElem?_drop] at h3
  simpa using h3
theorem lits_rows {H : Type} {enc : TypeId × Value → H} {W : World} {base : Nat} {spare : Nat → Bool} {held : Bool} {t e : TypeId} {n m fuel : Nat} {cs : List Value} {y : DataW H × List MemPlace} {zss : List (List Int)}
    (ht : Tryd.prog.underlying t = some (.array n e)) (he : Tryd.prog.underlying e = some (.array m 3)) (hm : Tryd.prog.cellsOf e = m)
    (h : DataW.trod enc Tryd.prog W base spare held fuel t cs = some y) (hy : y.1 = .agg (zss.map fun zs => .agg (zs.map fun z => .lit (.int .i64 z)))) (hz : ∀ zs ∈ zss, zs.length = m) (hn : zss.length = n) :
    ∀ (i j : Nat) (z : Int) (zs : List Int), zss[i]? = some zs → zs[j]? = some z → cs[i * m + j]? = some (Value.int .i64 z) := by
  obtain ⟨xs, k, _, rfl, hl, hxl, hel⟩ := DataW.trod_array ht h
  simp only [DataW.agg.injEq] at hy
  intro i j z zs hzs hjz
  have hlen : xs.length = zss.length := by have := congrArg List.length hy; simpa using this
  have hi : i < xs.length := by have := (List.getElem?_eq_some_iff.1 hzs).1; omega
  have hi2 := hel i (by omega)
  rw [List.getElem?_eq_getElem hi, hm] at hi2
  have hv : xs[i].1 = .agg (zs.map fun z => .lit (.int .i64 z)) := by
    have h1 := congrArg (fun l => l[i]?) hy
    simp only [List.getElem?_map, List.getElem?_eq_getElem hi, hzs, Option.map_some, Option.some.injEq] at h1
    exact h1
  have hzl := hz zs (List.mem_of_getElem? hzs)
  have hc := lits_ints1 he hi2 hv hzl j z hjz
  have hjm : j < m := by have := (List.getElem?_eq_some_iff.1 hjz).1; omega
  rw [List.getElem?_take, if_pos hjm, List.getElem?_drop] at hc
  exact hc
end Go.Proofs.YtpofmcepjmbmcaaDoor
