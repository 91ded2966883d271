/- The drawing of chapter 10's lists. -/
import Derived.Test.YtocoeodoihdkgaaWToA
import Derived.Test.YtocoeodoihdkgaaWRowJ
namespace Go.Proofs.Ytocoeodoihdkgaa
open Go.RowKit

theorem InR.wideT {lo hi lo' hi' : Int} {xs : List Int} (h : InR lo hi xs) (hl : lo' ≤ lo) (hh : hi ≤ hi') : InR lo' hi' xs := fun j hj => by have := h j hj; omega
theorem InR.int {lo hi : Int} {xs : List Int} (h : InR lo hi xs) (hl : -9223372036854775808 ≤ lo) (hh : hi ≤ 9223372036854775807) : InI xs := fun j => by
  by_cases hj : j < xs.length
  · have := h j hj; omega
  · rw [List.getD_eq_getElem?_getD, List.getElem?_eq_none (by omega)]; simp
theorem Own.onlyT {e : TypeId} {s : Nat} {w w' : World} {a b c : Nat} {v : Value} {n : Nat} {xs : List Value} (h : Own e s w a b v n xs) (hc : c < a) (o : OnlyAt c w w') : Own e s w' a b v n xs :=
  h.upd o.upd (.inr (by omega))
/-- What stands while a list's length is drawn. -/
structure DwSt (w wr : World) (ad : Option Addr) (cap : Nat) (zs : List Int) (m : Nat) : Prop where
  cur : CurIn wr w.heap.size ad cap zs m
  be : Below w.heap.size w wr
  sz : w.heap.size + 1 ≤ wr.heap.size
theorem DwSt.pick {w wr wx : World} {ad : Option Addr} {cap : Nat} {zs : List Int} {m m' : Nat} (h : DwSt w wr ad cap zs m) (hc : CurIn wx w.heap.size ad cap zs m') (ho : OnlyAt w.heap.size wr wx) : DwSt w wx ad cap zs m' :=
  ⟨hc, h.be.trans (ho.below (Nat.le_refl _) h.be.size), by have := ho.size; have := h.sz; omega⟩
theorem DwSt.more {w wr : World} {ad : Option Addr} {cap : Nat} {zs : List Int} {m m' : Nat} (h : DwSt w wr ad cap zs m) (hm : m ≤ m') : DwSt w wr ad cap zs m' := ⟨h.cur.more hm, h.be, h.sz⟩
end Go.Proofs.Ytocoeodoihdkgaa
