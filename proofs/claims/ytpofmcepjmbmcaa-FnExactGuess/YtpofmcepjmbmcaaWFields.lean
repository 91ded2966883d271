/- Fields, and the walk of the specification's packing of them. -/
import Derived.Test.YtpofmcepjmbmcaaWSink2
namespace Go.Proofs.Ytpofmcepjmbmcaa
open Go.RowKit

def FieldsAt (w : World) (b off : Nat) (fs : List (Int × Int)) : Prop := ∀ j, j < fs.length → w.cell? ⟨b, off + j * 2, none⟩ = some (.int .i64 (fs.getD j (0, 0)).1) ∧ w.cell? ⟨b, off + j * 2 + 1, none⟩ = some (.int .u64 (fs.getD j (0, 0)).2)
def InF (fs : List (Int × Int)) : Prop := ∀ j, (-9223372036854775808 ≤ (fs.getD j (0, 0)).1 ∧ (fs.getD j (0, 0)).1 ≤ 9223372036854775807) ∧ 0 ≤ (fs.getD j (0, 0)).2 ∧ (fs.getD j (0, 0)).2 < 18446744073709551616
def OwnF (w : World) (g : Nat) (fs : List (Int × Int)) : Prop := g < w.heap.size ∧ FieldsAt w g 0 fs
theorem OwnF.below {w w' : World} {g : Nat} {fs : List (Int × Int)} (h : OwnF w g fs) (hb : Below w.heap.size w w') : OwnF w' g fs :=
  ⟨Nat.lt_of_lt_of_le h.1 hb.size, fun j hj => ⟨(hb.cell (by simpa using h.1)).trans (h.2 j hj).1, (hb.cell (by simpa using h.1)).trans (h.2 j hj).2⟩⟩
theorem OwnF.belowAt {B : Nat} {w w' : World} {g : Nat} {fs : List (Int × Int)} (h : OwnF w g fs) (hg : g < B) (hb : Below B w w') : OwnF w' g fs :=
  ⟨Nat.lt_of_lt_of_le h.1 hb.size, fun j hj => ⟨(hb.cell (by simpa using hg)).trans (h.2 j hj).1, (hb.cell (by simpa using hg)).trans (h.2 j hj).2⟩⟩

def okF (f : Int × Int) : Prop := 0 ≤ f.1 ∧ f.1 ≤ 64
def packStep (h : Bool) (s : List Nat × Nat) (f : Int × Int) : List Nat × Nat := (ft h f.2.toNat f.1.toNat s.1 s.2 f.1.toNat, s.2 + f.1.toNat)
def packTo (h : Bool) (fs : List (Int × Int)) (k : Nat) : List Nat × Nat := (fs.take k).foldl (packStep h) ([], 0)
theorem packTo_succ (h : Bool) (fs : List (Int × Int)) (k : Nat) (hk : k < fs.length) : packTo h fs (k + 1) = packStep h (packTo h fs k) (fs.getD k (0, 0)) := by
  unfold packTo; rw [take_snoc_getD fs (0, 0) k hk, List.foldl_append]; rfl
theorem inv_nil (h : Bool) : Inv h [] 0 := ⟨rfl, fun j => by simp, fun h => absurd rfl h⟩
theorem packTo_inv (h : Bool) (fs : List (Int × Int)) (k : Nat) (hk : k ≤ fs.length) (hok : ∀ j, j < k → okF (fs.getD j (0, 0))) : Inv h (packTo h fs k).1 (packTo h fs k).2 ∧ (packTo h fs k).2 ≤ 64 * k := by
  induction k with
  | zero => exact ⟨inv_nil h, Nat.le_refl _⟩
  | succ k ih =>
    have h1 := ih (by omega) (fun j hj => hok j (by omega))
    have h2 := hok k (by omega)
    rw [packTo_succ h fs k (by omega)]
    refine ⟨ft_inv h1.1 _, ?_⟩
    show (packTo h fs k).2 + (fs.getD k (0, 0)).1.toNat ≤ _
    have := h2.2
    omega
/-- The packed bytes: none where there are too many fields or one's width is bad. -/
noncomputable def packF (h : Bool) (fs : List (Int × Int)) : List Nat := open Classical in if fs.length ≤ 20000 ∧ ∀ j, j < fs.length → okF (fs.getD j (0, 0)) then (packTo h fs fs.length).1 else []
theorem packF_good (h : Bool) (fs : List (Int × Int)) (h1 : fs.length ≤ 20000) (h2 : ∀ j, j < fs.length → okF (fs.getD j (0, 0))) : packF h fs = (packTo h fs fs.length).1 := if_pos ⟨h1, h2⟩
theorem packF_many (h : Bool) (fs : List (Int × Int)) (h1 : 20000 < fs.length) : packF h fs = [] := if_neg (fun h => by have := h.1; omega)
theorem packF_bad (h : Bool) (fs : List (Int × Int)) (j : Nat) (hj : j < fs.length) (hb : ¬ okF (fs.getD j (0, 0))) : packF h fs = [] := if_neg (fun h => hb (h.2 j hj))

theorem ownsRow_base {w : World} {base base' : Nat} {e : TypeId} {size : Nat} {v : Value} {n : Nat} {xs : List Value} (h : w.ownsRow base e size v n xs) (hb : base' ≤ base) : w.ownsRow base' e size v n xs := by
  refine ⟨h.1, ?_⟩
  rcases h.2 with h | ⟨g, cap, cur, e1, e2, e3⟩
  · exact .inl h
  · exact .inr ⟨g, cap, cur, e1, Nat.le_trans hb e2, e3⟩
theorem Sink.alloc {w : World} {c : Nat} {o : Value} {zs : List Nat} {q : Int} (h : Sink w c o zs q) (ob : Obj) : Sink (w.alloc ob) c o zs q := by
  obtain ⟨v, hS, hown⟩ := h
  exact ⟨v, hS.grown (World.grownBy_alloc w ob none) (by simp), hown.alloc ob⟩
end Go.Proofs.Ytpofmcepjmbmcaa
