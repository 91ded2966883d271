/- The walks of the sink of bits: the specification's. -/
import Derived.Test.YtpofmcepjmbmcaaWTake3
import Derived.Test.YtpofmcepjmbmcaaPlainP
import Derived.BigRegion
import Derived.Deep.RegionHeld
namespace Go.Proofs.Ytpofmcepjmbmcaa
open Go.RowKit

def vals (zs : List Nat) : List Value := zs.map fun b : Nat => Value.int .u8 (b : Int)
theorem vals_len (zs : List Nat) : (vals zs).length = zs.length := by unfold vals; simp
theorem vals_at (zs : List Nat) (j : Nat) (h : j < zs.length) : (vals zs)[j]? = some (.int .u8 (zs.getD j 0 : Nat)) := by
  unfold vals; rw [List.getElem?_map, List.getD_eq_getElem?_getD, List.getElem?_eq_getElem h]; rfl
theorem vals_set (zs : List Nat) (j a : Nat) : (vals zs).set j (.int .u8 (a : Int)) = vals (zs.set j a) := by unfold vals; rw [List.map_set]
theorem vals_snoc (zs : List Nat) : vals zs ++ [.int .u8 0] = vals (zs ++ [0]) := by unfold vals; simp

/-- A sink or a writer of bits in the variable at block c: its first word, its bytes, its number. -/
def SinkAt (w : World) (c : Nat) (o v : Value) (q : Int) : Prop :=
  c < w.heap.size ∧ w.cell? ⟨c, 0, none⟩ = some o ∧ w.cell? ⟨c, 1, none⟩ = some v ∧ w.cell? ⟨c, 2, none⟩ = some (.int .i64 q) ∧ w.frozen? ⟨c, 1, none⟩ = false ∧ w.frozen? ⟨c, 2, none⟩ = false
def Sink (w : World) (c : Nat) (o : Value) (zs : List Nat) (q : Int) : Prop := ∃ v, SinkAt w c o v q ∧ w.ownsRow (c + 1) 5 1 v zs.length (vals zs)
theorem SinkAt.drewN {w : World} {c : Nat} {o v : Value} {q : Int} (h : SinkAt w c o v q) (n : Nat) : SinkAt (w.drewN n) c o v q := h
theorem SinkAt.drew {w : World} {c : Nat} {o v : Value} {q : Int} (h : SinkAt w c o v q) : SinkAt w.drew c o v q := h
theorem SinkAt.grown {w w' : World} {c : Nat} {o v : Value} {q : Int} {row : Option Nat} (h : SinkAt w c o v q) (hg : w.grownBy w' row) (hr : some c ≠ row) : SinkAt w' c o v q := by
  obtain ⟨h0, h1, h2, h3, f1, f2⟩ := h
  have hb := hg.block c h0 hr
  exact ⟨Nat.lt_of_lt_of_le h0 hg.size, (World.cell?_of_block (a := ⟨c, 0, none⟩) hb).trans h1, (World.cell?_of_block (a := ⟨c, 1, none⟩) hb).trans h2, (World.cell?_of_block (a := ⟨c, 2, none⟩) hb).trans h3,
    (World.frozen?_of_block (a := ⟨c, 1, none⟩) hb).trans f1, (World.frozen?_of_block (a := ⟨c, 2, none⟩) hb).trans f2⟩
theorem SinkAt.data {w : World} {c : Nat} {o v : Value} {q : Int} (h : SinkAt w c o v q) (u : Value) : SinkAt (w.setCell ⟨c, 1, none⟩ u) c o u q := by
  obtain ⟨h0, h1, h2, h3, f1, f2⟩ := h
  refine ⟨by simpa using h0, ?_, World.cell?_setCell_same _ _ _ h2, ?_, (World.frozen?_setCell _ _ _ _).trans f1, (World.frozen?_setCell _ _ _ _).trans f2⟩
  · rw [World.cell?_setCell_other _ _ _ _ (by simp)]; exact h1
  · rw [World.cell?_setCell_other _ _ _ _ (by simp)]; exact h3
theorem SinkAt.num {w : World} {c : Nat} {o v : Value} {q : Int} (h : SinkAt w c o v q) (p : Int) : SinkAt (w.setCell ⟨c, 2, none⟩ (.int .i64 p)) c o v p := by
  obtain ⟨h0, h1, h2, h3, f1, f2⟩ := h
  refine ⟨by simpa using h0, ?_, ?_, World.cell?_setCell_same _ _ _ h3, (World.frozen?_setCell _ _ _ _).trans f1, (World.frozen?_setCell _ _ _ _).trans f2⟩
  · rw [World.cell?_setCell_other _ _ _ _ (by simp)]; exact h1
  · rw [World.cell?_setCell_other _ _ _ _ (by simp)]; exact h2
theorem SinkAt.far {w : World} {c g j : Nat} {o v u : Value} {q : Int} (h : SinkAt w c o v q) (hg : g ≠ c) : SinkAt (w.setCell ⟨g, j, none⟩ u) c o v q := by
  obtain ⟨h0, h1, h2, h3, f1, f2⟩ := h
  refine ⟨by simpa using h0, ?_, ?_, ?_, (World.frozen?_setCell _ _ _ _).trans f1, (World.frozen?_setCell _ _ _ _).trans f2⟩ <;> (rw [World.cell?_setCell_far _ _ _ _ (by simpa using hg)]; assumption)
theorem one_new (w : World) (u : Value) : ∀ j v, [u][j]? = some v → (w.alloc (.cells #[u] 5)).cell? ((⟨w.heap.size, 0, none⟩ : Addr).add j) = some v := by
  intro j v hj
  match j, hj with
  | 0, hj => simp at hj; subst hj; simp [Addr.add]
theorem one_one : ∀ u ∈ [Value.int .u8 0], u.oneCell' = true := by intro u hu; simp at hu; subst hu; rfl
theorem addBit_zero (h : Bool) (zs : List Nat) (L : Nat) (hl : L / 8 < (opn zs L).length) : addBit h zs L 0 = opn zs L := by
  unfold addBit
  rw [Nat.zero_mul, Nat.add_zero, List.getD_eq_getElem?_getD, List.getElem?_eq_getElem hl]
  exact List.set_getElem_self hl
theorem or_bit8 (h : Bool) (x r k : Nat) (hx : x < 256) (hr : r < 8) (hk : k = ex h r) (hf : if h then x % 2 ^ (8 - r) = 0 else x < 2 ^ r) : bits .or .u8 (x : Int) (2 ^ k % 256) = ((x + 1 * 2 ^ ex h r : Nat) : Int) := by
  have hk7 : k ≤ 7 := by subst hk; unfold ex; split <;> omega
  have ho := or_into h x r 1 1 (by omega) hf (by omega)
  have ec : cex h r 1 = ex h r := by unfold ex cex; split <;> omega
  rw [ec, ← hk] at ho
  rw [← hk]
  have e : ((2 : Int) ^ k % 256) = ((2 ^ k : Nat) : Int) := by
    rcases pow_cases k (by omega) with h | h | h | h | h | h | h | h <;> subst h <;> decide
  have hl : 2 ^ k < 256 := by rcases pow_cases k (by omega) with h | h | h | h | h | h | h | h <;> subst h <;> decide
  rw [e, u8_or_nat _ _ hx hl]
  rw [Nat.one_mul] at ho ⊢
  rw [ho]


end Go.Proofs.Ytpofmcepjmbmcaa
