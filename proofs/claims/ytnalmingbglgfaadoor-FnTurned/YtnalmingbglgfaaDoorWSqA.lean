/- Squares as values: rows of 64 cells; the program's waves. -/
import Derived.Test.YtnalmingbglgfaaDoorPlainFx
import Derived.Test.YtnalmingbglgfaaDoorWHeld
import Derived.Test.YtnalmingbglgfaaDoorWIntsD
import Derived.Test.YtnalmingbglgfaaDoorWUpd2
import Derived.StillTailTactics
import Derived.Deep.WholeRow
import Derived.Laws.ResultCell
import Derived.Laws.CopyOwn
namespace Go.Proofs.YtnalmingbglgfaaDoor
open Go.RowKit

def sqc (xs : List Int) : Array Value := (ints xs).toArray
def zq : List Int := List.replicate 64 0
theorem zq_len : zq.length = 64 := by simp [zq]
theorem infoSq : (Tryd.prog.info? 33).map (fun i => (i.zero, i.size)) = some (some (.agg (sqc zq)), 64) := by kernel_rfl
theorem zeroSq : ∀ w, (zeroValue 33).run Tryd.prog w = .ok (.agg (sqc zq)) w := (zero_of_info infoSq).1
theorem sizeSq : (Tryd.prog.info? 33).map (·.size) = some 64 := (zero_of_info infoSq).2
theorem sqc_size {xs : List Int} : (sqc xs).size = xs.length := by simp [sqc, ints]
theorem sqc_one (xs : List Int) : (sqc xs).all (·.oneCell') = true := by
  rw [Array.all_eq_true_iff_forall_mem]
  intro v hv
  simp only [sqc, ints, List.mem_toArray, List.mem_map] at hv
  obtain ⟨x, _, rfl⟩ := hv
  rfl
theorem sqc_at {xs : List Int} {j : Nat} (h : j < xs.length) : (sqc xs)[j]? = some (.int .i64 (xs.getD j 0)) := by
  simp only [sqc, ints, List.getElem?_toArray, List.getElem?_map, List.getD_eq_getElem?_getD, List.getElem?_eq_getElem h]
  rfl
theorem sqc_set (xs : List Int) (j : Nat) (x : Int) : (sqc xs).setIfInBounds j (.int .i64 x) = sqc (xs.set j x) := by
  simp only [sqc, ints, List.setIfInBounds_toArray, List.map_set]
/-- A square's row lies in a block. -/
def SqAt (W : World) (g : Nat) (xs : List Int) : Prop := W.heap[g]? = some (.cells (sqc xs) 33 (0, 0)) ∧ xs.length = 64
theorem SqAt.lt {W : World} {g : Nat} {xs : List Int} (h : SqAt W g xs) : g < W.heap.size := (Array.getElem?_eq_some_iff.1 h.1).1
theorem SqAt.cell {W : World} {g : Nat} {xs : List Int} (h : SqAt W g xs) {j : Nat} (hj : j < 64) : W.cell? ⟨g, j, none⟩ = some (.int .i64 (xs.getD j 0)) := by
  rw [cell_of_row _ _ _ _ _ _ h.1, sqc_at (by rw [h.2]; exact hj)]
theorem SqAt.frozen {W : World} {g : Nat} {xs : List Int} (h : SqAt W g xs) (j : Nat) : W.frozen? ⟨g, j, none⟩ = false := frozen_of_row _ _ _ _ _ h.1
theorem SqAt.upd {W W' : World} {g a b : Nat} {xs : List Int} (h : SqAt W g xs) (u : Upd a b W W') (hg : g < a ∨ b ≤ g) : SqAt W' g xs := ⟨by rw [u.block g h.lt hg]; exact h.1, h.2⟩
theorem SqAt.keep {W W' : World} {g : Nat} {xs : List Int} (h : SqAt W g xs) (u : Upd 0 0 W W') : SqAt W' g xs := h.upd u (.inr (Nat.zero_le _))
theorem SqAt.other {W : World} {g : Nat} {xs : List Int} (h : SqAt W g xs) {a : Addr} (ha : a.block ≠ g) (v : Value) : SqAt (W.setCell a v) g xs := ⟨by rw [Below.heap_setCell _ _ _ _ (fun e => ha e.symm)]; exact h.1, h.2⟩
theorem SqAt.set {W : World} {g : Nat} {xs : List Int} (h : SqAt W g xs) (j : Nat) (x : Int) : SqAt (W.setCell ⟨g, j, none⟩ (.int .i64 x)) g (xs.set j x) := by
  refine ⟨?_, by rw [List.length_set]; exact h.2⟩
  rw [heap_setCell_same _ _ _ _ _ _ h.1, sqc_set]
theorem sqAt_new (W : World) (xs : List Int) (h : xs.length = 64) : SqAt (W.alloc (.cells (sqc xs) 33)) W.heap.size xs := ⟨heap_alloc_new _ _, h⟩
/-- What a nest of loops keeps: a square in a block, part of it filled. -/
structure SqSt (W wr : World) (g : Nat) (f : Nat → Int) (P : Nat → Prop) (xs : List Int) : Prop where
  row : SqAt wr g xs
  fil : Fil f P xs
  bel : Below W.heap.size W wr
  gw : W.heap.size ≤ g
theorem SqSt.upd {W wr wx : World} {g : Nat} {f : Nat → Int} {P : Nat → Prop} {xs : List Int} (h : SqSt W wr g f P xs) (u : Upd 0 0 wr wx) : SqSt W wx g f P xs :=
  ⟨h.row.keep u, h.fil, below_upd h.bel u (Nat.le_refl _) (.inr (Nat.zero_le _)), h.gw⟩
theorem SqSt.put {W wr : World} {g : Nat} {f : Nat → Int} {P Q : Nat → Prop} {xs : List Int} (h : SqSt W wr g f P xs) {q : Nat} (hq : q < 64) {x : Int} (hx : x = f q) (hP : ∀ p, p < 64 → Q p → p = q ∨ P p) : SqSt W (wr.setCell ⟨g, q, none⟩ (.int .i64 x)) g f Q (xs.set q x) :=
  ⟨h.row.set q x, h.fil.set hq hx hP, h.bel.setCell (p := ⟨g, q, none⟩) h.gw _, h.gw⟩
theorem SqSt.weak {W wr : World} {g : Nat} {f : Nat → Int} {P Q : Nat → Prop} {xs : List Int} (h : SqSt W wr g f P xs) (hP : ∀ p, p < 64 → Q p → P p) : SqSt W wr g f Q xs := ⟨h.row, h.fil.weak hP, h.bel, h.gw⟩
theorem SqSt.done {W wr : World} {g : Nat} {f : Nat → Int} {P : Nat → Prop} {xs : List Int} (h : SqSt W wr g f P xs) (hP : ∀ p, p < 64 → P p) : SqAt wr g (tab f) := by
  have e := h.fil.all hP
  have h1 := h.row
  rw [e] at h1
  exact h1

set_option maxHeartbeats 4000000 in
set_option maxRecDepth 100000 in
theorem implWaveHeight (u x : Nat) (w : World) (hu : u < 8) (hx : x < 8) (hTb : Held w 0 [.int .i64 2896, .int .i64 4017, .int .i64 3784, .int .i64 3406, .int .i64 2896, .int .i64 2276, .int .i64 1567, .int .i64 799]) :
    Calls Tryd.prog 30 #[.int .i64 (((2 * x + 1) * u : Nat) : Int)] w fun e w' => e = .returned (.int .i64 (mZ u x)) ∧ w' = w := by
  have hm := m_impl u hu x hx
  generalize mZ u x = y at hm ⊢
  have hNd : mN u x = if (2 * x + 1) * u % 32 > 16 then 32 - (2 * x + 1) * u % 32 else (2 * x + 1) * u % 32 := rfl
  generalize mN u x = n at hm hNd
  have hN2 : (2 * x + 1) * u ≤ 15 * 7 := Nat.mul_le_mul (by omega) (by omega)
  generalize (2 * x + 1) * u = N at hNd hN2 ⊢
  obtain ⟨r, hr⟩ : ∃ r, N % 32 = r := ⟨_, rfl⟩
  have e2 : (N : Int) % 32 = (r : Int) := by omega
  have e3 : (N : Int).tmod 32 = (r : Int) := by rw [Int.tmod_eq_emod_of_nonneg (by omega)]; exact e2
  rw [hr] at hNd
  have hr32 : r < 32 := by omega
  replace hr := hide hr
  have hcell : Hid (∀ j, j < 8 → w.cell? ⟨0, j, none⟩ = some (.int .i64 (hT.getD j 0))) := hide (fun j hj => by
    rcases (show j = 0 ∨ j = 1 ∨ j = 2 ∨ j = 3 ∨ j = 4 ∨ j = 5 ∨ j = 6 ∨ j = 7 by omega) with e | e | e | e | e | e | e | e <;> subst e <;> exact hTb.2 _ _ rfl)
  clear hTb
  by_cases hr16 : 16 < r
  · rw [if_pos hr16] at hNd
    have e4 : 32 - (r : Int) = (n : Int) := by omega
    clear hNd
    rcases hm with ⟨h8, rfl⟩ | ⟨h8, h9, h10, rfl⟩
    · have hk := unhide hcell n h8
      clear hcell
      generalize hT.getD n 0 = y at hk ⊢
      go_enter Tryd.func30, Tryd.ntmps30
      go_wp2
      go_ret
      exact ⟨rfl, rfl⟩
    · have hk := unhide hcell (16 - n) h9
      clear hcell
      have hyb : hT.getD (16 - n) 0 ≤ 4017 ∧ 0 ≤ hT.getD (16 - n) 0 := by
        have : ∀ j, j < 8 → hT.getD j 0 ≤ 4017 ∧ 0 ≤ hT.getD j 0 := by decide
        exact this _ h9
      generalize hT.getD (16 - n) 0 = y at hk hyb ⊢
      obtain ⟨y1, y0⟩ := hyb
      obtain ⟨q, hq⟩ : ∃ q, 16 - n = q := ⟨_, rfl⟩
      rw [hq] at hk h9
      have e5 : 16 - (n : Int) = (q : Int) := by omega
      clear hq
      go_enter Tryd.func30, Tryd.ntmps30
      go_wp2
      go_ret
      exact ⟨rfl, rfl⟩
  · rw [if_neg hr16] at hNd
    subst hNd
    rcases hm with ⟨h8, rfl⟩ | ⟨h8, h9, h10, rfl⟩
    · have hk := unhide hcell n h8
      clear hcell
      generalize hT.getD n 0 = y at hk ⊢
      go_enter Tryd.func30, Tryd.ntmps30
      go_wp2
      go_ret
      exact ⟨rfl, rfl⟩
    · have hk := unhide hcell (16 - n) h9
      clear hcell
      have hyb : hT.getD (16 - n) 0 ≤ 4017 ∧ 0 ≤ hT.getD (16 - n) 0 := by
        have : ∀ j, j < 8 → hT.getD j 0 ≤ 4017 ∧ 0 ≤ hT.getD j 0 := by decide
        exact this _ h9
      generalize hT.getD (16 - n) 0 = y at hk hyb ⊢
      obtain ⟨y1, y0⟩ := hyb
      obtain ⟨q, hq⟩ : ∃ q, 16 - n = q := ⟨_, rfl⟩
      rw [hq] at hk h9
      have e5 : 16 - (n : Int) = (q : Int) := by omega
      clear hq
      go_enter Tryd.func30, Tryd.ntmps30
      go_wp2
      go_ret
      exact ⟨rfl, rfl⟩
end Go.Proofs.YtnalmingbglgfaaDoor
