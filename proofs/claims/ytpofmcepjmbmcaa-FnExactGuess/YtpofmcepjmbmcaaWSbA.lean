/- Rows of numbers as values and in blocks; the program's small rows, forward and back. -/
import Derived.Test.YtpofmcepjmbmcaaPlainSmB
import Derived.Test.YtpofmcepjmbmcaaWHeld
import Derived.Test.YtpofmcepjmbmcaaWIntsD
import Derived.Test.YtpofmcepjmbmcaaWUpd2
import Derived.Test.YtpofmcepjmbmcaaWRow
import Derived.StillTailTactics
import Derived.Deep.WholeRow
import Derived.Laws.ResultCell
import Derived.Laws.CopyOwn
import Derived.Deep.DeepCutAuto
namespace Go.Proofs.Ytpofmcepjmbmcaa
open Go.RowKit

def rwc (xs : List Int) : Array Value := (ints xs).toArray
theorem rwc_size {xs : List Int} : (rwc xs).size = xs.length := by simp [rwc, ints]
theorem rwc_one (xs : List Int) : (rwc xs).all (·.oneCell') = true := by
  rw [Array.all_eq_true_iff_forall_mem]
  intro v hv
  simp only [rwc, ints, List.mem_toArray, List.mem_map] at hv
  obtain ⟨x, _, rfl⟩ := hv
  rfl
theorem rwc_at {xs : List Int} {j : Nat} (h : j < xs.length) : (rwc xs)[j]? = some (.int .i64 (xs.getD j 0)) := by
  simp only [rwc, ints, List.getElem?_toArray, List.getElem?_map, List.getD_eq_getElem?_getD, List.getElem?_eq_getElem h]
  rfl
theorem rwc_set (xs : List Int) (j : Nat) (x : Int) : (rwc xs).setIfInBounds j (.int .i64 x) = rwc (xs.set j x) := by
  simp only [rwc, ints, List.setIfInBounds_toArray, List.map_set]
/-- A row of n numbers lies in a block. -/
def RAt (t : TypeId) (n : Nat) (W : World) (g : Nat) (xs : List Int) : Prop := W.heap[g]? = some (.cells (rwc xs) t (0, 0)) ∧ xs.length = n
theorem RAt.lt {t : TypeId} {n : Nat} {W : World} {g : Nat} {xs : List Int} (h : RAt t n W g xs) : g < W.heap.size := (Array.getElem?_eq_some_iff.1 h.1).1
theorem RAt.cell {t : TypeId} {n : Nat} {W : World} {g : Nat} {xs : List Int} (h : RAt t n W g xs) {j : Nat} (hj : j < n) : W.cell? ⟨g, j, none⟩ = some (.int .i64 (xs.getD j 0)) := by
  rw [cell_of_row _ _ _ _ _ _ h.1, rwc_at (by rw [h.2]; exact hj)]
theorem RAt.frozen {t : TypeId} {n : Nat} {W : World} {g : Nat} {xs : List Int} (h : RAt t n W g xs) (j : Nat) : W.frozen? ⟨g, j, none⟩ = false := frozen_of_row _ _ _ _ _ h.1
theorem RAt.upd {t : TypeId} {n : Nat} {W W' : World} {g a b : Nat} {xs : List Int} (h : RAt t n W g xs) (u : Upd a b W W') (hg : g < a ∨ b ≤ g) : RAt t n W' g xs := ⟨by rw [u.block g h.lt hg]; exact h.1, h.2⟩
theorem RAt.keep {t : TypeId} {n : Nat} {W W' : World} {g : Nat} {xs : List Int} (h : RAt t n W g xs) (u : Upd 0 0 W W') : RAt t n W' g xs := h.upd u (.inr (Nat.zero_le _))
theorem RAt.other {t : TypeId} {n : Nat} {W : World} {g : Nat} {xs : List Int} (h : RAt t n W g xs) {a : Addr} (ha : a.block ≠ g) (v : Value) : RAt t n (W.setCell a v) g xs := ⟨by rw [Below.heap_setCell _ _ _ _ (fun e => ha e.symm)]; exact h.1, h.2⟩
theorem RAt.set {t : TypeId} {n : Nat} {W : World} {g : Nat} {xs : List Int} (h : RAt t n W g xs) (j : Nat) (x : Int) : RAt t n (W.setCell ⟨g, j, none⟩ (.int .i64 x)) g (xs.set j x) := by
  refine ⟨?_, by rw [List.length_set]; exact h.2⟩
  rw [heap_setCell_same _ _ _ _ _ _ h.1, rwc_set]
theorem rAt_new (t : TypeId) (n : Nat) (W : World) (xs : List Int) (h : xs.length = n) : RAt t n (W.alloc (.cells (rwc xs) t)) W.heap.size xs := ⟨heap_alloc_new _ _, h⟩
theorem RAt.alloc {t : TypeId} {n : Nat} {W : World} {g : Nat} {xs : List Int} (h : RAt t n W g xs) (o : Obj) : RAt t n (W.alloc o) g xs :=
  h.keep (Upd.of_below ((Below.refl W.heap.size W).alloc (Nat.le_refl _) o) 0 0)
/-- Three new rows. -/
theorem rows3 (t : TypeId) (n : Nat) (w : World) (A B C : List Int) (hA : A.length = n) (hB : B.length = n) (hC : C.length = n) (w0 : World) (hw : w0 = ((w.alloc (.cells (rwc A) t)).alloc (.cells (rwc B) t)).alloc (.cells (rwc C) t)) :
    RAt t n w0 w.heap.size A ∧ RAt t n w0 (w.heap.size + 1) B ∧ RAt t n w0 (w.heap.size + 2) C ∧ Below w.heap.size w w0 := by
  subst hw
  refine ⟨((rAt_new t n w A hA).alloc _).alloc _, ?_, ?_, (((Below.refl _ w).alloc (Nat.le_refl _) _).alloc (by simp) _).alloc (by simp; omega) _⟩
  · have h := rAt_new t n (w.alloc (.cells (rwc A) t)) B hB
    rw [show (w.alloc (.cells (rwc A) t)).heap.size = w.heap.size + 1 by simp] at h
    exact h.alloc _
  · have h := rAt_new t n ((w.alloc (.cells (rwc A) t)).alloc (.cells (rwc B) t)) C hC
    rw [show ((w.alloc (.cells (rwc A) t)).alloc (.cells (rwc B) t)).heap.size = w.heap.size + 2 by simp] at h
    exact h
theorem Upd.drewB (w : World) : Upd 0 0 w w.drew := ⟨rfl, rfl, rfl, Nat.le_refl _, fun _ _ _ => rfl⟩
def z4 : List Int := List.replicate 4 0
theorem z4_len : z4.length = 4 := rfl
theorem info4 : (Try.prog.info? 98).map (fun i => (i.zero, i.size)) = some (some (.agg #[.int .i64 0, .int .i64 0, .int .i64 0, .int .i64 0]), 4) := by kernel_rfl
theorem zero4 : ∀ w, (zeroValue 98).run Try.prog w = .ok (.agg #[.int .i64 0, .int .i64 0, .int .i64 0, .int .i64 0]) w := (zero_of_info info4).1
theorem size4 : (Try.prog.info? 98).map (·.size) = some 4 := (zero_of_info info4).2
theorem wrapB {n : Int} (h : -9223372036854775808 ≤ n ∧ n ≤ 9223372036854775807) : IntKind.i64.wrap n = n := by
  simp [IntKind.wrap, IntKind.bits, IntKind.signed]; omega
def smW : List Int := [1, 1, 1, 1, 2, 1, -1, -2, 1, -1, -1, 1, 1, -2, 2, -1]
theorem idx_wave (a : Nat) (ha : a < 4) (W : World) : (Instr.index 99 (.agg (ints smW).toArray) (.int .i64 (a : Int))).run Try.prog W = .ok (.agg #[.int .i64 (smT a 0), .int .i64 (smT a 1), .int .i64 (smT a 2), .int .i64 (smT a 3)]) W := by
  rcases (show a = 0 ∨ a = 1 ∨ a = 2 ∨ a = 3 by omega) with e | e | e | e <;> subst e <;> kernel_rfl
theorem idx_four (y0 y1 y2 y3 : Int) (j : Nat) (hj : j < 4) (W : World) : (Instr.index 98 (.agg #[.int .i64 y0, .int .i64 y1, .int .i64 y2, .int .i64 y3]) (.int .i64 (j : Int))).run Try.prog W = .ok (.int .i64 ([y0, y1, y2, y3].getD j 0)) W := by
  rcases (show j = 0 ∨ j = 1 ∨ j = 2 ∨ j = 3 by omega) with e | e | e | e <;> subst e <;> kernel_rfl
theorem smT_four (a j : Nat) (hj : j < 4) : [smT a 0, smT a 1, smT a 2, smT a 3].getD j 0 = smT a j := by
  rcases (show j = 0 ∨ j = 1 ∨ j = 2 ∨ j = 3 by omega) with e | e | e | e <;> subst e <;> rfl
theorem sizeW : (Try.prog.info? 99).map (·.size) = some 16 := by kernel_rfl
/-- What the sums' walk keeps. -/
structure SmSt (w wr : World) (r xs : List Int) : Prop where
  box : RAt 98 4 wr w.heap.size r
  res : RAt 98 4 wr (w.heap.size + 1) z4
  sum : RAt 98 4 wr (w.heap.size + 2) xs
  bel : Below w.heap.size w wr
theorem SmSt.upd {w wr wx : World} {r xs : List Int} (h : SmSt w wr r xs) (u : Upd 0 0 wr wx) : SmSt w wx r xs :=
  ⟨h.box.keep u, h.res.keep u, h.sum.keep u, below_upd h.bel u (Nat.le_refl _) (.inr (Nat.zero_le _))⟩
theorem SmSt.put {w wr : World} {r xs : List Int} (h : SmSt w wr r xs) (k : Nat) (x : Int) : SmSt w (wr.setCell ⟨w.heap.size + 2, k, none⟩ (.int .i64 x)) r (xs.set k x) :=
  ⟨h.box.other (by simp) _, h.res.other (by simp) _, h.sum.set k x, h.bel.setCell (p := ⟨w.heap.size + 2, k, none⟩) (by simp) _⟩
end Go.Proofs.Ytpofmcepjmbmcaa
