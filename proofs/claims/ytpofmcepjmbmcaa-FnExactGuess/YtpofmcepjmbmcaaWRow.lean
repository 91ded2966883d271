/- Laws of the walk that the guide's texts lack: a part of a row read as a whole; and rows of numbers told by a function. -/
import Derived.Test.YtpofmcepjmbmcaaWOwn
import Derived.Deep.WholeRow
import Derived.Laws.ResultCell
import Derived.Laws.CopyOwn
namespace Go.Proofs.Ytpofmcepjmbmcaa
open Go.RowKit

theorem wpList_load_list {P : Program} {ops : Array Oper} {rest : List Oper} {o : Oper} {a : Act} {w : World} {Q : Exit → Act → World → Prop} (hgd : o.guard = none) (ty : TypeId) (x : Operand) (ho : o.op = .load ty x)
    (p : Addr) (hx : a.eval x = .pointer (some p)) (l : List Value) (hl : ∀ j v, l[j]? = some v → w.cell? (p.add j) = some v) (d : TypeDesc)
    (hu : P.underlying ty = some d) (hd : (match d with | .struct _ | .array _ _ => true | _ => false) = true) (hi : (P.info? ty).map (·.size) = some l.length)
    (h : wpList P ops Q rest (a.put o.dst (.agg l.toArray)) w) : wpList P ops Q (o :: rest) a w := by
  have hL : (loadVar ty p).run P w = .ok (.agg l.toArray) w := by
    cases hq : P.info? ty with
    | none => simp [hq] at hi
    | some i =>
      have hs : i.size = l.length := by simpa [hq] using hi
      have hagg : (isAgg ty).run P w = .ok true w := by
        unfold isAgg
        rw [Sem.run_bind, run_underlying hu w]
        cases d <;> simp_all
      have hll := run_loadCells_list (P := P) w p l hl
      simp [loadVar, Sem.run_bind, hagg, sizeOf, typeInfo, hq, hs, hll]
  refine wpList_plain hgd fun K hK => ?_
  unfold Oper.wp execOp
  simp only [ho, hx, Instr.loadAt, Instr.sureAddr, Sem.run_bind, Sem.run_pure, Result.andThen_ok, hL]
  exact hK _ _ h

/-- A row of numbers, told by a function, within an array of cells: n of them from o on. -/
def NumsAt (cs : Array Value) (o n : Nat) (f : Nat → Nat) : Prop := ∀ j, j < n → cs[o + j]? = some (.int .i64 (f j : Nat))
theorem NumsAt.set {cs : Array Value} {o n : Nat} {f : Nat → Nat} (h : NumsAt cs o n f) (i x : Nat) (hi : i < n) (f' : Nat → Nat) (hx : f' i = x) (hf : ∀ j, j ≠ i → f' j = f j) :
    NumsAt (cs.setIfInBounds (o + i) (.int .i64 (x : Nat))) o n f' := by
  intro j hj
  have hs : o + i < cs.size := by
    have := h i hi
    exact (Array.getElem?_eq_some_iff.1 this).1
  rw [Array.getElem?_setIfInBounds]
  by_cases e : i = j
  · subst e; rw [if_pos rfl, if_pos hs, hx]
  · rw [if_neg (by omega), hf j (by omega)]; exact h j hj
theorem NumsAt.other {cs : Array Value} {o n : Nat} {f : Nat → Nat} (h : NumsAt cs o n f) (i : Nat) (u : Value) (hi : i < o ∨ o + n ≤ i) : NumsAt (cs.setIfInBounds i u) o n f := by
  intro j hj
  rw [Array.getElem?_setIfInBounds, if_neg (by omega)]; exact h j hj
theorem getElem?_set_other {cs : Array Value} {i k : Nat} {u v : Value} (h : cs[k]? = some v) (hne : i ≠ k) : (cs.setIfInBounds i u)[k]? = some v := by
  rw [Array.getElem?_setIfInBounds, if_neg hne]; exact h
theorem getElem?_set_same {cs : Array Value} {i : Nat} {u : Value} (h : i < cs.size) : (cs.setIfInBounds i u)[i]? = some u := by
  rw [Array.getElem?_setIfInBounds, if_pos rfl, if_pos h]
def OneCells (cs : Array Value) : Prop := cs.all (·.oneCell') = true
theorem OneCells.set {cs : Array Value} (h : OneCells cs) (i : Nat) (u : Value) (hu : u.oneCell' = true) : OneCells (cs.setIfInBounds i u) := by
  unfold OneCells at *
  rw [Array.all_eq_true_iff_forall_mem] at h ⊢
  intro v hv
  rcases Array.mem_or_eq_of_mem_setIfInBounds hv with hv | rfl
  · exact h v hv
  · exact hu
theorem add_cell (g o j : Nat) : (⟨g, o, none⟩ : Addr).add j = ⟨g, o + j, none⟩ := by unfold Addr.add; split <;> simp_all
theorem list_of_nums {cs : Array Value} {o n : Nat} {f : Nat → Nat} (h : NumsAt cs o n f) {w : World} {g : Nat} {t : TypeId} {fr : Nat × Nat} (hg : w.heap[g]? = some (.cells cs t fr)) :
    ∀ j v, ((List.range n).map fun j => Value.int .i64 (f j : Nat))[j]? = some v → w.cell? ((⟨g, o, none⟩ : Addr).add j) = some v := by
  intro j v hv
  rw [add_cell, cell_of_row w g _ cs t fr hg]
  rw [List.getElem?_map] at hv
  by_cases hj : j < n
  · rw [List.getElem?_range hj] at hv
    simp at hv; rw [h j hj, ← hv]
  · rw [List.getElem?_eq_none (by simp; omega)] at hv; simp at hv
theorem numsAt_list (n : Nat) (f : Nat → Nat) : NumsAt ((List.range n).map fun j => Value.int .i64 (f j : Nat)).toArray 0 n f := by
  intro j hj
  simp [hj]
theorem oneCells_list (n : Nat) (f : Nat → Nat) : OneCells ((List.range n).map fun j => Value.int .i64 (f j : Nat)).toArray := by
  unfold OneCells
  rw [Array.all_eq_true_iff_forall_mem]
  intro v hv
  simp at hv
  obtain ⟨j, _, rfl⟩ := hv
  rfl
end Go.Proofs.Ytpofmcepjmbmcaa
