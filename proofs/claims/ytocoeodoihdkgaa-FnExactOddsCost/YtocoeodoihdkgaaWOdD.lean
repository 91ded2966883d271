/- Odds: the program's odds at first, and what choices cost. -/
import Derived.Test.YtocoeodoihdkgaaWOdB
import Derived.Test.YtocoeodoihdkgaaWOdC
namespace Go.Proofs.Ytocoeodoihdkgaa
open Go.RowKit

def odCells (k : Nat) (cs : Array Value) : Prop := cs.size = 512 ∧ cs.all (·.oneCell') = true ∧ ∀ j, j < k → cs[j]? = some (.int .u16 2048)
theorem odCells_zero : odCells 0 (Array.replicate 512 (.int .u16 0)) := ⟨by simp, by rw [Array.all_eq_true_iff_forall_mem]; intro v hv; rw [Array.mem_replicate] at hv; rw [hv.2]; rfl, fun j h => by omega⟩
theorem odCells_succ (k : Nat) (cs : Array Value) (hk : k < 512) (h : odCells k cs) : odCells (k + 1) (cs.setIfInBounds k (.int .u16 2048)) := by
  refine ⟨by simpa using h.1, ?_, ?_⟩
  · have h1 := h.2.1
    rw [Array.all_eq_true_iff_forall_mem] at h1 ⊢
    intro v hv
    rcases Array.mem_or_eq_of_mem_setIfInBounds hv with hv | rfl
    · exact h1 v hv
    · rfl
  · intro j hj
    rw [Array.getElem?_setIfInBounds]
    by_cases e : k = j
    · subst e; simp [h.1, hk]
    · rw [if_neg e]; exact h.2.2 j (by omega)
def odds0 : Int → Int := fun _ => 2048
theorem odCells_all (cs : Array Value) (h : odCells 512 cs) : cs = (oddsV odds0).toArray := by
  apply Array.ext_getElem?
  intro j
  by_cases hj : j < 512
  · rw [h.2.2 j hj, List.getElem?_toArray, oddsV_at _ _ hj]; rfl
  · rw [Array.getElem?_eq_none (by rw [h.1]; omega), List.getElem?_toArray, List.getElem?_eq_none (by simp; omega)]
theorem infoOd : (Try.prog.info? 86).map (fun i => (i.zero, i.size)) = some (some (.agg (Array.replicate 512 (.int .u16 0))), 512) := by kernel_rfl
theorem zeroOd : ∃ z, odCells 0 z ∧ ∀ w, (zeroValue 86).run Try.prog w = .ok (.agg z) w := ⟨_, odCells_zero, (zero_of_info infoOd).1⟩
theorem sizeOd : (Try.prog.info? 86).map (·.size) = some 512 := (zero_of_info infoOd).2
set_option maxHeartbeats 4000000 in
set_option maxRecDepth 1000000 in
theorem implStartOdds (w : World) :
    Calls Try.prog 64 #[] w fun e w' => e = .returned (.agg (oddsV odds0).toArray) ∧ Upd 0 0 w w' := by
  obtain ⟨z, hz0, hz⟩ := zeroOd
  go_enter Try.func64, Try.ntmps64
  go_wp2
  go_loopw [2, 3] (fun _ i wr => ∃ k : Nat, ∃ cs, k ≤ 512 ∧ i = .int .i64 k ∧ odCells k cs ∧ wr.heap[w.heap.size + 1]? = some (.cells cs 86 (0, 0)) ∧ wr.heap[w.heap.size]? = some (.cells z 86 (0, 0)) ∧ Below w.heap.size w wr) (fun _ i _ => 512 - (intOf i).toNat)
  case atStart =>
    refine ⟨0, z, by omega, rfl, hz0, ?_, ?_, ((Below.refl _ _).alloc (Nat.le_refl _) _).alloc (by simp) _⟩
    · have := heap_alloc_new (w.alloc (.cells z 86)) (.cells z 86); simpa using this
    · rw [Below.heap_alloc _ _ _ (by simp)]; exact heap_alloc_new _ _
  case round =>
    obtain ⟨k, cs, hk, rfl, hcs, hrow, hrow0, hbel⟩ := hrel
    by_cases hlt : k < 512
    · have hd : decide ((k : Int) < 512) = true := by simp; omega
      have hcell : wr.cell? ⟨w.heap.size + 1, k, none⟩ = some (cs.getD k undef) := by
        rw [cell_of_row _ _ _ _ _ _ hrow, Array.getElem?_eq_getElem (by rw [hcs.1]; exact hlt)]; simp [hcs.1, hlt]
      have hfree : wr.frozen? ⟨w.heap.size + 1, k, none⟩ = false := by simp [World.frozen?, hrow]
      have hnew := odCells_succ k cs hlt hcs
      have hnr := heap_setCell_same wr (w.heap.size + 1) k cs 86 (.int .u16 2048) hrow
      have hg0 : (wr.setCell ⟨w.heap.size + 1, k, none⟩ (.int .u16 2048)).heap[w.heap.size]? = some (.cells z 86 (0, 0)) := by
        rw [Below.heap_setCell _ _ _ _ (by simp)]; exact hrow0
      have hbel' := hbel.setCell (p := ⟨w.heap.size + 1, k, none⟩) (by simp) (.int .u16 2048)
      replace hnr := hide hnr
      replace hg0 := hide hg0
      replace hrow := hide hrow
      replace hrow0 := hide hrow0
      clear hz
      go_wp2
      go_roundw
      case rel => exact ⟨k + 1, _, by omega, by go_num, hnew, unhide hnr, unhide hg0, hbel'⟩
      case measure => simp [intOf]; omega
    · have hkl : k = 512 := by omega
      subst hkl
      replace hrow0 := hide hrow0
      replace hrow := hide hrow
      have hE := hide (odCells_all cs hcs)
      go_wp2_with fail
      refine wp_load_row 86 (.tmp 1) rfl (w.heap.size + 1) rfl 86 cs (0, 0) _ (unhide hrow) Try.underlying86 rfl (by rw [hcs.1]; exact sizeOd) ?_
      rename_i aK
      refine aK _ _ ?_
      refine wpList_store_row rfl 86 (.tmp 0) (.tmp 9) rfl w.heap.size cs rfl rfl 86 z (unhide hrow0) (by rw [hcs.1]; exact sizeOd) (by rw [hcs.1, hz0.1]) hcs.2.1 ?_
      have hres : (wr.setRow w.heap.size cs).heap[w.heap.size]? = some (.cells cs 86 (0, 0)) := setRow_heap wr _ z cs _ _ (unhide hrow0)
      replace hres := hide hres
      have hb2 : Below w.heap.size w (wr.setRow w.heap.size cs) := below_setRow hbel (Nat.le_refl _) cs
      go_wp2_with fail
      refine bodyPost_ret (v := .agg cs) (results_cell_row rfl _ _ w.heap.size 86 cs (0, 0) _ rfl (unhide hres) Try.underlying86 rfl (by rw [hcs.1]; exact sizeOd)) rfl ⟨by rw [unhide hE], Upd.of_below hb2 0 0⟩
end Go.Proofs.Ytocoeodoihdkgaa
