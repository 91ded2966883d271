/- The walk of Crc: its table, and what it gives. -/
import Derived.Test.YthpkngipiapbpaaWSums
import Derived.WalkKit
import Derived.WalkSpells
import Derived.WalkLawsBesides
import Derived.Deep.WholeRow
import Derived.Laws.ResultCell
import Derived.Laws.CopyOwn
namespace Go.Proofs.Ythpkngipiapbpaa
open Go.RowKit

set_option maxHeartbeats 400000 in
theorem implCrcTurn (y : Nat) (hy : y < 4294967296) (w : World) :
    Calls Try.prog 26 #[.int .u32 (y : Int)] w fun e w' => e = .returned (.int .u32 (crcBit y : Nat)) ∧ w' = w := by
  have hand := u32_and_one y hy
  by_cases ho : y % 2 = 1
  · have hand1 : bits .and .u32 (y : Int) 1 = 1 := by rw [hand]; omega
    clear hand
    have HY := hide (crcBit_odd y hy ho)
    go_enter Try.func26, Try.ntmps26
    go_wp2
    go_ret
    exact ⟨ret_int (unhide HY), rfl⟩
  · have hand0 : bits .and .u32 (y : Int) 1 = 0 := by rw [hand]; omega
    clear hand
    have HY := hide (crcBit_even y ho)
    go_enter Try.func26, Try.ntmps26
    go_wp2
    go_ret
    exact ⟨ret_int (unhide HY), rfl⟩

def crcCells (k : Nat) (cs : Array Value) : Prop := cs.size = 256 ∧ cs.all (·.oneCell') = true ∧ ∀ j, j < k → cs[j]? = some (.int .u32 (crcIt 8 j : Nat))
theorem crcCells_zero : crcCells 0 (Array.replicate 256 (.int .u32 0)) := ⟨by simp, by rw [Array.all_eq_true_iff_forall_mem]; intro v hv; rw [Array.mem_replicate] at hv; rw [hv.2]; rfl, fun j h => by omega⟩
theorem crcCells_succ (k : Nat) (cs : Array Value) (hk : k < 256) (h : crcCells k cs) : crcCells (k + 1) (cs.setIfInBounds k (.int .u32 (crcIt 8 k : Nat))) := by
  refine ⟨by simpa using h.1, ?_, ?_⟩
  · have h1 := h.2.1
    rw [Array.all_eq_true_iff_forall_mem] at h1 ⊢
    intro v hv
    rcases Array.mem_or_eq_of_mem_setIfInBounds hv with hv | rfl
    · exact h1 v hv
    · rfl
  · intro j hj
    rw [Array.getElem?_setIfInBounds]
    by_cases e : k = j
    · subst e; simp [h.1, hk]
    · rw [if_neg e]; exact h.2.2 j (by omega)
theorem infoT : (Try.prog.info? 50).map (fun i => (i.zero, i.size)) = some (some (.agg (Array.replicate 256 (.int .u32 0))), 256) := by kernel_rfl
theorem zeroT : ∃ z, crcCells 0 z ∧ ∀ w, (zeroValue 50).run Try.prog w = .ok (.agg z) w := ⟨_, crcCells_zero, (zero_of_info infoT).1⟩
theorem sizeT : (Try.prog.info? 50).map (·.size) = some 256 := (zero_of_info infoT).2

set_option maxHeartbeats 1000000 in
set_option maxRecDepth 1000000 in
theorem implCrcTable (w : World) :
    Calls Try.prog 25 #[.func (.func 26) #[] #[]] w fun e w' => ∃ cs, e = .returned (.agg cs) ∧ crcCells 256 cs ∧ Below w.heap.size w w' := by
  obtain ⟨z, hz0, hz⟩ := zeroT
  go_enter Try.func25, Try.ntmps25
  go_wp2
  go_loopw [6] (fun i wr => ∃ k : Nat, ∃ cs, k ≤ 256 ∧ i = .int .i64 k ∧ crcCells k cs ∧ wr.heap[w.heap.size + 1]? = some (.cells cs 50 (0, 0)) ∧ wr.heap[w.heap.size]? = some (.cells z 50 (0, 0)) ∧ Below w.heap.size w wr) (fun i _ => 256 - (intOf i).toNat)
  case atStart =>
    refine ⟨0, z, by omega, rfl, hz0, ?_, ?_, ((Below.refl _ _).alloc (Nat.le_refl _) _).alloc (by simp) _⟩
    · have := heap_alloc_new (w.alloc (.cells z 50)) (.cells z 50); simpa using this
    · rw [Below.heap_alloc _ _ _ (by simp)]; exact heap_alloc_new _ _
  case round =>
    obtain ⟨k, cs, hk, rfl, hcs, hrow, hrow0, hbel⟩ := hrel
    by_cases hlt : k < 256
    · have hd : decide ((k : Int) < 256) = true := by simp; omega
      go_wp2
      go_loopw [5, 11] (fun a i wx => ∃ m : Nat, m ≤ 8 ∧ a = .int .u32 (crcIt m k : Nat) ∧ i = .int .i64 m ∧ wx = wr) (fun _ i _ => 8 - (intOf i).toNat)
      case atStart => exact ⟨0, by omega, rfl, rfl, rfl⟩
      case round =>
        obtain ⟨m, hm, rfl, rfl, rfl⟩ := hrel
        have hr := crcIt_lt m k (by omega)
        by_cases hlt : m < 8
        · have HS := hide (show crcIt (m + 1) k = crcBit (crcIt m k) from rfl)
          generalize crcIt m k = y at hr HS
          go_wp2_with (go_at_call 26; refine (implCrcTurn y hr _).mono ?_; rintro e w' ⟨rfl, rfl⟩)
          go_roundw
          case rel => exact ⟨m + 1, by omega, by rw [unhide HS], by go_num, by trivial⟩
          case measure => simp [intOf]; omega
        · have hm8 : m = 8 := by omega
          subst hm8
          have hcell : wr.cell? ⟨w.heap.size + 1, k, none⟩ = some (cs.getD k undef) := by
            rw [cell_of_row _ _ _ _ _ _ hrow, Array.getElem?_eq_getElem (by rw [hcs.1]; exact ‹k < 256›)]; simp [hcs.1, ‹k < 256›]
          have hfree : wr.frozen? ⟨w.heap.size + 1, k, none⟩ = false := by simp [World.frozen?, hrow]
          have hnew := crcCells_succ k cs ‹k < 256› hcs
          have hnr := heap_setCell_same wr (w.heap.size + 1) k cs 50 (.int .u32 (crcIt 8 k : Nat)) hrow
          have hg0 : (wr.setCell ⟨w.heap.size + 1, k, none⟩ (.int .u32 (crcIt 8 k : Nat))).heap[w.heap.size]? = some (.cells z 50 (0, 0)) := by
            rw [Below.heap_setCell _ _ _ _ (by simp)]; exact hrow0
          have hbel' := hbel.setCell (p := ⟨w.heap.size + 1, k, none⟩) (by simp) (.int .u32 (crcIt 8 k : Nat))
          replace hnr := hide hnr
          replace hg0 := hide hg0
          clear hz
          go_wp2
          go_roundw
          case rel => exact ⟨k + 1, _, by omega, by go_num, hnew, unhide hnr, unhide hg0, hbel'⟩
          case measure => simp [intOf]; omega
    · have hkl : k = 256 := by omega
      subst hkl
      replace hrow0 := hide hrow0
      replace hrow := hide hrow
      go_wp2_with fail
      refine wp_load_row 50 (.tmp 3) rfl (w.heap.size + 1) rfl 50 cs (0, 0) _ (unhide hrow) Try.underlying50 rfl (by rw [hcs.1]; exact sizeT) ?_
      rename_i aK
      refine aK _ _ ?_
      refine wpList_store_row rfl 50 (.tmp 2) (.tmp 21) rfl w.heap.size cs rfl rfl 50 z (unhide hrow0) (by rw [hcs.1]; exact sizeT) (by rw [hcs.1, hz0.1]) hcs.2.1 ?_
      have hres : (wr.setRow w.heap.size cs).heap[w.heap.size]? = some (.cells cs 50 (0, 0)) := setRow_heap wr _ z cs _ _ (unhide hrow0)
      replace hres := hide hres
      have hb2 : Below w.heap.size w (wr.setRow w.heap.size cs) := below_setRow hbel (Nat.le_refl _) cs
      go_wp2_with fail
      refine bodyPost_ret (v := .agg cs) (results_cell_row rfl _ _ w.heap.size 50 cs (0, 0) _ rfl (unhide hres) Try.underlying50 rfl (by rw [hcs.1]; exact sizeT)) rfl ⟨cs, rfl, hcs, hb2⟩
end Go.Proofs.Ythpkngipiapbpaa
