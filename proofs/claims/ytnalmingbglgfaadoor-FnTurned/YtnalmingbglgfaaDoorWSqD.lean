/- The program's squares: as lists. -/
import Derived.Test.YtnalmingbglgfaaDoorWSqC
import Derived.Test.YtnalmingbglgfaaDoorWAppI
import Derived.OwnWalk
import Derived.Test.YtnalmingbglgfaaDoorWRow
namespace Go.Proofs.YtnalmingbglgfaaDoor
open Go.RowKit

set_option maxRecDepth 1000000 in
theorem idx_row (f : Nat → Int) (k : Nat) (hk : k < 8) (W : World) : (Instr.index 33 (.agg (sqc (tab f))) (.int .i64 (k : Int))).run Tryd.prog W = .ok (.agg #[.int .i64 (f (8 * k)), .int .i64 (f (8 * k + 1)), .int .i64 (f (8 * k + 2)), .int .i64 (f (8 * k + 3)), .int .i64 (f (8 * k + 4)), .int .i64 (f (8 * k + 5)), .int .i64 (f (8 * k + 6)), .int .i64 (f (8 * k + 7))]) W := by
  rcases (show k = 0 ∨ k = 1 ∨ k = 2 ∨ k = 3 ∨ k = 4 ∨ k = 5 ∨ k = 6 ∨ k = 7 by omega) with e | e | e | e | e | e | e | e <;> subst e <;> kernel_rfl
theorem take_rows (f : Nat → Int) (k : Nat) (hk : k < 8) : (tab f).take (8 * (k + 1)) = (tab f).take (8 * k) ++ [f (8 * k), f (8 * k + 1), f (8 * k + 2), f (8 * k + 3), f (8 * k + 4), f (8 * k + 5), f (8 * k + 6), f (8 * k + 7)] := by
  rcases (show k = 0 ∨ k = 1 ∨ k = 2 ∨ k = 3 ∨ k = 4 ∨ k = 5 ∨ k = 6 ∨ k = 7 by omega) with e | e | e | e | e | e | e | e <;> subst e <;> rfl
set_option maxHeartbeats 16000000 in
set_option maxRecDepth 1000000 in
theorem implList (f : Nat → Int) (w : World) : Calls Tryd.prog 23 #[.agg (sqc (tab f))] w fun e w' => ∃ v, e = .returned v ∧ OwnI w' w.heap.size w'.heap.size v (tab f) ∧ Upd 0 0 w w' := by
  obtain ⟨i0, hi, hz0, hz1, hz2⟩ := info_parts infoI
  have hS : Hid (SqAt (w.alloc (.cells (sqc (tab f)) 33)) w.heap.size (tab f)) := hide (sqAt_new w _ (by simp))
  have hB0 : Hid (Below w.heap.size w (w.alloc (.cells (sqc (tab f)) 33))) := hide ((Below.refl _ w).alloc (Nat.le_refl _) _)
  have hT : Hid (∀ k, k < 8 → (tab f).take (8 * (k + 1)) = (tab f).take (8 * k) ++ [f (8 * k), f (8 * k + 1), f (8 * k + 2), f (8 * k + 3), f (8 * k + 4), f (8 * k + 5), f (8 * k + 6), f (8 * k + 7)]) := hide (fun k hk => take_rows f k hk)
  go_enter Tryd.func23, Tryd.ntmps23
  go_upto_region 1 with fail
  generalize w.alloc (.cells (sqc (tab f)) 33) = w0 at hS hB0 ⊢
  refine wp_region_lit ?_
  refine wpList_make_own _ rfl _ _ 23 rfl w0.heap.size 3 i0 (.int .i64 0) 1 Tryd.underlying23 hi hz0 hz1 .i64 .i64 _ 64 rfl rfl (by omega) (by rw [hz2]; omega) (by unfold maxLen; omega) (Nat.le_refl _) ?_
  intro w1 hown hgrow
  have hb01 := (Below.refl w0.heap.size w0).grown hgrow (Nat.le_refl _) (by simp)
  have hS1 : SqAt w1 w.heap.size (tab f) := (unhide hS).keep (Upd.of_below hb01 0 0)
  replace hB0 := hide ((unhide hB0).trans (hb01.mono (unhide hB0).size))
  obtain ⟨g, hg⟩ : ∃ g, w0.heap.size = g := ⟨_, rfl⟩
  have hgw : w.heap.size < g := by rw [← hg]; exact (unhide hS).lt
  rw [hg] at hown ⊢
  clear hg hgrow hb01 hS
  go_upto_region 2 with fail
  refine wp_region_lit ?_
  refine wpList_load_row rfl 33 (.tmp 1) rfl w.heap.size rfl 33 (sqc (tab f)) (0, 0) _ hS1.1 Tryd.underlying33 rfl (by rw [sqc_size, tab_length]; exact sizeSq) ?_
  clear hS1
  have hrow0 : Hid (w1.ownsRow g 3 1 (.slice (some ⟨g, 0, none⟩) (8 * 0) 64) (8 * 0) (ints ((tab f).take (8 * 0)))) := hide hown
  clear hown
  have hI := fun k hk => idx_row f k hk
  replace hI := hide hI
  go_wp2_with fail
  go_loopw [3, 8] (fun s i wr => ∃ k : Nat, k ≤ 8 ∧ s = .slice (some ⟨g, 0, none⟩) (8 * k) 64 ∧ i = .int .i64 (k : Int) ∧ Hid (wr.ownsRow g 3 1 (.slice (some ⟨g, 0, none⟩) (8 * k) 64) (8 * k) (ints ((tab f).take (8 * k)))) ∧ Hid (Below w.heap.size w wr)) (fun _ i _ => 8 - (intOf i).toNat)
  case atStart => exact ⟨0, by omega, rfl, rfl, hrow0, hB0⟩
  case round =>
    clear hrow0 hB0
    obtain ⟨k, hk, rfl, rfl, hrow, hB0⟩ := hrel
    by_cases hlt : k < 8
    · have hkI := fun W => unhide hI k hlt W
      have hTk := hide (unhide hT k hlt)
      clear hT hI
      have hu5 := Upd.of_below ((Below.refl wr.heap.size wr).alloc (Nat.le_refl _) (.cells #[.int .i64 (f (8 * k)), .int .i64 (f (8 * k + 1)), .int .i64 (f (8 * k + 2)), .int .i64 (f (8 * k + 3)), .int .i64 (f (8 * k + 4)), .int .i64 (f (8 * k + 5)), .int .i64 (f (8 * k + 6)), .int .i64 (f (8 * k + 7))] 31)) 0 0
      have hrow5 := hide ((Own.of (unhide hrow)).keep hu5).1
      have hb5 := hide (below_upd (unhide hB0) hu5 (Nat.le_refl _) (.inr (Nat.zero_le _)))
      have hnk := hide (heldF_new wr [.int .i64 (f (8 * k)), .int .i64 (f (8 * k + 1)), .int .i64 (f (8 * k + 2)), .int .i64 (f (8 * k + 3)), .int .i64 (f (8 * k + 4)), .int .i64 (f (8 * k + 5)), .int .i64 (f (8 * k + 6)), .int .i64 (f (8 * k + 7))] 31)
      have hgr : g < wr.heap.size + 1 := by
        have := (unhide hrow).lt g rfl
        omega
      clear hrow hB0 hu5
      go_wp2_with (at_builtin; go_loud (refine wpList_append_fits _ rfl (.tmp 11) (.tmp 12) 23 rfl g 3 i0 1 Tryd.underlying23 hi hz1 g (8 * k) 64 (ints ((tab f).take (8 * k))) rfl (unhide hrow5) ⟨wr.heap.size, 0, none⟩ 8 8 (ints [f (8 * k), f (8 * k + 1), f (8 * k + 2), f (8 * k + 3), f (8 * k + 4), f (8 * k + 5), f (8 * k + 6), f (8 * k + 7)]) rfl rfl (fun j u hj => by rw [add_cell, Nat.zero_add]; exact (unhide hnk).1.2 j u hj) (ints_one _) (by omega) ?_; intro w6 ho6 hg6; have hb6 := hide ((unhide hb5).grown hg6 (unhide hb5).size (fun j e => by cases e; exact Nat.le_of_lt hgw)); have ho7 : Hid (w6.ownsRow g 3 1 (.slice (some ⟨g, 0, none⟩) (8 * (k + 1)) 64) (8 * (k + 1)) (ints ((tab f).take (8 * (k + 1))))) := hide (by rw [unhide hTk, ints_append]; exact ho6); clear ho6 hg6))
      go_roundw
      case rel => exact ⟨k + 1, by omega, rfl, by go_num, ho7, hb6⟩
      case measure => simp [intOf]; omega
    · have hk8 : k = 8 := by omega
      subst hk8
      have ht : (tab f).take (8 * 8) = tab f := List.take_of_length_le (by simp)
      have ho : Hid (OwnI wr g wr.heap.size (.slice (some ⟨g, 0, none⟩) 64 64) (tab f)) := hide (by
        have h := unhide hrow
        rw [ht] at h
        unfold OwnI
        rw [tab_length]
        exact Own.of h)
      have ho2 := hide (own_mono (unhide ho) (Nat.le_of_lt hgw) (Nat.le_refl _))
      clear hrow ht ho
      go_wp2_with fail
      go_ret
      exact ⟨_, rfl, unhide ho2, Upd.of_below (unhide hB0) 0 0⟩
end Go.Proofs.YtnalmingbglgfaaDoor
