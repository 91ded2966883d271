/- The program's empty planes. -/
import Derived.Test.YtkeplngifceegaaWShB
import Derived.Test.YtkeplngifceegaaWCurA
namespace Go.Proofs.Ytkeplngifceegaa
open Go.RowKit

theorem implStepsN (n b : Nat) (w : World) (hn : 1 ≤ n ∧ n ≤ 512) (hb : b = 2 ∨ b = 4) : Calls Try.prog 53 #[.int .i64 (n : Int), .int .i64 0, .int .i64 (b : Int)] w fun e w' => e = .returned (.int .i64 ((stepsF n b : Nat) : Int)) ∧ w' = w := by
  have hE : Hid (((n : Int) + (b : Int) - 1) / (b : Int) = ((stepsF n b : Nat) : Int)) := hide (by
    unfold stepsF; rcases hb with rfl | rfl <;> omega)
  obtain ⟨n1, n2⟩ := hn
  have hb1 : 1 ≤ b := by omega
  have hb4 : b ≤ 4 := by omega
  clear hb
  have hq : (b : Int) ≠ 0 := by omega
  go_enter Try.func53, Try.ntmps53
  go_wp2
  go_ret
  exact ⟨ret_int (unhide hE), rfl⟩
set_option maxHeartbeats 4000000 in
set_option maxRecDepth 100000 in
theorem implEmptyPlane (a b N : Nat) (w : World) (hN : a * b = N) (h1 : 1 ≤ N) (hN2 : N ≤ 1048576) :
    Calls Try.prog 52 #[.int .i64 (a : Int), .int .i64 (b : Int)] w fun e w' => ∃ g, e = .returned (.agg #[.int .i64 (a : Int), .int .i64 (b : Int), .slice (some ⟨g, 0, none⟩) N N]) ∧ w.heap.size ≤ g ∧ g < w'.heap.size ∧ w'.ownsRow g 3 1 (.slice (some ⟨g, 0, none⟩) N N) N (ints (List.replicate N 0)) ∧ Upd 0 0 w w' := by
  obtain ⟨i0, hi, hz0, hz1, hz2⟩ := info_parts infoI
  have eP : (a : Int) * (b : Int) = (N : Int) := by rw [← hN]; simp
  clear hN
  have hB0 := hide ((Below.refl w.heap.size w).alloc (Nat.le_refl _) (.cells #[.int .i64 0, .int .i64 0, .slice none 0 0] 31))
  have hrs := hide (heldF_new w [.int .i64 0, .int .i64 0, .slice none 0 0] 31)
  have hs0 : (w.alloc (.cells #[.int .i64 0, .int .i64 0, .slice none 0 0] 31)).heap.size = w.heap.size + 1 := by simp
  go_enter Try.func52, Try.ntmps52
  go_wp2_with (at_make; refine wpList_make_full _ rfl _ _ 27 rfl (w.alloc (.cells #[.int .i64 0, .int .i64 0, .slice none 0 0] 31)).heap.size 3 i0 (.int .i64 0) 1 Try.underlying27 hi hz0 hz1 .i64 .i64 _ _ N rfl rfl (by omega) (by omega) (by rw [hz2]; omega) (by unfold maxLen; omega) (Nat.le_refl _) ?_; intro w1 hown hgrow; have hu := Upd.of_below ((Below.refl (w.alloc (.cells #[.int .i64 0, .int .i64 0, .slice none 0 0] 31)).heap.size (w.alloc (.cells #[.int .i64 0, .int .i64 0, .slice none 0 0] 31))).grown hgrow (Nat.le_refl _) (by simp)) 0 0; replace hrs := hide ((unhide hrs).keep hu); replace hB0 := hide (below_upd (unhide hB0) hu (Nat.le_refl _) (.inr (Nat.le_refl _))); have hlt := hown.lt w.heap.size.succ (by rw [hs0]; rfl); have hown2 := hide hown; have z0 := (unhide hrs).1.2 0 _ rfl; have z1 := (unhide hrs).1.2 1 _ rfl; have z2 := (unhide hrs).1.2 2 _ rfl; have f0 := (unhide hrs).2 0; have f1 := (unhide hrs).2 1; have f2 := (unhide hrs).2 2; clear hown hgrow hu)
  rw [hs0] at hown2
  have hrow : w1.ownsRow (w.heap.size + 1) 3 1 (.slice (some ⟨w.heap.size + 1, 0, none⟩) N N) N (ints (List.replicate N 0)) := by
    rw [ints_zeros]; simpa [toList_madeCells_one, Value.cells] using unhide hown2
  have hl2 := hlt.2
  clear hown2 hlt
  refine bodyPost_ret (v := .agg #[.int .i64 (a : Int), .int .i64 (b : Int), .slice (some ⟨w.heap.size + 1, 0, none⟩) N N]) (by simp [results, Try.results52, go_sem, z0, z1, z2]) rfl ⟨w.heap.size + 1, rfl, by omega, by simpa using hl2, ?_, ?_⟩
  · exact ownsRow_setCell_below (ownsRow_setCell_below (ownsRow_setCell_below hrow (by simp) _) (by simp) _) (by simp) _
  · exact Upd.of_below ((((unhide hB0).setCell (by simp) _).setCell (by simp) _).setCell (by simp) _) 0 0
end Go.Proofs.Ytkeplngifceegaa
