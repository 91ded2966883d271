/- slices.Grow and slices.Concat of int slices: a row of the call's own. -/
import Derived.Test.YtpofmcepjmbmcaaWAppI
import Derived.Deep.RegionWith
import Derived.Lib.AppendZeros
namespace Go.Proofs.Ytpofmcepjmbmcaa
open Go.RowKit

theorem drewBelowZ (w : World) : Below w.heap.size w w.drew := ⟨rfl, rfl, rfl, Nat.le_refl _, fun _ _ => rfl⟩
set_option maxHeartbeats 2000000 in
set_option maxRecDepth 100000 in
theorem growYZ (n : Nat) (w : World) (hn : n ≤ 1099511627776) :
    Calls Try.prog 97 #[.slice none 0 0, .int .i64 n] w fun e w' => ∃ v, e = .returned v ∧ w'.ownsRow w.heap.size 3 1 v 0 [] ∧ Below w.heap.size w w' := by
  by_cases h0 : n = 0
  · subst h0
    go_enter Try.func97, Try.ntmps97
    go_wp2
    go_ret
    exact ⟨_, rfl, World.ownsRow_nil _ _ _ _, Below.refl _ _⟩
  · have h0' : 0 < n := by omega
    obtain ⟨i0, hi0, hz0, hz1, hz2⟩ := info_parts infoI
    have hrun := Lib.run_append_nil_zeros (P := Try.prog) w 29 3 29 3 i0 (.int .i64 0) .i64 .i64 Try.underlying29 Try.underlying3 hi0 hz0 n h0' (by omega) (by omega) (by rw [hz2]; omega)
    have hge := grownCap_ge w n 0 3
    have hle := grownCap_le_maxLen w n 0 3 (by unfold maxLen; omega)
    have hsize : (Builtin.zeroCells (Value.int .i64 0).cells n ++ Builtin.zeroCells (Value.int .i64 0).cells (grownCap w n 0 3 - n)).size = grownCap w n 0 3 * 1 := by
      rw [Array.size_append, size_zeroCells, size_zeroCells]; simp [Value.cells]; omega
    have hown := World.ownsRow_made (base := w.heap.size) (e := 3) (size := 1) w.drew _ (grownCap w n 0 3) (Nat.le_refl _) hle hsize
    have hbel : Below w.heap.size w (w.drew.alloc (.cells (Builtin.zeroCells (Value.int .i64 0).cells n ++ Builtin.zeroCells (Value.int .i64 0).cells (grownCap w n 0 3 - n)) 3)) := (drewBelowZ w).alloc (Nat.le_refl _) _
    generalize w.drew.alloc (.cells (Builtin.zeroCells (Value.int .i64 0).cells n ++ Builtin.zeroCells (Value.int .i64 0).cells (grownCap w n 0 3 - n)) 3) = w1 at hrun hown hbel
    clear hsize
    generalize grownCap w n 0 3 = cp at hrun hown hge hle
    replace hown := hide hown
    replace hbel := hide hbel
    have hge' : (n : Int) ≤ cp := by omega
    go_enter Try.func97, Try.ntmps97
    go_wp2_with (at_builtin; go_loud (refine Lib.wpList_append_run _ rfl (.tmp 20) (.tmp 21) _ _ rfl _ _ rfl rfl _ _ hrun ?_))
    go_ret
    exact ⟨_, rfl, unhide hown, unhide hbel⟩
end Go.Proofs.Ytpofmcepjmbmcaa
