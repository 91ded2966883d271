/- The program's ScanOrder. -/
import Derived.Test.YtilmdbdgohfpcaaWItV
import Derived.Deep.DeepCutAuto
import Derived.Deep.RegionHeld3
import Derived.Deep.RegionWith
import Derived.Laws.MakeOwn
namespace Go.Proofs.Ytilmdbdgohfpcaa
open Go Go.RowKit

theorem scanL_lenB : scanL.length ≤ 1048576 := by rw [scanL_length]; omega

theorem scanPlaces_mk (w : World) : Calls Try.prog 35 #[] w fun e w' => e = .returned (.func (.func 50) #[] #[]) ∧ w' = w := by
  go_enter Try.func35, Try.ntmps35
  go_wp2
  go_ret
  exact ⟨rfl, rfl⟩

theorem mk64 : ∃ o : Obj, ∀ (X : World), (Instr.makeSlice 23 (.int .i64 0) (.int .i64 64)).run Try.prog X = .ok (.slice (some ⟨X.heap.size, 0, none⟩) 0 64) (X.alloc o) ∧
    ∀ base, base ≤ X.heap.size → (X.alloc o).ownsRow base 3 1 (.slice (some ⟨X.heap.size, 0, none⟩) 0 64) 0 (ints []) := by
  obtain ⟨i0, hi, hz0, hz1, hz2⟩ := info_parts infoI
  refine ⟨.cells (madeCells (Value.int .i64 0).cells ((64 : Int).toNat * i0.size)) 3, fun X => ⟨?_, fun base hb => ?_⟩⟩
  · have h := run_makeSlice (P := Try.prog) (w := X) 23 3 i0 (.int .i64 0) Try.underlying23 hi hz0 .i64 .i64 0 64 (by omega) (by omega) (by rw [hz1]; decide) (by rw [hz2]; decide) (by omega)
    exact h
  · exact World.ownsRow_made X _ 64 hb (by unfold maxLen; omega) (by rw [size_madeCells, hz1]; rfl)

set_option maxRecDepth 100000 in
set_option maxHeartbeats 4000000 in
theorem implScanOrder (w : World) :
    Calls Try.prog 11 #[] w fun e w' => ∃ v, e = .returned v ∧ OwnI w' w.heap.size w'.heap.size v scanL ∧ Upd 0 0 w w' := by
  obtain ⟨o, hmk⟩ := mk64
  have hmk1 := fun X => (hmk X).1
  go_enter Try.func11, Try.ntmps11
  go_wp2_with fail
  go_region_with ((first | (go_at_call 35; refine (scanPlaces_mk _).mono ?_; rintro e w7 ⟨rfl, rfl⟩) | (go_at_call 34; refine (appendScan w.heap.size _ _ ((hmk w.drew).2 w.heap.size (Nat.le_refl _)) (by simp) (by simp)).mono ?_; rintro e w8 ⟨v, rfl, hr8, hb8⟩)))
  all_goals (
    have hb : Below w.heap.size w w8 := ((Below.refl w.heap.size w).drew.alloc (by simp) o).trans hb8
    have ho : OwnI w8 w.heap.size w8.heap.size v scanL := Own.of (by rw [scanL_length]; exact hr8)
    clear hr8 hb8 hmk hmk1
    go_wp2
    go_ret
    exact ⟨v, rfl, ho, hb.os, hb.tape, hb.output, hb.size, fun k hk _ => hb.block k hk⟩)
end Go.Proofs.Ytilmdbdgohfpcaa
