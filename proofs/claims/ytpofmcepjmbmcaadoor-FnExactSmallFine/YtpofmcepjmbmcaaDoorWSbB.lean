/- The program's small rows, back. -/
import Derived.Test.YtpofmcepjmbmcaaDoorWSbA
namespace Go.Proofs.YtpofmcepjmbmcaaDoor
open Go.RowKit

theorem rows2 (t : TypeId) (n : Nat) (w : World) (A B : List Int) (hA : A.length = n) (hB : B.length = n) (w0 : World) (hw : w0 = (w.alloc (.cells (rwc A) t)).alloc (.cells (rwc B) t)) :
    RAt t n w0 w.heap.size A ∧ RAt t n w0 (w.heap.size + 1) B ∧ Below w.heap.size w w0 := by
  subst hw
  refine ⟨(rAt_new t n w A hA).alloc _, ?_, ((Below.refl _ w).alloc (Nat.le_refl _) _).alloc (by simp) _⟩
  have h := rAt_new t n (w.alloc (.cells (rwc A) t)) B hB
  rw [show (w.alloc (.cells (rwc A) t)).heap.size = w.heap.size + 1 by simp] at h
  exact h
set_option maxHeartbeats 16000000 in
set_option maxRecDepth 1000000 in
theorem implSmallBack (r : List Int) (w : World) (hr : r.length = 4) (hb : ∀ j, j < 4 → -2000000000 ≤ r.getD j 0 ∧ r.getD j 0 ≤ 2000000000) :
    Calls Tryd.prog 76 #[.agg (rwc r)] w fun e w' => e = .returned (.agg (rwc (tabN 4 (backS r)))) ∧ Upd 0 0 w w' := by
  have hz := zero4
  have hsq : Hid (∀ w0, w0 = (w.alloc (.cells (rwc r) 78)).alloc (.cells #[.int .i64 0, .int .i64 0, .int .i64 0, .int .i64 0] 78) →
      RAt 78 4 w0 w.heap.size r ∧ RAt 78 4 w0 (w.heap.size + 1) z4 ∧ Below w.heap.size w w0) := hide (rows2 78 4 w r z4 hr z4_len)
  have hE : Hid ((((z4.set 0 (r.getD 0 0 + r.getD 2 0 + (r.getD 1 0 + r.getD 3 0 / 2))).set 1 (r.getD 0 0 - r.getD 2 0 + (r.getD 1 0 / 2 - r.getD 3 0))).set 2 (r.getD 0 0 - r.getD 2 0 - (r.getD 1 0 / 2 - r.getD 3 0))).set 3 (r.getD 0 0 + r.getD 2 0 - (r.getD 1 0 + r.getD 3 0 / 2)) = tabN 4 (backS r)) := hide rfl
  have b0 := hb 0 (by omega); have b1 := hb 1 (by omega); have b2 := hb 2 (by omega); have b3 := hb 3 (by omega)
  go_enter Tryd.func76, Tryd.ntmps76
  go_upto_region 1 with fail
  obtain ⟨w0, hw0⟩ : ∃ w0, w0 = (w.alloc (.cells (rwc r) 78)).alloc (.cells #[.int .i64 0, .int .i64 0, .int .i64 0, .int .i64 0] 78) := ⟨_, rfl⟩
  obtain ⟨hBx, hRs, hbw⟩ := unhide hsq w0 hw0
  rw [← hw0]
  clear hw0
  have c0 := hBx.cell (j := 0) (by omega)
  have c1 := hBx.cell (j := 1) (by omega)
  have c2 := hBx.cell (j := 2) (by omega)
  have c3 := hBx.cell (j := 3) (by omega)
  have hR1 : Hid (RAt 78 4 w0.drew (w.heap.size + 1) z4) := hide (hRs.keep (Upd.drewB _))
  have hb1 : Hid (Below w.heap.size w w0.drew) := hide (below_upd hbw (Upd.drewB _) (Nat.le_refl _) (.inr (Nat.zero_le _)))
  clear hsq hBx hRs hbw hb hr
  generalize r.getD 0 0 = a at *
  generalize r.getD 1 0 = b at *
  generalize r.getD 2 0 = c at *
  generalize r.getD 3 0 = d at *
  refine wp_region_still_lit (by kernel_rfl) (by kernel_rfl) ?_
  iterate 12 still_step
  refine wpStill_nil ?_
  clear c0 c1 c2 c3
  obtain ⟨a0, a1⟩ := b0
  obtain ⟨a2, a3⟩ := b1
  obtain ⟨a4, a5⟩ := b2
  obtain ⟨a6, a7⟩ := b3
  have k0 : w0.cell? ⟨w.heap.size + 1, 0, none⟩ = some (.int .i64 0) := (unhide hR1).cell (j := 0) (by omega)
  have k1 : w0.cell? ⟨w.heap.size + 1, 1, none⟩ = some (.int .i64 0) := (unhide hR1).cell (j := 1) (by omega)
  have k2 : w0.cell? ⟨w.heap.size + 1, 2, none⟩ = some (.int .i64 0) := (unhide hR1).cell (j := 2) (by omega)
  have k3 : w0.cell? ⟨w.heap.size + 1, 3, none⟩ = some (.int .i64 0) := (unhide hR1).cell (j := 3) (by omega)
  have f0 : w0.frozen? ⟨w.heap.size + 1, 0, none⟩ = false := (unhide hR1).frozen 0
  have f1 : w0.frozen? ⟨w.heap.size + 1, 1, none⟩ = false := (unhide hR1).frozen 1
  have f2 : w0.frozen? ⟨w.heap.size + 1, 2, none⟩ = false := (unhide hR1).frozen 2
  have f3 : w0.frozen? ⟨w.heap.size + 1, 3, none⟩ = false := (unhide hR1).frozen 3
  go_wp2
  have hR4 := (((((unhide hR1).set 0 (a + c + (b + d / 2))).set 1 (a - c + (b / 2 - d))).set 2 (a - c - (b / 2 - d))).set 3 (a + c - (b + d / 2)))
  rw [unhide hE] at hR4
  have hb4 := ((((unhide hb1).setCell (p := ⟨w.heap.size + 1, 0, none⟩) (by simp) (.int .i64 (a + c + (b + d / 2)))).setCell (p := ⟨w.heap.size + 1, 1, none⟩) (by simp) (.int .i64 (a - c + (b / 2 - d)))).setCell (p := ⟨w.heap.size + 1, 2, none⟩) (by simp) (.int .i64 (a - c - (b / 2 - d)))).setCell (p := ⟨w.heap.size + 1, 3, none⟩) (by simp) (.int .i64 (a + c - (b + d / 2)))
  refine bodyPost_ret (v := .agg (rwc (tabN 4 (backS r)))) (results_cell_row rfl _ _ (w.heap.size + 1) 78 (rwc (tabN 4 (backS r))) (0, 0) _ rfl hR4.1 Tryd.underlying78 rfl (by rw [rwc_size, tabN_length]; exact size4)) rfl ⟨rfl, Upd.of_below hb4 0 0⟩
end Go.Proofs.YtpofmcepjmbmcaaDoor
