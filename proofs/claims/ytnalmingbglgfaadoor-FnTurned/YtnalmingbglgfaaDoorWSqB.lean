/- The program's matrix of waves. -/
import Derived.Test.YtnalmingbglgfaaDoorWSqA
import Derived.Test.YtnalmingbglgfaaDoorWSzI
import Derived.Deep.DeepCutAuto
namespace Go.Proofs.YtnalmingbglgfaaDoor
open Go.RowKit

theorem wrapQ {n : Int} (h : -9223372036854775808 ≤ n ∧ n ≤ 9223372036854775807) : IntKind.i64.wrap n = n := by
  simp [IntKind.wrap, IntKind.bits, IntKind.signed]; omega
theorem held_below {W W' : World} {g : Nat} {cs : List Value} (h : Held W g cs) (hb : Below W.heap.size W W') : Held W' g cs := h.keep (Upd.of_below hb 0 0)
theorem mT_tab : mT = tab (fun p => mZ (p / 8) (p % 8)) := by decide

set_option maxHeartbeats 16000000 in
set_option maxRecDepth 1000000 in
theorem implWaveMatrix (w : World) (hTb : Held w 0 [.int .i64 2896, .int .i64 4017, .int .i64 3784, .int .i64 3406, .int .i64 2896, .int .i64 2276, .int .i64 1567, .int .i64 799]) :
    Calls Tryd.prog 19 #[] w fun e w' => e = .returned (.agg (sqc mT)) ∧ Upd 0 0 w w' := by
  have hz := zeroSq
  have hZ : SqAt ((w.alloc (.cells (sqc zq) 33)).alloc (.cells (sqc zq) 33)) w.heap.size zq :=
    (sqAt_new w _ zq_len).keep (Upd.of_below ((Below.refl _ _).alloc (Nat.le_refl _) _) 0 0)
  have hN : SqSt w ((w.alloc (.cells (sqc zq) 33)).alloc (.cells (sqc zq) 33)) (w.heap.size + 1) (fun p => mZ (p / 8) (p % 8)) (fun p => p < 8 * 0 + 0) zq := by
    have h1 := sqAt_new (w.alloc (.cells (sqc zq) 33)) zq zq_len
    rw [show (w.alloc (.cells (sqc zq) 33)).heap.size = w.heap.size + 1 by simp] at h1
    exact ⟨h1, ⟨zq_len, fun p hp h => by omega⟩, ((Below.refl _ w).alloc (Nat.le_refl _) _).alloc (by simp) _, by omega⟩
  replace hZ := hide hZ
  replace hN := hide hN
  replace hTb := hide hTb
  go_enter Tryd.func19, Tryd.ntmps19
  go_wp2_with fail
  generalize (w.alloc (.cells (sqc zq) 33)).alloc (.cells (sqc zq) 33) = w0 at hZ hN ⊢
  clear hz
  go_loopw [4] (fun i wr => ∃ (a : Nat) (xs : List Int), a ≤ 8 ∧ i = .int .i64 (a : Int) ∧ Hid (SqSt w wr (w.heap.size + 1) (fun p => mZ (p / 8) (p % 8)) (fun p => p < 8 * a + 0) xs) ∧ Hid (SqAt wr w.heap.size zq)) (fun i _ => 8 - (intOf i).toNat)
  case atStart => exact ⟨0, zq, by omega, rfl, hN, hZ⟩
  case round =>
    clear hN hZ
    obtain ⟨a, xs, ha, rfl, hN, hZ⟩ := hrel
    by_cases halt : a < 8
    · have hab : decide ((a : Int) < 8) = true := decide_eq_true (by omega)
      go_wp2_with fail
      go_loopw [7] (fun i wr => ∃ (b : Nat) (xs : List Int), b ≤ 8 ∧ i = .int .i64 (b : Int) ∧ Hid (SqSt w wr (w.heap.size + 1) (fun p => mZ (p / 8) (p % 8)) (fun p => p < 8 * a + b) xs) ∧ Hid (SqAt wr w.heap.size zq)) (fun i _ => 8 - (intOf i).toNat)
      case atStart => exact ⟨0, xs, by omega, rfl, hN, hZ⟩
      case round =>
        clear hN hZ
        obtain ⟨b, xs, hb, rfl, hN, hZ⟩ := hrel
        by_cases hblt : b < 8
        · have hbb : decide ((b : Int) < 8) = true := decide_eq_true (by omega)
          have hC := hide (fun W h => implWaveHeight a b W halt hblt h)
          have hCW := hide (unhide hC wr.drew ((held_below (unhide hTb) (unhide hN).bel).keep (Upd.of_below (below_drewN (Below.refl _ _) 1) 0 0)))
          have hq2 : a * 8 + b < 64 := by omega
          have hput := hide ((unhide hN).put (Q := fun p => p < 8 * a + (b + 1)) hq2 (x := mZ a b) (by show _ = mZ _ _; rw [show (a * 8 + b) / 8 = a by omega, show (a * 8 + b) % 8 = b by omega]) (fun p hp hQ => by omega))
          have hZ2 := hide ((unhide hZ).other (a := ⟨w.heap.size + 1, a * 8 + b, none⟩) (by simp) (.int .i64 (mZ a b)))
          have hdst := (unhide hN).row.cell hq2
          have hfz := (unhide hN).row.frozen (a * 8 + b)
          generalize xs.getD (a * 8 + b) 0 = old at hdst
          obtain ⟨N, hNn⟩ : ∃ N, (2 * b + 1) * a = N := ⟨_, rfl⟩
          have hNI : (2 * (b : Int) + 1) * (a : Int) = (N : Int) := by rw [← hNn]; push_cast; rfl
          have hN105 : N ≤ 15 * 7 := by rw [← hNn]; exact Nat.mul_le_mul (by omega) (by omega)
          rw [hNn] at hCW
          have w1 : IntKind.i64.wrap (2 * (b : Int)) = 2 * (b : Int) := wrapQ (by omega)
          have w2 : IntKind.i64.wrap (2 * (b : Int) + 1) = 2 * (b : Int) + 1 := wrapQ (by omega)
          have w3 : IntKind.i64.wrap (N : Int) = (N : Int) := wrapQ (by omega)
          have ha0 : (0 : Int) ≤ (a : Int) := by omega
          have ha1 : (a : Int) < 8 := by omega
          have hb0 : (0 : Int) ≤ (b : Int) := by omega
          have hb1 : (b : Int) < 8 := by omega
          clear hN hZ hNn hC
          go_wp2_with fail
          refine wp_region_still_tail 10 (by kernel_rfl) (by kernel_rfl) ?_
          simp only [List.take_succ_cons, List.take_zero, List.drop_succ_cons, List.drop_zero]
          iterate 7 still_step
          still_call (unhide hCW)
          iterate 2 still_step
          refine wpStill_nil ?_
          go_wp2_with fail
          go_roundw
          case rel => exact ⟨b + 1, _, by omega, by go_num, hide ((unhide hput).upd (Upd.drew1 _)), hide ((unhide hZ2).keep (Upd.drew1 _))⟩
          case measure => simp [intOf]; omega
        · have hb8 : b = 8 := by omega
          subst hb8
          have hN2 := hide ((unhide hN).weak (Q := fun p => p < 8 * (a + 1) + 0) (fun p hp hQ => by omega))
          clear hN
          go_wp2_with fail
          go_roundw
          case rel => exact ⟨a + 1, xs, by omega, by go_num, hN2, hZ⟩
          case measure => simp [intOf]; omega
    · have ha8 : a = 8 := by omega
      subst ha8
      have hbel := hide (unhide hN).bel
      have hdn := (unhide hN).done (fun p hp => by omega)
      rw [← mT_tab] at hdn
      replace hdn := hide hdn
      clear hN
      go_upto_region 11 with fail
      refine wp_region_lit ?_
      refine wpList_load_row rfl 33 (.tmp 1) rfl (w.heap.size + 1) rfl 33 (sqc mT) (0, 0) _ (unhide hdn).1 Tryd.underlying33 rfl (by rw [sqc_size]; exact sizeSq) ?_
      refine wpList_store_row rfl 33 (.tmp 0) (.tmp 22) rfl w.heap.size (sqc mT) rfl rfl 33 (sqc zq) (unhide hZ).1 (by rw [sqc_size]; exact sizeSq) (by rw [sqc_size, sqc_size]; rfl) (sqc_one _) ?_
      have hres : (wr.setRow w.heap.size (sqc mT)).heap[w.heap.size]? = some (.cells (sqc mT) 33 (0, 0)) := setRow_heap wr _ _ _ _ _ (unhide hZ).1
      replace hres := hide hres
      have hb2 := hide (below_setRow (unhide hbel) (Nat.le_refl _) (sqc mT))
      go_wp2_with fail
      refine bodyPost_ret (v := .agg (sqc mT)) (results_cell_row rfl _ _ w.heap.size 33 (sqc mT) (0, 0) _ rfl (unhide hres) Tryd.underlying33 rfl (by rw [sqc_size]; exact sizeSq)) rfl ⟨rfl, Upd.of_below (unhide hb2) 0 0⟩
end Go.Proofs.YtnalmingbglgfaaDoor
