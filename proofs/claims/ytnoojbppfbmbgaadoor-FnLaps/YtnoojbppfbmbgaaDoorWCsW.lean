/- The window: both sides. -/
import Derived.Test.YtnoojbppfbmbgaaDoorWCsS
import Derived.Deep.DeepCutAuto
import Derived.Deep.RegionWith
namespace Go.Proofs.YtnoojbppfbmbgaaDoor
open Go.RowKit

set_option maxHeartbeats 8000000 in
set_option maxRecDepth 100000 in
theorem implWindow (w : World) (hTb : Held w 0 cosCells) :
    Calls Tryd.prog 24 #[] w fun e w' => ∃ v, e = .returned v ∧ OwnI w' w.heap.size w'.heap.size v winT ∧ Upd 0 0 w w' := by
  obtain ⟨o, hmk⟩ := mkRowI 32 (by omega)
  have hrun : ∀ X : World, (Instr.makeSlice 23 (.int .i64 32) (.int .i64 32)).run Tryd.prog X = .ok (.slice (some ⟨X.heap.size, 0, none⟩) 32 32) (X.alloc o) := fun X => (hmk X).1
  have hrow := hide (hmk w).2
  have hz0 : Hid ((w.alloc o).heap.size = w.heap.size + 1) := hide (by simp)
  have hB := hide ((Below.refl w.heap.size w).alloc (Nat.le_refl _) o)
  have hTs := hide hTb
  have hgl : 0 < w.heap.size := hTb.1
  clear hmk hTb
  go_enter Tryd.func24, Tryd.ntmps24
  go_upto_region 3 with fail
  generalize w.alloc o = w0 at hrow hB hz0 ⊢
  have hp0 : Hid (RowI w0 w.heap.size 32 (partI winT 0)) := hide (by rw [partI_zero]; exact unhide hrow)
  clear hrow
  go_loopw [2, 6] (fun _ i wr => ∃ k : Nat, k ≤ 32 ∧ i = .int .i64 k ∧ Hid (RowI wr w.heap.size 32 (partI winT k)) ∧ Hid (Below w.heap.size w wr) ∧ Hid (wr.heap.size = w.heap.size + 1)) (fun _ i _ => 32 - (intOf i).toNat)
  case atStart => exact ⟨0, Nat.zero_le _, rfl, hp0, hB, hz0⟩
  case round =>
    clear hp0 hB hz0
    obtain ⟨k, hk, rfl, hp, hB, hz⟩ := hrel
    by_cases hlt : k < 32
    · have hT2 : Held wr 0 cosCells := ⟨by have := unhide hz; omega, fun j v hj => ((Upd.of_below (unhide hB) 0 0).none.cell (p := ⟨0, j, none⟩) hgl).trans ((unhide hTs).2 j v hj)⟩
      have hC := hide (implWindowWeight k wr hlt hT2)
      have hps : Hid ((partI winT k).set k (.int .i64 (winA k)) = partI winT (k + 1)) := hide (partI_set winT k hlt)
      obtain ⟨y, hdst⟩ := (unhide hp).has k hlt
      have hfz := (unhide hp).frozen k
      have hst : Hid (RowI (wr.setCell ⟨w.heap.size, k, none⟩ (.int .i64 (winA k))) w.heap.size 32 (partI winT (k + 1))) := hide (by rw [← unhide hps]; exact (unhide hp).set k _)
      have hB2 : Hid (Below w.heap.size w (wr.setCell ⟨w.heap.size, k, none⟩ (.int .i64 (winA k)))) := hide ((unhide hB).setCell (p := ⟨w.heap.size, k, none⟩) (Nat.le_refl _) _)
      have hz2 : Hid ((wr.setCell ⟨w.heap.size, k, none⟩ (.int .i64 (winA k))).heap.size = w.heap.size + 1) := hide (by simpa using unhide hz)
      have kI : (0 : Int) ≤ (k : Int) := by omega
      clear hT2 hps hp hB hz
      generalize winA k = x at hC hst hB2 hz2
      go_wp2_with fail
      refine (unhide hC).mono ?_
      rintro e w' ⟨rfl, rfl⟩
      go_wp2
      go_roundw
      case rel => exact ⟨k + 1, by omega, by go_num, hst, hB2, hz2⟩
      case measure => simp [intOf]; omega
    · have hkl : k = 32 := by omega
      subst hkl
      have hown : Hid (OwnI wr w.heap.size wr.heap.size (.slice (some ⟨w.heap.size, 0, none⟩) 32 32) winT) := hide (by
        have h := unhide hp
        rw [show partI winT 32 = ints winT from partI_all winT] at h
        rw [unhide hz]
        exact h.own)
      have hU := hide (Upd.of_below (unhide hB) 0 0)
      clear hp hB hz
      go_wp2
      go_ret
      exact ⟨_, rfl, unhide hown, unhide hU⟩
set_option maxHeartbeats 8000000 in
set_option maxRecDepth 100000 in
theorem specWindow (w : World) :
    Calls Tryd.prog 23 #[] w fun e w' => ∃ v, e = .returned v ∧ OwnI w' w.heap.size w'.heap.size v winT ∧ Upd 0 0 w w' := by
  obtain ⟨o, hmk⟩ := mkRowI 32 (by omega)
  have hrun : ∀ X : World, (Instr.makeSlice 23 (.int .i64 32) (.int .i64 32)).run Tryd.prog X = .ok (.slice (some ⟨X.heap.size, 0, none⟩) 32 32) (X.alloc o) := fun X => (hmk X).1
  have hrowX := hide (fun X => (hmk X).2)
  have hzX : Hid (∀ X : World, (X.alloc o).heap.size = X.heap.size + 1) := hide (fun X => by simp)
  clear hmk
  go_enter Tryd.func23, Tryd.ntmps23
  go_wp2_with fail
  refine (specTable w).mono ?_
  rintro e w1 ⟨v, rfl, hown, hu1⟩
  have hs1 : w.heap.size ≤ w1.heap.size := hu1.size
  obtain ⟨ad, cap, rfl, hA⟩ := hown.rd
  obtain ⟨bt, ot, rfl, hbl, hcl⟩ := hA (show cosQ ≠ [] by decide)
  have hbt : bt < w1.heap.size := hbl
  have hcT : Hid (∀ j, j < 33 → w1.cell? ⟨bt, ot + j, none⟩ = some (.int .i64 (cosQ.getD j 0))) := hide (fun j hj => hcl j hj)
  have hl : cosQ.length = 33 := rfl
  rw [hl]
  clear hA hcl hl hown hbl
  have hrow := hide (unhide hrowX w1)
  have hB := hide ((Below.refl w1.heap.size w1).alloc (Nat.le_refl _) o)
  have hz0 := hide (unhide hzX w1)
  replace hu1 := hide hu1
  clear hrowX hzX
  go_upto_region 4 with fail
  generalize w1.alloc o = w0 at hrow hB hz0 ⊢
  have hp0 : Hid (RowI w0 w1.heap.size 32 (partI winT 0)) := hide (by rw [partI_zero]; exact unhide hrow)
  clear hrow
  go_loopw [3, 8] (fun _ i wr => ∃ k : Nat, k ≤ 32 ∧ i = .int .i64 k ∧ Hid (RowI wr w1.heap.size 32 (partI winT k)) ∧ Hid (Below w1.heap.size w1 wr) ∧ Hid (wr.heap.size = w1.heap.size + 1)) (fun _ i _ => 32 - (intOf i).toNat)
  case atStart => exact ⟨0, Nat.zero_le _, rfl, hp0, hB, hz0⟩
  case round =>
    clear hp0 hB hz0
    obtain ⟨k, hk, rfl, hp, hB, hz⟩ := hrel
    by_cases hlt : k < 32
    · have hC := hide (specCosine (31 - 2 * (k : Int)) bt ot cap wr (fun j hj => ((Upd.of_below (unhide hB) 0 0).none.cell (p := ⟨bt, ot + j, none⟩) hbt).trans (unhide hcT j hj)))
      rw [← winA_eq k hlt] at hC
      have hps : Hid ((partI winT k).set k (.int .i64 (winA k)) = partI winT (k + 1)) := hide (partI_set winT k hlt)
      obtain ⟨y, hdst⟩ := (unhide hp).has k hlt
      have hfz := (unhide hp).frozen k
      have hst : Hid (RowI (wr.setCell ⟨w1.heap.size, k, none⟩ (.int .i64 (winA k))) w1.heap.size 32 (partI winT (k + 1))) := hide (by rw [← unhide hps]; exact (unhide hp).set k _)
      have hB2 : Hid (Below w1.heap.size w1 (wr.setCell ⟨w1.heap.size, k, none⟩ (.int .i64 (winA k)))) := hide ((unhide hB).setCell (p := ⟨w1.heap.size, k, none⟩) (Nat.le_refl _) _)
      have hz2 : Hid ((wr.setCell ⟨w1.heap.size, k, none⟩ (.int .i64 (winA k))).heap.size = w1.heap.size + 1) := hide (by simpa using unhide hz)
      have kI : (0 : Int) ≤ (k : Int) := by omega
      clear hps hp hB hz
      generalize winA k = x at hC hst hB2 hz2
      go_wp2_with fail
      refine (unhide hC).mono ?_
      rintro e w' ⟨rfl, rfl⟩
      go_wp2
      go_roundw
      case rel => exact ⟨k + 1, by omega, by go_num, hst, hB2, hz2⟩
      case measure => simp [intOf]; omega
    · have hkl : k = 32 := by omega
      subst hkl
      have hown : Hid (OwnI wr w.heap.size wr.heap.size (.slice (some ⟨w1.heap.size, 0, none⟩) 32 32) winT) := hide (by
        have h := unhide hp
        rw [show partI winT 32 = ints winT from partI_all winT] at h
        rw [unhide hz]
        exact own_mono h.own hs1 (Nat.le_refl _))
      have hU := hide ((unhide hu1).trans (Upd.of_below (unhide hB) 0 0))
      clear hp hB hz
      go_wp2
      go_ret
      exact ⟨_, rfl, unhide hown, unhide hU⟩
end Go.Proofs.YtnoojbppfbmbgaaDoor
