/- The undoing of laps: the program's walk. -/
import Derived.Test.YtnoojbppfbmbgaaDoorWCsL
namespace Go.Proofs.YtnoojbppfbmbgaaDoor
open Go.RowKit

set_option maxHeartbeats 16000000 in
set_option maxRecDepth 100000 in
theorem implUnlapped (b off cap : Nat) (xs : List Int) (w : World) (hn : xs.length = 16) (hx : ∀ i, i < 16 → -8589934592 ≤ fI xs i ∧ fI xs i ≤ 8589934592) (hbl : b < w.heap.size) (hcl : ∀ j, j < 16 → w.cell? ⟨b, off + j, none⟩ = some (.int .i64 (fI xs j))) (hTb : Held w 0 cosCells) :
    Calls Tryd.prog 41 #[.slice (some ⟨b, off, none⟩) 16 cap] w fun e w' => ∃ v, e = .returned v ∧ OwnI w' w.heap.size w'.heap.size v (unlapL xs) ∧ Upd 0 0 w w' := by
  obtain ⟨o, hmk⟩ := mkRowI 32 (by omega)
  have hrun : ∀ X : World, (Instr.makeSlice 23 (.int .i64 32) (.int .i64 32)).run Tryd.prog X = .ok (.slice (some ⟨X.heap.size, 0, none⟩) 32 32) (X.alloc o) := fun X => (hmk X).1
  have hrow := hide (hmk w).2
  have hz0 : Hid ((w.alloc o).heap.size = w.heap.size + 1) := hide (by simp)
  have hB := hide ((Below.refl w.heap.size w).alloc (Nat.le_refl _) o)
  have hTs := hide hTb
  have hgl : 0 < w.heap.size := hTb.1
  have hcs := hide hcl
  have hxs := hide hx
  have hL : Hid (∀ k, k < 32 → (unlapL xs).getD k 0 = winN ((sumN (fun i => fI xs i * lapT k i) 16 + 65536) / 131072) k) := hide (fun k hk => by unfold unlapL; rw [tabN_getD _ _ _ hk]; rfl)
  have hLl : Hid ((unlapL xs).length = 32) := hide (by unfold unlapL; simp)
  have hfz0 := hide hn
  generalize unlapL xs = A at hL hLl ⊢
  clear hmk hTb hcl hx hn
  go_enter Tryd.func41, Tryd.ntmps41
  go_upto_region 3 with fail
  generalize w.alloc o = w0 at hrow hB hz0 ⊢
  have hp0 : Hid (RowI w0 w.heap.size 32 (partI A 0)) := hide (by rw [partI_zero, unhide hLl]; exact unhide hrow)
  clear hrow
  go_loopw [4, 5, 6, 7, 11] (fun _ _ _ _ i wr => ∃ k : Nat, k ≤ 32 ∧ i = .int .i64 k ∧ Hid (RowI wr w.heap.size 32 (partI A k)) ∧ Hid (Below w.heap.size w wr) ∧ Hid (wr.heap.size = w.heap.size + 1)) (fun _ _ _ _ i _ => 32 - (intOf i).toNat)
  case atStart => exact ⟨0, Nat.zero_le _, rfl, hp0, hB, hz0⟩
  case round =>
    clear hp0 hB hz0
    obtain ⟨k, hk, rfl, hp, hB, hz⟩ := hrel
    by_cases hlt : k < 32
    · have hT2 := hide (⟨by have := unhide hz; omega, fun j v hj => ((Upd.of_below (unhide hB) 0 0).none.cell (p := ⟨0, j, none⟩) hgl).trans ((unhide hTs).2 j v hj)⟩ : Held wr 0 cosCells)
      have hc2 : Hid (∀ j, j < 16 → wr.cell? ⟨b, off + j, none⟩ = some (.int .i64 (fI xs j))) := hide (fun j hj => ((Upd.of_below (unhide hB) 0 0).none.cell (p := ⟨b, off + j, none⟩) hbl).trans (unhide hcs j hj))
      have kI : (0 : Int) ≤ (k : Int) := by omega
      have kD : decide ((k : Int) < 32) = true := decide_eq_true (by omega)
      obtain ⟨wO, hwO⟩ : ∃ wO : World, wO = wr := ⟨_, rfl⟩
      subst hwO
      obtain ⟨f, hf⟩ : ∃ f : Nat → Int, f = fun i => fI xs i * lapT k i := ⟨_, rfl⟩
      have hfi : Hid (∀ i, f i = fI xs i * lapT k i) := hide (fun i => by rw [hf])
      have hfb : Hid (∀ i, i < 16 → -(140737488355328 : Int) ≤ f i ∧ f i ≤ 140737488355328) := hide (fun i hi => by
        rw [hf]
        have hb0 := unhide hxs i hi
        exact lap_mulK 8589934592 _ k i hlt hi (by omega) hb0.1 hb0.2)
      have hAk : Hid (A.getD k 0 = winN ((sumN f 16 + 65536) / 131072) k) := hide (by rw [unhide hL k hlt, hf])
      have hs0 : Hid (sumN f 0 = 0) := hide rfl
      clear hf
      go_upto_region 7 with fail
      go_loop [5, 6, 7, 16] (fun s _ _ i => ∃ j : Nat, j ≤ 16 ∧ i = .int .i64 j ∧ s = .int .i64 (sumN f j)) (fun _ _ _ i => 16 - (intOf i).toNat)
      case atStart => exact ⟨0, Nat.zero_le _, rfl, by rw [unhide hs0]⟩
      case round =>
        obtain ⟨j, hj, rfl, rfl⟩ := hrel
        have hSb := sumN_within (f := f) (K := 140737488355328) (n := j) (fun i hi => unhide hfb i (by omega))
        by_cases hlt2 : j < 16
        · have hck := unhide hc2 j hlt2
          have hstep : Hid (sumN f (j + 1) = sumN f j + fI xs j * lapT k j) := hide (by rw [← unhide hfi j]; rfl)
          have hb0 := unhide hxs j hlt2
          have hLw := hide (implLapWeight k j wO hlt hlt2 (unhide hT2))
          have hPb := unhide hfb j hlt2
          rw [unhide hfi j] at hPb
          generalize sumN f j = S at hSb hstep ⊢
          generalize lapT k j = c at hstep hLw hPb
          generalize fI xs j = a at hck hstep hPb
          obtain ⟨P, hP⟩ : ∃ P, a * c = P := ⟨_, rfl⟩
          rw [hP] at hstep hPb
          have hw : wrap64 (a * c) = P := by rw [hP]; exact wrap_inC _ (by omega)
          have jI : (0 : Int) ≤ (j : Int) := by omega
          obtain ⟨s1, s2⟩ := hSb
          obtain ⟨p1, p2⟩ := hPb
          clear hP hb0
          go_wp2_with fail
          refine (unhide hLw).mono ?_
          rintro e w' ⟨rfl, rfl⟩
          go_wp2
          go_round
          case rel => exact ⟨j + 1, by omega, by go_num, by rw [unhide hstep]⟩
          case measure => simp [intOf]; omega
        · have hj32 : j = 16 := by omega
          subst hj32
          generalize sumN f 16 = S at hSb hAk ⊢
          obtain ⟨s1, s2⟩ := hSb
          have hR := hide (implRound17 S wO (by omega) (by omega))
          have hX1 : -17592186044416 ≤ (S + 65536) / 131072 := by omega
          have hX2 : (S + 65536) / 131072 ≤ 17592186044416 := by omega
          have hW := hide (implWindowed ((S + 65536) / 131072) k wO hlt hX1 hX2 (unhide hT2))
          generalize (S + 65536) / 131072 = X at hR hW hAk hX1 hX2
          have hps : Hid ((partI A k).set k (.int .i64 (winN X k)) = partI A (k + 1)) := hide (by rw [← unhide hAk]; exact partI_set A k (by rw [unhide hLl]; exact hlt))
          obtain ⟨y, hdst⟩ := (unhide hp).has k hlt
          have hfz := (unhide hp).frozen k
          have hst : Hid (RowI (wO.setCell ⟨w.heap.size, k, none⟩ (.int .i64 (winN X k))) w.heap.size 32 (partI A (k + 1))) := hide (by rw [← unhide hps]; exact (unhide hp).set k _)
          have hB2 : Hid (Below w.heap.size w (wO.setCell ⟨w.heap.size, k, none⟩ (.int .i64 (winN X k)))) := hide ((unhide hB).setCell (p := ⟨w.heap.size, k, none⟩) (Nat.le_refl _) _)
          have hz2 : Hid ((wO.setCell ⟨w.heap.size, k, none⟩ (.int .i64 (winN X k))).heap.size = w.heap.size + 1) := hide (by simpa using unhide hz)
          clear hps hp hB hz hAk
          generalize winN X k = x at hW hst hB2 hz2
          go_wp2_with fail
          refine (unhide hR).mono ?_
          rintro e w' ⟨rfl, rfl⟩
          go_wp2_with fail
          refine (unhide hW).mono ?_
          rintro e w' ⟨rfl, rfl⟩
          go_wp2
          go_roundw
          case rel => exact ⟨k + 1, by omega, by go_num, hst, hB2, hz2⟩
          case measure => simp [intOf]; omega
    · have hkl : k = 32 := by omega
      subst hkl
      have hown : Hid (OwnI wr w.heap.size wr.heap.size (.slice (some ⟨w.heap.size, 0, none⟩) 32 32) A) := hide (by
        have h := unhide hp
        rw [show partI A 32 = ints A from by rw [← unhide hLl]; exact partI_all A] at h
        rw [unhide hz]
        have h2 := h.own
        have e := unhide hLl
        exact (show OwnI wr w.heap.size (w.heap.size + 1) (.slice (some ⟨w.heap.size, 0, none⟩) 32 32) A from by unfold OwnI; rw [e]; exact h2))
      have hU := hide (Upd.of_below (unhide hB) 0 0)
      clear hp hB hz
      go_wp2
      go_ret
      exact ⟨_, rfl, unhide hown, unhide hU⟩
end Go.Proofs.YtnoojbppfbmbgaaDoor
