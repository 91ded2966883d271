/- The undoing of laps: the specification's walk. -/
import Derived.Test.YtnoojbppfbmbgaaDoorWCsU
import Derived.StillTailTactics
namespace Go.Proofs.YtnoojbppfbmbgaaDoor
open Go.RowKit

theorem wrapV {n : Int} (h : -9223372036854775808 ≤ n ∧ n ≤ 9223372036854775807) : IntKind.i64.wrap n = n := by simp [IntKind.wrap, IntKind.bits, IntKind.signed]; omega
theorem RowI.drew {w : World} {g n : Nat} {xs : List Value} (h : RowI w g n xs) : RowI (w.drewN 1) g n xs := h.keep ((Upd.refl 0 0 w).drewN 1)
set_option maxHeartbeats 16000000 in
set_option maxRecDepth 100000 in
theorem specUnlapW (b off cap : Nat) (xs : List Int) (w : World) (hn : xs.length = 16) (hx : ∀ i, i < 16 → -8589934592 ≤ fI xs i ∧ fI xs i ≤ 8589934592) (hbl : b < w.heap.size) (hcl : ∀ j, j < 16 → w.cell? ⟨b, off + j, none⟩ = some (.int .i64 (fI xs j))) :
    Calls Tryd.prog 68 #[.slice (some ⟨b, off, none⟩) 16 cap] w fun e w' => ∃ v, e = .returned v ∧ OwnI w' w.heap.size w'.heap.size v (unlapL xs) ∧ Upd 0 0 w w' := by
  obtain ⟨o, hmk⟩ := mkRowI 32 (by omega)
  have hrun : ∀ X : World, (Instr.makeSlice 23 (.int .i64 32) (.int .i64 32)).run Tryd.prog X = .ok (.slice (some ⟨X.heap.size, 0, none⟩) 32 32) (X.alloc o) := fun X => (hmk X).1
  have hrowX := hide (fun X => (hmk X).2)
  have hzX : Hid (∀ X : World, (X.alloc o).heap.size = X.heap.size + 1) := hide (fun X => by simp)
  have hcs := hide hcl
  have hxs := hide hx
  have hL : Hid (∀ k, k < 32 → (unlapL xs).getD k 0 = winN ((sumN (fun i => fI xs i * lapT k i) 16 + 65536) / 131072) k) := hide (fun k hk => by unfold unlapL; rw [tabN_getD _ _ _ hk]; rfl)
  have hLl : Hid ((unlapL xs).length = 32) := hide (by unfold unlapL; simp)
  have hfz0 := hide hn
  generalize unlapL xs = A at hL hLl ⊢
  clear hmk hcl hx hn
  go_enter Tryd.func68, Tryd.ntmps68
  go_wp2_with fail
  refine (specTable w).mono ?_
  rintro e w1 ⟨v, rfl, hown, hu1⟩
  have hs1 : w.heap.size ≤ w1.heap.size := hu1.size
  obtain ⟨ad, capt, rfl, hA⟩ := hown.rd
  obtain ⟨bt, ot, rfl, hbt0, hclt⟩ := hA (show cosQ ≠ [] by decide)
  have hbt : bt < w1.heap.size := hbt0
  have hcT : Hid (∀ j, j < 33 → w1.cell? ⟨bt, ot + j, none⟩ = some (.int .i64 (cosQ.getD j 0))) := hide (fun j hj => hclt j hj)
  have hl : cosQ.length = 33 := rfl
  rw [hl]
  clear hA hclt hl hown hbt0
  replace hu1 := hide hu1
  go_wp2_with fail
  refine (specWindow w1).mono ?_
  rintro e w2 ⟨v, rfl, hown, hu2⟩
  have hs2 : w1.heap.size ≤ w2.heap.size := hu2.size
  obtain ⟨ad, capw, rfl, hA⟩ := hown.rd
  obtain ⟨bw, ow, rfl, hbw0, hclw⟩ := hA (show winT ≠ [] by decide)
  have hbw : bw < w2.heap.size := hbw0
  have hcW : Hid (∀ j, j < 32 → w2.cell? ⟨bw, ow + j, none⟩ = some (.int .i64 (winA j))) := hide (fun j hj => hclw j hj)
  have hl : winT.length = 32 := rfl
  rw [hl]
  clear hA hclw hl hown hbw0
  have hcT2 : Hid (∀ j, j < 33 → w2.cell? ⟨bt, ot + j, none⟩ = some (.int .i64 (cosQ.getD j 0))) := hide (fun j hj => (hu2.none.cell (p := ⟨bt, ot + j, none⟩) hbt).trans (unhide hcT j hj))
  have hU2 := hide ((unhide hu1).trans hu2)
  have hcs2 : Hid (∀ j, j < 16 → w2.cell? ⟨b, off + j, none⟩ = some (.int .i64 (fI xs j))) := hide (fun j hj => ((unhide hU2).none.cell (p := ⟨b, off + j, none⟩) hbl).trans (unhide hcs j hj))
  have hbt2 : bt < w2.heap.size := by omega
  have hbl2 : b < w2.heap.size := by omega
  have hs3 : w.heap.size ≤ w2.heap.size := by omega
  clear hcT hcs hu1 hu2 hbt hbl hs1 hs2
  have hrow := hide (unhide hrowX w2)
  have hB := hide ((Below.refl w2.heap.size w2).alloc (Nat.le_refl _) o)
  have hz0 := hide (unhide hzX w2)
  clear hrowX hzX
  go_upto_region 5 with fail
  generalize w2.alloc o = w0 at hrow hB hz0 ⊢
  have hp0 : Hid (RowI w0 w2.heap.size 32 (partI A 0)) := hide (by rw [partI_zero, unhide hLl]; exact unhide hrow)
  clear hrow
  go_loopw [6, 7, 8, 14] (fun _ _ _ i wr => ∃ k : Nat, k ≤ 32 ∧ i = .int .i64 k ∧ Hid (RowI wr w2.heap.size 32 (partI A k)) ∧ Hid (Below w2.heap.size w2 wr) ∧ Hid (wr.heap.size = w2.heap.size + 1)) (fun _ _ _ i _ => 32 - (intOf i).toNat)
  case atStart => exact ⟨0, Nat.zero_le _, rfl, hp0, hB, hz0⟩
  case round =>
    clear hp0 hB hz0
    obtain ⟨k, hk, rfl, hp, hB, hz⟩ := hrel
    by_cases hlt : k < 32
    · have kI : (0 : Int) ≤ (k : Int) := by omega
      have kD : decide ((k : Int) < 32) = true := decide_eq_true (by omega)
      obtain ⟨f, hf⟩ : ∃ f : Nat → Int, f = fun i => fI xs i * lapT k i := ⟨_, rfl⟩
      have hfi : Hid (∀ i, f i = fI xs i * lapT k i) := hide (fun i => by rw [hf])
      have hfb : Hid (∀ i, i < 16 → -(140737488355328 : Int) ≤ f i ∧ f i ≤ 140737488355328) := hide (fun i hi => by
        rw [hf]
        have hb0 := unhide hxs i hi
        exact lap_mulK 8589934592 _ k i hlt hi (by omega) hb0.1 hb0.2)
      have hAk : Hid (A.getD k 0 = winN ((sumN f 16 + 65536) / 131072) k) := hide (by rw [unhide hL k hlt, hf])
      have hs0 : Hid (sumN f 0 = 0) := hide rfl
      clear hf
      go_upto_region 9 with fail
      go_loopw [7, 8, 19] (fun s _ i wz => ∃ j : Nat, j ≤ 16 ∧ i = .int .i64 j ∧ s = .int .i64 (65536 + sumN f j) ∧ Hid (RowI wz w2.heap.size 32 (partI A k)) ∧ Hid (Below w2.heap.size w2 wz) ∧ Hid (wz.heap.size = w2.heap.size + 1)) (fun _ _ i _ => 16 - (intOf i).toNat)
      case atStart => exact ⟨0, Nat.zero_le _, rfl, by rw [unhide hs0]; rfl, hp, hB, hz⟩
      case round =>
        clear hp hB hz
        obtain ⟨j, hj, rfl, rfl, hp, hB, hz⟩ := hrel
        have hSb := sumN_within (f := f) (K := 140737488355328) (n := j) (fun i hi => unhide hfb i (by omega))
        by_cases hlt2 : j < 16
        · have hck := ((Upd.of_below (unhide hB) 0 0).none.cell (p := ⟨b, off + j, none⟩) hbl2).trans (unhide hcs2 j hlt2)
          have hstep : Hid (sumN f (j + 1) = sumN f j + fI xs j * lapT k j) := hide (by rw [← unhide hfi j]; rfl)
          have hPb := unhide hfb j hlt2
          rw [unhide hfi j] at hPb
          have hm : ((2 * k + 17) * (2 * j + 1) : Nat) ≤ 79 * 31 := Nat.mul_le_mul (by omega) (by omega)
          obtain ⟨M, hM⟩ : ∃ M : Nat, (2 * k + 17) * (2 * j + 1) = M := ⟨_, rfl⟩
          have e1 : (2 * (k : Int) + 17) * (2 * (j : Int) + 1) = (M : Int) := by rw [← hM]; push_cast; rfl
          rw [hM] at hm
          obtain ⟨W1, hW1⟩ : ∃ W1 : World, W1 = wr := ⟨_, rfl⟩
          subst hW1
          have hTt : Hid (∀ j, j < 33 → W1.cell? ⟨bt, ot + j, none⟩ = some (.int .i64 (cosQ.getD j 0))) := hide (fun j hj => ((Upd.of_below (unhide hB) 0 0).none.cell (p := ⟨bt, ot + j, none⟩) hbt2).trans (unhide hcT2 j hj))
          have hC : Hid (∀ X : World, (∀ j, j < 33 → X.cell? ⟨bt, ot + j, none⟩ = some (.int .i64 (cosQ.getD j 0))) → Calls Tryd.prog 70 #[.slice (some ⟨bt, ot, none⟩) 33 capt, .int .i64 ((2 * (k : Int) + 17) * (2 * (j : Int) + 1))] X fun e w' => e = .returned (.int .i64 (lapT k j)) ∧ w' = X) := hide (fun X h => by
            rw [lapT_eq k hlt j hlt2]
            exact specCosine _ bt ot capt X h)
          generalize sumN f j = S at hSb hstep ⊢
          generalize lapT k j = c at hstep hC hPb
          generalize fI xs j = a at hck hstep hPb
          obtain ⟨P, hP⟩ : ∃ P, a * c = P := ⟨_, rfl⟩
          rw [hP] at hstep hPb
          obtain ⟨s1, s2⟩ := hSb
          obtain ⟨p1, p2⟩ := hPb
          have jI : (0 : Int) ≤ (j : Int) := by omega
          have jL : (j : Int) < 16 := by omega
          have x1 : IntKind.i64.wrap (2 * (k : Int)) = 2 * (k : Int) := wrapV (by omega)
          have x2 : IntKind.i64.wrap (2 * (k : Int) + 17) = 2 * (k : Int) + 17 := wrapV (by omega)
          have x3 : IntKind.i64.wrap (2 * (j : Int)) = 2 * (j : Int) := wrapV (by omega)
          have x4 : IntKind.i64.wrap (2 * (j : Int) + 1) = 2 * (j : Int) + 1 := wrapV (by omega)
          have x5 : IntKind.i64.wrap ((2 * (k : Int) + 17) * (2 * (j : Int) + 1)) = (2 * (k : Int) + 17) * (2 * (j : Int) + 1) := wrapV (by rw [e1]; omega)
          have x6 : IntKind.i64.wrap (a * c) = P := by rw [hP]; exact wrapV (by omega)
          have x7 : IntKind.i64.wrap (65536 + S + P) = 65536 + S + P := wrapV (by omega)
          clear hP e1 hM hm
          go_upto_region 11 with fail
          refine wp_region_still_lit (by kernel_rfl) (by kernel_rfl) ?_
          iterate 13 still_step
          still_call (unhide hC _ (unhide hTt))
          iterate 3 still_step
          refine wpStill_nil ?_
          go_wp2
          go_roundw
          case rel => exact ⟨j + 1, by omega, by go_num, by rw [unhide hstep, Int.add_assoc], (unhide hp).drew, below_drewN (unhide hB) 1, hz⟩
          case measure => simp [intOf]; omega
        · have hj16 : j = 16 := by omega
          subst hj16
          generalize sumN f 16 = S at hSb hAk ⊢
          obtain ⟨s1, s2⟩ := hSb
          obtain ⟨W1, hW1⟩ : ∃ W1 : World, W1 = wr := ⟨_, rfl⟩
          subst hW1
          obtain ⟨X, hX⟩ : ∃ X, (65536 + S) / 131072 = X := ⟨_, rfl⟩
          have hX1 : -17592186044416 ≤ X := by omega
          have hX2 : X ≤ 17592186044416 := by omega
          have hPb := win_mul X k hlt hX1 hX2
          rw [Int.add_comm S 65536, hX] at hAk
          have hwd : winN X k = (X * winA k + 8192) / 16384 := rfl
          have hck := ((Upd.of_below (unhide hB) 0 0).none.cell (p := ⟨bw, ow + k, none⟩) hbw).trans (unhide hcW k hlt)
          have hps : Hid ((partI A k).set k (.int .i64 (winN X k)) = partI A (k + 1)) := hide (by rw [← unhide hAk]; exact partI_set A k (by rw [unhide hLl]; exact hlt))
          obtain ⟨y, hdst⟩ := (unhide hp).has k hlt
          have hfz := (unhide hp).frozen k
          have hst : Hid (RowI (W1.setCell ⟨w2.heap.size, k, none⟩ (.int .i64 (winN X k))) w2.heap.size 32 (partI A (k + 1))) := hide (by rw [← unhide hps]; exact (unhide hp).set k _)
          have hB2 : Hid (Below w2.heap.size w2 (W1.setCell ⟨w2.heap.size, k, none⟩ (.int .i64 (winN X k)))) := hide ((unhide hB).setCell (p := ⟨w2.heap.size, k, none⟩) (Nat.le_refl _) _)
          have hz2 : Hid ((W1.setCell ⟨w2.heap.size, k, none⟩ (.int .i64 (winN X k))).heap.size = w2.heap.size + 1) := hide (by simpa using unhide hz)
          clear hps hp hB hz hAk
          generalize winA k = a at hck hwd hPb
          generalize winN X k = x at hst hB2 hz2 hwd
          obtain ⟨P, hP⟩ : ∃ P, X * a = P := ⟨_, rfl⟩
          rw [hP] at hwd hPb
          obtain ⟨p1, p2⟩ := hPb
          have kL : (k : Int) < 32 := by omega
          have x1 : wrap64 (X * a) = P := by rw [hP]; exact wrap_inC _ (by omega)
          have x3 : (P + 8192) / 16384 = x := hwd.symm
          clear hP hwd
          go_wp2
          go_roundw
          case rel => exact ⟨k + 1, by omega, by go_num, hst, hB2, hz2⟩
          case measure => simp [intOf]; omega
    · have hkl : k = 32 := by omega
      subst hkl
      have hown : Hid (OwnI wr w.heap.size wr.heap.size (.slice (some ⟨w2.heap.size, 0, none⟩) 32 32) A) := hide (by
        have h := unhide hp
        rw [show partI A 32 = ints A from by rw [← unhide hLl]; exact partI_all A] at h
        rw [unhide hz]
        have h2 := own_mono h.own hs3 (Nat.le_refl _)
        have e := unhide hLl
        exact (show OwnI wr w.heap.size (w2.heap.size + 1) (.slice (some ⟨w2.heap.size, 0, none⟩) 32 32) A from by unfold OwnI; rw [e]; exact h2))
      have hU := hide ((unhide hU2).trans (Upd.of_below (unhide hB) 0 0))
      clear hp hB hz
      go_wp2
      go_ret
      exact ⟨_, rfl, unhide hown, unhide hU⟩
end Go.Proofs.YtnoojbppfbmbgaaDoor
