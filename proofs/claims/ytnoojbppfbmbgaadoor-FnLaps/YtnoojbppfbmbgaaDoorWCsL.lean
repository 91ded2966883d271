/- Laps and their undoing: the program's walks. -/
import Derived.Test.YtnoojbppfbmbgaaDoorWCsW
import Derived.Test.YtnoojbppfbmbgaaDoorPlainFx
namespace Go.Proofs.YtnoojbppfbmbgaaDoor
open Go.RowKit

def fI (xs : List Int) (i : Nat) : Int := xs.getD i 0
/-- A lap of 32 numbers. -/
def lapL (xs : List Int) : List Int := tabN 16 (lapN (fun i => winN (fI xs i) i))
def unlapL (ws : List Int) : List Int := tabN 32 (unlapN (fI ws))
theorem winN_bd40 (x : Int) (i : Nat) (hi : i < 32) (h0 : -17592186044416 ≤ x) (h1 : x ≤ 17592186044416) : -17592186044416 ≤ winN x i ∧ winN x i ≤ 17592186044416 := by
  have hb := win_mul x i hi h0 h1
  unfold winN
  generalize x * winA i = P at hb ⊢
  omega
theorem lap_mul (a : Int) (i n : Nat) (hi : i < 32) (hn : n < 16) (h0 : -17592186044416 ≤ a) (h1 : a ≤ 17592186044416) : -288230376151711744 ≤ a * lapT i n ∧ a * lapT i n ≤ 288230376151711744 := by
  have hw := lapT_bd i hi n hn
  have h := mul_bdW (lapT i n) a 17592186044416 ⟨h0, h1⟩
  rw [Int.mul_comm a]
  have : (17592186044416 : Int) * ((lapT i n).natAbs : Int) ≤ 17592186044416 * 16384 := Int.mul_le_mul_of_nonneg_left (by omega) (by omega)
  omega
theorem lap_mulK (K a : Int) (i n : Nat) (hi : i < 32) (hn : n < 16) (hK : 0 ≤ K) (h0 : -K ≤ a) (h1 : a ≤ K) : -(K * 16384) ≤ a * lapT i n ∧ a * lapT i n ≤ K * 16384 := by
  have hw := lapT_bd i hi n hn
  have h := mul_bdW (lapT i n) a K ⟨h0, h1⟩
  rw [Int.mul_comm a]
  have : K * ((lapT i n).natAbs : Int) ≤ K * 16384 := Int.mul_le_mul_of_nonneg_left (by omega) hK
  omega
theorem winN_bdS (x : Int) (i : Nat) (hi : i < 32) (h0 : -32768 ≤ x) (h1 : x ≤ 32767) : -32768 ≤ winN x i ∧ winN x i ≤ 32768 := by
  have hw := win_pos i hi
  have h := mul_bdW (winA i) x 32768 ⟨h0, by omega⟩
  rw [Int.mul_comm (winA i)] at h
  have : (32768 : Int) * ((winA i).natAbs : Int) ≤ 32768 * 16384 := Int.mul_le_mul_of_nonneg_left (by omega) (by omega)
  unfold winN
  generalize x * winA i = P at h ⊢
  omega
set_option maxHeartbeats 16000000 in
set_option maxRecDepth 100000 in
theorem implLapped (b off cap : Nat) (xs : List Int) (w : World) (hn : xs.length = 32) (hx : ∀ i, i < 32 → -32768 ≤ fI xs i ∧ fI xs i ≤ 32767) (hbl : b < w.heap.size) (hcl : ∀ j, j < 32 → w.cell? ⟨b, off + j, none⟩ = some (.int .i64 (fI xs j))) (hTb : Held w 0 cosCells) :
    Calls Tryd.prog 38 #[.slice (some ⟨b, off, none⟩) 32 cap] w fun e w' => ∃ v, e = .returned v ∧ OwnI w' w.heap.size w'.heap.size v (lapL xs) ∧ Upd 0 0 w w' := by
  obtain ⟨o, hmk⟩ := mkRowI 16 (by omega)
  have hrun : ∀ X : World, (Instr.makeSlice 23 (.int .i64 16) (.int .i64 16)).run Tryd.prog X = .ok (.slice (some ⟨X.heap.size, 0, none⟩) 16 16) (X.alloc o) := fun X => (hmk X).1
  have hrow := hide (hmk w).2
  have hz0 : Hid ((w.alloc o).heap.size = w.heap.size + 1) := hide (by simp)
  have hB := hide ((Below.refl w.heap.size w).alloc (Nat.le_refl _) o)
  have hTs := hide hTb
  have hgl : 0 < w.heap.size := hTb.1
  have hcs := hide hcl
  have hxs := hide hx
  have hL : Hid (∀ k, k < 16 → (lapL xs).getD k 0 = (sumN (fun i => winN (fI xs i) i * lapT i k) 32 + 8192) / 16384) := hide (fun k hk => by unfold lapL; rw [tabN_getD _ _ _ hk]; rfl)
  have hLl : Hid ((lapL xs).length = 16) := hide (by unfold lapL; simp)
  have hfz0 := hide hn
  generalize lapL xs = A at hL hLl ⊢
  clear hmk hTb hcl hx hn
  go_enter Tryd.func38, Tryd.ntmps38
  go_upto_region 3 with fail
  generalize w.alloc o = w0 at hrow hB hz0 ⊢
  have hp0 : Hid (RowI w0 w.heap.size 16 (partI A 0)) := hide (by rw [partI_zero, unhide hLl]; exact unhide hrow)
  clear hrow
  go_loopw [4, 5, 6, 7, 11] (fun _ _ _ _ i wr => ∃ k : Nat, k ≤ 16 ∧ i = .int .i64 k ∧ Hid (RowI wr w.heap.size 16 (partI A k)) ∧ Hid (Below w.heap.size w wr) ∧ Hid (wr.heap.size = w.heap.size + 1)) (fun _ _ _ _ i _ => 16 - (intOf i).toNat)
  case atStart => exact ⟨0, Nat.zero_le _, rfl, hp0, hB, hz0⟩
  case round =>
    clear hp0 hB hz0
    obtain ⟨k, hk, rfl, hp, hB, hz⟩ := hrel
    by_cases hlt : k < 16
    · have hT2 := hide (⟨by have := unhide hz; omega, fun j v hj => ((Upd.of_below (unhide hB) 0 0).none.cell (p := ⟨0, j, none⟩) hgl).trans ((unhide hTs).2 j v hj)⟩ : Held wr 0 cosCells)
      have hc2 : Hid (∀ j, j < 32 → wr.cell? ⟨b, off + j, none⟩ = some (.int .i64 (fI xs j))) := hide (fun j hj => ((Upd.of_below (unhide hB) 0 0).none.cell (p := ⟨b, off + j, none⟩) hbl).trans (unhide hcs j hj))
      have kI : (0 : Int) ≤ (k : Int) := by omega
      have kD : decide ((k : Int) < 16) = true := decide_eq_true (by omega)
      obtain ⟨wO, hwO⟩ : ∃ wO : World, wO = wr := ⟨_, rfl⟩
      subst hwO
      obtain ⟨f, hf⟩ : ∃ f : Nat → Int, f = fun i => winN (fI xs i) i * lapT i k := ⟨_, rfl⟩
      have hfi : Hid (∀ i, f i = winN (fI xs i) i * lapT i k) := hide (fun i => by rw [hf])
      have hfb : Hid (∀ i, i < 32 → -(536870912 : Int) ≤ f i ∧ f i ≤ 536870912) := hide (fun i hi => by
        rw [hf]
        have hb0 := unhide hxs i hi
        have hb1 := winN_bdS (fI xs i) i hi hb0.1 hb0.2
        exact lap_mulK 32768 _ i k hi hlt (by omega) hb1.1 hb1.2)
      have hAk : Hid (A.getD k 0 = (sumN f 32 + 8192) / 16384) := hide (by rw [unhide hL k hlt, hf])
      have hs0 : Hid (sumN f 0 = 0) := hide rfl
      clear hf
      go_upto_region 7 with fail
      go_loop [5, 6, 7, 16] (fun s _ _ i => ∃ j : Nat, j ≤ 32 ∧ i = .int .i64 j ∧ s = .int .i64 (sumN f j)) (fun _ _ _ i => 32 - (intOf i).toNat)
      case atStart => exact ⟨0, Nat.zero_le _, rfl, by rw [unhide hs0]⟩
      case round =>
        obtain ⟨j, hj, rfl, rfl⟩ := hrel
        have hSb := sumN_within (f := f) (K := 536870912) (n := j) (fun i hi => unhide hfb i (by omega))
        by_cases hlt2 : j < 32
        · have hck := unhide hc2 j hlt2
          have hstep : Hid (sumN f (j + 1) = sumN f j + winN (fI xs j) j * lapT j k) := hide (by rw [← unhide hfi j]; rfl)
          have hb0 := unhide hxs j hlt2
          have hW := hide (implWindowed (fI xs j) j wO hlt2 (by omega) (by omega) (unhide hT2))
          have hLw := hide (implLapWeight j k wO hlt2 hlt (unhide hT2))
          have hPb := unhide hfb j hlt2
          rw [unhide hfi j] at hPb
          generalize sumN f j = S at hSb hstep ⊢
          generalize winN (fI xs j) j = a at hstep hW hPb
          generalize lapT j k = c at hstep hLw hPb
          generalize fI xs j = x at hck hW
          obtain ⟨P, hP⟩ : ∃ P, a * c = P := ⟨_, rfl⟩
          rw [hP] at hstep hPb
          have hw : wrap64 (a * c) = P := by rw [hP]; exact wrap_inC _ (by omega)
          have jI : (0 : Int) ≤ (j : Int) := by omega
          obtain ⟨s1, s2⟩ := hSb
          obtain ⟨p1, p2⟩ := hPb
          clear hP hb0
          go_wp2_with fail
          refine (unhide hW).mono ?_
          rintro e w' ⟨rfl, rfl⟩
          go_wp2_with fail
          refine (unhide hLw).mono ?_
          rintro e w' ⟨rfl, rfl⟩
          go_wp2
          go_round
          case rel => exact ⟨j + 1, by omega, by go_num, by rw [unhide hstep]⟩
          case measure => simp [intOf]; omega
        · have hj32 : j = 32 := by omega
          subst hj32
          generalize sumN f 32 = S at hSb hAk ⊢
          obtain ⟨s1, s2⟩ := hSb
          have hR := hide (implRound14 S wO (by omega) (by omega))
          have hps : Hid ((partI A k).set k (.int .i64 ((S + 8192) / 16384)) = partI A (k + 1)) := hide (by rw [← unhide hAk]; exact partI_set A k (by rw [unhide hLl]; exact hlt))
          obtain ⟨y, hdst⟩ := (unhide hp).has k hlt
          have hfz := (unhide hp).frozen k
          have hst : Hid (RowI (wO.setCell ⟨w.heap.size, k, none⟩ (.int .i64 ((S + 8192) / 16384))) w.heap.size 16 (partI A (k + 1))) := hide (by rw [← unhide hps]; exact (unhide hp).set k _)
          have hB2 : Hid (Below w.heap.size w (wO.setCell ⟨w.heap.size, k, none⟩ (.int .i64 ((S + 8192) / 16384)))) := hide ((unhide hB).setCell (p := ⟨w.heap.size, k, none⟩) (Nat.le_refl _) _)
          have hz2 : Hid ((wO.setCell ⟨w.heap.size, k, none⟩ (.int .i64 ((S + 8192) / 16384))).heap.size = w.heap.size + 1) := hide (by simpa using unhide hz)
          clear hps hp hB hz hAk
          generalize (S + 8192) / 16384 = x at hR hst hB2 hz2
          go_wp2_with fail
          refine (unhide hR).mono ?_
          rintro e w' ⟨rfl, rfl⟩
          go_wp2
          go_roundw
          case rel => exact ⟨k + 1, by omega, by go_num, hst, hB2, hz2⟩
          case measure => simp [intOf]; omega
    · have hkl : k = 16 := by omega
      subst hkl
      have hown : Hid (OwnI wr w.heap.size wr.heap.size (.slice (some ⟨w.heap.size, 0, none⟩) 16 16) A) := hide (by
        have h := unhide hp
        rw [show partI A 16 = ints A from by rw [← unhide hLl]; exact partI_all A] at h
        rw [unhide hz]
        have h2 := h.own
        have e := unhide hLl
        exact (show OwnI wr w.heap.size (w.heap.size + 1) (.slice (some ⟨w.heap.size, 0, none⟩) 16 16) A from by unfold OwnI; rw [e]; exact h2))
      have hU := hide (Upd.of_below (unhide hB) 0 0)
      clear hp hB hz
      go_wp2
      go_ret
      exact ⟨_, rfl, unhide hown, unhide hU⟩
end Go.Proofs.YtnoojbppfbmbgaaDoor
