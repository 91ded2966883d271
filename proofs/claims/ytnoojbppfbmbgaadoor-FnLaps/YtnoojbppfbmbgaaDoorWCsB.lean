/- Weights, windows, rounding: the program's walks. -/
import Derived.Test.YtnoojbppfbmbgaaDoorWCsA
namespace Go.Proofs.YtnoojbppfbmbgaaDoor
open Go.RowKit

theorem wrap_inC (n : Int) (h : -9223372036854775808 ≤ n ∧ n ≤ 9223372036854775807) : wrap64 n = n := by unfold wrap64; omega
set_option maxHeartbeats 2000000 in
theorem implLapWeight (i n : Nat) (w : World) (hi : i < 32) (hn : n < 16) (hTb : Held w 0 cosCells) :
    Calls Tryd.prog 79 #[.int .i64 i, .int .i64 n] w fun e w' => e = .returned (.int .i64 (lapT i n)) ∧ w' = w := by
  rw [lapT_eq i hi n hn]
  have hm : ((2 * i + 17) * (2 * n + 1) : Nat) ≤ 79 * 31 := Nat.mul_le_mul (by omega) (by omega)
  obtain ⟨M, hM⟩ : ∃ M : Nat, (2 * i + 17) * (2 * n + 1) = M := ⟨_, rfl⟩
  have e1 : (2 * (i : Int) + 17) * (2 * (n : Int) + 1) = (M : Int) := by rw [← hM]; push_cast; rfl
  rw [hM] at hm
  rw [e1]
  have hC := hide (implCosine (M : Int) w hTb)
  obtain ⟨A, hA⟩ : ∃ A : Int, 2 * (i : Int) + 17 = A := ⟨_, rfl⟩
  obtain ⟨B, hB⟩ : ∃ B : Int, 2 * (n : Int) + 1 = B := ⟨_, rfl⟩
  have a1 : 2 * (i : Int) + 16 + 1 = A := by omega
  have a2 : wrap64 (A * B) = (M : Int) := by rw [← hA, ← hB, e1]; exact wrap_inC _ (by omega)
  rw [hA, hB] at e1
  clear hM hTb hA
  go_enter Tryd.func79, Tryd.ntmps79
  go_wp2_with fail
  refine (unhide hC).mono ?_
  rintro e w' ⟨rfl, rfl⟩
  go_wp2
  go_ret
  exact ⟨rfl, rfl⟩
set_option maxHeartbeats 2000000 in
theorem implWindowWeight (i : Nat) (w : World) (hi : i < 32) (hTb : Held w 0 cosCells) :
    Calls Tryd.prog 71 #[.int .i64 i] w fun e w' => e = .returned (.int .i64 (winA i)) ∧ w' = w := by
  rw [winA_eq i hi]
  have hC := hide (implCosine (31 - 2 * (i : Int)) w hTb)
  clear hTb
  go_enter Tryd.func71, Tryd.ntmps71
  go_wp2_with fail
  refine (unhide hC).mono ?_
  rintro e w' ⟨rfl, rfl⟩
  go_wp2
  go_ret
  exact ⟨rfl, rfl⟩
set_option maxHeartbeats 2000000 in
theorem implRound14 (n : Int) (w : World) (h0 : -1152921504606846976 ≤ n) (h1 : n ≤ 1152921504606846976) : Calls Tryd.prog 80 #[.int .i64 n, .int .i64 14] w fun e w' => e = .returned (.int .i64 ((n + 8192) / 16384)) ∧ w' = w := by
  go_enter Tryd.func80, Tryd.ntmps80
  go_wp2
  go_ret
  exact ⟨rfl, rfl⟩
theorem implRound17 (n : Int) (w : World) (h0 : -1152921504606846976 ≤ n) (h1 : n ≤ 1152921504606846976) : Calls Tryd.prog 80 #[.int .i64 n, .int .i64 17] w fun e w' => e = .returned (.int .i64 ((n + 65536) / 131072)) ∧ w' = w := by
  go_enter Tryd.func80, Tryd.ntmps80
  go_wp2
  go_ret
  exact ⟨rfl, rfl⟩
theorem win_mul (x : Int) (i : Nat) (hi : i < 32) (h0 : -17592186044416 ≤ x) (h1 : x ≤ 17592186044416) : -288230376151711744 ≤ x * winA i ∧ x * winA i ≤ 288230376151711744 := by
  have hw := win_pos i hi
  have h := mul_bdW (winA i) x 17592186044416 ⟨h0, h1⟩
  rw [Int.mul_comm x]
  have : (17592186044416 : Int) * ((winA i).natAbs : Int) ≤ 17592186044416 * 16384 := Int.mul_le_mul_of_nonneg_left (by omega) (by omega)
  omega
set_option maxHeartbeats 2000000 in
theorem implWindowed (x : Int) (i : Nat) (w : World) (hi : i < 32) (h0 : -17592186044416 ≤ x) (h1 : x ≤ 17592186044416) (hTb : Held w 0 cosCells) :
    Calls Tryd.prog 78 #[.int .i64 x, .int .i64 i] w fun e w' => e = .returned (.int .i64 (winN x i)) ∧ w' = w := by
  have hC := hide (implWindowWeight i w hi hTb)
  have hb := win_mul x i hi h0 h1
  unfold winN
  generalize winA i = W at hb hC ⊢
  obtain ⟨P, hP⟩ : ∃ P, x * W = P := ⟨_, rfl⟩
  rw [hP] at hb ⊢
  have hw : wrap64 (x * W) = P := by rw [hP]; exact wrap_inC _ (by omega)
  have hR := hide (implRound14 P w (by omega) (by omega))
  clear hTb
  obtain ⟨b1, b2⟩ := hb
  go_enter Tryd.func78, Tryd.ntmps78
  go_wp2_with fail
  refine (unhide hC).mono ?_
  rintro e w' ⟨rfl, rfl⟩
  go_wp2_with fail
  refine (unhide hR).mono ?_
  rintro e w' ⟨rfl, rfl⟩
  go_wp2
  go_ret
  exact ⟨rfl, rfl⟩
end Go.Proofs.YtnoojbppfbmbgaaDoor
