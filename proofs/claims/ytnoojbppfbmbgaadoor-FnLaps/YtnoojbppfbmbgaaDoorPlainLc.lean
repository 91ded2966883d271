/- Plain: two laps' sum is at most 4 away from the samples. -/
import Derived.Test.YtnoojbppfbmbgaaDoorPlainLb
namespace Go.Proofs.YtnoojbppfbmbgaaDoor
open Go.RowKit

theorem laps_one (c s e x y p1 q1 p2 q2 X1 X2 : Int) (hc : 0 ≤ c) (hs : 0 ≤ s)
    (hp1 : p1 = (x * c + 8192) / 16384) (hq1 : q1 = (y * s + 8192) / 16384) (hp2 : p2 = (x * s + 8192) / 16384) (hq2 : q2 = (y * c + 8192) / 16384)
    (h1 : -1 ≤ X1 - (p1 + q1) ∧ X1 - (p1 + q1) ≤ 1) (h2 : -1 ≤ X2 - (p2 - q2) ∧ X2 - (p2 - q2) ≤ 1)
    (he : -e ≤ x * (c * c + s * s - 268435456) ∧ x * (c * c + s * s - 268435456) ≤ e) (hb : 32768 * (c + s) + e < 1073741824) :
    -4 ≤ (X1 * c + 8192) / 16384 + (X2 * s + 8192) / 16384 - x ∧ (X1 * c + 8192) / 16384 + (X2 * s + 8192) / 16384 - x ≤ 4 := by
  have a1 := Int.mul_le_mul_of_nonneg_right h1.1 hc
  have a2 := Int.mul_le_mul_of_nonneg_right h1.2 hc
  have a3 := Int.mul_le_mul_of_nonneg_right h2.1 hs
  have a4 := Int.mul_le_mul_of_nonneg_right h2.2 hs
  have f1 := floor_off (x * c) 16384 8192 rfl (by omega)
  have f2 := floor_off (y * s) 16384 8192 rfl (by omega)
  have f3 := floor_off (x * s) 16384 8192 rfl (by omega)
  have f4 := floor_off (y * c) 16384 8192 rfl (by omega)
  rw [← hp1] at f1
  rw [← hq1] at f2
  rw [← hp2] at f3
  rw [← hq2] at f4
  have b1 := Int.mul_le_mul_of_nonneg_right f1.1 hc
  have b2 := Int.mul_le_mul_of_nonneg_right f1.2 hc
  have b3 := Int.mul_le_mul_of_nonneg_right f2.1 hc
  have b4 := Int.mul_le_mul_of_nonneg_right f2.2 hc
  have b5 := Int.mul_le_mul_of_nonneg_right f3.1 hs
  have b6 := Int.mul_le_mul_of_nonneg_right f3.2 hs
  have b7 := Int.mul_le_mul_of_nonneg_right f4.1 hs
  have b8 := Int.mul_le_mul_of_nonneg_right f4.2 hs
  clear f1 f2 f3 f4 hp1 hp2 hq1 hq2 h1 h2
  simp only [Int.sub_mul, Int.add_mul, Int.mul_sub, Int.mul_add, Int.mul_assoc, Int.neg_mul, Int.one_mul] at a1 a2 a3 a4 b1 b2 b3 b4 b5 b6 b7 b8 he
  rw [Int.mul_comm s c] at b3 b4
  generalize X1 * c = A at *
  generalize X2 * s = B at *
  generalize x * (c * c) = C at *
  generalize x * (s * s) = D at *
  generalize y * (c * s) = E at *
  generalize p1 * c = P1 at *
  generalize q1 * c = Q1 at *
  generalize p2 * s = P2 at *
  generalize q2 * s = Q2 at *
  omega
theorem win_two : ∀ i, i < 16 → winA (16 + i) = winA (15 - i) ∧ winA (31 - i) = winA i ∧ 32768 * (winA (15 - i) + winA i) + 8191 * ((winA (15 - i) * winA (15 - i) + winA i * winA i - 268435456).natAbs : Int) < 1073741824 := by decide +kernel
theorem laps_near (a b : Nat → Int) (ha : ∀ i, i < 16 → -8191 ≤ a i ∧ a i ≤ 8191) (hb : ∀ i, i < 16 → -8191 ≤ b i ∧ b i ≤ 8191) (i : Nat) (hi : i < 16) :
    -4 ≤ unlapN (lapB a b) (16 + i) + unlapN (lapB b a) i - b i ∧ unlapN (lapB a b) (16 + i) + unlapN (lapB b a) i - b i ≤ 4 := by
  have hz : ∀ (u v : Nat → Int), (∀ i, i < 16 → -8191 ≤ u i ∧ u i ≤ 8191) → (∀ i, i < 16 → -8191 ≤ v i ∧ v i ≤ 8191) → ∀ j, j < 32 → -(zmP j) ≤ winN (twoB u v j) j ∧ winN (twoB u v j) j ≤ zmP j := fun u v hu hv j hj => by
    have h : -8191 ≤ twoB u v j ∧ twoB u v j ≤ 8191 := by
      unfold twoB
      split
      · exact hu j (by omega)
      · exact hv _ (by omega)
    exact winN_bd j hj _ h.1 h.2
  have n1 := unlap_near _ (hz a b ha hb) (16 + i) (by omega) _ rfl
  have n2 := unlap_near _ (hz b a hb ha) i (by omega) _ rfl
  have e1 : mirP (16 + i) = 31 - i := by unfold mirP; rw [if_neg (by omega)]; omega
  have e2 : mirP i = 15 - i := by unfold mirP; rw [if_pos hi]
  have s1 : sgnP (16 + i) = 1 := by unfold sgnP; rw [if_neg (by omega)]
  have s2 : sgnP i = -1 := by unfold sgnP; rw [if_pos hi]
  have t1 : twoB a b (16 + i) = b i := by unfold twoB; rw [if_neg (by omega), show 16 + i - 16 = i by omega]
  have t2 : twoB a b (31 - i) = b (15 - i) := by unfold twoB; rw [if_neg (by omega), show 31 - i - 16 = 15 - i by omega]
  have t3 : twoB b a i = b i := by unfold twoB; rw [if_pos hi]
  have t4 : twoB b a (15 - i) = b (15 - i) := by unfold twoB; rw [if_pos (by omega)]
  have w := win_two i hi
  rw [e1, s1] at n1
  rw [e2, s2] at n2
  simp only [t1, t2] at n1
  simp only [t3, t4] at n2
  have hc := win_pos (15 - i) (by omega)
  have hs := win_pos i (by omega)
  have he := mul_bdW (winA (15 - i) * winA (15 - i) + winA i * winA i - 268435456) (b i) 8191 (hb i hi)
  rw [Int.mul_comm _ (b i)] at he
  show -4 ≤ winN _ (16 + i) + winN _ i - b i ∧ winN _ (16 + i) + winN _ i - b i ≤ 4
  change -1 ≤ (sumN (fun n => lapB a b n * lapT (16 + i) n) 16 + 65536) / 131072 - _ ∧ (sumN (fun n => lapB a b n * lapT (16 + i) n) 16 + 65536) / 131072 - _ ≤ 1 at n1
  change -1 ≤ (sumN (fun n => lapB b a n * lapT i n) 16 + 65536) / 131072 - _ ∧ (sumN (fun n => lapB b a n * lapT i n) 16 + 65536) / 131072 - _ ≤ 1 at n2
  generalize (sumN (fun n => lapB a b n * lapT (16 + i) n) 16 + 65536) / 131072 = X1 at *
  generalize (sumN (fun n => lapB b a n * lapT i n) 16 + 65536) / 131072 = X2 at *
  unfold winN at n1 n2 ⊢
  rw [w.1, w.2.1] at n1
  rw [w.1]
  rw [Int.one_mul] at n1
  rw [show -1 * ((b (15 - i) * winA (15 - i) + 8192) / 16384) = -((b (15 - i) * winA (15 - i) + 8192) / 16384) by omega] at n2
  exact laps_one (winA (15 - i)) (winA i) _ (b i) (b (15 - i)) _ _ _ _ X1 X2 (by omega) (by omega) rfl rfl rfl rfl n1 (by omega) he w.2.2
end Go.Proofs.YtnoojbppfbmbgaaDoor
