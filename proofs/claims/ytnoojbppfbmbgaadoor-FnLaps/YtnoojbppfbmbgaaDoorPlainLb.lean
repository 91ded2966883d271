/- Plain: two laps' sum is at most 4 away from the samples. -/
import Derived.Test.YtnoojbppfbmbgaaDoorPlainLa
namespace Go.Proofs.YtnoojbppfbmbgaaDoor
open Go.RowKit

theorem sumN_sub (f g : Nat → Int) (n : Nat) : sumN (fun i => f i - g i) n = sumN f n - sumN g n := by
  induction n with
  | zero => rfl
  | succ n ih => unfold sumN; rw [ih]; omega
theorem sum_one (p : Nat) (c : Int) (a : Nat → Int) : ∀ n, sumN (fun j => a j * (if j = p then c else 0)) n = if p < n then c * a p else 0
  | 0 => by simp [sumN]
  | n + 1 => by
    unfold sumN
    rw [sum_one p c a n]
    by_cases h : n = p
    · subst h; simp [Int.mul_comm]
    · by_cases h2 : p < n
      · rw [if_pos h2, if_neg h, if_pos (by omega)]; simp
      · rw [if_neg h2, if_neg h, if_neg (by omega)]; simp
theorem dlP_two (p j : Nat) (hp : p < 32) : dlP p j = (if j = p then 2147483648 else 0) + (if j = mirP p then 2147483648 * sgnP p else 0) := by
  unfold dlP
  by_cases h : j = p
  · subst h
    rw [if_pos rfl, if_pos rfl, if_neg (by unfold mirP; split <;> omega)]; rfl
  · rw [if_neg h, if_neg h]; simp
theorem sum_dl (p : Nat) (hp : p < 32) (z : Nat → Int) : sumN (fun j => z j * dlP p j) 32 = 2147483648 * (z p + sgnP p * z (mirP p)) := by
  rw [sumN_congr (g := fun j => z j * (if j = p then 2147483648 else 0) + z j * (if j = mirP p then 2147483648 * sgnP p else 0)) (fun j _ => by rw [dlP_two p j hp, Int.mul_add])]
  rw [sumN_add, sum_one, sum_one, if_pos hp, if_pos (by unfold mirP; split <;> omega), Int.mul_add, Int.mul_assoc]
theorem floor_off (s : Int) (d h : Int) (hd : d = 2 * h) (hh : 0 < h) : -h ≤ d * ((s + h) / d) - s ∧ d * ((s + h) / d) - s ≤ h := by
  have h1 := Int.emod_add_mul_ediv (s + h) d
  have h2 := Int.emod_nonneg (s + h) (show d ≠ 0 by omega)
  have h3 := Int.emod_lt_of_pos (s + h) (show 0 < d by omega)
  generalize (s + h) / d = q at *
  generalize d * q = dq at *
  omega
/-- The waves of numbers, unlapped but for the window: at most 1 away from what they mix. -/
theorem unlap_near (z : Nat → Int) (hz : ∀ j, j < 32 → -(zmP j) ≤ z j ∧ z j ≤ zmP j) (p : Nat) (hp : p < 32) (X : Int) (hX : X = (sumN (fun n => lapN z n * lapT p n) 16 + 65536) / 131072) :
    -1 ≤ X - (z p + sgnP p * z (mirP p)) ∧ X - (z p + sgnP p * z (mirP p)) ≤ 1 := by
  have hr : ∀ n, -8192 ≤ 16384 * lapN z n - sumN (fun i => z i * lapT i n) 32 ∧ 16384 * lapN z n - sumN (fun i => z i * lapT i n) 32 ≤ 8192 := fun n => floor_off _ _ 8192 rfl (by omega)
  have e1 : 16384 * sumN (fun n => lapN z n * lapT p n) 16 = sumN (fun n => lapT p n * (16384 * lapN z n - sumN (fun i => z i * lapT i n) 32)) 16 + sumN (fun j => z j * prP p j) 32 + 2147483648 * (z p + sgnP p * z (mirP p)) := by
    rw [← sum_dl p hp z]
    rw [show sumN (fun j => z j * prP p j) 32 = sumN (fun j => z j * sumN (fun n => lapT p n * lapT j n) 16) 32 - sumN (fun j => z j * dlP p j) 32 from by
      rw [← sumN_sub]; exact sumN_congr (fun j _ => by unfold prP; rw [Int.mul_sub])]
    rw [show sumN (fun j => z j * sumN (fun n => lapT p n * lapT j n) 16) 32 = sumN (fun n => lapT p n * sumN (fun i => z i * lapT i n) 32) 16 from by
      rw [sumN_congr (g := fun j => sumN (fun n => lapT p n * (z j * lapT j n)) 16) (fun j _ => by rw [sumN_mul]; exact sumN_congr (fun n _ => by rw [Int.mul_left_comm])), sumN_comm]
      exact sumN_congr (fun n _ => by rw [sumN_mul])]
    rw [sumN_congr (f := fun n => lapT p n * (16384 * lapN z n - sumN (fun i => z i * lapT i n) 32)) (g := fun n => 16384 * (lapN z n * lapT p n) - lapT p n * sumN (fun i => z i * lapT i n) 32) (fun n _ => by rw [Int.mul_sub, Int.mul_comm (lapN z n), Int.mul_left_comm]), sumN_sub, ← sumN_mul]
    omega
  have b1 := sum_mul_bd (fun n => lapT p n) (fun n => 16384 * lapN z n - sumN (fun i => z i * lapT i n) 32) 8192 _ 16 (fun n _ => hr n) (by omega) (Int.le_refl _)
  have b2 := sumN_bd (f := fun j => z j * prP p j) (g := fun j => zmP j * ((prP p j).natAbs : Int)) (n := 32) (fun j hj => by rw [Int.mul_comm (z j)]; exact mul_bdW _ _ _ (hz j hj))
  have b3 := lap_off p hp
  have b4 := floor_off (sumN (fun n => lapN z n * lapT p n) 16) 131072 65536 rfl (by omega)
  rw [← hX] at b4
  generalize z p + sgnP p * z (mirP p) = u at *
  generalize sumN (fun n => lapN z n * lapT p n) 16 = S at *
  generalize sumN (fun n => lapT p n * (16384 * lapN z n - sumN (fun i => z i * lapT i n) 32)) 16 = A at *
  generalize sumN (fun j => z j * prP p j) 32 = B at *
  generalize sumN (fun j => zmP j * ((prP p j).natAbs : Int)) 32 = C at *
  generalize sumN (fun n => ((lapT p n).natAbs : Int)) 16 = D at *
  clear hX hr
  omega
theorem winN_bd (j : Nat) (hj : j < 32) (x : Int) (h1 : -8191 ≤ x) (h2 : x ≤ 8191) : -(zmP j) ≤ winN x j ∧ winN x j ≤ zmP j := by
  have hw := win_pos j hj
  have m1 : x * winA j ≤ 8191 * winA j := Int.mul_le_mul_of_nonneg_right h2 (by omega)
  have m2 : -8191 * winA j ≤ x * winA j := Int.mul_le_mul_of_nonneg_right h1 (by omega)
  unfold winN zmP
  rw [show -8191 * winA j = -(8191 * winA j) from by rw [Int.neg_mul]] at m2
  generalize 8191 * winA j = M at *
  generalize x * winA j = y at *
  omega
end Go.Proofs.YtnoojbppfbmbgaaDoor
