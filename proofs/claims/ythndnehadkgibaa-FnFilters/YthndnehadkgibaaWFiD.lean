/- The walks of the filters of rows: the program's guesses, its table of them, and the filter that it makes. -/
import Derived.Test.YthndnehadkgibaaPlainF
import Derived.Test.YthndnehadkgibaaWOwn2
import Derived.Laws.EntriesVeiled
import Derived.Deep.RegionWith
namespace Go.Proofs.Ythndnehadkgibaa
open Go.RowKit

set_option maxHeartbeats 1000000 in
theorem implDistance (a b : Int) (w : World) (ha : -10000 ≤ a ∧ a ≤ 10000) (hb : -10000 ≤ b ∧ b ≤ 10000) : Calls Try.prog 76 #[.int .i64 a, .int .i64 b] w fun e w' => e = .returned (.int .i64 (absI (a - b))) ∧ w' = w := by
  obtain ⟨a1, a2⟩ := ha
  obtain ⟨b1, b2⟩ := hb
  go_enter Try.func76, Try.ntmps76
  go_wp2
  all_goals
    go_ret
    exact ⟨ret_int (by unfold absI; split <;> omega), rfl⟩

/-- The program's function of a kind of filter. -/
def gfn (kind : Int) : Value :=
  if kind = 1 then .func (.func 69) #[] #[] else if kind = 2 then .func (.func 70) #[] #[]
  else if kind = 3 then .func (.func 71) #[] #[] else if kind = 4 then .func (.func 72) #[] #[]
  else .func (.func 68) #[] #[]

set_option maxHeartbeats 1000000 in
theorem implGuess0 (a b c : Int) (w : World) : Calls Try.prog 68 #[.int .i64 a, .int .i64 b, .int .i64 c] w fun e w' => e = .returned (.int .i64 (guessF 0 a b c)) ∧ w' = w := by
  go_enter Try.func68, Try.ntmps68
  go_wp2
  go_ret
  exact ⟨rfl, rfl⟩
set_option maxHeartbeats 1000000 in
theorem implGuess1 (a b c : Int) (w : World) : Calls Try.prog 69 #[.int .i64 a, .int .i64 b, .int .i64 c] w fun e w' => e = .returned (.int .i64 (guessF 1 a b c)) ∧ w' = w := by
  go_enter Try.func69, Try.ntmps69
  go_wp2
  go_ret
  exact ⟨rfl, rfl⟩
set_option maxHeartbeats 1000000 in
theorem implGuess2 (a b c : Int) (w : World) : Calls Try.prog 70 #[.int .i64 a, .int .i64 b, .int .i64 c] w fun e w' => e = .returned (.int .i64 (guessF 2 a b c)) ∧ w' = w := by
  go_enter Try.func70, Try.ntmps70
  go_wp2
  go_ret
  exact ⟨rfl, rfl⟩
set_option maxHeartbeats 1000000 in
theorem implGuess3 (a b c : Int) (w : World) (ha : 0 ≤ a ∧ a < 256) (hb : 0 ≤ b ∧ b < 256) : Calls Try.prog 71 #[.int .i64 a, .int .i64 b, .int .i64 c] w fun e w' => e = .returned (.int .i64 (guessF 3 a b c)) ∧ w' = w := by
  obtain ⟨a1, a2⟩ := ha
  obtain ⟨b1, b2⟩ := hb
  go_enter Try.func71, Try.ntmps71
  go_wp2
  go_ret
  exact ⟨ret_int (by unfold guessF; simp), rfl⟩
set_option maxHeartbeats 2000000 in
theorem implGuess4 (a b c : Int) (w : World) (ha : 0 ≤ a ∧ a < 256) (hb : 0 ≤ b ∧ b < 256) (hc : 0 ≤ c ∧ c < 256) : Calls Try.prog 72 #[.int .i64 a, .int .i64 b, .int .i64 c] w fun e w' => e = .returned (.int .i64 (guessF 4 a b c)) ∧ w' = w := by
  have hA := hide (implDistance a (a + b - c) w (by omega) (by omega))
  have hB := hide (implDistance b (a + b - c) w (by omega) (by omega))
  have hC := hide (implDistance c (a + b - c) w (by omega) (by omega))
  obtain ⟨a1, a2⟩ := ha
  obtain ⟨b1, b2⟩ := hb
  obtain ⟨c1, c2⟩ := hc
  have hG := hide (show guessF 4 a b c = nearF a b c from rfl)
  have hN := hide (nearF_best a b c)
  generalize hx : absI (a - (a + b - c)) = x at hA
  generalize hy : absI (b - (a + b - c)) = y at hB
  generalize hz : absI (c - (a + b - c)) = z at hC
  by_cases h1 : y < x
  · by_cases h2 : z < y
    · have hF := hide (show guessF 4 a b c = c by rw [unhide hG, unhide hN b (by rw [hx, hy, if_pos h1]), hz, hy, if_pos h2])
      replace hx := hide hx; replace hy := hide hy; replace hz := hide hz
      go_enter Try.func72, Try.ntmps72
      go_wp2_with fail
      refine (unhide hB).mono ?_
      rintro e w1 ⟨rfl, rfl⟩
      go_wp2_with fail
      refine (unhide hA).mono ?_
      rintro e w2 ⟨rfl, rfl⟩
      go_wp2_with fail
      refine (unhide hC).mono ?_
      rintro e w3 ⟨rfl, rfl⟩
      go_wp2_with fail
      refine (unhide hB).mono ?_
      rintro e w4 ⟨rfl, rfl⟩
      go_wp2
      go_ret
      exact ⟨ret_int (unhide hF).symm, rfl⟩
    · have hF := hide (show guessF 4 a b c = b by rw [unhide hG, unhide hN b (by rw [hx, hy, if_pos h1]), hz, hy, if_neg h2])
      replace hx := hide hx; replace hy := hide hy; replace hz := hide hz
      go_enter Try.func72, Try.ntmps72
      go_wp2_with fail
      refine (unhide hB).mono ?_
      rintro e w1 ⟨rfl, rfl⟩
      go_wp2_with fail
      refine (unhide hA).mono ?_
      rintro e w2 ⟨rfl, rfl⟩
      go_wp2_with fail
      refine (unhide hC).mono ?_
      rintro e w3 ⟨rfl, rfl⟩
      go_wp2_with fail
      refine (unhide hB).mono ?_
      rintro e w4 ⟨rfl, rfl⟩
      go_wp2
      go_ret
      exact ⟨ret_int (unhide hF).symm, rfl⟩
  · by_cases h2 : z < x
    · have hF := hide (show guessF 4 a b c = c by rw [unhide hG, unhide hN a (by rw [hx, hy, if_neg h1]), hz, hx, if_pos h2])
      replace hx := hide hx; replace hy := hide hy; replace hz := hide hz
      go_enter Try.func72, Try.ntmps72
      go_wp2_with fail
      refine (unhide hB).mono ?_
      rintro e w1 ⟨rfl, rfl⟩
      go_wp2_with fail
      refine (unhide hA).mono ?_
      rintro e w2 ⟨rfl, rfl⟩
      go_wp2_with fail
      refine (unhide hC).mono ?_
      rintro e w3 ⟨rfl, rfl⟩
      go_wp2_with fail
      refine (unhide hA).mono ?_
      rintro e w4 ⟨rfl, rfl⟩
      go_wp2
      go_ret
      exact ⟨ret_int (unhide hF).symm, rfl⟩
    · have hF := hide (show guessF 4 a b c = a by rw [unhide hG, unhide hN a (by rw [hx, hy, if_neg h1]), hz, hx, if_neg h2])
      replace hx := hide hx; replace hy := hide hy; replace hz := hide hz
      go_enter Try.func72, Try.ntmps72
      go_wp2_with fail
      refine (unhide hB).mono ?_
      rintro e w1 ⟨rfl, rfl⟩
      go_wp2_with fail
      refine (unhide hA).mono ?_
      rintro e w2 ⟨rfl, rfl⟩
      go_wp2_with fail
      refine (unhide hC).mono ?_
      rintro e w3 ⟨rfl, rfl⟩
      go_wp2_with fail
      refine (unhide hA).mono ?_
      rintro e w4 ⟨rfl, rfl⟩
      go_wp2
      go_ret
      exact ⟨ret_int (unhide hF).symm, rfl⟩

set_option maxHeartbeats 1000000 in
theorem implGuesses (w : World) : Calls Try.prog 61 #[] w fun e w' => e = .returned (.agg #[.func (.func 68) #[] #[], .func (.func 69) #[] #[], .func (.func 70) #[] #[], .func (.func 71) #[] #[], .func (.func 72) #[] #[]]) ∧ Below w.heap.size w w' := by
  go_enter Try.func61, Try.ntmps61
  go_wp2
  refine bodyPost_ret (v := .agg #[.func (.func 68) #[] #[], .func (.func 69) #[] #[], .func (.func 70) #[] #[], .func (.func 71) #[] #[], .func (.func 72) #[] #[]]) (by simp [results, Try.results61, go_sem]) rfl ⟨rfl, ?_⟩
  repeat (first | exact Below.refl _ _ | refine Below.setCell ?_ (by simp) _ | refine Below.alloc ?_ (by first | exact Nat.le_refl _ | (simp; done) | (simp; omega)) _)
end Go.Proofs.Ythndnehadkgibaa
