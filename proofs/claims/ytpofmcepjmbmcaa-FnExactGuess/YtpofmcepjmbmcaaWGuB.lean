/- Guesses: the specification. -/
import Derived.Test.YtpofmcepjmbmcaaWGuA
namespace Go.Proofs.Ytpofmcepjmbmcaa
open Go.RowKit

set_option maxHeartbeats 4000000 in
/-- A mode that lacks what it needs. -/
theorem specL13GuessNo (mode : Int) (S : Nat) (ad ad' : Option Addr) (cap cap' : Nat) (xs ys : List Int) (corner : Int) (w : World) (hm : 0 ≤ mode ∧ mode ≤ 3) (hS : S = 4 ∨ S = 8) (hlack : guLack mode xs ys) :
    Calls Try.prog 60 #[.int .i64 mode, .int .i64 (S : Int), .slice ad xs.length cap, .slice ad' ys.length cap', .int .i64 corner] w fun e w' => e = .returned (.tuple #[.slice none 0 0, .bool false]) ∧ Upd 0 0 w w' := by
  obtain ⟨N, hN⟩ : ∃ N, S * S = N := ⟨_, rfl⟩
  have hN2 : N ≤ 64 ∧ 16 ≤ N := by rcases hS with rfl | rfl <;> omega
  have hSS : (S : Int) * (S : Int) = (N : Int) := by rw [← hN]; push_cast; rfl
  obtain ⟨oN, hmk⟩ := mkRowI N (by omega)
  have hmk1 := fun X => (hmk X).1
  have hU := hide (Upd.of_below ((Below.refl _ w).alloc (Nat.le_refl _) oN) 0 0)
  obtain ⟨N1, N2⟩ := hN2
  clear hmk hN hS
  rcases hlack with ⟨h1, h2⟩ | ⟨h1, h2⟩
  · have nx : ((xs.length : Int) == 0) = true := by simp; exact List.eq_nil_of_length_eq_zero h2
    replace h2 := hide h2
    rcases h1 with rfl | rfl
    · go_enter Try.func60, Try.ntmps60
      go_wp2
      go_ret2
      exact ⟨rfl, unhide hU⟩
    · go_enter Try.func60, Try.ntmps60
      go_wp2
      go_ret2
      exact ⟨rfl, unhide hU⟩
  · have ny : ((ys.length : Int) == 0) = true := by simp; exact List.eq_nil_of_length_eq_zero h2
    replace h2 := hide h2
    rcases h1 with rfl | rfl
    · go_enter Try.func60, Try.ntmps60
      go_wp2
      go_ret2
      exact ⟨rfl, unhide hU⟩
    · by_cases hx : xs.length = 0
      · have nx : ((xs.length : Int) == 0) = true := by simp; exact List.eq_nil_of_length_eq_zero hx
        replace hx := hide hx
        go_enter Try.func60, Try.ntmps60
        go_wp2
        go_ret2
        exact ⟨rfl, unhide hU⟩
      · have nx : ((xs.length : Int) == 0) = false := beq_eq_false_iff_ne.2 (by omega)
        go_enter Try.func60, Try.ntmps60
        go_wp2
        go_ret2
        exact ⟨rfl, unhide hU⟩
end Go.Proofs.Ytpofmcepjmbmcaa
