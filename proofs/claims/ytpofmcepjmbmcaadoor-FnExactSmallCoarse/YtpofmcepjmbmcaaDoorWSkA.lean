/- Classes of places, coarse numbers: the specification's walks. -/
import Derived.Test.YtpofmcepjmbmcaaDoorPlainSmC
import Derived.Test.YtpofmcepjmbmcaaDoorPlainSmB
import Derived.Test.YtpofmcepjmbmcaaDoorWSmA
import Derived.Test.YtpofmcepjmbmcaaDoorWRowI
import Derived.Test.YtpofmcepjmbmcaaDoorWFiA
namespace Go.Proofs.YtpofmcepjmbmcaaDoor
open Go.RowKit

theorem specL13Class (i : Nat) (w : World) (hi : i < 16) : Calls Tryd.prog 104 #[.int .i64 (i : Int)] w fun e w' => e = .returned (.int .i64 (smClass i : Int)) ∧ w' = w := by
  rcases (show i = 0 ∨ i = 1 ∨ i = 2 ∨ i = 3 ∨ i = 4 ∨ i = 5 ∨ i = 6 ∨ i = 7 ∨ i = 8 ∨ i = 9 ∨ i = 10 ∨ i = 11 ∨ i = 12 ∨ i = 13 ∨ i = 14 ∨ i = 15 by omega) with e | e | e | e | e | e | e | e | e | e | e | e | e | e | e | e <;> subst e <;>
  · go_enter Tryd.func104, Tryd.ntmps104
    go_wp2
    go_ret
    exact ⟨rfl, rfl⟩
set_option maxHeartbeats 1000000 in
theorem specAbsW (n : Int) (w : World) (h : -1000000000 ≤ n ∧ n ≤ 1000000000) : Calls Tryd.prog 103 #[.int .i64 n] w fun e w' => e = .returned (.int .i64 (absI n)) ∧ w' = w := by
  obtain ⟨h1, h2⟩ := h
  by_cases h0 : n < 0
  · have hE := hide (show absI n = -n from if_pos h0)
    go_enter Tryd.func103, Tryd.ntmps103
    go_wp2
    go_ret
    exact ⟨ret_int (unhide hE).symm, rfl⟩
  · have hE := hide (show absI n = n from if_neg h0)
    go_enter Tryd.func103, Tryd.ntmps103
    go_wp2
    go_ret
    exact ⟨ret_int (unhide hE).symm, rfl⟩
theorem sh_wraps (P A B : Int) (h0 : 0 ≤ P) (h1 : P ≤ 860000000) (hA : 0 ≤ A ∧ A ≤ 1048576) (hB : 0 < B) : wrap64 A = A ∧ wrap64 (P + A) = P + A ∧ wrap64 (-((P + A) / B)) = -((P + A) / B) := by
  have q0 : 0 ≤ (P + A) / B := Int.ediv_nonneg (by omega) (by omega)
  have q1 : (P + A) / B ≤ P + A := Int.ediv_le_self _ (by omega)
  generalize (P + A) / B = Q at *
  unfold wrap64
  omega
theorem pow_q (q : Nat) (h : q ≤ 6) : ((0 : Int) ≤ 2 ^ (14 + q) ∧ (2 : Int) ^ (14 + q) ≤ 1048576) ∧ (0 : Int) < 2 ^ (15 + q) := by
  rcases (show q = 0 ∨ q = 1 ∨ q = 2 ∨ q = 3 ∨ q = 4 ∨ q = 5 ∨ q = 6 by omega) with e | e | e | e | e | e | e <;> subst e <;> decide
end Go.Proofs.YtpofmcepjmbmcaaDoor
