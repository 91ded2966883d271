/- Good moving pictures: frames that may be, their pixels aside. -/
import Derived.Test.YtnfifpngiocbnaaWGmA
namespace Go.Proofs.Ytnfifpngiocbnaa
open Go.RowKit

set_option maxHeartbeats 8000000 in
set_option maxRecDepth 1000000 in
theorem specL6Frame (a b l x0 x1 x2 x3 x4 x5 x6 : Int) (adp adf adx : Option Addr) (np cpp nf cpf nx cpx : Nat) (w : World) (ha : 1 ≤ a ∧ a ≤ 512) (hb : 1 ≤ b ∧ b ≤ 512) (_hp : np ≤ 1048576) (_hx0 : x0 ≤ 9223372036854775807) (_hx1 : x1 ≤ 9223372036854775807) :
    Calls Try.prog 75 #[.agg #[.int .i64 a, .int .i64 b, .slice adp np cpp, .int .i64 l, .slice adf nf cpf], .agg #[.int .i64 x0, .int .i64 x1, .int .i64 x2, .int .i64 x3, .int .i64 x4, .int .i64 x5, .int .i64 x6, .slice adx nx cpx]] w fun e w' => e = .returned (.bool (mB (FrOk a b np x0 x1 x2 x3 x4 x5 x6))) ∧ Upd 0 0 w w' := by
  have hB := hide (Upd.of_below (((Below.refl w.heap.size w).alloc (Nat.le_refl _) (.cells #[.int .i64 a, .int .i64 b, .slice adp np cpp, .int .i64 l, .slice adf nf cpf] 35)).alloc (by simp) (.cells #[.int .i64 x0, .int .i64 x1, .int .i64 x2, .int .i64 x3, .int .i64 x4, .int .i64 x5, .int .i64 x6, .slice adx nx cpx] 49)) 0 0)
  by_cases p0 : 0 ≤ x0
  case neg =>
    have q0 : decide (x0 < 0) = true := by simp; omega
    rw [mB_no (by unfold FrOk; omega)]
    go_enter Try.func75, Try.ntmps75
    go_wp2
    go_ret
    exact ⟨rfl, unhide hB⟩
  have q0 : decide (x0 < 0) = false := by simp; omega
  by_cases p1 : 0 ≤ x1
  case neg =>
    have q1 : decide (x1 < 0) = true := by simp; omega
    rw [mB_no (by unfold FrOk; omega)]
    go_enter Try.func75, Try.ntmps75
    go_wp2
    go_ret
    exact ⟨rfl, unhide hB⟩
  have q1 : decide (x1 < 0) = false := by simp; omega
  by_cases p2 : 1 ≤ x2
  case neg =>
    have q2 : decide (x2 < 1) = true := by simp; omega
    rw [mB_no (by unfold FrOk; omega)]
    go_enter Try.func75, Try.ntmps75
    go_wp2
    go_ret
    exact ⟨rfl, unhide hB⟩
  have q2 : decide (x2 < 1) = false := by simp; omega
  by_cases p3 : 1 ≤ x3
  case neg =>
    have q3 : decide (x3 < 1) = true := by simp; omega
    rw [mB_no (by unfold FrOk; omega)]
    go_enter Try.func75, Try.ntmps75
    go_wp2
    go_ret
    exact ⟨rfl, unhide hB⟩
  have q3 : decide (x3 < 1) = false := by simp; omega
  by_cases p4 : x0 ≤ a
  case neg =>
    have q4 : decide (a < x0) = true := by simp; omega
    rw [mB_no (by unfold FrOk; omega)]
    go_enter Try.func75, Try.ntmps75
    go_wp2
    go_ret
    exact ⟨rfl, unhide hB⟩
  have q4 : decide (a < x0) = false := by simp; omega
  by_cases p5 : x1 ≤ b
  case neg =>
    have q5 : decide (b < x1) = true := by simp; omega
    rw [mB_no (by unfold FrOk; omega)]
    go_enter Try.func75, Try.ntmps75
    go_wp2
    go_ret
    exact ⟨rfl, unhide hB⟩
  have q5 : decide (b < x1) = false := by simp; omega
  by_cases p6 : x2 ≤ a - x0
  case neg =>
    have q6 : decide (a - x0 < x2) = true := by simp; omega
    rw [mB_no (by unfold FrOk; omega)]
    go_enter Try.func75, Try.ntmps75
    go_wp2
    go_ret
    exact ⟨rfl, unhide hB⟩
  have q6 : decide (a - x0 < x2) = false := by simp; omega
  by_cases p7 : x3 ≤ b - x1
  case neg =>
    have q7 : decide (b - x1 < x3) = true := by simp; omega
    rw [mB_no (by unfold FrOk; omega)]
    go_enter Try.func75, Try.ntmps75
    go_wp2
    go_ret
    exact ⟨rfl, unhide hB⟩
  have q7 : decide (b - x1 < x3) = false := by simp; omega
  by_cases p8 : 0 ≤ x4
  case neg =>
    have q8 : decide (0 ≤ x4) = false := by simp; omega
    rw [mB_no (by unfold FrOk; omega)]
    go_enter Try.func75, Try.ntmps75
    go_wp2
    go_ret
    exact ⟨rfl, unhide hB⟩
  have q8 : decide (0 ≤ x4) = true := by simp; omega
  by_cases p9 : x4 ≤ 65535
  case neg =>
    have q9 : decide (x4 ≤ 65535) = false := by simp; omega
    rw [mB_no (by unfold FrOk; omega)]
    go_enter Try.func75, Try.ntmps75
    go_wp2
    go_ret
    exact ⟨rfl, unhide hB⟩
  have q9 : decide (x4 ≤ 65535) = true := by simp; omega
  by_cases p10 : 0 ≤ x5
  case neg =>
    have q10 : decide (0 ≤ x5) = false := by simp; omega
    rw [mB_no (by unfold FrOk; omega)]
    go_enter Try.func75, Try.ntmps75
    go_wp2
    go_ret
    exact ⟨rfl, unhide hB⟩
  have q10 : decide (0 ≤ x5) = true := by simp; omega
  by_cases p11 : x5 ≤ 2
  case neg =>
    have q11 : decide (x5 ≤ 2) = false := by simp; omega
    rw [mB_no (by unfold FrOk; omega)]
    go_enter Try.func75, Try.ntmps75
    go_wp2
    go_ret
    exact ⟨rfl, unhide hB⟩
  have q11 : decide (x5 ≤ 2) = true := by simp; omega
  by_cases p12 : -1 ≤ x6
  case neg =>
    have q12 : decide (-1 ≤ x6) = false := by simp; omega
    rw [mB_no (by unfold FrOk; omega)]
    go_enter Try.func75, Try.ntmps75
    go_wp2
    go_ret
    exact ⟨rfl, unhide hB⟩
  have q12 : decide (-1 ≤ x6) = true := by simp; omega
  by_cases p13 : x6 < (np : Int)
  case neg =>
    have q13 : decide (x6 < (np : Int)) = false := by simp; omega
    rw [mB_no (by unfold FrOk; omega)]
    go_enter Try.func75, Try.ntmps75
    go_wp2
    go_ret
    exact ⟨rfl, unhide hB⟩
  have q13 : decide (x6 < (np : Int)) = true := by simp; omega
  rw [mB_yes (by unfold FrOk; omega)]
  go_enter Try.func75, Try.ntmps75
  go_wp2
  go_ret
  exact ⟨rfl, unhide hB⟩

set_option maxHeartbeats 8000000 in
set_option maxRecDepth 1000000 in
theorem implMayHold (a b l x0 x1 x2 x3 x4 x5 x6 : Int) (adp adf adx : Option Addr) (np cpp nf cpf nx cpx : Nat) (w : World) (ha : 1 ≤ a ∧ a ≤ 512) (hb : 1 ≤ b ∧ b ≤ 512) (_hp : np ≤ 1048576) (hx0 : x0 ≤ 9223372036854775807) (hx1 : x1 ≤ 9223372036854775807) :
    Calls Try.prog 144 #[.agg #[.int .i64 a, .int .i64 b, .slice adp np cpp, .int .i64 l, .slice adf nf cpf], .agg #[.int .i64 x0, .int .i64 x1, .int .i64 x2, .int .i64 x3, .int .i64 x4, .int .i64 x5, .int .i64 x6, .slice adx nx cpx]] w fun e w' => e = .returned (.bool (mB (FrOk a b np x0 x1 x2 x3 x4 x5 x6))) ∧ Upd 0 0 w w' := by
  have hB := hide (Upd.of_below (((Below.refl w.heap.size w).alloc (Nat.le_refl _) (.cells #[.int .i64 a, .int .i64 b, .slice adp np cpp, .int .i64 l, .slice adf nf cpf] 35)).alloc (by simp) (.cells #[.int .i64 x0, .int .i64 x1, .int .i64 x2, .int .i64 x3, .int .i64 x4, .int .i64 x5, .int .i64 x6, .slice adx nx cpx] 49)) 0 0)
  have hS := hide (fun W => implGoodShort x4 W)
  by_cases p0 : 0 ≤ x0
  case neg =>
    have q0 : decide (x0 < 0) = true := by simp; omega
    rw [mB_no (by unfold FrOk; omega)]
    go_enter Try.func144, Try.ntmps144
    go_wp2
    go_ret
    exact ⟨rfl, unhide hB⟩
  have q0 : decide (x0 < 0) = false := by simp; omega
  by_cases p1 : 1 ≤ x2
  case neg =>
    have q1 : decide (x2 < 1) = true := by simp; omega
    rw [mB_no (by unfold FrOk; omega)]
    go_enter Try.func144, Try.ntmps144
    go_wp2
    go_ret
    exact ⟨rfl, unhide hB⟩
  have q1 : decide (x2 < 1) = false := by simp; omega
  by_cases p2 : x2 ≤ a - x0
  case neg =>
    have q2 : decide (a - x0 < x2) = true := by simp; omega
    rw [mB_no (by unfold FrOk; omega)]
    go_enter Try.func144, Try.ntmps144
    go_wp2
    go_ret
    exact ⟨rfl, unhide hB⟩
  have q2 : decide (a - x0 < x2) = false := by simp; omega
  by_cases p3 : 0 ≤ x1
  case neg =>
    have q3 : decide (x1 < 0) = true := by simp; omega
    rw [mB_no (by unfold FrOk; omega)]
    go_enter Try.func144, Try.ntmps144
    go_wp2
    go_ret
    exact ⟨rfl, unhide hB⟩
  have q3 : decide (x1 < 0) = false := by simp; omega
  by_cases p4 : 1 ≤ x3
  case neg =>
    have q4 : decide (x3 < 1) = true := by simp; omega
    rw [mB_no (by unfold FrOk; omega)]
    go_enter Try.func144, Try.ntmps144
    go_wp2
    go_ret
    exact ⟨rfl, unhide hB⟩
  have q4 : decide (x3 < 1) = false := by simp; omega
  by_cases p5 : x3 ≤ b - x1
  case neg =>
    have q5 : decide (b - x1 < x3) = true := by simp; omega
    rw [mB_no (by unfold FrOk; omega)]
    go_enter Try.func144, Try.ntmps144
    go_wp2
    go_ret
    exact ⟨rfl, unhide hB⟩
  have q5 : decide (b - x1 < x3) = false := by simp; omega
  by_cases p6 : 0 ≤ x4 ∧ x4 ≤ 65535
  case neg =>
    rw [mB_no (by unfold FrOk; omega)]
    rw [decide_eq_false (by omega)] at hS
    go_enter Try.func144, Try.ntmps144
    go_wp2_with fail
    refine (unhide hS _).mono ?_
    rintro e w1 ⟨rfl, rfl⟩
    go_wp2
    go_ret
    exact ⟨rfl, unhide hB⟩
  by_cases p7 : 0 ≤ x5
  case neg =>
    have q7 : decide (0 ≤ x5) = false := by simp; omega
    rw [mB_no (by unfold FrOk; omega)]
    rw [decide_eq_true (by omega)] at hS
    go_enter Try.func144, Try.ntmps144
    go_wp2_with fail
    refine (unhide hS _).mono ?_
    rintro e w1 ⟨rfl, rfl⟩
    go_wp2
    go_ret
    exact ⟨rfl, unhide hB⟩
  have q7 : decide (0 ≤ x5) = true := by simp; omega
  by_cases p8 : x5 ≤ 2
  case neg =>
    have q8 : decide (x5 < 3) = false := by simp; omega
    rw [mB_no (by unfold FrOk; omega)]
    rw [decide_eq_true (by omega)] at hS
    go_enter Try.func144, Try.ntmps144
    go_wp2_with fail
    refine (unhide hS _).mono ?_
    rintro e w1 ⟨rfl, rfl⟩
    go_wp2
    go_ret
    exact ⟨rfl, unhide hB⟩
  have q8 : decide (x5 < 3) = true := by simp; omega
  by_cases p9 : -1 ≤ x6
  case neg =>
    have q9 : decide (-1 ≤ x6) = false := by simp; omega
    rw [mB_no (by unfold FrOk; omega)]
    rw [decide_eq_true (by omega)] at hS
    go_enter Try.func144, Try.ntmps144
    go_wp2_with fail
    refine (unhide hS _).mono ?_
    rintro e w1 ⟨rfl, rfl⟩
    go_wp2
    go_ret
    exact ⟨rfl, unhide hB⟩
  have q9 : decide (-1 ≤ x6) = true := by simp; omega
  by_cases p10 : x6 < (np : Int)
  case neg =>
    have q10 : decide (x6 < (np : Int)) = false := by simp; omega
    rw [mB_no (by unfold FrOk; omega)]
    rw [decide_eq_true (by omega)] at hS
    go_enter Try.func144, Try.ntmps144
    go_wp2_with fail
    refine (unhide hS _).mono ?_
    rintro e w1 ⟨rfl, rfl⟩
    go_wp2
    go_ret
    exact ⟨rfl, unhide hB⟩
  have q10 : decide (x6 < (np : Int)) = true := by simp; omega
  rw [mB_yes (by unfold FrOk; omega)]
  rw [decide_eq_true (by omega)] at hS
  go_enter Try.func144, Try.ntmps144
  go_wp2_with fail
  refine (unhide hS _).mono ?_
  rintro e w1 ⟨rfl, rfl⟩
  go_wp2
  go_ret
  exact ⟨rfl, unhide hB⟩

end Go.Proofs.Ytnfifpngiocbnaa
