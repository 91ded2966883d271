/- The walk of GoodImage: the program's parts. -/
import Derived.Test.YthkppcncajmniaaPlainG
import Derived.Test.YthkppcncajmniaaWSdB
import Derived.Test.YthkppcncajmniaaWSides
import Derived.Test.YthkppcncajmniaaWRowB
namespace Go.Proofs.Ythkppcncajmniaa
open Go.RowKit

set_option maxHeartbeats 4000000 in
set_option maxRecDepth 1000000 in
theorem implGoodShape (a b p dp : Int) (vl : Value) (ad : Option Addr) (n cap : Nat) (w : World) (hvl : vl = .slice ad n cap) :
    Calls Try.prog 13 #[.agg #[.int .i64 a, .int .i64 b, .int .i64 p, .int .i64 dp, vl]] w fun e w' => e = .returned (.bool (shapeB a b p dp)) ∧ Upd 0 0 w w' := by
  subst hvl
  have hU := hide (Upd.of_below ((Below.refl w.heap.size w).alloc (Nat.le_refl _) (.cells #[.int .i64 a, .int .i64 b, .int .i64 p, .int .i64 dp, .slice ad n cap] 27)) 0 0)
  have hS := hide (fun W => implGoodSidesP a b W)
  have hD := hide (fun W => implGoodDepth dp W)
  by_cases hs : (1 ≤ a ∧ a ≤ 512) ∧ (1 ≤ b ∧ b ≤ 512) ∧ a * b ≤ 4096
  case neg =>
    rw [shapeB_no (fun h => hs ⟨h.1, h.2.1, h.2.2.1⟩)]
    rw [decide_eq_false hs] at hS
    clear hs
    go_enter Try.func13, Try.ntmps13
    go_wp2_with fail
    refine (unhide hS _).mono ?_
    rintro e w1 ⟨rfl, rfl⟩
    go_wp2
    go_ret
    exact ⟨rfl, unhide hU⟩
  rw [decide_eq_true hs] at hS
  obtain ⟨ha, hb, hab⟩ := hs
  by_cases hp1 : p < 1
  · rw [shapeB_no (fun h => by have := h.2.2.2.1.1; omega)]
    have q : decide (p < 1) = true := by simp; omega
    clear ha hb hab
    go_enter Try.func13, Try.ntmps13
    go_wp2_with fail
    refine (unhide hS _).mono ?_
    rintro e w1 ⟨rfl, rfl⟩
    go_wp2
    go_ret
    exact ⟨rfl, unhide hU⟩
  have q1 : decide (p < 1) = false := by simp; omega
  by_cases hp2 : 4 < p
  · rw [shapeB_no (fun h => by have := h.2.2.2.1.2; omega)]
    have q : decide (4 < p) = true := by simp; omega
    clear ha hb hab
    go_enter Try.func13, Try.ntmps13
    go_wp2_with fail
    refine (unhide hS _).mono ?_
    rintro e w1 ⟨rfl, rfl⟩
    go_wp2
    go_ret
    exact ⟨rfl, unhide hU⟩
  have q2 : decide (4 < p) = false := by simp; omega
  by_cases hd : depthOk dp = true
  case neg =>
    rw [shapeB_no (fun h => hd h.2.2.2.2.1)]
    have hd' : depthOk dp = false := by simpa using hd
    rw [hd'] at hD
    clear ha hb hab hd hd'
    go_enter Try.func13, Try.ntmps13
    go_wp2_with fail
    refine (unhide hS _).mono ?_
    rintro e w1 ⟨rfl, rfl⟩
    go_wp2_with fail
    refine (unhide hD _).mono ?_
    rintro e w1 ⟨rfl, rfl⟩
    go_wp2
    go_ret
    exact ⟨rfl, unhide hU⟩
  rw [hd] at hD
  by_cases h1 : p = 1
  · subst h1
    rw [shapeB_yes ⟨ha, hb, hab, ⟨by omega, by omega⟩, hd, .inl rfl⟩]
    replace hd := hide hd
    clear ha hb hab
    go_enter Try.func13, Try.ntmps13
    go_wp2_with fail
    refine (unhide hS _).mono ?_
    rintro e w1 ⟨rfl, rfl⟩
    go_wp2_with fail
    refine (unhide hD _).mono ?_
    rintro e w1 ⟨rfl, rfl⟩
    go_wp2
    go_ret
    exact ⟨rfl, unhide hU⟩
  have r1 : (p == 1) = false := beq_eq_false_iff_ne.2 h1
  by_cases h8 : 8 ≤ dp
  · rw [shapeB_yes ⟨ha, hb, hab, ⟨by omega, by omega⟩, hd, .inr h8⟩]
    have r2 : decide (8 ≤ dp) = true := by simp; omega
    replace hd := hide hd
    clear ha hb hab h1
    go_enter Try.func13, Try.ntmps13
    go_wp2_with fail
    refine (unhide hS _).mono ?_
    rintro e w1 ⟨rfl, rfl⟩
    go_wp2_with fail
    refine (unhide hD _).mono ?_
    rintro e w1 ⟨rfl, rfl⟩
    go_wp2
    go_ret
    exact ⟨rfl, unhide hU⟩
  · rw [shapeB_no (fun h => by have := h.2.2.2.2.2; omega)]
    have r2 : decide (8 ≤ dp) = false := by simp; omega
    replace hd := hide hd
    clear ha hb hab h1
    go_enter Try.func13, Try.ntmps13
    go_wp2_with fail
    refine (unhide hS _).mono ?_
    rintro e w1 ⟨rfl, rfl⟩
    go_wp2_with fail
    refine (unhide hD _).mono ?_
    rintro e w1 ⟨rfl, rfl⟩
    go_wp2
    go_ret
    exact ⟨rfl, unhide hU⟩

set_option maxHeartbeats 1000000 in
theorem implCountSamples (a b p dp P Q : Int) (vl : Value) (ad : Option Addr) (n cap : Nat) (w : World) (hvl : vl = .slice ad n cap) (hP : a * b = P) (hQ : P * p = Q) (P1 : 0 ≤ P) (P2 : P ≤ 1099511627776) (Q1 : 0 ≤ Q) (Q2 : Q ≤ 1099511627776) :
    Calls Try.prog 14 #[.agg #[.int .i64 a, .int .i64 b, .int .i64 p, .int .i64 dp, vl]] w fun e w' => e = .returned (.int .i64 Q) ∧ Upd 0 0 w w' := by
  subst hvl
  have hU := hide (Upd.of_below ((Below.refl w.heap.size w).alloc (Nat.le_refl _) (.cells #[.int .i64 a, .int .i64 b, .int .i64 p, .int .i64 dp, .slice ad n cap] 27)) 0 0)
  go_enter Try.func14, Try.ntmps14
  go_wp2
  go_ret
  exact ⟨rfl, unhide hU⟩
end Go.Proofs.Ythkppcncajmniaa
