/- The walk of GoodImage: the program's parts. -/
import Derived.Test.YthpkngipiapbpaaDoorPlainG
import Derived.Test.YthpkngipiapbpaaDoorWSdB
import Derived.Test.YthpkngipiapbpaaDoorWRowB
namespace Go.Proofs.YthpkngipiapbpaaDoor
open Go.RowKit

set_option maxHeartbeats 4000000 in
set_option maxRecDepth 1000000 in
theorem implGoodShape (a b p dp : Int) (vl : Value) (ad : Option Addr) (n cap : Nat) (w : World) (hvl : vl = .slice ad n cap) :
    Calls Tryd.prog 61 #[.agg #[.int .i64 a, .int .i64 b, .int .i64 p, .int .i64 dp, vl]] w fun e w' => e = .returned (.bool (shapeB a b p dp)) ∧ Upd 0 0 w w' := by
  subst hvl
  have hU := hide (Upd.of_below ((Below.refl w.heap.size w).alloc (Nat.le_refl _) (.cells #[.int .i64 a, .int .i64 b, .int .i64 p, .int .i64 dp, .slice ad n cap] 30)) 0 0)
  have hS := hide (fun W => implGoodSide a W)
  have hS2 := hide (fun W => implGoodSide b W)
  have hD := hide (fun W => implGoodDepth dp W)
  by_cases ha : 1 ≤ a ∧ a ≤ 512
  case neg =>
    rw [shapeB_no (fun h => ha h.1)]
    rw [sideB_no ha] at hS
    clear ha
    go_enter Tryd.func61, Tryd.ntmps61
    go_wp2_with fail
    refine (unhide hS _).mono ?_
    rintro e w1 ⟨rfl, rfl⟩
    go_wp2
    go_ret
    exact ⟨rfl, unhide hU⟩
  rw [sideB_yes ha] at hS
  by_cases hb : 1 ≤ b ∧ b ≤ 512
  case neg =>
    rw [shapeB_no (fun h => hb h.2.1)]
    rw [sideB_no hb] at hS2
    clear ha hb
    go_enter Tryd.func61, Tryd.ntmps61
    go_wp2_with fail
    refine (unhide hS _).mono ?_
    rintro e w1 ⟨rfl, rfl⟩
    go_wp2_with fail
    refine (unhide hS2 _).mono ?_
    rintro e w1 ⟨rfl, rfl⟩
    go_wp2
    go_ret
    exact ⟨rfl, unhide hU⟩
  rw [sideB_yes hb] at hS2
  obtain ⟨P, hP, P1, P2⟩ := prod_bd ha hb
  by_cases hP4 : 4096 < P
  · rw [shapeB_no (fun h => by have := h.2.2.1; omega)]
    have qP : decide (4096 < P) = true := by simp; omega
    clear ha hb
    go_enter Tryd.func61, Tryd.ntmps61
    go_wp2_with fail
    refine (unhide hS _).mono ?_
    rintro e w1 ⟨rfl, rfl⟩
    go_wp2_with fail
    refine (unhide hS2 _).mono ?_
    rintro e w1 ⟨rfl, rfl⟩
    go_wp2
    go_ret
    exact ⟨rfl, unhide hU⟩
  have qP : decide (4096 < P) = false := by simp; omega
  by_cases hp1 : p < 1
  · rw [shapeB_no (fun h => by have := h.2.2.2.1.1; omega)]
    have q : decide (p < 1) = true := by simp; omega
    clear ha hb
    go_enter Tryd.func61, Tryd.ntmps61
    go_wp2_with fail
    refine (unhide hS _).mono ?_
    rintro e w1 ⟨rfl, rfl⟩
    go_wp2_with fail
    refine (unhide hS2 _).mono ?_
    rintro e w1 ⟨rfl, rfl⟩
    go_wp2
    go_ret
    exact ⟨rfl, unhide hU⟩
  have q1 : decide (p < 1) = false := by simp; omega
  by_cases hp2 : 4 < p
  · rw [shapeB_no (fun h => by have := h.2.2.2.1.2; omega)]
    have q : decide (4 < p) = true := by simp; omega
    clear ha hb
    go_enter Tryd.func61, Tryd.ntmps61
    go_wp2_with fail
    refine (unhide hS _).mono ?_
    rintro e w1 ⟨rfl, rfl⟩
    go_wp2_with fail
    refine (unhide hS2 _).mono ?_
    rintro e w1 ⟨rfl, rfl⟩
    go_wp2
    go_ret
    exact ⟨rfl, unhide hU⟩
  have q2 : decide (4 < p) = false := by simp; omega
  by_cases hd : depthOk dp = true
  case neg =>
    rw [shapeB_no (fun h => hd h.2.2.2.2.1)]
    have hd' : depthOk dp = false := by simpa using hd
    rw [hd'] at hD
    clear ha hb hd hd'
    go_enter Tryd.func61, Tryd.ntmps61
    go_wp2_with fail
    refine (unhide hS _).mono ?_
    rintro e w1 ⟨rfl, rfl⟩
    go_wp2_with fail
    refine (unhide hS2 _).mono ?_
    rintro e w1 ⟨rfl, rfl⟩
    go_wp2_with fail
    refine (unhide hD _).mono ?_
    rintro e w1 ⟨rfl, rfl⟩
    go_wp2
    go_ret
    exact ⟨rfl, unhide hU⟩
  rw [hd] at hD
  by_cases h1 : p = 1
  · subst h1
    rw [shapeB_yes ⟨ha, hb, by omega, ⟨by omega, by omega⟩, hd, .inl rfl⟩]
    replace hd := hide hd
    clear ha hb
    go_enter Tryd.func61, Tryd.ntmps61
    go_wp2_with fail
    refine (unhide hS _).mono ?_
    rintro e w1 ⟨rfl, rfl⟩
    go_wp2_with fail
    refine (unhide hS2 _).mono ?_
    rintro e w1 ⟨rfl, rfl⟩
    go_wp2_with fail
    refine (unhide hD _).mono ?_
    rintro e w1 ⟨rfl, rfl⟩
    go_wp2
    go_ret
    exact ⟨rfl, unhide hU⟩
  have r1 : (p == 1) = false := beq_eq_false_iff_ne.2 h1
  by_cases h8 : 8 ≤ dp
  · rw [shapeB_yes ⟨ha, hb, by omega, ⟨by omega, by omega⟩, hd, .inr h8⟩]
    have r2 : decide (8 ≤ dp) = true := by simp; omega
    replace hd := hide hd
    clear ha hb h1
    go_enter Tryd.func61, Tryd.ntmps61
    go_wp2_with fail
    refine (unhide hS _).mono ?_
    rintro e w1 ⟨rfl, rfl⟩
    go_wp2_with fail
    refine (unhide hS2 _).mono ?_
    rintro e w1 ⟨rfl, rfl⟩
    go_wp2_with fail
    refine (unhide hD _).mono ?_
    rintro e w1 ⟨rfl, rfl⟩
    go_wp2
    go_ret
    exact ⟨rfl, unhide hU⟩
  · rw [shapeB_no (fun h => by have := h.2.2.2.2.2; omega)]
    have r2 : decide (8 ≤ dp) = false := by simp; omega
    replace hd := hide hd
    clear ha hb h1
    go_enter Tryd.func61, Tryd.ntmps61
    go_wp2_with fail
    refine (unhide hS _).mono ?_
    rintro e w1 ⟨rfl, rfl⟩
    go_wp2_with fail
    refine (unhide hS2 _).mono ?_
    rintro e w1 ⟨rfl, rfl⟩
    go_wp2_with fail
    refine (unhide hD _).mono ?_
    rintro e w1 ⟨rfl, rfl⟩
    go_wp2
    go_ret
    exact ⟨rfl, unhide hU⟩

set_option maxHeartbeats 1000000 in
theorem implCountSamples (a b p dp P Q : Int) (vl : Value) (ad : Option Addr) (n cap : Nat) (w : World) (hvl : vl = .slice ad n cap) (hP : a * b = P) (hQ : P * p = Q) (P1 : 0 ≤ P) (P2 : P ≤ 1099511627776) (Q1 : 0 ≤ Q) (Q2 : Q ≤ 1099511627776) :
    Calls Tryd.prog 62 #[.agg #[.int .i64 a, .int .i64 b, .int .i64 p, .int .i64 dp, vl]] w fun e w' => e = .returned (.int .i64 Q) ∧ Upd 0 0 w w' := by
  subst hvl
  have hU := hide (Upd.of_below ((Below.refl w.heap.size w).alloc (Nat.le_refl _) (.cells #[.int .i64 a, .int .i64 b, .int .i64 p, .int .i64 dp, .slice ad n cap] 30)) 0 0)
  go_enter Tryd.func62, Tryd.ntmps62
  go_wp2
  go_ret
  exact ⟨rfl, unhide hU⟩
end Go.Proofs.YthpkngipiapbpaaDoor
