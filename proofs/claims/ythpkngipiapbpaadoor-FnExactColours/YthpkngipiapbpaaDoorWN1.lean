/- Notes as arguments and answers; the walks of the laws' own helpers on them. -/
import Derived.Test.YthpkngipiapbpaaDoorWIm
import Derived.Deep.RegionHeld3
namespace Go.Proofs.YthpkngipiapbpaaDoor
open Go.RowKit

abbrev N1 := ByteArray × ByteArray
abbrev N1v (d : N1) : Value := .agg #[.string d.1, .string d.2]
def RdN1 (_w : World) (v : Value) (d : N1) : Prop := v = N1v d
def OwnN1 (_w : World) (_a _b : Nat) (v : Value) (d : N1) : Prop := v = N1v d
theorem OwnN1.rd {w : World} {a b : Nat} {v : Value} {d : N1} (h : OwnN1 w a b v d) : RdN1 w v d := h
theorem RdN1.below {w w' : World} {v : Value} {d : N1} (h : RdN1 w v d) (_hb : Below w.heap.size w w') : RdN1 w' v d := h
theorem OwnN1.upd {w w' : World} {a b c e : Nat} {v : Value} {d : N1} (h : OwnN1 w a b v d) (_u : Upd c e w w') (_hd : b ≤ c ∨ e ≤ a) : OwnN1 w' a b v d := h
theorem OwnN1.keep {w w' : World} {a b : Nat} {v : Value} {d : N1} (h : OwnN1 w a b v d) (_u : Upd 0 0 w w') : OwnN1 w' a b v d := h
theorem OwnN1.form {w : World} {a b : Nat} {v : Value} {d : N1} (h : OwnN1 w a b v d) : v = N1v d := h
def N1Count (_d : N1) : Nat := 0
def N1Marked (_k : Nat) (d : N1) : N1 := d
/-- All numbers fit. -/
def InN1 (d : N1) : Prop := d.1.size ≤ 9223372036854775807 ∧ d.2.size ≤ 9223372036854775807

set_option maxHeartbeats 2000000 in
theorem szNote_any (x0 : ByteArray) (x1 : ByteArray) (left : Int) (w : World) (h0 : 0 ≤ left) (h1 : left ≤ 1099511627776) (hb0 : x0.size ≤ 9223372036854775807) (hb1 : x1.size ≤ 9223372036854775807) :
    Calls Tryd.prog 55 #[.agg #[.string x0, .string x1], .int .i64 left] w fun e w' => e = .returned (.int .i64 (if left < ((x0.size + x1.size : Nat) : Int) then -1 else left - ((x0.size + x1.size : Nat) : Int))) ∧ Upd 0 0 w w' := by
  have hB := hide (Upd.of_below ((Below.refl w.heap.size w).alloc (Nat.le_refl _) (.cells #[.string x0, .string x1] 90)) 0 0)
  by_cases hlt0 : left < ((x0.size : Nat) : Int)
  · rw [if_pos (by omega)]
    have q0 : decide (left - ((x0.size : Nat) : Int) < 0) = true := by simp; omega
    go_enter Tryd.func55, Tryd.ntmps55
    go_wp2
    go_ret
    exact ⟨by first | rfl | exact ret_int (by omega), unhide hB⟩
  · skip
    by_cases hlt1 : left < ((x0.size + x1.size : Nat) : Int)
    · rw [if_pos (by omega)]
      have q0 : decide (left - ((x0.size : Nat) : Int) < 0) = false := by simp; omega
      have q1 : decide (left - ((x0.size : Nat) : Int) - ((x1.size : Nat) : Int) < 0) = true := by simp; omega
      go_enter Tryd.func55, Tryd.ntmps55
      go_wp2
      go_ret
      exact ⟨by first | rfl | exact ret_int (by omega), unhide hB⟩
    · skip
      rw [if_neg (by omega)]
      have q0 : decide (left - ((x0.size : Nat) : Int) < 0) = false := by simp; omega
      have q1 : decide (left - ((x0.size : Nat) : Int) - ((x1.size : Nat) : Int) < 0) = false := by simp; omega
      go_enter Tryd.func55, Tryd.ntmps55
      go_wp2
      go_ret
      exact ⟨by first | rfl | exact ret_int (by omega), unhide hB⟩

set_option maxHeartbeats 2000000 in
set_option maxRecDepth 100000 in
theorem toNote_own (v : Value) (d : N1) (w : World) (hv : RdN1 w v d) :
    Calls Tryd.prog 60 #[v] w fun e w' => ∃ u, e = .returned u ∧ OwnN1 w' w.heap.size w'.heap.size u d ∧ Upd 0 0 w w' := by
  subst hv
  obtain ⟨x0, x1⟩ := d
  simp only [N1v]
  go_enter Tryd.func60, Tryd.ntmps60
  go_wp2
  refine bodyPost_ret (v := .agg #[.string x0, .string x1]) (by simp [results, Tryd.results60, go_sem]) rfl ⟨_, rfl, rfl, Upd.of_below ?_ 0 0⟩
  repeat (first | exact Below.refl _ _ | refine Below.setCell ?_ (by simp) _ | refine Below.alloc ?_ (by first | exact Nat.le_refl _ | (simp; done) | (simp; omega)) _)

set_option maxHeartbeats 2000000 in
set_option maxRecDepth 100000 in
theorem eqNote_rd (u v : Value) (d : N1) (w : World) (hu : RdN1 w u d) (hv : RdN1 w v d) :
    Calls Tryd.prog 70 #[u, v] w fun e w' => e = .returned (.bool true) ∧ Upd 0 0 w w' := by
  subst hu hv
  obtain ⟨x0, x1⟩ := d
  simp only [N1v]
  go_enter Tryd.func70, Tryd.ntmps70
  go_wp2
  go_ret
  refine ⟨rfl, Upd.of_below ?_ 0 0⟩
  repeat (first | exact Below.refl _ _ | refine Below.alloc ?_ (by first | exact Nat.le_refl _ | (simp; done) | (simp; omega)) _)
end Go.Proofs.YthpkngipiapbpaaDoor
