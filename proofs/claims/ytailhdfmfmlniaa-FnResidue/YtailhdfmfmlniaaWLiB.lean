/- Pairs turned and unturned: which lists may be, and a pair's numbers; the program's walks. -/
import Derived.Test.YtailhdfmfmlniaaWLiA
namespace Go.Proofs.Ytailhdfmfmlniaa
open Go.RowKit

set_option maxHeartbeats 4000000 in
theorem implGoodPairs (way : Int) (ad : Option Addr) (cap : Nat) (xs : List Int) (ad' : Option Addr) (cap' : Nat) (ys : List Int) (b : Nat) (w : World) (h1 : 1 ≤ b) (h2 : b ≤ 62) (hn : xs.length ≤ 1048576) (hn' : ys.length ≤ 1048576) (hA : ArgI w ad xs) (hA' : ArgI w ad' ys) :
    Calls Try.prog 83 #[.int .i64 way, .slice ad xs.length cap, .slice ad' ys.length cap', .int .i64 (b : Int)] w fun e w' => e = .returned (.bool (pairB (loB b) (hiB b) way xs ys)) ∧ Upd 0 0 w w' := by
  have hC := hide (fun W (h : ArgI W ad xs) => implGoodNumbers ad cap xs b W h1 h2 hn h)
  have hC' := hide (fun W (h : ArgI W ad' ys) => implGoodNumbers ad' cap' ys b W h1 h2 hn' h)
  replace hA := hide hA
  replace hA' := hide hA'
  clear h1 h2
  by_cases g0 : way < 0
  · rw [pairB_no (fun h => by have := h.1.1; omega)]
    go_enter Try.func83, Try.ntmps83
    go_wp2
    go_ret
    exact ⟨rfl, Upd.refl 0 0 _⟩
  by_cases g3 : 3 ≤ way
  · rw [pairB_no (fun h => by have := h.1.2; omega)]
    go_enter Try.func83, Try.ntmps83
    go_wp2
    go_ret
    exact ⟨rfl, Upd.refl 0 0 _⟩
  by_cases gl : xs.length = ys.length
  case neg =>
    rw [pairB_no (fun h => gl h.2.1)]
    have q : ((xs.length : Int) == (ys.length : Int)) = false := by rw [beq_eq_false_iff_ne]; omega
    clear gl
    go_enter Try.func83, Try.ntmps83
    go_wp2
    go_ret
    exact ⟨rfl, Upd.refl 0 0 _⟩
  rw [pairB_eq _ _ _ _ _ (by omega) (by omega) gl]
  have q : ((xs.length : Int) == (ys.length : Int)) = true := by rw [beq_iff_eq]; omega
  clear gl
  generalize lsB (loB b) (hiB b) xs = q1 at hC ⊢
  generalize lsB (loB b) (hiB b) ys = q2 at hC' ⊢
  cases q1
  · go_enter Try.func83, Try.ntmps83
    go_wp2_with fail
    refine (unhide hC _ (unhide hA)).mono ?_
    rintro e w1 ⟨rfl, hu⟩
    go_wp2
    go_ret
    exact ⟨rfl, hu⟩
  · go_enter Try.func83, Try.ntmps83
    go_wp2_with fail
    refine (unhide hC _ (unhide hA)).mono ?_
    rintro e w1 ⟨rfl, hu⟩
    have hA2 := hide ((unhide hA').below hu.none)
    replace hu := hide hu
    go_wp2_with fail
    refine (unhide hC' _ (unhide hA2)).mono ?_
    rintro e w2 ⟨rfl, hu2⟩
    go_wp2
    go_ret
    exact ⟨rfl, (unhide hu).trans hu2⟩

set_option maxHeartbeats 2000000 in
theorem implTurned (way a b : Int) (w : World) (hw : 0 ≤ way ∧ way ≤ 2) (ha : -268435456 ≤ a ∧ a ≤ 268435455) (hb : -268435456 ≤ b ∧ b ≤ 268435455) :
    Calls Try.prog 85 #[.int .i64 way, .int .i64 a, .int .i64 b] w fun e w' => e = .returned (.tuple #[.int .i64 (turA way a b), .int .i64 (turB way a b)]) ∧ w' = w := by
  obtain ⟨a1, a2⟩ := ha
  obtain ⟨b1, b2⟩ := hb
  rcases (show way = 0 ∨ way = 1 ∨ way = 2 by omega) with e | e | e <;> subst e
  · have e1 : turA 0 a b = a := rfl
    have e2 : turB 0 a b = b := rfl
    rw [e1, e2]
    go_enter Try.func85, Try.ntmps85
    go_wp2
    go_ret2
    exact ⟨rfl, rfl⟩
  · have e1 : turA 1 a b = a := rfl
    have e2 : turB 1 a b = a - b := rfl
    rw [e1, e2]
    clear e1 e2
    go_enter Try.func85, Try.ntmps85
    go_wp2
    go_ret2
    exact ⟨rfl, rfl⟩
  · have e1 : turA 2 a b = (a + b) / 2 := rfl
    have e2 : turB 2 a b = a - b := rfl
    rw [e1, e2]
    clear e1 e2
    go_enter Try.func85, Try.ntmps85
    go_wp2
    go_ret2
    exact ⟨rfl, rfl⟩
set_option maxHeartbeats 2000000 in
theorem implUnturned (way a b : Int) (w : World) (hw : 0 ≤ way ∧ way ≤ 2) (ha : -268435456 ≤ a ∧ a ≤ 268435455) (hb : -268435456 ≤ b ∧ b ≤ 268435455) :
    Calls Try.prog 86 #[.int .i64 way, .int .i64 a, .int .i64 b] w fun e w' => e = .returned (.tuple #[.int .i64 (untA way a b), .int .i64 (untB way a b)]) ∧ w' = w := by
  obtain ⟨a1, a2⟩ := ha
  obtain ⟨b1, b2⟩ := hb
  rcases (show way = 0 ∨ way = 1 ∨ way = 2 by omega) with e | e | e <;> subst e
  · have e1 : untA 0 a b = a := rfl
    have e2 : untB 0 a b = b := rfl
    rw [e1, e2]
    go_enter Try.func86, Try.ntmps86
    go_wp2
    go_ret2
    exact ⟨rfl, rfl⟩
  · have e1 : untA 1 a b = a := rfl
    have e2 : untB 1 a b = a - b := rfl
    rw [e1, e2]
    clear e1 e2
    go_enter Try.func86, Try.ntmps86
    go_wp2
    go_ret2
    exact ⟨rfl, rfl⟩
  · have e1 : untA 2 a b = a + (b + 1) / 2 := rfl
    have e2 : untB 2 a b = a + (b + 1) / 2 - b := rfl
    rw [e1, e2]
    clear e1 e2
    go_enter Try.func86, Try.ntmps86
    go_wp2
    go_ret2
    exact ⟨rfl, rfl⟩
end Go.Proofs.Ytailhdfmfmlniaa
