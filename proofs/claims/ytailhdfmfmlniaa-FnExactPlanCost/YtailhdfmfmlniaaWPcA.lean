/- Which plans may be: the specification's walks. -/
import Derived.Test.YtailhdfmfmlniaaPlainPc
import Derived.Test.YtailhdfmfmlniaaWLiA
import Derived.Test.YtailhdfmfmlniaaW8A
namespace Go.Proofs.Ytailhdfmfmlniaa
open Go.RowKit

instance (o p : Int) (n : Nat) : Decidable (CutOk o p n) := by unfold CutOk; infer_instance
/-- With the parts as a number. -/
def CutN (o : Int) (q n : Nat) : Prop := n % q = 0 ∧ o ≤ ((n / q : Nat) : Int)
instance (o : Int) (q n : Nat) : Decidable (CutN o q n) := by unfold CutN; infer_instance
theorem cutOk_of (o : Int) (p n : Nat) (h0 : 0 ≤ o ∧ o ≤ 4) (h1 : o ≤ n) (h2 : p ≤ 4) : CutOk o (p : Int) n ↔ CutN o (2 ^ p) n := by
  unfold CutOk CutN
  rw [Int.toNat_natCast]
  have e1 : (n : Int) % 2 ^ p = ((n % 2 ^ p : Nat) : Int) := by rw [Int.natCast_emod, Int.natCast_pow]; rfl
  have e2 : (n : Int) / 2 ^ p = ((n / 2 ^ p : Nat) : Int) := by rw [Int.natCast_ediv, Int.natCast_pow]; rfl
  rw [e1, e2]
  constructor
  · intro h; exact ⟨by have := h.2.2.2.1; omega, h.2.2.2.2⟩
  · intro h; exact ⟨h0, h1, by omega, by have := h.1; omega, h.2⟩
theorem cutN_no {o : Int} {q n : Nat} (h : ¬ n % q = 0) : ¬ CutN o q n := fun h' => h h'.1
set_option maxHeartbeats 8000000 in
theorem specL10Parts (o p : Int) (n : Nat) (w : World) (hn : n ≤ 1048576) :
    Calls Try.prog 89 #[.int .i64 o, .int .i64 p, .int .i64 (n : Int)] w fun e w' => e = .returned (.bool (decide (CutOk o p n))) ∧ w' = w := by
  by_cases h1 : o < 0
  · rw [decide_eq_false (fun h : CutOk o p n => by have := h.1; omega)]
    go_enter Try.func89, Try.ntmps89
    go_wp2
    go_ret
    exact ⟨rfl, rfl⟩
  by_cases h2 : 4 < o
  · rw [decide_eq_false (fun h : CutOk o p n => by have := h.1; omega)]
    go_enter Try.func89, Try.ntmps89
    go_wp2
    go_ret
    exact ⟨rfl, rfl⟩
  by_cases h3 : (n : Int) < o
  · rw [decide_eq_false (fun h : CutOk o p n => by have := h.2.1; omega)]
    go_enter Try.func89, Try.ntmps89
    go_wp2
    go_ret
    exact ⟨rfl, rfl⟩
  by_cases h4 : p < 0
  · rw [decide_eq_false (fun h : CutOk o p n => by have := h.2.2.1; omega)]
    go_enter Try.func89, Try.ntmps89
    go_wp2
    go_ret
    exact ⟨rfl, rfl⟩
  by_cases h5 : 4 < p
  · rw [decide_eq_false (fun h : CutOk o p n => by have := h.2.2.1; omega)]
    go_enter Try.func89, Try.ntmps89
    go_wp2
    go_ret
    exact ⟨rfl, rfl⟩
  obtain ⟨P, rfl⟩ := Int.eq_ofNat_of_zero_le (show 0 ≤ p by omega)
  have hb : decide (CutOk o (P : Int) n) = decide (CutN o (2 ^ P) n) := by rw [decide_eq_decide]; exact cutOk_of o P n (by omega) (by omega) (by omega)
  rw [hb]
  clear hb
  rcases (show P = 0 ∨ P = 1 ∨ P = 2 ∨ P = 3 ∨ P = 4 by omega) with e | e | e | e | e <;> subst e
  · by_cases hm : n % 1 = 0
    · have hc : decide (CutN o (2 ^ 0) n) = decide (o ≤ ((n / 1 : Nat) : Int)) := by rw [decide_eq_decide]; exact ⟨fun h => h.2, fun h => ⟨hm, h⟩⟩
      rw [hc]
      clear hc
      go_enter Try.func89, Try.ntmps89
      go_wp2
      all_goals
        go_ret
        exact ⟨by first | rfl | simp | (simp; done), rfl⟩
    · exact absurd (Nat.mod_one n) hm
  · by_cases hm : n % 2 = 0
    · have hc : decide (CutN o (2 ^ 1) n) = decide (o ≤ ((n / 2 : Nat) : Int)) := by rw [decide_eq_decide]; exact ⟨fun h => h.2, fun h => ⟨hm, h⟩⟩
      rw [hc]
      clear hc
      go_enter Try.func89, Try.ntmps89
      go_wp2
      all_goals
        go_ret
        exact ⟨by first | rfl | simp | (simp; done), rfl⟩
    · rw [decide_eq_false (cutN_no (o := o) (q := 2 ^ 1) hm)]
      have qm : ((n : Int) % 2 == 0) = false := by rw [beq_eq_false_iff_ne]; omega
      go_enter Try.func89, Try.ntmps89
      go_wp2
      go_ret
      exact ⟨rfl, rfl⟩
  · by_cases hm : n % 4 = 0
    · have hc : decide (CutN o (2 ^ 2) n) = decide (o ≤ ((n / 4 : Nat) : Int)) := by rw [decide_eq_decide]; exact ⟨fun h => h.2, fun h => ⟨hm, h⟩⟩
      rw [hc]
      clear hc
      go_enter Try.func89, Try.ntmps89
      go_wp2
      all_goals
        go_ret
        exact ⟨by first | rfl | simp | (simp; done), rfl⟩
    · rw [decide_eq_false (cutN_no (o := o) (q := 2 ^ 2) hm)]
      have qm : ((n : Int) % 4 == 0) = false := by rw [beq_eq_false_iff_ne]; omega
      go_enter Try.func89, Try.ntmps89
      go_wp2
      go_ret
      exact ⟨rfl, rfl⟩
  · by_cases hm : n % 8 = 0
    · have hc : decide (CutN o (2 ^ 3) n) = decide (o ≤ ((n / 8 : Nat) : Int)) := by rw [decide_eq_decide]; exact ⟨fun h => h.2, fun h => ⟨hm, h⟩⟩
      rw [hc]
      clear hc
      go_enter Try.func89, Try.ntmps89
      go_wp2
      all_goals
        go_ret
        exact ⟨by first | rfl | simp | (simp; done), rfl⟩
    · rw [decide_eq_false (cutN_no (o := o) (q := 2 ^ 3) hm)]
      have qm : ((n : Int) % 8 == 0) = false := by rw [beq_eq_false_iff_ne]; omega
      go_enter Try.func89, Try.ntmps89
      go_wp2
      go_ret
      exact ⟨rfl, rfl⟩
  · by_cases hm : n % 16 = 0
    · have hc : decide (CutN o (2 ^ 4) n) = decide (o ≤ ((n / 16 : Nat) : Int)) := by rw [decide_eq_decide]; exact ⟨fun h => h.2, fun h => ⟨hm, h⟩⟩
      rw [hc]
      clear hc
      go_enter Try.func89, Try.ntmps89
      go_wp2
      all_goals
        go_ret
        exact ⟨by first | rfl | simp | (simp; done), rfl⟩
    · rw [decide_eq_false (cutN_no (o := o) (q := 2 ^ 4) hm)]
      have qm : ((n : Int) % 16 == 0) = false := by rw [beq_eq_false_iff_ne]; omega
      go_enter Try.func89, Try.ntmps89
      go_wp2
      go_ret
      exact ⟨rfl, rfl⟩
end Go.Proofs.Ytailhdfmfmlniaa
