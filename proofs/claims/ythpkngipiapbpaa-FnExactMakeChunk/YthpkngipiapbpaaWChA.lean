/- Chunks: names, and numbers in four bytes; the specification's and the program's. -/
import Derived.Test.YthpkngipiapbpaaPlainCh
import Derived.Test.YthpkngipiapbpaaWByts
namespace Go.Proofs.Ythpkngipiapbpaa
open Go.RowKit

theorem letter_cases (x : Int) : (97 ≤ x ∧ x ≤ 122) ∨ (122 < x) ∨ (x < 97 ∧ 90 < x) ∨ (65 ≤ x ∧ x ≤ 90) ∨ x < 65 := by omega

set_option maxHeartbeats 1000000 in
theorem implIsCapital (x : Int) (w : World) :
    Calls Try.prog 27 #[.int .u8 x] w fun e w' => e = .returned (.bool (decide (65 ≤ x) && decide (x ≤ 90))) ∧ w' = w := by
  by_cases h1 : 65 ≤ x
  · by_cases h2 : x ≤ 90
    · rw [show (decide (65 ≤ x) && decide (x ≤ 90)) = true by simp [h1, h2]]
      go_enter Try.func27, Try.ntmps27
      go_wp2
      go_ret
      exact ⟨rfl, rfl⟩
    · rw [show (decide (65 ≤ x) && decide (x ≤ 90)) = false by simp [h2]]
      go_enter Try.func27, Try.ntmps27
      go_wp2
      go_ret
      exact ⟨rfl, rfl⟩
  · rw [show (decide (65 ≤ x) && decide (x ≤ 90)) = false by simp [h1]]
    go_enter Try.func27, Try.ntmps27
    go_wp2
    go_ret
    exact ⟨rfl, rfl⟩

set_option maxHeartbeats 1000000 in
theorem implIsLetter (x : Int) (w : World) :
    Calls Try.prog 22 #[.int .u8 x] w fun e w' => e = .returned (.bool (letterI x)) ∧ w' = w := by
  have hC := hide (implIsCapital x w)
  rcases letter_cases x with h | h | h | h | h
  · rw [show (decide (65 ≤ x) && decide (x ≤ 90)) = false by simp; omega] at hC
    rw [show letterI x = true by unfold letterI; simp; omega]
    have h1 := h.1
    have h2 := h.2
    go_enter Try.func22, Try.ntmps22
    go_wp2_with fail
    refine (unhide hC).mono ?_
    rintro e w1 ⟨rfl, rfl⟩
    go_wp2
    go_ret
    exact ⟨by first | rfl | (simp; omega), rfl⟩
  · rw [show (decide (65 ≤ x) && decide (x ≤ 90)) = false by simp; omega] at hC
    rw [show letterI x = false by unfold letterI; simp; omega]
    have h1 : 97 ≤ x := by omega
    have h2 : ¬ x ≤ 122 := by omega
    go_enter Try.func22, Try.ntmps22
    go_wp2_with fail
    refine (unhide hC).mono ?_
    rintro e w1 ⟨rfl, rfl⟩
    go_wp2
    go_ret
    exact ⟨by first | rfl | (simp; omega), rfl⟩
  · rw [show (decide (65 ≤ x) && decide (x ≤ 90)) = false by simp; omega] at hC
    rw [show letterI x = false by unfold letterI; simp; omega]
    have h1 : ¬ 97 ≤ x := by omega
    go_enter Try.func22, Try.ntmps22
    go_wp2_with fail
    refine (unhide hC).mono ?_
    rintro e w1 ⟨rfl, rfl⟩
    go_wp2
    go_ret
    exact ⟨by first | rfl | (simp; omega), rfl⟩
  · rw [show (decide (65 ≤ x) && decide (x ≤ 90)) = true by simp; omega] at hC
    rw [show letterI x = true by unfold letterI; simp; omega]
    go_enter Try.func22, Try.ntmps22
    go_wp2_with fail
    refine (unhide hC).mono ?_
    rintro e w1 ⟨rfl, rfl⟩
    go_wp2
    go_ret
    exact ⟨by first | rfl | (simp; omega), rfl⟩
  · rw [show (decide (65 ≤ x) && decide (x ≤ 90)) = false by simp; omega] at hC
    rw [show letterI x = false by unfold letterI; simp; omega]
    have h1 : ¬ 97 ≤ x := by omega
    go_enter Try.func22, Try.ntmps22
    go_wp2_with fail
    refine (unhide hC).mono ?_
    rintro e w1 ⟨rfl, rfl⟩
    go_wp2
    go_ret
    exact ⟨by first | rfl | (simp; omega), rfl⟩

theorem eq4 (n : Nat) : (decide ((n : Int) = 4)) = decide (n = 4) := by simp; omega

set_option maxHeartbeats 2000000 in
theorem implGoodName (s : ByteArray) (w : World) (hs : s.size ≤ 1048576) :
    Calls Try.prog 18 #[.string s] w fun e w' => e = .returned (.bool (nameB s)) ∧ w' = w := by
  have hBad : Hid (∀ k, (h : k < s.size) → letterI ((s[k]'h).toNat : Int) = false → nameB s = false) := hide (fun k hk hb => nameB_no (fun h => by have := h.2 k hk; rw [strB_getD s k hk, hb] at this; cases this))
  have hGood : Hid ((∀ k, (h : k < s.size) → letterI ((s[k]'h).toNat : Int) = true) → s.size = 4 → nameB s = true) := hide (fun h h4 => nameB_yes ⟨h4, fun k hk => by rw [strB_getD s k hk]; exact h k hk⟩)
  have hLen : Hid (¬ s.size = 4 → nameB s = false) := hide (fun h => nameB_no (fun h' => h h'.1))
  go_enter Try.func18, Try.ntmps18
  go_wp2
  go_loop [6] (fun i => ∃ k : Nat, k ≤ s.size ∧ i = .int .i64 k ∧ Hid (∀ j, (h : j < s.size) → j < k → letterI ((s[j]'h).toNat : Int) = true)) (fun i => s.size - (intOf i).toNat)
  case atStart => exact ⟨0, Nat.zero_le _, rfl, fun j hj hlt => by omega⟩
  case round =>
    obtain ⟨k, hk, rfl, hok⟩ := hrel
    by_cases hlt : k < s.size
    · have hL := hide (implIsLetter ((s[k]'hlt).toNat : Int) w)
      have hb := hide (unhide hBad k hlt)
      have ho := hide (fun (h : letterI ((s[k]'hlt).toNat : Int) = true) => show ∀ j, (h : j < s.size) → j < k + 1 → letterI ((s[j]'h).toNat : Int) = true from fun j hj hjk => by
        rcases Nat.lt_or_eq_of_le (Nat.le_of_lt_succ hjk) with h' | h'
        · exact unhide hok j hj h'
        · subst h'; exact h)
      by_cases hl : letterI ((s[k]'hlt).toNat : Int) = true
      · have ho2 := hide (unhide ho hl)
        rw [hl] at hL
        clear hl ho hb
        go_wp2_with fail
        refine (unhide hL).mono ?_
        rintro e w1 ⟨rfl, rfl⟩
        go_wp2
        go_round
        case rel => exact ⟨k + 1, by omega, by go_num, unhide ho2⟩
        case measure => simp [intOf]; omega
      · have hl' : letterI ((s[k]'hlt).toNat : Int) = false := by simpa using hl
        have hb2 := hide (unhide hb hl')
        rw [hl'] at hL
        clear hl hl' ho hb
        go_wp2_with fail
        refine (unhide hL).mono ?_
        rintro e w1 ⟨rfl, rfl⟩
        go_wp2
        go_ret
        exact ⟨by rw [unhide hb2]; rfl, rfl⟩
    · have hkl : k = s.size := by omega
      subst hkl
      have hall : ∀ j, (h : j < s.size) → letterI ((s[j]'h).toNat : Int) = true := fun j h => unhide hok j h h
      by_cases h4 : s.size = 4
      · have hg := hide (unhide hGood hall h4)
        have q : (decide ((s.size : Int) = 4)) = true := by simp; omega
        clear hall hok
        go_wp2
        go_ret
        exact ⟨by rw [unhide hg]; simp, rfl⟩
      · have hg := hide (unhide hLen h4)
        clear hall hok
        go_wp2
        go_ret
        exact ⟨by rw [unhide hg]; simp; omega, rfl⟩
end Go.Proofs.Ythpkngipiapbpaa
