/- Chunks: names and numbers in four bytes, as the specification has them. -/
import Derived.Test.YthpkngipiapbpaaWChA
namespace Go.Proofs.Ythpkngipiapbpaa
open Go.RowKit

set_option maxHeartbeats 4000000 in
theorem specL5Name (s : ByteArray) (w : World) (hs : s.size ≤ 1048576) :
    Calls Try.prog 14 #[.string s] w fun e w' => e = .returned (.bool (nameB s)) ∧ w' = w := by
  have hBad : Hid (∀ k, (h : k < s.size) → letterI ((s[k]'h).toNat : Int) = false → nameB s = false) := hide (fun k hk hb => nameB_no (fun h => by have := h.2 k hk; rw [strB_getD s k hk, hb] at this; cases this))
  have hGood : Hid ((∀ k, (h : k < s.size) → letterI ((s[k]'h).toNat : Int) = true) → s.size = 4 → nameB s = true) := hide (fun h h4 => nameB_yes ⟨h4, fun k hk => by rw [strB_getD s k hk]; exact h k hk⟩)
  have hLen : Hid (¬ s.size = 4 → nameB s = false) := hide (fun h => nameB_no (fun h' => h h'.1))
  go_enter Try.func14, Try.ntmps14
  go_wp2
  go_loop [3] (fun i => ∃ k : Nat, k ≤ s.size ∧ i = .int .i64 k ∧ Hid (∀ j, (h : j < s.size) → j < k → letterI ((s[j]'h).toNat : Int) = true)) (fun i => s.size - (intOf i).toNat)
  case atStart => exact ⟨0, Nat.zero_le _, rfl, fun j hj hlt => by omega⟩
  case round =>
    obtain ⟨k, hk, rfl, hok⟩ := hrel
    by_cases hlt : k < s.size
    · have hb := hide (unhide hBad k hlt)
      have ho := hide (fun (h : letterI ((s[k]'hlt).toNat : Int) = true) => show ∀ j, (h : j < s.size) → j < k + 1 → letterI ((s[j]'h).toNat : Int) = true from fun j hj hjk => by
        rcases Nat.lt_or_eq_of_le (Nat.le_of_lt_succ hjk) with h' | h'
        · exact unhide hok j hj h'
        · subst h'; exact h)
      rcases letter_cases ((s[k]'hlt).toNat : Int) with h | h | h | h | h
      · have h1 := h.1
        have h2 := h.2
        have ho2 := hide (unhide ho (by unfold letterI; simp; omega))
        clear h ho hb
        go_wp2
        go_round
        case rel => exact ⟨k + 1, by omega, by go_num, unhide ho2⟩
        case measure => simp [intOf]; omega
      · have h1 : (97 : Int) ≤ ((s[k]'hlt).toNat : Int) := by omega
        have h2 : ¬ ((s[k]'hlt).toNat : Int) ≤ 122 := by omega
        have h3 : (65 : Int) ≤ ((s[k]'hlt).toNat : Int) := by omega
        have h4 : ¬ ((s[k]'hlt).toNat : Int) ≤ 90 := by omega
        have hb2 := hide (unhide hb (by unfold letterI; simp; omega))
        clear h ho hb
        go_wp2
        go_ret
        exact ⟨by rw [unhide hb2]; rfl, rfl⟩
      · have h1 : ¬ (97 : Int) ≤ ((s[k]'hlt).toNat : Int) := by omega
        have h3 : (65 : Int) ≤ ((s[k]'hlt).toNat : Int) := by omega
        have h4 : ¬ ((s[k]'hlt).toNat : Int) ≤ 90 := by omega
        have hb2 := hide (unhide hb (by unfold letterI; simp; omega))
        clear h ho hb
        go_wp2
        go_ret
        exact ⟨by rw [unhide hb2]; rfl, rfl⟩
      · have h1 : ¬ (97 : Int) ≤ ((s[k]'hlt).toNat : Int) := by omega
        have h3 := h.1
        have h4 := h.2
        have ho2 := hide (unhide ho (by unfold letterI; simp; omega))
        clear h ho hb
        go_wp2
        go_round
        case rel => exact ⟨k + 1, by omega, by go_num, unhide ho2⟩
        case measure => simp [intOf]; omega
      · have h1 : ¬ (97 : Int) ≤ ((s[k]'hlt).toNat : Int) := by omega
        have h3 : ¬ (65 : Int) ≤ ((s[k]'hlt).toNat : Int) := by omega
        have hb2 := hide (unhide hb (by unfold letterI; simp; omega))
        clear h ho hb
        go_wp2
        go_ret
        exact ⟨by rw [unhide hb2]; rfl, rfl⟩
    · have hkl : k = s.size := by omega
      subst hkl
      have hall : ∀ j, (h : j < s.size) → letterI ((s[j]'h).toNat : Int) = true := fun j h => unhide hok j h h
      by_cases h4 : s.size = 4
      · have hg := hide (unhide hGood hall h4)
        have q : (decide ((s.size : Int) = 4)) = true := by simp; omega
        clear hall hok
        go_wp2
        go_ret
        exact ⟨by rw [unhide hg]; simp, rfl⟩
      · have hg := hide (unhide hLen h4)
        clear hall hok
        go_wp2
        go_ret
        exact ⟨by rw [unhide hg]; simp; omega, rfl⟩

theorem byte_top {n : Nat} (h : n < 4294967296) : (n : Int) / 16777216 = ((n / 16777216 % 256 : Nat) : Int) := by omega
set_option maxHeartbeats 1000000 in
theorem specL3Four (n : Nat) (w : World) (hn : n < 4294967296) :
    Calls Try.prog 15 #[.int .u32 (n : Int)] w fun e w' => ∃ v, e = .returned v ∧ w'.ownsRow w.heap.size 5 1 v 4 (vals (four n)) ∧ Below w.heap.size w w' := by
  go_enter Try.func15, Try.ntmps15
  go_wp2
  refine bodyPost_ret (v := .slice (some ⟨w.heap.size, 0, none⟩) 4 4) (by simp [results, Try.results15, go_sem]) rfl ⟨_, rfl, ⟨by simp [vals, four], .inr ⟨w.heap.size, 4, _, rfl, Nat.le_refl _, heap_alloc_new w _, Nat.le_refl _, by unfold maxLen; omega, rfl, ?_⟩⟩, (Below.refl _ _).alloc (Nat.le_refl _) _⟩
  simp [vals, four]
  omega
end Go.Proofs.Ythpkngipiapbpaa
