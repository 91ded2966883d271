/- Good moving pictures: how many bits colours have, colours, pixels. -/
import Derived.Test.YtnfifpngiocbnaaPlainM
namespace Go.Proofs.Ytnfifpngiocbnaa
open Go.RowKit

set_option maxHeartbeats 4000000 in
theorem specL6Log (n : Nat) (w : World) (hn : n ≤ 1048576) : Calls Try.prog 82 #[.int .i64 (n : Int)] w fun e w' => e = .returned (.int .i64 ((logB n : Nat) : Int)) ∧ w' = w := by
  go_enter Try.func82, Try.ntmps82
  go_wp2
  go_loop [3] (fun i => ∃ k : Nat, 1 ≤ k ∧ k ≤ 9 ∧ i = .int .i64 k ∧ Hid (∀ j, 1 ≤ j → j < k → n ≠ 2 ^ j)) (fun i => 9 - (intOf i).toNat)
  case atStart => exact ⟨1, by omega, by omega, rfl, hide (fun j h1 h2 => by omega)⟩
  case round =>
    obtain ⟨k, h1, h2, rfl, hno⟩ := hrel
    rcases (show k = 1 ∨ k = 2 ∨ k = 3 ∨ k = 4 ∨ k = 5 ∨ k = 6 ∨ k = 7 ∨ k = 8 ∨ k = 9 by omega) with rfl | rfl | rfl | rfl | rfl | rfl | rfl | rfl | rfl
    · by_cases he : n = 2
      · subst he
        clear hno hn h1 h2
        go_wp2
        go_ret
        exact ⟨rfl, rfl⟩
      · have hno2 : Hid (∀ j, 1 ≤ j → j < 2 → n ≠ 2 ^ j) := hide (fun j a b => by
          by_cases e : j < 1
          · exact unhide hno j a e
          · have : j = 1 := by omega
            subst this; exact he)
        have q : ((n : Int) == 2) = false := beq_eq_false_iff_ne.2 (by omega)
        replace he := hide he
        clear hno h1 h2
        go_wp2
        go_round
        case rel => exact ⟨2, by omega, by omega, rfl, hno2⟩
        case measure => simp [intOf]
    · by_cases he : n = 4
      · subst he
        clear hno hn h1 h2
        go_wp2
        go_ret
        exact ⟨rfl, rfl⟩
      · have hno2 : Hid (∀ j, 1 ≤ j → j < 3 → n ≠ 2 ^ j) := hide (fun j a b => by
          by_cases e : j < 2
          · exact unhide hno j a e
          · have : j = 2 := by omega
            subst this; exact he)
        have q : ((n : Int) == 4) = false := beq_eq_false_iff_ne.2 (by omega)
        replace he := hide he
        clear hno h1 h2
        go_wp2
        go_round
        case rel => exact ⟨3, by omega, by omega, rfl, hno2⟩
        case measure => simp [intOf]
    · by_cases he : n = 8
      · subst he
        clear hno hn h1 h2
        go_wp2
        go_ret
        exact ⟨rfl, rfl⟩
      · have hno2 : Hid (∀ j, 1 ≤ j → j < 4 → n ≠ 2 ^ j) := hide (fun j a b => by
          by_cases e : j < 3
          · exact unhide hno j a e
          · have : j = 3 := by omega
            subst this; exact he)
        have q : ((n : Int) == 8) = false := beq_eq_false_iff_ne.2 (by omega)
        replace he := hide he
        clear hno h1 h2
        go_wp2
        go_round
        case rel => exact ⟨4, by omega, by omega, rfl, hno2⟩
        case measure => simp [intOf]
    · by_cases he : n = 16
      · subst he
        clear hno hn h1 h2
        go_wp2
        go_ret
        exact ⟨rfl, rfl⟩
      · have hno2 : Hid (∀ j, 1 ≤ j → j < 5 → n ≠ 2 ^ j) := hide (fun j a b => by
          by_cases e : j < 4
          · exact unhide hno j a e
          · have : j = 4 := by omega
            subst this; exact he)
        have q : ((n : Int) == 16) = false := beq_eq_false_iff_ne.2 (by omega)
        replace he := hide he
        clear hno h1 h2
        go_wp2
        go_round
        case rel => exact ⟨5, by omega, by omega, rfl, hno2⟩
        case measure => simp [intOf]
    · by_cases he : n = 32
      · subst he
        clear hno hn h1 h2
        go_wp2
        go_ret
        exact ⟨rfl, rfl⟩
      · have hno2 : Hid (∀ j, 1 ≤ j → j < 6 → n ≠ 2 ^ j) := hide (fun j a b => by
          by_cases e : j < 5
          · exact unhide hno j a e
          · have : j = 5 := by omega
            subst this; exact he)
        have q : ((n : Int) == 32) = false := beq_eq_false_iff_ne.2 (by omega)
        replace he := hide he
        clear hno h1 h2
        go_wp2
        go_round
        case rel => exact ⟨6, by omega, by omega, rfl, hno2⟩
        case measure => simp [intOf]
    · by_cases he : n = 64
      · subst he
        clear hno hn h1 h2
        go_wp2
        go_ret
        exact ⟨rfl, rfl⟩
      · have hno2 : Hid (∀ j, 1 ≤ j → j < 7 → n ≠ 2 ^ j) := hide (fun j a b => by
          by_cases e : j < 6
          · exact unhide hno j a e
          · have : j = 6 := by omega
            subst this; exact he)
        have q : ((n : Int) == 64) = false := beq_eq_false_iff_ne.2 (by omega)
        replace he := hide he
        clear hno h1 h2
        go_wp2
        go_round
        case rel => exact ⟨7, by omega, by omega, rfl, hno2⟩
        case measure => simp [intOf]
    · by_cases he : n = 128
      · subst he
        clear hno hn h1 h2
        go_wp2
        go_ret
        exact ⟨rfl, rfl⟩
      · have hno2 : Hid (∀ j, 1 ≤ j → j < 8 → n ≠ 2 ^ j) := hide (fun j a b => by
          by_cases e : j < 7
          · exact unhide hno j a e
          · have : j = 7 := by omega
            subst this; exact he)
        have q : ((n : Int) == 128) = false := beq_eq_false_iff_ne.2 (by omega)
        replace he := hide he
        clear hno h1 h2
        go_wp2
        go_round
        case rel => exact ⟨8, by omega, by omega, rfl, hno2⟩
        case measure => simp [intOf]
    · by_cases he : n = 256
      · subst he
        clear hno hn h1 h2
        go_wp2
        go_ret
        exact ⟨rfl, rfl⟩
      · have hno2 : Hid (∀ j, 1 ≤ j → j < 9 → n ≠ 2 ^ j) := hide (fun j a b => by
          by_cases e : j < 8
          · exact unhide hno j a e
          · have : j = 8 := by omega
            subst this; exact he)
        have q : ((n : Int) == 256) = false := beq_eq_false_iff_ne.2 (by omega)
        replace he := hide he
        clear hno h1 h2
        go_wp2
        go_round
        case rel => exact ⟨9, by omega, by omega, rfl, hno2⟩
        case measure => simp [intOf]
    · have hE : logB n = 0 := by
        have g : ∀ j, 1 ≤ j → j < 9 → n ≠ 2 ^ j := unhide hno
        have g1 := g 1 (by omega) (by omega); have g2 := g 2 (by omega) (by omega); have g3 := g 3 (by omega) (by omega); have g4 := g 4 (by omega) (by omega)
        have g5 := g 5 (by omega) (by omega); have g6 := g 6 (by omega) (by omega); have g7 := g 7 (by omega) (by omega); have g8 := g 8 (by omega) (by omega)
        rcases logB_cases n with h | h | h | h | h | h | h | h | h <;> omega
      replace hE := hide hE
      clear hno h1 h2
      go_wp2
      go_ret
      exact ⟨by rw [unhide hE]; rfl, rfl⟩

set_option maxHeartbeats 4000000 in
theorem implPaletteBits (n : Nat) (w : World) (hn : n ≤ 1048576) : Calls Try.prog 126 #[.int .i64 (n : Int)] w fun e w' => e = .returned (.int .i64 ((logB n : Nat) : Int)) ∧ w' = w := by
  go_enter Try.func126, Try.ntmps126
  go_wp2
  go_loop [3] (fun i => ∃ k : Nat, 1 ≤ k ∧ k ≤ 9 ∧ i = .int .i64 k ∧ Hid (∀ j, 1 ≤ j → j < k → n ≠ 2 ^ j)) (fun i => 9 - (intOf i).toNat)
  case atStart => exact ⟨1, by omega, by omega, rfl, hide (fun j h1 h2 => by omega)⟩
  case round =>
    obtain ⟨k, h1, h2, rfl, hno⟩ := hrel
    rcases (show k = 1 ∨ k = 2 ∨ k = 3 ∨ k = 4 ∨ k = 5 ∨ k = 6 ∨ k = 7 ∨ k = 8 ∨ k = 9 by omega) with rfl | rfl | rfl | rfl | rfl | rfl | rfl | rfl | rfl
    · by_cases he : n = 2
      · subst he
        clear hno hn h1 h2
        go_wp2
        go_ret
        exact ⟨rfl, rfl⟩
      · have hno2 : Hid (∀ j, 1 ≤ j → j < 2 → n ≠ 2 ^ j) := hide (fun j a b => by
          by_cases e : j < 1
          · exact unhide hno j a e
          · have : j = 1 := by omega
            subst this; exact he)
        have q : ((n : Int) == 2) = false := beq_eq_false_iff_ne.2 (by omega)
        replace he := hide he
        clear hno h1 h2
        go_wp2
        go_round
        case rel => exact ⟨2, by omega, by omega, rfl, hno2⟩
        case measure => simp [intOf]
    · by_cases he : n = 4
      · subst he
        clear hno hn h1 h2
        go_wp2
        go_ret
        exact ⟨rfl, rfl⟩
      · have hno2 : Hid (∀ j, 1 ≤ j → j < 3 → n ≠ 2 ^ j) := hide (fun j a b => by
          by_cases e : j < 2
          · exact unhide hno j a e
          · have : j = 2 := by omega
            subst this; exact he)
        have q : ((n : Int) == 4) = false := beq_eq_false_iff_ne.2 (by omega)
        replace he := hide he
        clear hno h1 h2
        go_wp2
        go_round
        case rel => exact ⟨3, by omega, by omega, rfl, hno2⟩
        case measure => simp [intOf]
    · by_cases he : n = 8
      · subst he
        clear hno hn h1 h2
        go_wp2
        go_ret
        exact ⟨rfl, rfl⟩
      · have hno2 : Hid (∀ j, 1 ≤ j → j < 4 → n ≠ 2 ^ j) := hide (fun j a b => by
          by_cases e : j < 3
          · exact unhide hno j a e
          · have : j = 3 := by omega
            subst this; exact he)
        have q : ((n : Int) == 8) = false := beq_eq_false_iff_ne.2 (by omega)
        replace he := hide he
        clear hno h1 h2
        go_wp2
        go_round
        case rel => exact ⟨4, by omega, by omega, rfl, hno2⟩
        case measure => simp [intOf]
    · by_cases he : n = 16
      · subst he
        clear hno hn h1 h2
        go_wp2
        go_ret
        exact ⟨rfl, rfl⟩
      · have hno2 : Hid (∀ j, 1 ≤ j → j < 5 → n ≠ 2 ^ j) := hide (fun j a b => by
          by_cases e : j < 4
          · exact unhide hno j a e
          · have : j = 4 := by omega
            subst this; exact he)
        have q : ((n : Int) == 16) = false := beq_eq_false_iff_ne.2 (by omega)
        replace he := hide he
        clear hno h1 h2
        go_wp2
        go_round
        case rel => exact ⟨5, by omega, by omega, rfl, hno2⟩
        case measure => simp [intOf]
    · by_cases he : n = 32
      · subst he
        clear hno hn h1 h2
        go_wp2
        go_ret
        exact ⟨rfl, rfl⟩
      · have hno2 : Hid (∀ j, 1 ≤ j → j < 6 → n ≠ 2 ^ j) := hide (fun j a b => by
          by_cases e : j < 5
          · exact unhide hno j a e
          · have : j = 5 := by omega
            subst this; exact he)
        have q : ((n : Int) == 32) = false := beq_eq_false_iff_ne.2 (by omega)
        replace he := hide he
        clear hno h1 h2
        go_wp2
        go_round
        case rel => exact ⟨6, by omega, by omega, rfl, hno2⟩
        case measure => simp [intOf]
    · by_cases he : n = 64
      · subst he
        clear hno hn h1 h2
        go_wp2
        go_ret
        exact ⟨rfl, rfl⟩
      · have hno2 : Hid (∀ j, 1 ≤ j → j < 7 → n ≠ 2 ^ j) := hide (fun j a b => by
          by_cases e : j < 6
          · exact unhide hno j a e
          · have : j = 6 := by omega
            subst this; exact he)
        have q : ((n : Int) == 64) = false := beq_eq_false_iff_ne.2 (by omega)
        replace he := hide he
        clear hno h1 h2
        go_wp2
        go_round
        case rel => exact ⟨7, by omega, by omega, rfl, hno2⟩
        case measure => simp [intOf]
    · by_cases he : n = 128
      · subst he
        clear hno hn h1 h2
        go_wp2
        go_ret
        exact ⟨rfl, rfl⟩
      · have hno2 : Hid (∀ j, 1 ≤ j → j < 8 → n ≠ 2 ^ j) := hide (fun j a b => by
          by_cases e : j < 7
          · exact unhide hno j a e
          · have : j = 7 := by omega
            subst this; exact he)
        have q : ((n : Int) == 128) = false := beq_eq_false_iff_ne.2 (by omega)
        replace he := hide he
        clear hno h1 h2
        go_wp2
        go_round
        case rel => exact ⟨8, by omega, by omega, rfl, hno2⟩
        case measure => simp [intOf]
    · by_cases he : n = 256
      · subst he
        clear hno hn h1 h2
        go_wp2
        go_ret
        exact ⟨rfl, rfl⟩
      · have hno2 : Hid (∀ j, 1 ≤ j → j < 9 → n ≠ 2 ^ j) := hide (fun j a b => by
          by_cases e : j < 8
          · exact unhide hno j a e
          · have : j = 8 := by omega
            subst this; exact he)
        have q : ((n : Int) == 256) = false := beq_eq_false_iff_ne.2 (by omega)
        replace he := hide he
        clear hno h1 h2
        go_wp2
        go_round
        case rel => exact ⟨9, by omega, by omega, rfl, hno2⟩
        case measure => simp [intOf]
    · have hE : logB n = 0 := by
        have g : ∀ j, 1 ≤ j → j < 9 → n ≠ 2 ^ j := unhide hno
        have g1 := g 1 (by omega) (by omega); have g2 := g 2 (by omega) (by omega); have g3 := g 3 (by omega) (by omega); have g4 := g 4 (by omega) (by omega)
        have g5 := g 5 (by omega) (by omega); have g6 := g 6 (by omega) (by omega); have g7 := g 7 (by omega) (by omega); have g8 := g 8 (by omega) (by omega)
        rcases logB_cases n with h | h | h | h | h | h | h | h | h <;> omega
      replace hE := hide hE
      clear hno h1 h2
      go_wp2
      go_ret
      exact ⟨by rw [unhide hE]; rfl, rfl⟩

set_option maxHeartbeats 2000000 in
theorem specL5Cols (v : Value) (zs : List Int) (w : World) (hn : zs.length ≤ 1048576) (hv : RdI w v zs) :
    Calls Try.prog 129 #[v] w fun e w' => e = .returned (.bool (mB (ColsOk zs))) ∧ w' = w := by
  obtain ⟨ad, cap, rfl, hA⟩ := hv
  replace hA := hide hA
  have hBad : Hid (∀ k, k < zs.length → ¬ (0 ≤ zs.getD k 0 ∧ zs.getD k 0 ≤ 16777215) → mB (ColsOk zs) = false) := hide (fun k hk hb => mB_no (fun h => hb (h.2 k hk)))
  have hGood : Hid ((∀ k, k < zs.length → (0 ≤ zs.getD k 0 ∧ zs.getD k 0 ≤ 16777215)) → zs.length ≤ 256 → mB (ColsOk zs) = true) := hide (fun h h2 => mB_yes ⟨h2, h⟩)
  have hLong : Hid (256 < zs.length → mB (ColsOk zs) = false) := hide (fun h => mB_no (fun h' => by have := h'.1; omega))
  go_enter Try.func129, Try.ntmps129
  go_wp2
  go_loop [7] (fun i => ∃ k : Nat, k ≤ zs.length ∧ i = .int .i64 k ∧ Hid (∀ j, j < k → (0 ≤ zs.getD j 0 ∧ zs.getD j 0 ≤ 16777215))) (fun i => zs.length - (intOf i).toNat)
  case atStart => exact ⟨0, Nat.zero_le _, rfl, fun j hj => by omega⟩
  case round =>
    obtain ⟨k, hk', rfl, hok⟩ := hrel
    by_cases hlt : k < zs.length
    · obtain ⟨b, off, rfl, hbl, hcl⟩ := (unhide hA) (ne_of_lt_length hlt)
      have hck := hcl k hlt
      have hbad := hide (unhide hBad k hlt)
      have hOk : Hid ((0 ≤ zs.getD k 0 ∧ zs.getD k 0 ≤ 16777215) → ∀ j, j < k + 1 → (0 ≤ zs.getD j 0 ∧ zs.getD j 0 ≤ 16777215)) := hide (fun h j hj => by
        rcases Nat.lt_or_eq_of_le (Nat.le_of_lt_succ hj) with h' | h'
        · exact unhide hok j h'
        · subst h'; exact h)
      clear hcl hbl
      generalize zs.getD k 0 = x at hck hbad hOk
      by_cases h1 : x < 0
      · have hB := hide (unhide hbad (fun h => by have := h.1; omega))
        clear hbad hOk
        go_wp2
        go_ret
        exact ⟨by rw [unhide hB]; rfl, rfl⟩
      · by_cases h2 : x ≤ 16777215
        · have hok2 := hide (unhide hOk ⟨by omega, h2⟩)
          clear hbad hOk
          go_wp2
          all_goals
            go_round
            case rel => exact ⟨k + 1, by omega, by go_num, unhide hok2⟩
            case measure => simp [intOf]; omega
        · have hB := hide (unhide hbad (fun h => h2 h.2))
          have h3 : 16777215 < x := by omega
          clear hbad hOk
          go_wp2
          go_ret
          exact ⟨by rw [unhide hB]; rfl, rfl⟩
    · have hkl : k = zs.length := by omega
      subst hkl
      by_cases h2 : zs.length ≤ 256
      · have hs := hide (unhide hGood (unhide hok) h2)
        go_wp2
        go_ret
        exact ⟨by rw [unhide hs]; simp; omega, rfl⟩
      · have hs := hide (unhide hLong (by omega))
        go_wp2
        go_ret
        exact ⟨by rw [unhide hs]; simp; omega, rfl⟩

set_option maxHeartbeats 2000000 in
theorem implGoodColours (v : Value) (zs : List Int) (w : World) (hn : zs.length ≤ 1048576) (hv : RdI w v zs) :
    Calls Try.prog 142 #[v] w fun e w' => e = .returned (.bool (mB (ColsOk zs))) ∧ w' = w := by
  obtain ⟨ad, cap, rfl, hA⟩ := hv
  replace hA := hide hA
  have hBad : Hid (∀ k, k < zs.length → ¬ (0 ≤ zs.getD k 0 ∧ zs.getD k 0 ≤ 16777215) → mB (ColsOk zs) = false) := hide (fun k hk hb => mB_no (fun h => hb (h.2 k hk)))
  have hGood : Hid ((∀ k, k < zs.length → (0 ≤ zs.getD k 0 ∧ zs.getD k 0 ≤ 16777215)) → zs.length ≤ 256 → mB (ColsOk zs) = true) := hide (fun h h2 => mB_yes ⟨h2, h⟩)
  have hLong : Hid (256 < zs.length → mB (ColsOk zs) = false) := hide (fun h => mB_no (fun h' => by have := h'.1; omega))
  go_enter Try.func142, Try.ntmps142
  go_wp2
  go_loop [7] (fun i => ∃ k : Nat, k ≤ zs.length ∧ i = .int .i64 k ∧ Hid (∀ j, j < k → (0 ≤ zs.getD j 0 ∧ zs.getD j 0 ≤ 16777215))) (fun i => zs.length - (intOf i).toNat)
  case atStart => exact ⟨0, Nat.zero_le _, rfl, fun j hj => by omega⟩
  case round =>
    obtain ⟨k, hk', rfl, hok⟩ := hrel
    by_cases hlt : k < zs.length
    · obtain ⟨b, off, rfl, hbl, hcl⟩ := (unhide hA) (ne_of_lt_length hlt)
      have hck := hcl k hlt
      have hbad := hide (unhide hBad k hlt)
      have hOk : Hid ((0 ≤ zs.getD k 0 ∧ zs.getD k 0 ≤ 16777215) → ∀ j, j < k + 1 → (0 ≤ zs.getD j 0 ∧ zs.getD j 0 ≤ 16777215)) := hide (fun h j hj => by
        rcases Nat.lt_or_eq_of_le (Nat.le_of_lt_succ hj) with h' | h'
        · exact unhide hok j h'
        · subst h'; exact h)
      clear hcl hbl
      generalize zs.getD k 0 = x at hck hbad hOk
      by_cases h1 : x < 0
      · have hB := hide (unhide hbad (fun h => by have := h.1; omega))
        clear hbad hOk
        go_wp2
        go_ret
        exact ⟨by rw [unhide hB]; rfl, rfl⟩
      · by_cases h2 : x ≤ 16777215
        · have hok2 := hide (unhide hOk ⟨by omega, h2⟩)
          clear hbad hOk
          go_wp2
          all_goals
            go_round
            case rel => exact ⟨k + 1, by omega, by go_num, unhide hok2⟩
            case measure => simp [intOf]; omega
        · have hB := hide (unhide hbad (fun h => h2 h.2))
          have h3 : 16777215 < x := by omega
          clear hbad hOk
          go_wp2
          go_ret
          exact ⟨by rw [unhide hB]; rfl, rfl⟩
    · have hkl : k = zs.length := by omega
      subst hkl
      by_cases h2 : zs.length ≤ 256
      · have hs := hide (unhide hGood (unhide hok) h2)
        go_wp2
        go_ret
        exact ⟨by rw [unhide hs]; simp; omega, rfl⟩
      · have hs := hide (unhide hLong (by omega))
        go_wp2
        go_ret
        exact ⟨by rw [unhide hs]; simp; omega, rfl⟩


set_option maxHeartbeats 4000000 in
theorem specL6Pixels (a b l : Int) (adp adf : Option Addr) (np cpp nf cpf : Nat) (v : Value) (zs : List Int) (w : World) (_hp : np ≤ 1048576) (hn : zs.length ≤ 1048576) (hv : RdI w v zs) :
    Calls Try.prog 76 #[.agg #[.int .i64 a, .int .i64 b, .slice adp np cpp, .int .i64 l, .slice adf nf cpf], v] w fun e w' => e = .returned (.bool (mB (PixOk np zs))) ∧ Upd 0 0 w w' := by
  obtain ⟨ad, cap, rfl, hA⟩ := hv
  replace hA := hide hA
  have hBad : Hid (∀ k, k < zs.length → ¬ (0 ≤ zs.getD k 0 ∧ zs.getD k 0 < (np : Int)) → mB (PixOk np zs) = false) := hide (fun k hk hb => mB_no (fun h => hb (h k hk)))
  have hGood : Hid ((∀ k, k < zs.length → (0 ≤ zs.getD k 0 ∧ zs.getD k 0 < (np : Int))) → mB (PixOk np zs) = true) := hide (fun h => mB_yes h)
  have hB0 := (Below.refl w.heap.size w).alloc (Nat.le_refl _) (.cells #[.int .i64 a, .int .i64 b, .slice adp np cpp, .int .i64 l, .slice adf nf cpf] 35)
  have hbx0 := held_new w [.int .i64 a, .int .i64 b, .slice adp np cpp, .int .i64 l, .slice adf nf cpf] 35
  go_enter Try.func76, Try.ntmps76
  go_wp2
  change Held (w.alloc (.cells #[.int .i64 a, .int .i64 b, .slice adp np cpp, .int .i64 l, .slice adf nf cpf] 35)) _ _ at hbx0
  generalize w.alloc (.cells #[.int .i64 a, .int .i64 b, .slice adp np cpp, .int .i64 l, .slice adf nf cpf] 35) = w0 at hbx0 hB0 ⊢
  have cb := hbx0.2 2 _ rfl
  replace hbx0 := hide hbx0
  go_loop [9] (fun i => ∃ k : Nat, k ≤ zs.length ∧ i = .int .i64 k ∧ Hid (∀ j, j < k → (0 ≤ zs.getD j 0 ∧ zs.getD j 0 < (np : Int)))) (fun i => zs.length - (intOf i).toNat)
  case atStart => exact ⟨0, Nat.zero_le _, rfl, fun j hj => by omega⟩
  case round =>
    obtain ⟨k, hk', rfl, hok⟩ := hrel
    by_cases hlt : k < zs.length
    · obtain ⟨b, off, rfl, hbl, hcl⟩ := ((unhide hA).below hB0) (ne_of_lt_length hlt)
      have hck := hcl k hlt
      have hbad := hide (unhide hBad k hlt)
      have hOk : Hid ((0 ≤ zs.getD k 0 ∧ zs.getD k 0 < (np : Int)) → ∀ j, j < k + 1 → (0 ≤ zs.getD j 0 ∧ zs.getD j 0 < (np : Int))) := hide (fun h j hj => by
        rcases Nat.lt_or_eq_of_le (Nat.le_of_lt_succ hj) with h' | h'
        · exact unhide hok j h'
        · subst h'; exact h)
      clear hcl hbl
      generalize zs.getD k 0 = x at hck hbad hOk
      by_cases h1 : x < 0
      · have hB := hide (unhide hbad (fun h => by have := h.1; omega))
        clear hbad hOk
        go_wp2
        go_ret
        exact ⟨by rw [unhide hB]; rfl, Upd.of_below hB0 0 0⟩
      · by_cases h2 : x < (np : Int)
        · have hok2 := hide (unhide hOk ⟨by omega, h2⟩)
          clear hbad hOk
          go_wp2
          all_goals
            go_round
            case rel => exact ⟨k + 1, by omega, by go_num, unhide hok2⟩
            case measure => simp [intOf]; omega
        · have hB := hide (unhide hbad (fun h => h2 h.2))
          clear hbad hOk
          go_wp2
          go_ret
          exact ⟨by rw [unhide hB]; rfl, Upd.of_below hB0 0 0⟩
    · have hkl : k = zs.length := by omega
      subst hkl
      have hs := hide (unhide hGood (unhide hok))
      go_wp2
      go_ret
      exact ⟨by rw [unhide hs]; rfl, Upd.of_below hB0 0 0⟩

set_option maxHeartbeats 1000000 in
theorem implGoodSide (a : Int) (w : World) : Calls Try.prog 135 #[.int .i64 a] w fun e w' => e = .returned (.bool (sideB a)) ∧ w' = w := by
  by_cases h1 : 1 ≤ a
  · by_cases h2 : a ≤ 512
    · rw [sideB_yes ⟨h1, h2⟩]
      go_enter Try.func135, Try.ntmps135
      go_wp2
      go_ret
      exact ⟨rfl, rfl⟩
    · rw [sideB_no (fun h => h2 h.2)]
      go_enter Try.func135, Try.ntmps135
      go_wp2
      go_ret
      exact ⟨rfl, rfl⟩
  · rw [sideB_no (fun h => h1 h.1)]
    go_enter Try.func135, Try.ntmps135
    go_wp2
    go_ret
    exact ⟨rfl, rfl⟩

set_option maxHeartbeats 1000000 in
theorem implGoodShort (a : Int) (w : World) : Calls Try.prog 143 #[.int .i64 a] w fun e w' => e = .returned (.bool (decide (0 ≤ a ∧ a ≤ 65535))) ∧ w' = w := by
  by_cases h1 : 0 ≤ a
  · by_cases h2 : a ≤ 65535
    · rw [decide_eq_true ⟨h1, h2⟩]
      go_enter Try.func143, Try.ntmps143
      go_wp2
      go_ret
      exact ⟨rfl, rfl⟩
    · rw [decide_eq_false (fun h => h2 h.2)]
      go_enter Try.func143, Try.ntmps143
      go_wp2
      go_ret
      exact ⟨rfl, rfl⟩
  · rw [decide_eq_false (fun h => h1 h.1)]
    go_enter Try.func143, Try.ntmps143
    go_wp2
    go_ret
    exact ⟨rfl, rfl⟩
end Go.Proofs.Ytnfifpngiocbnaa
