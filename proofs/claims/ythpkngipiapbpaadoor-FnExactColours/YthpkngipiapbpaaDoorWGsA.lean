/- Good stills, as the specification has them: colours and notes. -/
import Derived.Test.YthpkngipiapbpaaDoorPlainSt
namespace Go.Proofs.YthpkngipiapbpaaDoor
open Go.RowKit

set_option maxHeartbeats 2000000 in
theorem specL5Colours (v : Value) (zs : List Int) (w : World) (hn : zs.length ≤ 1048576) (hv : RdI w v zs) :
    Calls Tryd.prog 29 #[v] w fun e w' => e = .returned (.bool (pB (ColOk zs))) ∧ w' = w := by
  obtain ⟨ad, cap, rfl, hA⟩ := hv
  replace hA := hide hA
  have hBad : Hid (∀ k, k < zs.length → ¬ (0 ≤ zs.getD k 0 ∧ zs.getD k 0 ≤ 16777215) → pB (ColOk zs) = false) := hide (fun k hk hb => pB_no (fun h => hb (h.2 k hk)))
  have hGood : Hid ((∀ k, k < zs.length → (0 ≤ zs.getD k 0 ∧ zs.getD k 0 ≤ 16777215)) → zs.length ≤ 256 → pB (ColOk zs) = true) := hide (fun h h2 => pB_yes ⟨h2, h⟩)
  have hLong : Hid (256 < zs.length → pB (ColOk zs) = false) := hide (fun h => pB_no (fun h' => by have := h'.1; omega))
  go_enter Tryd.func29, Tryd.ntmps29
  go_wp2
  go_loop [7] (fun i => ∃ k : Nat, k ≤ zs.length ∧ i = .int .i64 k ∧ Hid (∀ j, j < k → (0 ≤ zs.getD j 0 ∧ zs.getD j 0 ≤ 16777215))) (fun i => zs.length - (intOf i).toNat)
  case atStart => exact ⟨0, Nat.zero_le _, rfl, fun j hj => by omega⟩
  case round =>
    obtain ⟨k, hk', rfl, hok⟩ := hrel
    by_cases hlt : k < zs.length
    · obtain ⟨b, off, rfl, hbl, hcl⟩ := (unhide hA) (ne_of_lt_length hlt)
      have hck := hcl k hlt
      have hbad := hide (unhide hBad k hlt)
      have hOk : Hid ((0 ≤ zs.getD k 0 ∧ zs.getD k 0 ≤ 16777215) → ∀ j, j < k + 1 → (0 ≤ zs.getD j 0 ∧ zs.getD j 0 ≤ 16777215)) := hide (fun h j hj => by
        rcases Nat.lt_or_eq_of_le (Nat.le_of_lt_succ hj) with h' | h'
        · exact unhide hok j h'
        · subst h'; exact h)
      clear hcl hbl
      generalize zs.getD k 0 = x at hck hbad hOk
      by_cases h1 : x < 0
      · have hB := hide (unhide hbad (fun h => by have := h.1; omega))
        clear hbad hOk
        go_wp2
        go_ret
        exact ⟨by rw [unhide hB]; rfl, rfl⟩
      · by_cases h2 : x ≤ 16777215
        · have hok2 := hide (unhide hOk ⟨by omega, h2⟩)
          clear hbad hOk
          go_wp2
          all_goals
            go_round
            case rel => exact ⟨k + 1, by omega, by go_num, unhide hok2⟩
            case measure => simp [intOf]; omega
        · have hB := hide (unhide hbad (fun h => h2 h.2))
          have h3 : 16777215 < x := by omega
          clear hbad hOk
          go_wp2
          go_ret
          exact ⟨by rw [unhide hB]; rfl, rfl⟩
    · have hkl : k = zs.length := by omega
      subst hkl
      by_cases h2 : zs.length ≤ 256
      · have hs := hide (unhide hGood (unhide hok) h2)
        go_wp2
        go_ret
        exact ⟨by rw [unhide hs]; simp; omega, rfl⟩
      · have hs := hide (unhide hLong (by omega))
        go_wp2
        go_ret
        exact ⟨by rw [unhide hs]; simp; omega, rfl⟩

set_option maxHeartbeats 4000000 in
theorem specL5Note (n : Nt) (w : World) (h1 : n.1.size ≤ 1048576) (h2 : n.2.size ≤ 1048576) :
    Calls Tryd.prog 30 #[.agg #[.string n.1, .string n.2]] w fun e w' => e = .returned (.bool (pB (NoteOk n))) ∧ Upd 0 0 w w' := by
  obtain ⟨s, t⟩ := n
  simp only at h1 h2 ⊢
  have hB := hide (Upd.of_below ((Below.refl w.heap.size w).alloc (Nat.le_refl _) (.cells #[.string s, .string t] 58)) 0 0)
  by_cases hs : 1 ≤ s.size
  · by_cases hs2 : s.size ≤ 40
    · by_cases ht : t.size ≤ 1000
      · have hBad1 : Hid (∀ k, (h : k < s.size) → ¬ ((32 : Int) ≤ ((s[k]'h).toNat : Int) ∧ ((s[k]'h).toNat : Int) ≤ 126) → pB (NoteOk (s, t)) = false) := hide (fun k hk hb => pB_no (fun h => hb (by have := h.1.2 k hk; rw [strB_getD s k hk] at this; exact this)))
        have hBad2 : Hid (∀ k, (h : k < t.size) → ((t[k]'h).toNat : Int) = 0 → pB (NoteOk (s, t)) = false) := hide (fun k hk hb => pB_no (fun h => by have := h.2.2 k hk; rw [strB_getD t k hk] at this; exact this hb))
        have hGood : Hid ((∀ k, (h : k < s.size) → ((32 : Int) ≤ ((s[k]'h).toNat : Int) ∧ ((s[k]'h).toNat : Int) ≤ 126)) → (∀ k, (h : k < t.size) → ¬ ((t[k]'h).toNat : Int) = 0) → pB (NoteOk (s, t)) = true) := hide (fun a b => pB_yes ⟨⟨⟨hs, hs2⟩, fun k hk => by rw [strB_getD s k hk]; exact a k hk⟩, ht, fun k hk => by rw [strB_getD t k hk]; exact b k hk⟩)
        go_enter Tryd.func30, Tryd.ntmps30
        go_wp2
        go_loop [3] (fun i => ∃ k : Nat, k ≤ s.size ∧ i = .int .i64 k ∧ Hid (∀ j, (h : j < s.size) → j < k → ((32 : Int) ≤ ((s[j]'h).toNat : Int) ∧ ((s[j]'h).toNat : Int) ≤ 126))) (fun i => s.size - (intOf i).toNat)
        case atStart => exact ⟨0, Nat.zero_le _, rfl, fun j hj hlt => by omega⟩
        case round =>
          obtain ⟨k, hk, rfl, hok⟩ := hrel
          by_cases hlt : k < s.size
          · have hb := hide (unhide hBad1 k hlt)
            have ho := hide (fun (h : (32 : Int) ≤ ((s[k]'hlt).toNat : Int) ∧ ((s[k]'hlt).toNat : Int) ≤ 126) => show ∀ j, (h : j < s.size) → j < k + 1 → ((32 : Int) ≤ ((s[j]'h).toNat : Int) ∧ ((s[j]'h).toNat : Int) ≤ 126) from fun j hj hjk => by
              rcases Nat.lt_or_eq_of_le (Nat.le_of_lt_succ hjk) with h' | h'
              · exact unhide hok j hj h'
              · subst h'; exact h)
            by_cases c1 : ((s[k]'hlt).toNat : Int) < 32
            · have hb2 := hide (unhide hb (by omega))
              clear hb ho
              go_wp2
              go_ret
              exact ⟨by rw [unhide hb2]; rfl, unhide hB⟩
            · by_cases c2 : ((s[k]'hlt).toNat : Int) ≤ 126
              · have ho2 := hide (unhide ho ⟨by omega, c2⟩)
                clear hb ho
                go_wp2
                go_round
                case rel => exact ⟨k + 1, by omega, by go_num, unhide ho2⟩
                case measure => simp [intOf]; omega
              · have hb2 := hide (unhide hb (by omega))
                have c3 : (126 : Int) < ((s[k]'hlt).toNat : Int) := by omega
                clear hb ho
                go_wp2
                go_ret
                exact ⟨by rw [unhide hb2]; rfl, unhide hB⟩
          · have hkl : k = s.size := by omega
            subst hkl
            have hall := hide (unhide hGood (fun j h => unhide hok j h h))
            clear hok
            go_wp2
            go_loop [4] (fun i => ∃ k : Nat, k ≤ t.size ∧ i = .int .i64 k ∧ Hid (∀ j, (h : j < t.size) → j < k → ¬ ((t[j]'h).toNat : Int) = 0)) (fun i => t.size - (intOf i).toNat)
            case atStart => exact ⟨0, Nat.zero_le _, rfl, fun j hj hlt => by omega⟩
            case round =>
              obtain ⟨k, hk, rfl, hok⟩ := hrel
              by_cases hlt : k < t.size
              · have hb := hide (unhide hBad2 k hlt)
                have ho := hide (fun (h : ¬ ((t[k]'hlt).toNat : Int) = 0) => show ∀ j, (h : j < t.size) → j < k + 1 → ¬ ((t[j]'h).toNat : Int) = 0 from fun j hj hjk => by
                  rcases Nat.lt_or_eq_of_le (Nat.le_of_lt_succ hjk) with h' | h'
                  · exact unhide hok j hj h'
                  · subst h'; exact h)
                by_cases c1 : ((t[k]'hlt).toNat : Int) = 0
                · have hb2 := hide (unhide hb c1)
                  have q : (((t[k]'hlt).toNat : Int) == 0) = true := by rw [c1]; rfl
                  clear hb ho
                  go_wp2
                  go_ret
                  exact ⟨by rw [unhide hb2]; rfl, unhide hB⟩
                · have ho2 := hide (unhide ho c1)
                  have q : (((t[k]'hlt).toNat : Int) == 0) = false := by simpa using c1
                  clear hb ho
                  go_wp2
                  go_round
                  case rel => exact ⟨k + 1, by omega, by go_num, unhide ho2⟩
                  case measure => simp [intOf]; omega
              · have hkl : k = t.size := by omega
                subst hkl
                have hg := hide (unhide hall (fun j h => unhide hok j h h))
                clear hok
                go_wp2
                go_ret
                exact ⟨by rw [unhide hg]; rfl, unhide hB⟩
      · have hE := hide (pB_no (p := NoteOk (s, t)) (fun h => ht h.2.1))
        go_enter Tryd.func30, Tryd.ntmps30
        have h3 : 1000 < t.size := by omega
        go_wp2
        go_ret
        exact ⟨by rw [unhide hE]; rfl, unhide hB⟩
    · have hE := hide (pB_no (p := NoteOk (s, t)) (fun h => hs2 h.1.1.2))
      have h3 : 40 < s.size := by omega
      go_enter Tryd.func30, Tryd.ntmps30
      go_wp2
      go_ret
      exact ⟨by rw [unhide hE]; rfl, unhide hB⟩
  · have hE := hide (pB_no (p := NoteOk (s, t)) (fun h => hs h.1.1.1))
    have h3 : (s.size : Int) < 1 := by omega
    go_enter Tryd.func30, Tryd.ntmps30
    go_wp2
    go_ret
    exact ⟨by rw [unhide hE]; rfl, unhide hB⟩

set_option maxHeartbeats 1000000 in
theorem specL5RowBytes (a b p d : Int) (ad : Option Addr) (n cap : Nat) (w : World) (ha : 1 ≤ a ∧ a ≤ 512) (hp : 1 ≤ p ∧ p ≤ 4) (hd : 1 ≤ d ∧ d ≤ 16) :
    Calls Tryd.prog 59 #[.agg #[.int .i64 a, .int .i64 b, .int .i64 p, .int .i64 d, .slice ad n cap]] w fun e w' => e = .returned (.int .i64 (rowOf a p d)) ∧ Upd 0 0 w w' := by
  obtain ⟨x, y, hx, hy, hx1, hy1, hy2, hr⟩ := rowOf_bd ha hp hd
  have hB := hide (Upd.of_below ((Below.refl w.heap.size w).alloc (Nat.le_refl _) (.cells #[.int .i64 a, .int .i64 b, .int .i64 p, .int .i64 d, .slice ad n cap] 30)) 0 0)
  obtain ⟨x1, x2⟩ := hx1
  rw [hr]
  clear hr
  go_enter Tryd.func59, Tryd.ntmps59
  go_wp2
  go_ret
  exact ⟨by simp, unhide hB⟩
end Go.Proofs.YthpkngipiapbpaaDoor
