/- The program's joiner of bytes: bytes again. -/
import Derived.Test.YtddjaockpdibdaaWJo
namespace Go.Proofs.Ytddjaockpdibdaa
open Go.RowKit

set_option maxHeartbeats 1000000 in
theorem joAgainFar (c o most n b : Nat) (g : Option Nat) (l : List Int) (w : World) (h : Jo w c o g l most) (hb : l.length < b) :
    Calls Try.prog 106 #[.pointer (some ⟨c, o, none⟩), .int .i64 n, .int .i64 b] w fun e w' => e = .returned (.int .i64 5) ∧ w' = w := by
  obtain ⟨v, hv, ⟨h0, h1, h2, h3⟩, ho⟩ := h
  obtain ⟨ad, cap, rfl, hA⟩ := OwnY.rd (Own.of ho)
  clear hA ho hv
  go_enter Try.func106, Try.ntmps106
  go_wp2
  go_ret
  exact ⟨rfl, rfl⟩

set_option maxHeartbeats 4000000 in
theorem joAgain (c o most n b : Nat) (g : Option Nat) (l : List Int) (w : World) (h : Jo w c o g l most) (hm : most ≤ 40000) (hl : l.length ≤ most) (hB : InB l) (hb0 : 0 < b) (hb : b ≤ l.length) (hn : n ≤ 1000) :
    Calls Try.prog 106 #[.pointer (some ⟨c, o, none⟩), .int .i64 n, .int .i64 b] w fun e w' => ∃ g', GrowJ c o g g' w w' ∧
      ((most < l.length + n ∧ e = .returned (.int .i64 7) ∧ ∃ l', Jo w' c o g' l' most ∧ InB l' ∧ l'.length ≤ most) ∨ (l.length + n ≤ most ∧ e = .returned (.int .i64 0) ∧ Jo w' c o g' (copyN b n l) most)) := by
  have hJ := hide h
  obtain ⟨v, hv, ⟨h0, h1, h2, h3⟩, ho⟩ := h
  obtain ⟨ad, cap, rfl, hA⟩ := OwnY.rd (Own.of ho)
  replace hB := hide hB
  clear hA ho hv
  have q : decide (l.length < b) = false := by simp; omega
  go_enter Try.func106, Try.ntmps106
  go_wp2
  clear h1 h2 h3
  go_loopw [16] (fun i wr => ∃ k : Nat, ∃ g', k ≤ n ∧ i = .int .i64 k ∧ l.length + k ≤ most ∧ Hid (Jo wr c o g' (copyN b k l) most) ∧ Hid (GrowJ c o g g' w wr)) (fun i _ => n - (intOf i).toNat)
  case atStart => exact ⟨0, g, Nat.zero_le _, rfl, by omega, hJ, GrowJ.refl _ _ _ _⟩
  case round =>
    clear hJ
    obtain ⟨k, g', hk, rfl, hlk, hJ, hG⟩ := hrel
    by_cases hlt : k < n
    · have hml := copyN_length b k l
      have hIn := (inB_copyN (back := b) (n := k) (unhide hB)) (l.length + k - b)
      have hInL := hide (inB_copyN (back := b) (n := k) (unhide hB))
      have hsu := hide (copyN_succ b k l)
      generalize hme : copyN b k l = m at hml hIn hJ hsu hInL
      obtain ⟨v, hv, ⟨h0', h1, h2, h3⟩, ho⟩ := unhide hJ
      obtain ⟨g2, cp, rfl⟩ : ∃ g2 cp, v = .slice (some ⟨g2, 0, none⟩) m.length cp := by
        rcases ho.2 with ⟨_, h0'⟩ | ⟨g2, cp, cur, e, _⟩
        · omega
        · exact ⟨g2, cp, e⟩
      obtain ⟨i, hi, hi2⟩ : ∃ i : Nat, (m.length : Int) - (b : Int) = (i : Int) ∧ l.length + k - b = i := ⟨m.length - b, by omega, by omega⟩
      have hc : wr.cell? ⟨g2, i, none⟩ = some (.int .u8 (m.getD i 0)) := by
        rw [ho.cellAt i (by omega)]; exact getD_map_int m .u8 i (by omega)
      rw [hi2] at hIn hsu
      have hi3 : (i : Int) < (m.length : Int) := by omega
      have hi4 : IntKind.i64.wrap (i : Int) = (i : Int) := by simp [IntKind.wrap, IntKind.bits, IntKind.signed]; omega
      replace hml := hide hml
      replace hme := hide hme
      clear ho hv hi2
      generalize m.getD i 0 = x at hc hIn hsu
      have hJd : Hid (Jo wr.drew c o g' m most) := hJ
      by_cases hf : m.length = most
      · have hP := hide (fun W (hs : Jo W c o g' m most) => joFull c o most g' m x W hs hf)
        replace hf := hide hf
        go_wp2_with fail
        go_region_with (go_at_call 104; refine (unhide hP _ ?_).mono ?_; exact unhide hJd; rintro e w5 ⟨rfl, nq, rfl⟩)
        all_goals
          go_wp2
          go_ret
          exact ⟨g', (unhide hG).drewN _, .inl ⟨by have := unhide hml; have := unhide hf; omega, rfl, m, unhide hJ, unhide hInL, Nat.le_of_eq (unhide hf)⟩⟩
      · have hP := hide (fun W (hs : Jo W c o g' m most) => joAdd c o most g' m x W hs hm (by have := unhide hml; omega))
        replace hf := hide hf
        go_wp2_with fail
        go_region_with (go_at_call 104; refine (unhide hP _ ?_).mono ?_; exact unhide hJd; rintro e w5 ⟨rfl, g3, hJ3, hG3⟩)
        all_goals
          replace hJ3 := hide hJ3
          replace hG3 := hide (((unhide hG).drewN 1).trans hG3)
          go_wp2
          go_roundw
          case rel => exact ⟨k + 1, g3, by omega, by go_num, by have := unhide hml; have := unhide hf; omega, by rw [unhide hsu]; exact hJ3, hG3⟩
          case measure => simp [intOf]; omega
    · have hkn : k = n := by omega
      subst hkn
      go_wp2
      go_ret
      exact ⟨g', unhide hG, .inr ⟨hlk, rfl, unhide hJ⟩⟩
end Go.Proofs.Ytddjaockpdibdaa
