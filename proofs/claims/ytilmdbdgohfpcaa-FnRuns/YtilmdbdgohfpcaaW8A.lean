/- Which lists are blocks, which are scales: the walks of both sides. -/
import Derived.Test.YtilmdbdgohfpcaaPlainBl
import Derived.Test.YtilmdbdgohfpcaaWInts
namespace Go.Proofs.Ytilmdbdgohfpcaa
open Go.RowKit

set_option maxHeartbeats 4000000 in
theorem specL8Block (ad : Option Addr) (cap : Nat) (zs : List Int) (w : World) (hn : zs.length ≤ 1048576) (hA : ArgI w ad zs) :
    Calls Try.prog 31 #[.slice ad zs.length cap] w fun e w' => e = .returned (.bool (blB zs)) ∧ Upd 0 0 w w' := by
  replace hA := hide hA
  have hNo : Hid (∀ k, k < zs.length → ¬ ((-32768 : Int) ≤ zs.getD k 0 ∧ zs.getD k 0 ≤ 32767) → blB zs = false) := hide (fun k hk h => blB_no (fun h' => h (h'.2 k hk)))
  have hYes : Hid ((∀ j, j < zs.length → ((-32768 : Int) ≤ zs.getD j 0 ∧ zs.getD j 0 ≤ 32767)) → blB zs = decide (zs.length = 64)) := hide (fun h => by
    by_cases hl : zs.length = 64
    · rw [blB_yes ⟨hl, h⟩, decide_eq_true hl]
    · rw [blB_no (fun h' => hl h'.1), decide_eq_false hl])
  go_enter Try.func31, Try.ntmps31
  go_wp2
  go_loop [7] (fun i => ∃ k : Nat, k ≤ zs.length ∧ i = .int .i64 k ∧ Hid (∀ j, j < k → ((-32768 : Int) ≤ zs.getD j 0 ∧ zs.getD j 0 ≤ 32767))) (fun i => zs.length - (intOf i).toNat)
  case atStart => exact ⟨0, Nat.zero_le _, rfl, fun j hj => by omega⟩
  case round =>
    obtain ⟨k, hk', rfl, hok⟩ := hrel
    by_cases hlt : k < zs.length
    · obtain ⟨bb, off, rfl, hbl, hcl⟩ := (unhide hA) (ne_of_lt_length hlt)
      have hck := hcl k hlt
      have hbad := hide (unhide hNo k hlt)
      have hOk : Hid (((-32768 : Int) ≤ zs.getD k 0 ∧ zs.getD k 0 ≤ 32767) → ∀ j, j < k + 1 → ((-32768 : Int) ≤ zs.getD j 0 ∧ zs.getD j 0 ≤ 32767)) := hide (fun h j hj => by
        rcases Nat.lt_or_eq_of_le (Nat.le_of_lt_succ hj) with h' | h'
        · exact unhide hok j h'
        · subst h'; exact h)
      clear hcl hbl
      generalize zs.getD k 0 = x at hck hbad hOk
      by_cases h1 : x < -32768
      · have hB := hide (unhide hbad (fun h => by have := h.1; omega))
        clear hbad hOk
        go_wp2
        go_ret
        exact ⟨by rw [unhide hB]; rfl, Upd.refl 0 0 _⟩
      · by_cases h2 : 32767 < x
        · have hB := hide (unhide hbad (fun h => by have := h.2; omega))
          clear hbad hOk
          go_wp2
          go_ret
          exact ⟨by rw [unhide hB]; rfl, Upd.refl 0 0 _⟩
        · have hok2 := hide (unhide hOk ⟨by omega, by omega⟩)
          clear hbad hOk
          go_wp2
          all_goals
            go_round
            case rel => exact ⟨k + 1, by omega, by go_num, unhide hok2⟩
            case measure => simp [intOf]; omega
    · have hkl : k = zs.length := by omega
      subst hkl
      have hs := hide (unhide hYes (unhide hok))
      have hb : ((zs.length : Int) == 64) = decide (zs.length = 64) := by rw [Bool.eq_iff_iff]; simp; omega
      go_wp2
      go_ret
      exact ⟨by rw [unhide hs]; rfl, Upd.refl 0 0 _⟩
set_option maxHeartbeats 4000000 in
theorem implWithin (ad : Option Addr) (cap : Nat) (zs : List Int) (lo hi : Int) (w : World) (hn : zs.length ≤ 1048576) (hA : ArgI w ad zs) :
    Calls Try.prog 48 #[.slice ad zs.length cap, .int .i64 lo, .int .i64 hi] w fun e w' => e = .returned (.bool (inRB lo hi zs)) ∧ Upd 0 0 w w' := by
  replace hA := hide hA
  have hNo : Hid (∀ k, k < zs.length → ¬ (lo ≤ zs.getD k 0 ∧ zs.getD k 0 ≤ hi) → inRB lo hi zs = false) := hide (fun k hk h => inRB_no (fun h' => h (h' k hk)))
  have hYes : Hid ((∀ j, j < zs.length → (lo ≤ zs.getD j 0 ∧ zs.getD j 0 ≤ hi)) → inRB lo hi zs = true) := hide (fun h => inRB_yes h)
  go_enter Try.func48, Try.ntmps48
  go_wp2
  go_loop [11] (fun i => ∃ k : Nat, k ≤ zs.length ∧ i = .int .i64 k ∧ Hid (∀ j, j < k → (lo ≤ zs.getD j 0 ∧ zs.getD j 0 ≤ hi))) (fun i => zs.length - (intOf i).toNat)
  case atStart => exact ⟨0, Nat.zero_le _, rfl, fun j hj => by omega⟩
  case round =>
    obtain ⟨k, hk', rfl, hok⟩ := hrel
    by_cases hlt : k < zs.length
    · obtain ⟨bb, off, rfl, hbl, hcl⟩ := (unhide hA) (ne_of_lt_length hlt)
      have hck := hcl k hlt
      have hbad := hide (unhide hNo k hlt)
      have hOk : Hid ((lo ≤ zs.getD k 0 ∧ zs.getD k 0 ≤ hi) → ∀ j, j < k + 1 → (lo ≤ zs.getD j 0 ∧ zs.getD j 0 ≤ hi)) := hide (fun h j hj => by
        rcases Nat.lt_or_eq_of_le (Nat.le_of_lt_succ hj) with h' | h'
        · exact unhide hok j h'
        · subst h'; exact h)
      clear hcl hbl
      generalize zs.getD k 0 = x at hck hbad hOk
      by_cases h1 : x < lo
      · have hB := hide (unhide hbad (fun h => by have := h.1; omega))
        clear hbad hOk
        go_wp2
        go_ret
        exact ⟨by rw [unhide hB]; rfl, Upd.refl 0 0 _⟩
      · by_cases h2 : hi < x
        · have hB := hide (unhide hbad (fun h => by have := h.2; omega))
          clear hbad hOk
          go_wp2
          go_ret
          exact ⟨by rw [unhide hB]; rfl, Upd.refl 0 0 _⟩
        · have hok2 := hide (unhide hOk ⟨by omega, by omega⟩)
          clear hbad hOk
          go_wp2
          all_goals
            go_round
            case rel => exact ⟨k + 1, by omega, by go_num, unhide hok2⟩
            case measure => simp [intOf]; omega
    · have hkl : k = zs.length := by omega
      subst hkl
      have hs := hide (unhide hYes (unhide hok))
      go_wp2
      go_ret
      exact ⟨by rw [unhide hs]; rfl, Upd.refl 0 0 _⟩
set_option maxHeartbeats 4000000 in
theorem implGoodBlock (ad : Option Addr) (cap : Nat) (zs : List Int) (w : World) (hn : zs.length ≤ 1048576) (hA : ArgI w ad zs) :
    Calls Try.prog 29 #[.slice ad zs.length cap] w fun e w' => e = .returned (.bool (blB zs)) ∧ Upd 0 0 w w' := by
  have hW := hide (fun W (h : ArgI W ad zs) => implWithin ad cap zs (-32768) 32767 W hn h)
  replace hA := hide hA
  by_cases hl : zs.length = 64
  case neg =>
    rw [blB_no (fun h => hl h.1)]
    have hb : ((zs.length : Int) == 64) = false := by simp; omega
    clear hW hA hl
    go_enter Try.func29, Try.ntmps29
    go_wp2
    go_ret
    exact ⟨rfl, Upd.refl 0 0 _⟩
  have hE : blB zs = inRB (-32768) 32767 zs := by
    by_cases h : InR (-32768) 32767 zs
    · rw [blB_yes ⟨hl, h⟩, inRB_yes h]
    · rw [blB_no (fun h' => h h'.2), inRB_no h]
  rw [hE]
  have hb : ((zs.length : Int) == 64) = true := by simp; omega
  clear hE
  replace hl := hide hl
  go_enter Try.func29, Try.ntmps29
  go_wp2_with fail
  refine (unhide hW _ (unhide hA)).mono ?_
  rintro e w1 ⟨rfl, hu⟩
  go_wp2
  go_ret
  exact ⟨rfl, hu⟩
end Go.Proofs.Ytilmdbdgohfpcaa
