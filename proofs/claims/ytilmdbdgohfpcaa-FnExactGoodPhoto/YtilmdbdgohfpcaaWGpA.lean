/- The walks of GoodPlane: the specification's. -/
import Derived.Test.YtilmdbdgohfpcaaPlainPl
import Derived.Test.YtilmdbdgohfpcaaWSdA
namespace Go.Proofs.Ytilmdbdgohfpcaa
open Go.RowKit

set_option maxHeartbeats 4000000 in
theorem specL7Sides (a b : Int) (w : World) : Calls Try.prog 53 #[.int .i64 a, .int .i64 b] w fun e w' => e = .returned (.bool (decide (SidesOk a b))) ∧ w' = w := by
  have hS := hide (fun W => specL4Sides a b W)
  by_cases h : (1 ≤ a ∧ a ≤ 512) ∧ (1 ≤ b ∧ b ≤ 512)
  case neg =>
    rw [decide_eq_false (fun h' => h ⟨h'.1, h'.2.1⟩)]
    rw [sidesB_no h] at hS
    clear h
    go_enter Try.func53, Try.ntmps53
    go_wp2_with fail
    refine (unhide hS _).mono ?_
    rintro e w1 ⟨rfl, rfl⟩
    go_wp2
    go_ret
    exact ⟨rfl, rfl⟩
  obtain ⟨ha, hb⟩ := h
  obtain ⟨P, hP, P1, P2⟩ := prod_side ha hb
  have hR : decide (SidesOk a b) = decide (P ≤ 4096) := by
    by_cases h : P ≤ 4096
    · rw [decide_eq_true h]; exact decide_eq_true ⟨ha, hb, by omega⟩
    · rw [decide_eq_false h]; exact decide_eq_false (fun h' => h (by have := h'.2.2; omega))
  rw [hR]
  rw [sidesB_yes ha hb] at hS
  clear ha hb hR
  go_enter Try.func53, Try.ntmps53
  go_wp2_with fail
  refine (unhide hS _).mono ?_
  rintro e w1 ⟨rfl, rfl⟩
  go_wp2
  go_ret
  exact ⟨rfl, rfl⟩
set_option maxHeartbeats 8000000 in
set_option maxRecDepth 100000 in
theorem specGoodPlane (v : Value) (d : Pl) (w : World) (hn : d.2.2.length ≤ 1048576) (_hR : InPl d) (hv : RdPl w v d) :
    Calls Try.prog 41 #[v] w fun e w' => e = .returned (.bool (goodPlB d)) ∧ Upd 0 0 w w' := by
  obtain ⟨vl, rfl, h⟩ := hv
  obtain ⟨ad, cap, rfl, hA⟩ := h
  obtain ⟨a, b, zs⟩ := d
  simp only [Plv, Pls] at hn hA ⊢
  have hB := (Below.refl w.heap.size w).alloc (Nat.le_refl _) (.cells #[.int .i64 a, .int .i64 b, .slice ad zs.length cap] 63)
  have hU := hide (Upd.of_below hB 0 0)
  have hS := hide (fun W => specL7Sides a b W)
  by_cases hs : SidesOk a b
  case neg =>
    rw [goodPlB_no (fun h => hs h.1)]
    rw [decide_eq_false hs] at hS
    clear hs hB hA
    go_enter Try.func41, Try.ntmps41
    go_wp2_with fail
    refine (unhide hS _).mono ?_
    rintro e w1 ⟨rfl, rfl⟩
    go_wp2
    go_ret
    exact ⟨rfl, unhide hU⟩
  rw [decide_eq_true hs] at hS
  obtain ⟨P, hP, P1, P2⟩ := prod_side hs.1 hs.2.1
  by_cases hl : (zs.length : Int) = P
  case neg =>
    rw [goodPlB_no (fun h => hl (by have := h.2.1; simp only at this; omega))]
    have r3 : ((zs.length : Int) != P) = true := bne_iff_ne.2 hl
    clear hs hB hA hl
    go_enter Try.func41, Try.ntmps41
    go_wp2_with fail
    refine (unhide hS _).mono ?_
    rintro e w1 ⟨rfl, rfl⟩
    go_wp2
    go_ret
    exact ⟨rfl, unhide hU⟩
  have r3 : ((zs.length : Int) != P) = false := by simp [hl]
  have hG2 : Hid ((∀ k, k < zs.length → (0 ≤ zs.getD k 0 ∧ zs.getD k 0 ≤ 255)) → goodPlB (a, b, zs) = true) := hide (fun h => goodPlB_yes ⟨hs, by show (zs.length : Int) = a * b; rw [hP, hl], fun j hj => ⟨(h j hj).1, by have := (h j hj).2; show zs.getD j 0 < 2 ^ 8; omega⟩⟩)
  have hB2 : Hid (∀ k, k < zs.length → ¬ (0 ≤ zs.getD k 0 ∧ zs.getD k 0 ≤ 255) → goodPlB (a, b, zs) = false) := hide (fun k hk h => goodPlB_no (fun h' => h (by have := h'.2.2 k hk; simp only at this; have h2 : zs.getD k 0 < 2 ^ 8 := this.2; exact ⟨this.1, by omega⟩)))
  replace hA := hide (hA.below hB)
  replace hl := hide hl
  clear hB hs
  have hW3 : (w.alloc (.cells #[.int .i64 a, .int .i64 b, .slice ad zs.length cap] 63)).cell? ⟨w.heap.size, 2, none⟩ = some (.slice ad zs.length cap) := by rw [World.cell?_alloc_at _ _ _ _ rfl]; rfl
  go_enter Try.func41, Try.ntmps41
  go_wp2_with fail
  refine (unhide hS _).mono ?_
  rintro e w1 ⟨rfl, rfl⟩
  go_wp2_with fail
  generalize w.alloc (.cells #[.int .i64 a, .int .i64 b, .slice ad zs.length cap] 63) = W1 at hU hA hW3 ⊢
  go_loop [25] (fun i => ∃ k : Nat, k ≤ zs.length ∧ i = .int .i64 k ∧ Hid (∀ j, j < k → (0 ≤ zs.getD j 0 ∧ zs.getD j 0 ≤ 255))) (fun i => zs.length - (intOf i).toNat)
  case atStart => exact ⟨0, Nat.zero_le _, rfl, fun j hj => by omega⟩
  case round =>
    obtain ⟨k, hk', rfl, hok⟩ := hrel
    by_cases hlt : k < zs.length
    · obtain ⟨bb, off, rfl, hbl, hcl⟩ := (unhide hA) (ne_of_lt_length hlt)
      have hck := hcl k hlt
      have hbad := hide (unhide hB2 k hlt)
      have hOk : Hid ((0 ≤ zs.getD k 0 ∧ zs.getD k 0 ≤ 255) → ∀ j, j < k + 1 → (0 ≤ zs.getD j 0 ∧ zs.getD j 0 ≤ 255)) := hide (fun h j hj => by
        rcases Nat.lt_or_eq_of_le (Nat.le_of_lt_succ hj) with h' | h'
        · exact unhide hok j h'
        · subst h'; exact h)
      clear hcl hbl
      generalize zs.getD k 0 = x at hck hbad hOk
      by_cases h1 : x < 0
      · have hB := hide (unhide hbad (fun h => by have := h.1; omega))
        clear hbad hOk
        go_wp2
        go_ret
        exact ⟨by rw [unhide hB]; rfl, unhide hU⟩
      · by_cases h2 : 255 < x
        · have hB := hide (unhide hbad (fun h => by have := h.2; omega))
          clear hbad hOk
          go_wp2
          go_ret
          exact ⟨by rw [unhide hB]; rfl, unhide hU⟩
        · have hok2 := hide (unhide hOk ⟨by omega, by omega⟩)
          clear hbad hOk
          go_wp2
          all_goals
            go_round
            case rel => exact ⟨k + 1, by omega, by go_num, unhide hok2⟩
            case measure => simp [intOf]; omega
    · have hkl : k = zs.length := by omega
      subst hkl
      have hs := hide (unhide hG2 (unhide hok))
      go_wp2
      go_ret
      exact ⟨by rw [unhide hs]; rfl, unhide hU⟩
end Go.Proofs.Ytilmdbdgohfpcaa
