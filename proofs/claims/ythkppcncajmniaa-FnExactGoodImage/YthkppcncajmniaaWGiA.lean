/- The walk of GoodImage: the specification's. -/
import Derived.Test.YthkppcncajmniaaPlainG
import Derived.Test.YthkppcncajmniaaWSdA
import Derived.Test.YthkppcncajmniaaWRowA
namespace Go.Proofs.Ythkppcncajmniaa
open Go.RowKit

set_option maxHeartbeats 8000000 in
set_option maxRecDepth 1000000 in
theorem specGoodImage (v : Value) (d : Im) (w : World) (hn : d.2.2.2.2.length ≤ 1048576) (hR : InIm d) (hv : RdIm w v d) :
    Calls Try.prog 5 #[v] w fun e w' => e = .returned (.bool (goodImB d)) ∧ Upd 0 0 w w' := by
  obtain ⟨vl, rfl, h⟩ := hv
  obtain ⟨ad, cap, rfl, hA⟩ := h
  obtain ⟨a, b, p, dp, zs⟩ := d
  simp only [ims, imv] at hn hA ⊢
  have hB := (Below.refl w.heap.size w).alloc (Nat.le_refl _) (.cells #[.int .i64 a, .int .i64 b, .int .i64 p, .int .i64 dp, .slice ad zs.length cap] 27)
  have hU := hide (Upd.of_below hB 0 0)
  have hS := hide (fun W => specL4Sides a b W)
  have hD := hide (fun W => specL4Depth dp W)
  clear hR
  by_cases ha : 1 ≤ a ∧ a ≤ 512
  case neg =>
    rw [goodImB_no (fun h => ha h.1.1)]
    have e : sidesB a b = false := by unfold sidesB; rw [sideB_no ha]; rfl
    rw [e] at hS
    clear ha hB hA e
    go_enter Try.func5, Try.ntmps5
    go_wp2_with fail
    refine (unhide hS _).mono ?_
    rintro e w1 ⟨rfl, rfl⟩
    go_wp2
    go_ret
    exact ⟨rfl, unhide hU⟩
  by_cases hb : 1 ≤ b ∧ b ≤ 512
  case neg =>
    rw [goodImB_no (fun h => hb h.1.2.1)]
    have e : sidesB a b = false := by unfold sidesB; rw [sideB_no hb]; simp
    rw [e] at hS
    clear ha hb hB hA e
    go_enter Try.func5, Try.ntmps5
    go_wp2_with fail
    refine (unhide hS _).mono ?_
    rintro e w1 ⟨rfl, rfl⟩
    go_wp2
    go_ret
    exact ⟨rfl, unhide hU⟩
  have e : sidesB a b = true := by unfold sidesB; rw [sideB_yes ha, sideB_yes hb]; rfl
  rw [e] at hS
  obtain ⟨P, hP, P1, P2⟩ := prod_bd ha hb
  by_cases hP4 : 4096 < P
  · rw [goodImB_no (fun h => by have := h.1.2.2.1; simp only at this; omega)]
    clear ha hb hB hA e
    go_enter Try.func5, Try.ntmps5
    go_wp2_with fail
    refine (unhide hS _).mono ?_
    rintro e w1 ⟨rfl, rfl⟩
    go_wp2
    go_ret
    exact ⟨rfl, unhide hU⟩
  have P3 : P ≤ 4096 := by omega
  have qP : decide (4096 < P) = false := by simp; omega
  by_cases hp1 : p < 1
  · rw [goodImB_no (fun h => by have := h.1.2.2.2.1.1; simp only at this; omega)]
    have q : decide (p < 1) = true := by simp; omega
    clear ha hb hB hA e
    go_enter Try.func5, Try.ntmps5
    go_wp2_with fail
    refine (unhide hS _).mono ?_
    rintro e w1 ⟨rfl, rfl⟩
    go_wp2
    go_ret
    exact ⟨rfl, unhide hU⟩
  have q1 : decide (p < 1) = false := by simp; omega
  by_cases hp2 : 4 < p
  · rw [goodImB_no (fun h => by have := h.1.2.2.2.1.2; simp only at this; omega)]
    have q : decide (4 < p) = true := by simp; omega
    clear ha hb hB hA e
    go_enter Try.func5, Try.ntmps5
    go_wp2_with fail
    refine (unhide hS _).mono ?_
    rintro e w1 ⟨rfl, rfl⟩
    go_wp2
    go_ret
    exact ⟨rfl, unhide hU⟩
  have q2 : decide (4 < p) = false := by simp; omega
  by_cases hd : depthOk dp = true
  case neg =>
    rw [goodImB_no (fun h => hd h.1.2.2.2.2.1)]
    have hd' : depthOk dp = false := by simpa using hd
    rw [hd'] at hD
    clear ha hb hB hA e hd hd'
    go_enter Try.func5, Try.ntmps5
    go_wp2_with fail
    refine (unhide hS _).mono ?_
    rintro e w1 ⟨rfl, rfl⟩
    go_wp2_with fail
    refine (unhide hD _).mono ?_
    rintro e w1 ⟨rfl, rfl⟩
    go_wp2
    go_ret
    exact ⟨rfl, unhide hU⟩
  rw [hd] at hD
  obtain ⟨D, rfl, hD1, hD16⟩ := depthOk_nat hd
  obtain ⟨Q, hQ, Q1, Q2⟩ := prod3_bd (P := P) (p := p) ⟨P1, P3⟩ ⟨by omega, by omega⟩
  by_cases hpd : p = 1 ∨ 8 ≤ (D : Int)
  case neg =>
    rw [goodImB_no (fun h => hpd h.1.2.2.2.2.2)]
    have r1 : decide (1 < p) = true := by simp; omega
    have r2 : decide ((D : Int) < 8) = true := by simp; omega
    replace hd := hide hd
    clear ha hb hB hA e hpd
    go_enter Try.func5, Try.ntmps5
    go_wp2_with fail
    refine (unhide hS _).mono ?_
    rintro e w1 ⟨rfl, rfl⟩
    go_wp2_with fail
    refine (unhide hD _).mono ?_
    rintro e w1 ⟨rfl, rfl⟩
    go_wp2
    go_ret
    exact ⟨rfl, unhide hU⟩
  have hShape : Hid (ShapeOk a b p (D : Int)) := hide ⟨ha, hb, by omega, ⟨by omega, by omega⟩, hd, hpd⟩
  have hGood : Hid ((zs.length : Int) = Q → SmpOk zs (D : Int) → goodImB (a, b, p, (D : Int), zs) = true) := hide (fun h1 h2 => goodImB_yes ⟨unhide hShape, by show (zs.length : Int) = a * b * p; rw [hP, hQ]; exact h1, h2⟩)
  have hBad : Hid (¬ ((zs.length : Int) = Q ∧ SmpOk zs (D : Int)) → goodImB (a, b, p, (D : Int), zs) = false) := hide (fun h1 => goodImB_no (fun h => h1 ⟨by have := h.2.1; simp only at this; rw [hP, hQ] at this; exact this, h.2.2⟩))
  by_cases hl : (zs.length : Int) = Q
  case neg =>
    have r3 : ((zs.length : Int) != Q) = true := bne_iff_ne.2 hl
    have hF := hide (unhide hBad (fun h => hl h.1))
    replace hd := hide hd
    replace hl := hide hl
    rcases hpd with h1 | h1
    · subst h1
      rw [unhide hF]
      clear ha hb hB hA e
      go_enter Try.func5, Try.ntmps5
      go_wp2_with fail
      refine (unhide hS _).mono ?_
      rintro e w1 ⟨rfl, rfl⟩
      go_wp2_with fail
      refine (unhide hD _).mono ?_
      rintro e w1 ⟨rfl, rfl⟩
      go_wp2
      go_ret
      exact ⟨rfl, unhide hU⟩
    · rw [unhide hF]
      have r2 : decide ((D : Int) < 8) = false := by simp; omega
      clear ha hb hB hA e
      by_cases hp11 : 1 < p
      · have r1 : decide (1 < p) = true := by simp; omega
        go_enter Try.func5, Try.ntmps5
        go_wp2_with fail
        refine (unhide hS _).mono ?_
        rintro e w1 ⟨rfl, rfl⟩
        go_wp2_with fail
        refine (unhide hD _).mono ?_
        rintro e w1 ⟨rfl, rfl⟩
        go_wp2
        go_ret
        exact ⟨rfl, unhide hU⟩
      · have r1 : decide (1 < p) = false := by simp; omega
        go_enter Try.func5, Try.ntmps5
        go_wp2_with fail
        refine (unhide hS _).mono ?_
        rintro e w1 ⟨rfl, rfl⟩
        go_wp2_with fail
        refine (unhide hD _).mono ?_
        rintro e w1 ⟨rfl, rfl⟩
        go_wp2
        go_ret
        exact ⟨rfl, unhide hU⟩
  have r3 : ((zs.length : Int) != Q) = false := by simp [hl]
  have hG2 : Hid ((∀ k, k < zs.length → (0 ≤ zs.getD k 0 ∧ zs.getD k 0 < 2 ^ D)) → goodImB (a, b, p, (D : Int), zs) = true) := hide (fun h => unhide hGood hl (fun j hj => by have := h j hj; simpa using this))
  have hB2 : Hid (∀ k, k < zs.length → ¬ (0 ≤ zs.getD k 0 ∧ zs.getD k 0 < 2 ^ D) → goodImB (a, b, p, (D : Int), zs) = false) := hide (fun k hk h => unhide hBad (fun h' => h (by have := h'.2 k hk; simpa using this)))
  have hpw := two_pow_16 hD16
  replace hA := hide (hA.below hB)
  replace hd := hide hd
  replace hl := hide hl
  replace hpd := hide hpd
  clear hGood hBad ha hb hB e
  have hW3 : (w.alloc (.cells #[.int .i64 a, .int .i64 b, .int .i64 p, .int .i64 (D : Int), .slice ad zs.length cap] 27)).cell? ⟨w.heap.size, 3, none⟩ = some (.int .i64 (D : Int)) := by rw [World.cell?_alloc_at _ _ _ _ rfl]; rfl
  by_cases hp11 : 1 < p
  · have r1 : decide (1 < p) = true := by simp; omega
    have r2 : decide ((D : Int) < 8) = false := by have := unhide hpd; simp; omega
    go_enter Try.func5, Try.ntmps5
    go_wp2_with fail
    refine (unhide hS _).mono ?_
    rintro e w1 ⟨rfl, rfl⟩
    go_wp2_with fail
    refine (unhide hD _).mono ?_
    rintro e w1 ⟨rfl, rfl⟩
    go_wp2_with fail
    generalize w.alloc (.cells #[.int .i64 a, .int .i64 b, .int .i64 p, .int .i64 (D : Int), .slice ad zs.length cap] 27) = W1 at hU hA hW3 ⊢
    go_loop [60] (fun i => ∃ k : Nat, k ≤ zs.length ∧ i = .int .i64 k ∧ Hid (∀ j, j < k → (0 ≤ zs.getD j 0 ∧ zs.getD j 0 < 2 ^ D))) (fun i => zs.length - (intOf i).toNat)
    case atStart => exact ⟨0, Nat.zero_le _, rfl, fun j hj => by omega⟩
    case round =>
      obtain ⟨k, hk', rfl, hok⟩ := hrel
      by_cases hlt : k < zs.length
      · obtain ⟨bb, off, rfl, hbl, hcl⟩ := (unhide hA) (ne_of_lt_length hlt)
        have hck := hcl k hlt
        have hbad := hide (unhide hB2 k hlt)
        have hOk : Hid ((0 ≤ zs.getD k 0 ∧ zs.getD k 0 < 2 ^ D) → ∀ j, j < k + 1 → (0 ≤ zs.getD j 0 ∧ zs.getD j 0 < 2 ^ D)) := hide (fun h j hj => by
          rcases Nat.lt_or_eq_of_le (Nat.le_of_lt_succ hj) with h' | h'
          · exact unhide hok j h'
          · subst h'; exact h)
        clear hcl hbl
        generalize zs.getD k 0 = x at hck hbad hOk
        by_cases h1 : x < 0
        · have hB := hide (unhide hbad (fun h => by have := h.1; omega))
          clear hbad hOk
          go_wp2
          go_ret
          exact ⟨by rw [unhide hB]; rfl, unhide hU⟩
        · by_cases h2 : x < 2 ^ D
          · have hok2 := hide (unhide hOk ⟨by omega, h2⟩)
            clear hbad hOk
            go_wp2
            all_goals
              go_round
              case rel => exact ⟨k + 1, by omega, by go_num, unhide hok2⟩
              case measure => simp [intOf]; omega
          · have hB := hide (unhide hbad (fun h => h2 h.2))
            clear hbad hOk
            go_wp2
            go_ret
            exact ⟨by rw [unhide hB]; rfl, unhide hU⟩
      · have hkl : k = zs.length := by omega
        subst hkl
        have hs := hide (unhide hG2 (unhide hok))
        go_wp2
        go_ret
        exact ⟨by rw [unhide hs]; rfl, unhide hU⟩
  · have r1 : decide (1 < p) = false := by simp; omega
    go_enter Try.func5, Try.ntmps5
    go_wp2_with fail
    refine (unhide hS _).mono ?_
    rintro e w1 ⟨rfl, rfl⟩
    go_wp2_with fail
    refine (unhide hD _).mono ?_
    rintro e w1 ⟨rfl, rfl⟩
    go_wp2_with fail
    generalize w.alloc (.cells #[.int .i64 a, .int .i64 b, .int .i64 p, .int .i64 (D : Int), .slice ad zs.length cap] 27) = W1 at hU hA hW3 ⊢
    go_loop [60] (fun i => ∃ k : Nat, k ≤ zs.length ∧ i = .int .i64 k ∧ Hid (∀ j, j < k → (0 ≤ zs.getD j 0 ∧ zs.getD j 0 < 2 ^ D))) (fun i => zs.length - (intOf i).toNat)
    case atStart => exact ⟨0, Nat.zero_le _, rfl, fun j hj => by omega⟩
    case round =>
      obtain ⟨k, hk', rfl, hok⟩ := hrel
      by_cases hlt : k < zs.length
      · obtain ⟨bb, off, rfl, hbl, hcl⟩ := (unhide hA) (ne_of_lt_length hlt)
        have hck := hcl k hlt
        have hbad := hide (unhide hB2 k hlt)
        have hOk : Hid ((0 ≤ zs.getD k 0 ∧ zs.getD k 0 < 2 ^ D) → ∀ j, j < k + 1 → (0 ≤ zs.getD j 0 ∧ zs.getD j 0 < 2 ^ D)) := hide (fun h j hj => by
          rcases Nat.lt_or_eq_of_le (Nat.le_of_lt_succ hj) with h' | h'
          · exact unhide hok j h'
          · subst h'; exact h)
        clear hcl hbl
        generalize zs.getD k 0 = x at hck hbad hOk
        by_cases h1 : x < 0
        · have hB := hide (unhide hbad (fun h => by have := h.1; omega))
          clear hbad hOk
          go_wp2
          go_ret
          exact ⟨by rw [unhide hB]; rfl, unhide hU⟩
        · by_cases h2 : x < 2 ^ D
          · have hok2 := hide (unhide hOk ⟨by omega, h2⟩)
            clear hbad hOk
            go_wp2
            all_goals
              go_round
              case rel => exact ⟨k + 1, by omega, by go_num, unhide hok2⟩
              case measure => simp [intOf]; omega
          · have hB := hide (unhide hbad (fun h => h2 h.2))
            clear hbad hOk
            go_wp2
            go_ret
            exact ⟨by rw [unhide hB]; rfl, unhide hU⟩
      · have hkl : k = zs.length := by omega
        subst hkl
        have hs := hide (unhide hG2 (unhide hok))
        go_wp2
        go_ret
        exact ⟨by rw [unhide hs]; rfl, unhide hU⟩
end Go.Proofs.Ythkppcncajmniaa
