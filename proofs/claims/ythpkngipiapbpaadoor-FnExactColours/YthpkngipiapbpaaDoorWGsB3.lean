/- Good stills, as the program has them: palettes. -/
import Derived.Test.YthpkngipiapbpaaDoorWGsB2
namespace Go.Proofs.YthpkngipiapbpaaDoor
open Go.RowKit

set_option maxHeartbeats 2000000 in
theorem implAreColours (v u : Value) (zs ys : List Int) (w : World) (hn : zs.length ≤ 1048576) (_hn2 : ys.length ≤ 1048576) (hv : RdI w v zs) (hu : RdI w u ys) :
    Calls Tryd.prog 65 #[v, u] w fun e w' => e = .returned (.bool (pB (SmpIn zs ys.length))) ∧ w' = w := by
  obtain ⟨ad, cap, rfl, hA⟩ := hv
  obtain ⟨ad2, cap2, rfl, _⟩ := hu
  replace hA := hide hA
  generalize ys.length = n at _hn2 ⊢
  have hBad : Hid (∀ k, k < zs.length → ¬ (zs.getD k 0 < (n : Int)) → pB (SmpIn zs n) = false) := hide (fun k hk hb => pB_no (fun h => hb (h k hk)))
  have hGood : Hid ((∀ k, k < zs.length → zs.getD k 0 < (n : Int)) → pB (SmpIn zs n) = true) := hide (fun h => pB_yes h)
  go_enter Tryd.func65, Tryd.ntmps65
  go_wp2
  go_loop [9] (fun i => ∃ k : Nat, k ≤ zs.length ∧ i = .int .i64 k ∧ Hid (∀ j, j < k → zs.getD j 0 < (n : Int))) (fun i => zs.length - (intOf i).toNat)
  case atStart => exact ⟨0, Nat.zero_le _, rfl, fun j hj => by omega⟩
  case round =>
    obtain ⟨k, hk', rfl, hok⟩ := hrel
    by_cases hlt : k < zs.length
    · obtain ⟨b, off, rfl, hbl, hcl⟩ := (unhide hA) (ne_of_lt_length hlt)
      have hck := hcl k hlt
      have hbad := hide (unhide hBad k hlt)
      have hOk : Hid (zs.getD k 0 < (n : Int) → ∀ j, j < k + 1 → zs.getD j 0 < (n : Int)) := hide (fun h j hj => by
        rcases Nat.lt_or_eq_of_le (Nat.le_of_lt_succ hj) with h' | h'
        · exact unhide hok j h'
        · subst h'; exact h)
      clear hcl hbl
      generalize zs.getD k 0 = x at hck hbad hOk
      by_cases h1 : x < (n : Int)
      · have hok2 := hide (unhide hOk h1)
        have h2 : ¬ ((n : Int) ≤ x) := by omega
        clear hbad hOk
        go_wp2
        go_round
        case rel => exact ⟨k + 1, by omega, by go_num, unhide hok2⟩
        case measure => simp [intOf]; omega
      · have hB := hide (unhide hbad (by omega))
        have h2 : (n : Int) ≤ x := by omega
        clear hbad hOk
        go_wp2
        go_ret
        exact ⟨by rw [unhide hB]; rfl, rfl⟩
    · have hkl : k = zs.length := by omega
      subst hkl
      have hs := hide (unhide hGood (unhide hok))
      go_wp2
      go_ret
      exact ⟨by rw [unhide hs]; rfl, rfl⟩

def mayB (p d : Int) : Bool := decide (p = 1 ∧ d ≤ 8)
set_option maxHeartbeats 1000000 in
theorem implMayHavePalette (a b p d : Int) (ad : Option Addr) (n cap : Nat) (w : World) :
    Calls Tryd.prog 64 #[.agg #[.int .i64 a, .int .i64 b, .int .i64 p, .int .i64 d, .slice ad n cap]] w fun e w' => e = .returned (.bool (mayB p d)) ∧ Upd 0 0 w w' := by
  have hB := hide (Upd.of_below ((Below.refl w.heap.size w).alloc (Nat.le_refl _) (.cells #[.int .i64 a, .int .i64 b, .int .i64 p, .int .i64 d, .slice ad n cap] 30)) 0 0)
  by_cases h1 : p = 1
  · subst h1
    by_cases h2 : d ≤ 8
    · have hE : mayB 1 d = true := by unfold mayB; simp [h2]
      rw [hE]
      go_enter Tryd.func64, Tryd.ntmps64
      go_wp2
      go_ret
      exact ⟨by first | rfl | (simp; omega), unhide hB⟩
    · have hE : mayB 1 d = false := by unfold mayB; simp; omega
      rw [hE]
      go_enter Tryd.func64, Tryd.ntmps64
      go_wp2
      go_ret
      exact ⟨by first | rfl | (simp; omega), unhide hB⟩
  · have hE : mayB p d = false := by unfold mayB; simp; omega
    have q : (p == 1) = false := by simpa using h1
    rw [hE]
    go_enter Tryd.func64, Tryd.ntmps64
    go_wp2
    go_ret
    exact ⟨by first | rfl | (simp; omega), unhide hB⟩

/-- What the program asks of a palette and a good image. -/
def PalAll (d : Im) (zp : List Int) : Prop := zp.length = 0 ∨ (ColOk zp ∧ (d.2.2.1 = 1 ∧ d.2.2.2.1 ≤ 8) ∧ SmpIn (ims d) zp.length)
theorem palAll_iff (d : St) : PalAll d.1 d.2.1 ↔ ColOk d.2.1 ∧ PalOk d := by
  unfold PalAll PalOk
  constructor
  · rintro (h | ⟨h1, h2, h3⟩)
    · exact ⟨⟨by omega, fun j hj => by omega⟩, fun h' => by omega⟩
    · exact ⟨h1, fun _ => ⟨h2.1, h2.2, h3⟩⟩
  · rintro ⟨h1, h2⟩
    by_cases h : d.2.1.length = 0
    · exact .inl h
    · have := h2 (by omega)
      exact .inr ⟨h1, ⟨this.1, this.2.1⟩, this.2.2⟩

set_option maxHeartbeats 4000000 in
theorem implGoodPalette (v : Value) (zp : List Int) (u : Value) (d : Im) (w : World) (hn : (ims d).length ≤ 1048576) (hn2 : zp.length ≤ 1048576) (hv : RdI w v zp) (hu : RdIm w u d) :
    Calls Tryd.prog 36 #[v, u] w fun e w' => e = .returned (.bool (pB (PalAll d zp))) ∧ Upd 0 0 w w' := by
  have hv0 := hide hv
  obtain ⟨ad, cap, rfl, hA⟩ := hv
  obtain ⟨vl, rfl, hl⟩ := hu
  have hl0 := hide hl
  obtain ⟨ad2, cap2, rfl, _⟩ := hl
  obtain ⟨a, b, p, dp, zs⟩ := d
  simp only [ims, imv] at hn hl0 ⊢
  replace hA := hide hA
  have hB0 := (Below.refl w.heap.size w).alloc (Nat.le_refl _) (.cells #[.int .i64 a, .int .i64 b, .int .i64 p, .int .i64 dp, .slice ad2 zs.length cap2] 30)
  have hcol := hide (implAreColours _ _ zs zp _ hn hn2 ((unhide hl0).below hB0) ((unhide hv0).below hB0))
  replace hB0 := hide (Upd.of_below hB0 0 0)
  by_cases h0 : zp.length = 0
  · rw [pB_yes (p := PalAll (a, b, p, dp, zs) zp) (.inl h0)]
    have q : ((zp.length : Int) == 0) = true := by simp [h0]
    clear hcol
    go_enter Tryd.func36, Tryd.ntmps36
    go_wp2
    go_ret
    exact ⟨rfl, unhide hB0⟩
  · have q : ((zp.length : Int) == 0) = false := beq_eq_false_iff_ne.2 (by omega)
    have hBad : Hid (∀ k, k < zp.length → ¬ (0 ≤ zp.getD k 0 ∧ zp.getD k 0 ≤ 16777215) → pB (PalAll (a, b, p, dp, zs) zp) = false) := hide (fun k hk hb => pB_no (fun h => by rcases h with h | h; omega; exact hb (h.1.2 k hk)))
    have hLong : Hid (¬ zp.length ≤ 256 → pB (PalAll (a, b, p, dp, zs) zp) = false) := hide (fun h => pB_no (fun h' => by rcases h' with h' | h'; omega; exact h h'.1.1))
    have hMay : Hid (mayB p dp = false → pB (PalAll (a, b, p, dp, zs) zp) = false) := hide (fun h => pB_no (fun h' => by
      rcases h' with h' | h'
      · omega
      · exact Bool.noConfusion ((decide_eq_true h'.2.1).symm.trans h)))
    have hCol : Hid (¬ SmpIn zs zp.length → pB (PalAll (a, b, p, dp, zs) zp) = false) := hide (fun h => pB_no (fun h' => by rcases h' with h' | h'; omega; exact h h'.2.2))
    have hGood : Hid ((∀ k, k < zp.length → (0 ≤ zp.getD k 0 ∧ zp.getD k 0 ≤ 16777215)) → zp.length ≤ 256 → mayB p dp = true → SmpIn zs zp.length → pB (PalAll (a, b, p, dp, zs) zp) = true) := hide (fun h1 h2 h3 h4 => pB_yes (.inr ⟨⟨h2, h1⟩, by unfold mayB at h3; simpa using h3, h4⟩))
    have hh := hide (held_new w [.int .i64 a, .int .i64 b, .int .i64 p, .int .i64 dp, .slice ad2 zs.length cap2] 30)
    go_enter Tryd.func36, Tryd.ntmps36
    go_wp2
    have hD : Hid (∀ j, j < zp.length → ∃ b' off', ad = some ⟨b', off', none⟩ ∧ (w.alloc (.cells #[.int .i64 a, .int .i64 b, .int .i64 p, .int .i64 dp, .slice ad2 zs.length cap2] 30)).cell? ⟨b', off' + j, none⟩ = some (.int .i64 (zp.getD j 0))) := hide (fun j hj => by
      obtain ⟨b', off', e, hbl, hc⟩ := (unhide hA) (ne_of_lt_length hj)
      exact ⟨b', off', e, (World.cell?_alloc_past _ _ _ (by first | exact hbl | (simp; omega))).trans (hc j hj)⟩)
    change Hid (Held (w.alloc (.cells #[.int .i64 a, .int .i64 b, .int .i64 p, .int .i64 dp, .slice ad2 zs.length cap2] 30)) _ _) at hh
    generalize w.alloc (.cells #[.int .i64 a, .int .i64 b, .int .i64 p, .int .i64 dp, .slice ad2 zs.length cap2] 30) = w1 at hcol hB0 hD hh ⊢
    have c0 := (unhide hh).2 0 _ rfl
    have c1 := (unhide hh).2 1 _ rfl
    have c2 := (unhide hh).2 2 _ rfl
    have c3 := (unhide hh).2 3 _ rfl
    have c4 := (unhide hh).2 4 _ rfl
    go_loop [12] (fun i => ∃ k : Nat, k ≤ zp.length ∧ i = .int .i64 k ∧ Hid (∀ j, j < k → (0 ≤ zp.getD j 0 ∧ zp.getD j 0 ≤ 16777215))) (fun i => zp.length - (intOf i).toNat)
    case atStart => exact ⟨0, Nat.zero_le _, rfl, fun j hj => by omega⟩
    case round =>
      obtain ⟨k, hk', rfl, hok⟩ := hrel
      by_cases hlt : k < zp.length
      · obtain ⟨b', off', rfl, hck⟩ := (unhide hD) k hlt
        have hbad := hide (unhide hBad k hlt)
        have hOk : Hid ((0 ≤ zp.getD k 0 ∧ zp.getD k 0 ≤ 16777215) → ∀ j, j < k + 1 → (0 ≤ zp.getD j 0 ∧ zp.getD j 0 ≤ 16777215)) := hide (fun h j hj => by
          rcases Nat.lt_or_eq_of_le (Nat.le_of_lt_succ hj) with h' | h'
          · exact unhide hok j h'
          · subst h'; exact h)
        clear hcol
        generalize zp.getD k 0 = x at hck hbad hOk
        by_cases h1 : x < 0
        · have hB := hide (unhide hbad (fun h => by have := h.1; omega))
          clear hbad hOk
          go_wp2
          go_ret
          exact ⟨by rw [unhide hB]; rfl, unhide hB0⟩
        · by_cases h2 : x ≤ 16777215
          · have hok2 := hide (unhide hOk ⟨by omega, h2⟩)
            clear hbad hOk
            go_wp2
            all_goals
              go_round
              case rel => exact ⟨k + 1, by omega, by go_num, unhide hok2⟩
              case measure => simp [intOf]; omega
          · have hB := hide (unhide hbad (fun h => h2 h.2))
            have h3 : 16777215 < x := by omega
            clear hbad hOk
            go_wp2
            go_ret
            exact ⟨by rw [unhide hB]; rfl, unhide hB0⟩
      · have hkl : k = zp.length := by omega
        subst hkl
        have hM := hide (implMayHavePalette a b p dp ad2 zs.length cap2 w1)
        by_cases l2 : zp.length ≤ 256
        · have l2' : (zp.length : Int) ≤ 256 := by omega
          cases hm : mayB p dp with
          | false =>
            have hB := hide (unhide hMay hm)
            rw [hm] at hM
            replace hm := hide hm
            go_wp2_with fail
            refine (unhide hM).mono ?_
            rintro e w2 ⟨rfl, hu2⟩
            have hu := hide ((unhide hB0).trans hu2)
            clear hu2 c0 c1 c2 c3 c4
            go_wp2
            go_ret
            exact ⟨by rw [unhide hB]; first | rfl | (simp; omega), unhide hu⟩
          | true =>
            rw [hm] at hM
            have hcol2 := hide (fun W (hW : Upd 0 0 w1 W) => implAreColours _ _ zs zp W hn hn2 ((unhide hl0).below ((unhide hB0).trans hW).none) ((unhide hv0).below ((unhide hB0).trans hW).none))
            clear hcol
            go_wp2_with fail
            refine (unhide hM).mono ?_
            rintro e w2 ⟨rfl, hu2⟩
            have hu := hide ((unhide hB0).trans hu2)
            have hC2 := hide (unhide hcol2 w2 hu2)
            replace hh := hide ((unhide hh).keep hu2)
            clear hu2 c0 c1 c2 c3 c4 hcol2
            have c0 := (unhide hh).2 0 _ rfl
            have c1 := (unhide hh).2 1 _ rfl
            have c2 := (unhide hh).2 2 _ rfl
            have c3 := (unhide hh).2 3 _ rfl
            have c4 := (unhide hh).2 4 _ rfl
            by_cases hs : SmpIn zs zp.length
            · have hB := hide (unhide hGood (unhide hok) l2 hm hs)
              replace hm := hide hm
              rw [pB_yes hs] at hC2
              replace hs := hide hs
              go_wp2_with fail
              refine (unhide hC2).mono ?_
              rintro e w3 ⟨rfl, rfl⟩
              go_wp2
              go_ret
              exact ⟨by rw [unhide hB]; first | rfl | (simp; omega), unhide hu⟩
            · have hB := hide (unhide hCol hs)
              replace hm := hide hm
              rw [pB_no hs] at hC2
              replace hs := hide hs
              go_wp2_with fail
              refine (unhide hC2).mono ?_
              rintro e w3 ⟨rfl, rfl⟩
              go_wp2
              go_ret
              exact ⟨by rw [unhide hB]; first | rfl | (simp; omega), unhide hu⟩
        · have hB := hide (unhide hLong l2)
          have l2' : ¬ (zp.length : Int) ≤ 256 := by omega
          clear hM hcol
          go_wp2
          go_ret
          exact ⟨by rw [unhide hB]; first | rfl | (simp; omega), unhide hB0⟩
end Go.Proofs.YthpkngipiapbpaaDoor
