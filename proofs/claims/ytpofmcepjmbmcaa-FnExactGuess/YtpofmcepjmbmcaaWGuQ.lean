/- Guesses: Guess, the program, whole. -/
import Derived.Test.YtpofmcepjmbmcaaWGuP
namespace Go.Proofs.Ytpofmcepjmbmcaa
open Go.RowKit

theorem cellsTo_gu (mode : Int) (S : Nat) (xs ys : List Int) (c : Int) (f : Nat → Int) (h : ∀ q, f q = guCell mode S xs ys c q) : cellsTo f (S * S) = guL mode S xs ys c := by
  unfold cellsTo guL
  rw [show f = guCell mode S xs ys c from funext h]
theorem guB_good {mode size : Int} {xs ys : List Int} {c : Int} (h : guGood size xs ys c = false) : guB mode size xs ys c = false := by
  cases e : guB mode size xs ys c
  · rfl
  · exfalso
    unfold guB at e
    unfold guGood guSide at h
    simp only [Bool.and_eq_true, decide_eq_true_eq] at e
    obtain ⟨⟨⟨⟨⟨_, e1⟩, e2⟩, e3⟩, e4⟩, _⟩ := e
    rw [decide_eq_true e1, decide_eq_true e2, e3, e4] at h
    simp at h
theorem guB_mode {mode size : Int} {xs ys : List Int} {c : Int} (h : ¬ (0 ≤ mode ∧ mode ≤ 3)) : guB mode size xs ys c = false := by unfold guB; rw [decide_eq_false h]; simp
set_option maxHeartbeats 4000000 in
theorem implGuess (mode size : Int) (v1 : Value) (xs : List Int) (v2 : Value) (ys : List Int) (c : Int) (w : World) (_m0 : -9223372036854775808 ≤ mode) (_m1 : mode ≤ 9223372036854775807) (_s0 : -9223372036854775808 ≤ size) (_s1 : size ≤ 9223372036854775807) (hn : xs.length ≤ 1048576) (_hR : InI xs) (hv : RdX w v1 xs) (hn' : ys.length ≤ 1048576) (_hR' : InI ys) (hv' : RdX w v2 ys) (_c0 : -9223372036854775808 ≤ c) (_c1 : c ≤ 9223372036854775807) :
    Calls Try.prog 21 #[.int .i64 mode, .int .i64 size, v1, v2, .int .i64 c] w fun e w' => ∃ u, e = .returned u ∧ OwnI w' w.heap.size w'.heap.size u (guF mode size xs ys c) ∧ Upd 0 0 w w' := by
  have hI := fun W (hW : Below w.heap.size w W) => implIsGood size c v1 v2 xs ys W hn (hv.below hW).rd hn' (hv'.below hW).rd
  obtain ⟨ad, cap, rfl, hA⟩ := hv.rd
  obtain ⟨ad2, cap2, rfl, hA2⟩ := hv'.rd
  have nil : ∀ {e : Ending} {w' : World}, e = .returned (.slice none 0 0) ∧ Upd 0 0 w w' → ∃ u, e = .returned u ∧ OwnI w' w.heap.size w'.heap.size u [] ∧ Upd 0 0 w w' := fun ⟨h1, h2⟩ => ⟨_, h1, own_nilI _ _ _, h2⟩
  cases hg : guGood size xs ys c
  · rw [guF_no (guB_good hg)]
    rw [hg] at hI
    exact (implGuessNoA mode size c ad ad2 xs.length ys.length cap cap2 w hI).mono fun e w' h => nil h
  rw [hg] at hI
  by_cases hm0 : mode < 0
  · rw [guF_no (guB_mode (by omega))]
    exact (implGuessNoB mode size c ad ad2 xs.length ys.length cap cap2 w hm0 hI).mono fun e w' h => nil h
  by_cases hm4 : 4 ≤ mode
  · rw [guF_no (guB_mode (by omega))]
    exact (implGuessNoC mode size c ad ad2 xs.length ys.length cap cap2 w hm4 hI).mono fun e w' h => nil h
  unfold guGood at hg
  simp only [Bool.and_eq_true, decide_eq_true_eq] at hg
  obtain ⟨⟨⟨hs, hx⟩, hy⟩, hc⟩ := hg
  have hB := guB_of (show 0 ≤ mode ∧ mode ≤ 3 by omega) hs hc hx hy
  obtain ⟨_, q1, q2, q3, q4, _⟩ := guOk_of hs hc hx hy
  obtain ⟨S, rfl⟩ : ∃ S : Nat, size = (S : Int) := ⟨size.toNat, by omega⟩
  have hS : S = 4 ∨ S = 8 := by omega
  rw [Int.toNat_natCast] at q1 q2
  have noL : ∀ {f : FuncId} {a : Array Value} {W : World}, (Calls Try.prog f a W fun e w' => e = .returned (.slice none 0 0) ∧ Upd 0 0 W w') → Calls Try.prog f a W fun e w' => ∃ v, e = .returned v ∧ OwnI w' W.heap.size w'.heap.size v [] ∧ Upd 0 0 W w' := fun h => h.mono fun e w' h => ⟨_, h.1, own_nilI _ _ _, h.2⟩
  rcases (show mode = 0 ∨ mode = 1 ∨ mode = 2 ∨ mode = 3 by omega) with rfl | rfl | rfl | rfl
  · rw [guF_yes (by rw [hB]; rfl), Int.toNat_natCast, ← cellsTo_gu 0 S xs ys c (fun _ => guMean xs ys) (fun q => by simp [guCell])]
    exact implGuessAt0 S c ad ad2 xs.length ys.length cap cap2 _ w hI (fun W hW => implGuessMean S c ad ad2 cap cap2 xs ys W hS (by omega) (by omega) q3 q4 (hv.below hW) (hv'.below hW))
  · by_cases h1 : xs.length = 0
    · rw [guF_no (by rw [hB]; simp [guLackB, h1])]
      exact implGuessAt1 S c ad ad2 xs.length ys.length cap cap2 _ w hI (fun W hW => noL (implGuessLeftNo S c ad ad2 cap cap2 xs ys W h1))
    · rw [guF_yes (by rw [hB]; simp [guLackB, h1]), Int.toNat_natCast, ← cellsTo_gu 1 S xs ys c (fun q => xs.getD (q / S) 0) (fun q => by simp [guCell])]
      exact implGuessAt1 S c ad ad2 xs.length ys.length cap cap2 _ w hI (fun W hW => implGuessLeft S c ad ad2 cap cap2 xs ys W hS (by omega) (hA.below hW))
  · by_cases h2 : ys.length = 0
    · rw [guF_no (by rw [hB]; simp [guLackB, h2])]
      exact implGuessAt2 S c ad ad2 xs.length ys.length cap cap2 _ w hI (fun W hW => noL (implGuessAboveNo S c ad ad2 cap cap2 xs ys W h2))
    · rw [guF_yes (by rw [hB]; simp [guLackB, h2]), Int.toNat_natCast, ← cellsTo_gu 2 S xs ys c (fun q => ys.getD (q % S) 0) (fun q => by simp [guCell])]
      exact implGuessAt2 S c ad ad2 xs.length ys.length cap cap2 _ w hI (fun W hW => implGuessAbove S c ad ad2 cap cap2 xs ys W hS (by omega) (hA2.below hW))
  · by_cases h1 : xs.length = 0
    · rw [guF_no (by rw [hB]; simp [guLackB, h1])]
      exact implGuessAt3 S c ad ad2 xs.length ys.length cap cap2 _ w hI (fun W hW => noL (implGuessSlopeANo S c ad ad2 cap cap2 xs ys W h1))
    · by_cases h2 : ys.length = 0
      · rw [guF_no (by rw [hB]; simp [guLackB, h2])]
        exact implGuessAt3 S c ad ad2 xs.length ys.length cap cap2 _ w hI (fun W hW => noL (implGuessSlopeBNo S c ad ad2 cap cap2 xs ys W h1 h2))
      · rw [guF_yes (by rw [hB]; simp [guLackB, h1, h2]), Int.toNat_natCast, ← cellsTo_gu 3 S xs ys c (fun q => clipF (xs.getD (q / S) 0 + ys.getD (q % S) 0 - c)) (fun q => by simp [guCell])]
        exact implGuessAt3 S c ad ad2 xs.length ys.length cap cap2 _ w hI (fun W hW => implGuessSlope S c ad ad2 cap cap2 xs ys W hS (by omega) (by omega) hc q3 q4 (hA.below hW) (hA2.below hW))
end Go.Proofs.Ytpofmcepjmbmcaa
