/- The program's shape of a photo, and GoodPhoto. -/
import Derived.Test.YtilmdbdgohfpcaaWPhB
import Derived.Test.YtilmdbdgohfpcaaWSides
namespace Go.Proofs.Ytilmdbdgohfpcaa
open Go.RowKit

set_option maxHeartbeats 8000000 in
set_option maxRecDepth 100000 in
theorem implGoodShape (a b q : Int) (hf st : Bool) (ev : Int) (ad : Option Addr) (n cap : Nat) (w : World) (hn : n ≤ 1048576) :
    Calls Try.prog 43 #[phv a b q hf st ev (.slice ad n cap)] w fun e w' => e = .returned (.bool (decide (HeadOk a b q hf st ev n))) ∧ Upd 0 0 w w' := by
  have hbx := hide (heldF_new w (phc a b q hf st ev (.slice ad n cap)) 46)
  have hU := hide (Upd.of_below ((Below.refl w.heap.size w).alloc (Nat.le_refl _) (.cells #[.int .i64 a, .int .i64 b, .int .i64 q, .bool hf, .bool st, .int .i64 ev, .slice ad n cap] 46)) 0 0)
  have hS := hide (fun X => implGoodSidesP a b X)
  have no : ¬ HeadOk a b q hf st ev n → decide (HeadOk a b q hf st ev n) = false := fun h => decide_eq_false h
  by_cases h1 : SidesOk a b ∧ (1 ≤ q ∧ q ≤ 100) ∧ (0 ≤ ev ∧ ev ≤ 1000)
  case neg =>
    rw [no (fun h => h1 ⟨h.1, h.2.1, h.2.2.1⟩)]
    clear no
    by_cases hs : SidesOk a b
    case neg =>
      rw [show decide ((1 ≤ a ∧ a ≤ 512) ∧ (1 ≤ b ∧ b ≤ 512) ∧ a * b ≤ 4096) = false from decide_eq_false hs] at hS
      clear h1 hs
      go_enter Try.func43, Try.ntmps43
      go_wp2_with fail
      refine (unhide hS _).mono ?_
      rintro e w1 ⟨rfl, rfl⟩
      go_wp2
      go_ret
      exact ⟨rfl, unhide hU⟩
    rw [show decide ((1 ≤ a ∧ a ≤ 512) ∧ (1 ≤ b ∧ b ≤ 512) ∧ a * b ≤ 4096) = true from decide_eq_true hs] at hS
    have hc : q < 1 ∨ (¬ q < 1 ∧ 100 < q) ∨ (¬ q < 1 ∧ ¬ 100 < q ∧ ev < 0) ∨ (¬ q < 1 ∧ ¬ 100 < q ∧ ¬ ev < 0 ∧ 1000 < ev) := by
      have h2 : ¬ ((1 ≤ q ∧ q ≤ 100) ∧ (0 ≤ ev ∧ ev ≤ 1000)) := fun h => h1 ⟨hs, h⟩
      omega
    clear h1 hs
    rcases hc with c1 | ⟨c1, c2⟩ | ⟨c1, c2, c3⟩ | ⟨c1, c2, c3, c4⟩
    all_goals
      go_enter Try.func43, Try.ntmps43
      go_wp2_with fail
      refine (unhide hS _).mono ?_
      rintro e w1 ⟨rfl, rfl⟩
      go_wp2
      go_ret
      exact ⟨rfl, unhide hU⟩
  obtain ⟨hs, ⟨q1, q2⟩, e1, e2⟩ := h1
  rw [show decide ((1 ≤ a ∧ a ≤ 512) ∧ (1 ≤ b ∧ b ≤ 512) ∧ a * b ≤ 4096) = true from decide_eq_true hs] at hS
  have c1 : ¬ q < 1 := by omega
  have c2 : ¬ 100 < q := by omega
  have c3 : ¬ ev < 0 := by omega
  have c4 : ¬ 1000 < ev := by omega
  by_cases h2 : (n = 1 ∨ n = 3) ∧ (hf = true → n = 3)
  case neg =>
    rw [no (fun h => h2 ⟨h.2.2.2.1, h.2.2.2.2.1⟩)]
    have hc : ¬ (n : Int) = 3 ∧ (¬ (n : Int) = 1 ∨ ((n : Int) = 1 ∧ hf = true)) := by
      cases hf
      · have : ¬ (n = 1 ∨ n = 3) := fun h => h2 ⟨h, fun h' => by cases h'⟩
        omega
      · have : ¬ (n = 3) := fun h => h2 ⟨.inr h, fun _ => h⟩
        refine ⟨by omega, ?_⟩
        by_cases h1 : (n : Int) = 1
        · exact .inr ⟨h1, rfl⟩
        · exact .inl h1
    obtain ⟨n3, hc⟩ := hc
    clear no h2 hs q1 q2 e1 e2
    rcases hc with n1 | ⟨n1, rfl⟩
    all_goals
      go_enter Try.func43, Try.ntmps43
      go_wp2_with fail
      refine (unhide hS _).mono ?_
      rintro e w1 ⟨rfl, rfl⟩
      go_wp2
      go_ret
      exact ⟨rfl, unhide hU⟩
  obtain ⟨hn13, hf3⟩ := h2
  have hB := hide (fun X => implCountBlocks a b q hf st ev ad n cap X hs.1 hs.2.1 hn13 hf3)
  by_cases h3 : ev = 0 ∨ st = false
  case neg =>
    rw [no (fun h => h3 (by cases hst : st; exact .inr rfl; exact .inl (h.2.2.2.2.2.1 hst)))]
    have v1 : ¬ ev = 0 := fun h => h3 (.inl h)
    have v2 : st = true := by cases st; exact absurd (.inr rfl) h3; rfl
    subst v2
    clear no h3 hs q1 q2 e1 e2 hB
    rcases (show n = 3 ∨ (n = 1 ∧ hf = false) by
      rcases hn13 with h | h
      · cases hf
        · exact .inr ⟨h, rfl⟩
        · exact .inl (hf3 rfl)
      · exact .inl h) with rfl | ⟨rfl, rfl⟩
    all_goals
      go_enter Try.func43, Try.ntmps43
      go_wp2_with fail
      refine (unhide hS _).mono ?_
      rintro e w1 ⟨rfl, rfl⟩
      go_wp2
      go_ret
      exact ⟨rfl, unhide hU⟩
  have hR : Hid (decide (HeadOk a b q hf st ev n) = decide (blocksZ a b hf n ≤ 400)) := hide (by
    by_cases h : blocksZ a b hf n ≤ 400
    · rw [decide_eq_true h]
      have hst : st = true → ev = 0 := by
        intro h'
        rcases h3 with h3 | h3
        · exact h3
        · rw [h3] at h'; cases h'
      exact decide_eq_true ⟨hs, ⟨q1, q2⟩, ⟨e1, e2⟩, hn13, hf3, hst, h⟩
    · rw [decide_eq_false h]
      exact decide_eq_false (fun h' => h h'.2.2.2.2.2.2))
  rw [unhide hR]
  generalize blocksZ a b hf n = B at hB
  clear no hs q1 q2 e1 e2 hR
  rcases (show n = 3 ∨ (n = 1 ∧ hf = false) by
    rcases hn13 with h | h
    · cases hf
      · exact .inr ⟨h, rfl⟩
      · exact .inl (hf3 rfl)
    · exact .inl h) with rfl | ⟨rfl, rfl⟩
  all_goals
    rcases (show ev = 0 ∨ (¬ ev = 0 ∧ st = false) by
      by_cases h : ev = 0
      · exact .inl h
      · exact .inr ⟨h, h3.resolve_left h⟩) with rfl | ⟨v1, rfl⟩
    all_goals
      clear h3 hn13 hf3
      go_enter Try.func43, Try.ntmps43
      go_wp2_with fail
      refine (unhide hS _).mono ?_
      rintro e w1 ⟨rfl, rfl⟩
      go_wp2_with fail
      refine (unhide hB _).mono ?_
      rintro e w2 ⟨rfl, hu2⟩
      replace hu2 := hide ((unhide hU).trans hu2)
      go_wp2
      go_ret
      exact ⟨rfl, unhide hu2⟩

end Go.Proofs.Ytilmdbdgohfpcaa
