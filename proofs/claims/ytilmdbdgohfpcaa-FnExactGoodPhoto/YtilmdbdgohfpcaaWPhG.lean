/- The specification's head of a photo. -/
import Derived.Test.YtilmdbdgohfpcaaWPhF
import Derived.Test.YtilmdbdgohfpcaaWPhB
import Derived.Test.YtilmdbdgohfpcaaWGpA
namespace Go.Proofs.Ytilmdbdgohfpcaa
open Go.RowKit

set_option maxHeartbeats 4000000 in
theorem specShapeBlocks (v0 v1 : Value) (c r p : Int) (ad0 ad1 : Option Addr) (n0 n1 c0 c1 : Nat) (w : World) (h0 : v0 = .slice ad0 n0 c0) (h1 : v1 = .slice ad1 n1 c1) (hcr : -1000000 ≤ c * r ∧ c * r ≤ 1000000) (hcrp : -1000000 ≤ c * r * p ∧ c * r * p ≤ 1000000) :
    Calls Try.prog 55 #[.agg #[v0, v1, .int .i64 c, .int .i64 r, .int .i64 p]] w fun e w' => e = .returned (.int .i64 (c * r * p)) ∧ Upd 0 0 w w' := by
  subst h0 h1
  obtain ⟨P, hP⟩ : ∃ P, c * r = P := ⟨_, rfl⟩
  rw [hP] at hcr hcrp ⊢
  obtain ⟨R, hR⟩ : ∃ R, P * p = R := ⟨_, rfl⟩
  rw [hR] at hcrp ⊢
  have w1 : IntKind.i64.wrap P = P := wrapP (by omega)
  have w2 : IntKind.i64.wrap R = R := wrapP (by omega)
  have hU := hide (Upd.of_below ((Below.refl w.heap.size w).alloc (Nat.le_refl _) (.cells #[.slice ad0 n0 c0, .slice ad1 n1 c1, .int .i64 c, .int .i64 r, .int .i64 p] 77)) 0 0)
  clear hcr hcrp
  go_enter Try.func55, Try.ntmps55
  go_wp2
  go_ret
  exact ⟨rfl, unhide hU⟩

set_option maxHeartbeats 16000000 in
set_option maxRecDepth 100000 in
theorem specL9Head (a b q : Int) (hf st : Bool) (ev : Int) (ad : Option Addr) (n cap : Nat) (p : Nat) (w : World) (hp : p ≤ 1048576) :
    Calls Try.prog 40 #[phv a b q hf st ev (.slice ad n cap), .int .i64 (p : Int)] w fun e w' => e = .returned (.bool (decide (HeadOk a b q hf st ev p))) ∧ Upd 0 0 w w' := by
  have hbx : HeldF (w.alloc (.cells #[.int .i64 a, .int .i64 b, .int .i64 q, .bool hf, .bool st, .int .i64 ev, .slice ad n cap] 46)) w.heap.size (phc a b q hf st ev (.slice ad n cap)) := heldF_new w (phc a b q hf st ev (.slice ad n cap)) 46
  have hU := Upd.of_below ((Below.refl w.heap.size w).alloc (Nat.le_refl _) (.cells #[.int .i64 a, .int .i64 b, .int .i64 q, .bool hf, .bool st, .int .i64 ev, .slice ad n cap] 46)) 0 0
  obtain ⟨W0, hW0⟩ : ∃ W0, w.alloc (.cells #[.int .i64 a, .int .i64 b, .int .i64 q, .bool hf, .bool st, .int .i64 ev, .slice ad n cap] 46) = W0 := ⟨_, rfl⟩
  rw [hW0] at hbx hU
  have k0 := hbx.1.2 0 _ rfl
  have k1 := hbx.1.2 1 _ rfl
  have k2 := hbx.1.2 2 _ rfl
  have k3 := hbx.1.2 3 _ rfl
  have k4 := hbx.1.2 4 _ rfl
  have k5 := hbx.1.2 5 _ rfl
  have k6 := hbx.1.2 6 _ rfl
  replace hbx := hide hbx
  replace hU := hide hU
  have hS := hide (fun X => specL7Sides a b X)
  have no : ¬ HeadOk a b q hf st ev p → decide (HeadOk a b q hf st ev p) = false := fun h => decide_eq_false h
  by_cases h1 : SidesOk a b ∧ (1 ≤ q ∧ q ≤ 100) ∧ (0 ≤ ev ∧ ev ≤ 1000)
  case neg =>
    rw [no (fun h => h1 ⟨h.1, h.2.1, h.2.2.1⟩)]
    clear no
    by_cases hs : SidesOk a b
    case neg =>
      rw [decide_eq_false hs] at hS
      clear h1 hs
      go_enter Try.func40, Try.ntmps40
      go_wp2_with fail
      refine (unhide hS _).mono ?_
      rintro e w1 ⟨rfl, rfl⟩
      go_wp2
      go_ret
      exact ⟨rfl, unhide hU⟩
    rw [decide_eq_true hs] at hS
    have hc : q < 1 ∨ (¬ q < 1 ∧ 100 < q) ∨ (¬ q < 1 ∧ ¬ 100 < q ∧ ev < 0) ∨ (¬ q < 1 ∧ ¬ 100 < q ∧ ¬ ev < 0 ∧ 1000 < ev) := by
      have h2 : ¬ ((1 ≤ q ∧ q ≤ 100) ∧ (0 ≤ ev ∧ ev ≤ 1000)) := fun h => h1 ⟨hs, h⟩
      omega
    clear h1 hs
    rcases hc with c1 | ⟨c1, c2⟩ | ⟨c1, c2, c3⟩ | ⟨c1, c2, c3, c4⟩
    all_goals
      go_enter Try.func40, Try.ntmps40
      go_wp2_with fail
      refine (unhide hS _).mono ?_
      rintro e w1 ⟨rfl, rfl⟩
      go_wp2
      go_ret
      exact ⟨rfl, unhide hU⟩
  obtain ⟨hs, ⟨q1, q2⟩, e1, e2⟩ := h1
  rw [decide_eq_true hs] at hS
  have c1 : ¬ q < 1 := by omega
  have c2 : ¬ 100 < q := by omega
  have c3 : ¬ ev < 0 := by omega
  have c4 : ¬ 1000 < ev := by omega
  by_cases h2 : (p = 1 ∨ p = 3) ∧ (hf = true → p = 3) ∧ (st = true → ev = 0)
  case neg =>
    rw [no (fun h => h2 ⟨h.2.2.2.1, h.2.2.2.2.1, h.2.2.2.2.2.1⟩)]
    -- which of the tests fails first
    have hc : (¬ (p : Int) = 1 ∧ ¬ (p : Int) = 3) ∨ ((p : Int) = 1 ∧ hf = true) ∨ ((p : Int) = 1 ∧ hf = false ∧ st = true ∧ ¬ ev = 0) ∨ (¬ (p : Int) = 1 ∧ (p : Int) = 3 ∧ hf = false ∧ st = true ∧ ¬ ev = 0) ∨ (¬ (p : Int) = 1 ∧ (p : Int) = 3 ∧ hf = true ∧ st = true ∧ ¬ ev = 0) := by
      by_cases p1 : (p : Int) = 1
      · cases hf
        · refine .inr (.inr (.inl ⟨p1, rfl, ?_⟩))
          cases st
          · exact absurd ⟨.inl (by omega), (fun h => Bool.noConfusion h), (fun h => Bool.noConfusion h)⟩ h2
          · exact ⟨rfl, fun h => h2 ⟨.inl (by omega), (fun h => Bool.noConfusion h), fun _ => h⟩⟩
        · exact .inr (.inl ⟨p1, rfl⟩)
      · by_cases p3 : (p : Int) = 3
        · cases st
          · exact absurd ⟨.inr (by omega), (fun _ => by omega), (fun h => Bool.noConfusion h)⟩ h2
          · have hev : ¬ ev = 0 := fun h => h2 ⟨.inr (by omega), (fun _ => by omega), fun _ => h⟩
            cases hf
            · exact .inr (.inr (.inr (.inl ⟨p1, p3, rfl, rfl, hev⟩)))
            · exact .inr (.inr (.inr (.inr ⟨p1, p3, rfl, rfl, hev⟩)))
        · exact .inl ⟨p1, p3⟩
    clear no h2 hs q1 q2 e1 e2
    rcases hc with ⟨p1, p3⟩ | ⟨p1, rfl⟩ | ⟨p1, rfl, rfl, v1⟩ | ⟨p1, p3, rfl, rfl, v1⟩ | ⟨p1, p3, rfl, rfl, v1⟩
    all_goals
      go_enter Try.func40, Try.ntmps40
      go_wp2_with fail
      refine (unhide hS _).mono ?_
      rintro e w1 ⟨rfl, rfl⟩
      go_wp2
      go_ret
      exact ⟨rfl, unhide hU⟩
  obtain ⟨hp13, hf3, hst⟩ := h2
  have hR : Hid (decide (HeadOk a b q hf st ev p) = decide (blocksZ a b hf p ≤ 400)) := hide (by
    by_cases h : blocksZ a b hf p ≤ 400
    · rw [decide_eq_true h]
      exact decide_eq_true ⟨hs, ⟨q1, q2⟩, ⟨e1, e2⟩, hp13, hf3, hst, h⟩
    · rw [decide_eq_false h]
      exact decide_eq_false (fun h' => h h'.2.2.2.2.2.2))
  rw [unhide hR]
  have hC := hide (fun X => specL9Cut a b q hf st ev ad n cap p X (by omega) hs.1 hs.2.1)
  have hB : Hid (∀ gw cw gh ch X, Calls Try.prog 55 #[.agg #[slv gw p cw, slv gh p ch, .int .i64 (upZ a (uZ hf)), .int .i64 (upZ b (uZ hf)), .int .i64 (perN hf p : Nat)]] X fun e w' => e = .returned (.int .i64 (blocksZ a b hf p)) ∧ Upd 0 0 X w') := hide (fun gw cw gh ch X => by
    obtain ⟨u1, u2⟩ := units_bd a b hf hs.1 hs.2.1
    have hper := perN_bd hf p (by omega)
    refine specShapeBlocks _ _ _ _ _ _ _ _ _ _ _ X rfl rfl (by omega) ?_
    generalize upZ a (uZ hf) * upZ b (uZ hf) = P at u1 u2
    generalize perN hf p = r at hper
    obtain ⟨k, rfl⟩ := Int.eq_ofNat_of_zero_le (show 0 ≤ P by omega)
    have : k * r ≤ 4096 * 6 := Nat.mul_le_mul (by omega) hper
    have e : ((k : Nat) : Int) * (r : Int) = ((k * r : Nat) : Int) := by simp
    rw [e]; omega)
  generalize blocksZ a b hf p = B at hB
  generalize perN hf p = r at hB hC
  clear no hs q1 q2 e1 e2 hR
  have hP : (((p : Int) != 1) = false ∧ ((p : Int) != 3) = true ∧ hf = false) ∨ (((p : Int) != 1) = true ∧ ((p : Int) != 3) = false ∧ hf = false) ∨ (((p : Int) != 1) = true ∧ ((p : Int) != 3) = false ∧ hf = true) := by
    cases hf
    · rcases hp13 with h | h
      · exact .inl ⟨by simp; omega, by simp; omega, rfl⟩
      · exact .inr (.inl ⟨by simp; omega, by simp; omega, rfl⟩)
    · have := hf3 rfl
      exact .inr (.inr ⟨by simp; omega, by simp; omega, rfl⟩)
  have hT : st = false ∨ (st = true ∧ ev = 0) := by
    cases st
    · exact .inl rfl
    · exact .inr ⟨rfl, hst rfl⟩
  clear hp13 hf3 hst
  rcases hP with ⟨p1, p3, rfl⟩ | ⟨p1, p3, rfl⟩ | ⟨p1, p3, rfl⟩
  all_goals
    rcases hT with rfl | ⟨rfl, rfl⟩
    all_goals
      go_enter Try.func40, Try.ntmps40
      go_wp2_with fail
      refine (unhide hS _).mono ?_
      rintro e w1 ⟨rfl, rfl⟩
      go_wp2_with fail
      refine (unhide hC _).mono ?_
      rintro e w2 ⟨gw, cw, gh, ch, rfl, _, _, _, hu2⟩
      replace hU := hide ((unhide hU).trans hu2)
      clear hu2 hbx k0 k1 k2 k3 k4 k5 k6
      go_wp2_with fail
      refine (unhide hB _ _ _ _ _).mono ?_
      rintro e w3 ⟨rfl, hu3⟩
      replace hU := hide ((unhide hU).trans hu3)
      clear hu3
      go_wp2
      go_ret
      exact ⟨rfl, unhide hU⟩
end Go.Proofs.Ytilmdbdgohfpcaa
