/- Odds: what places and choices may be: both sides. -/
import Derived.Test.YtocoeodoihdkgaaPlainOd
import Derived.Test.YtocoeodoihdkgaaWRCh
namespace Go.Proofs.Ytocoeodoihdkgaa
open Go.RowKit

theorem chsOk_take {places : Int} {cs : List (Int × Int)} (h : ∀ j, j < cs.length → chB places (cs.getD j (0, 0)) = true) : chsB places cs = true :=
  (chsB_iff _ _).2 fun j hj => (chB_iff _ _).1 (h j hj)
theorem chsB_no {places : Int} {cs : List (Int × Int)} (j : Nat) (hj : j < cs.length) (h : chB places (cs.getD j (0, 0)) = false) : chsB places cs = false := by
  cases he : chsB places cs with
  | false => rfl
  | true =>
    have := (chB_iff _ _).2 ((chsB_iff _ _).1 he j hj)
    rw [h] at this; exact this.symm
theorem oddsB_no {places : Int} {cs : List (Int × Int)} (h : chsB places cs = false) : oddsB places cs = false := by
  unfold oddsB; rw [h, Bool.and_false]
theorem chB_cases (places x y : Int) : (chB places (x, y) = true ∧ 0 ≤ x ∧ x < places ∧ 0 ≤ y ∧ y ≤ 1) ∨ (chB places (x, y) = false ∧ (x < 0 ∨ (0 ≤ x ∧ places ≤ x) ∨ (0 ≤ x ∧ x < places ∧ y < 0) ∨ (0 ≤ x ∧ x < places ∧ 0 ≤ y ∧ 1 < y))) := by
  by_cases h : (0 ≤ x ∧ x < places) ∧ 0 ≤ y ∧ y ≤ 1
  · exact .inl ⟨(chB_iff _ _).2 h, h.1.1, h.1.2, h.2⟩
  · refine .inr ⟨?_, by omega⟩
    cases he : chB places (x, y) with
    | false => rfl
    | true => exact absurd ((chB_iff _ _).1 he) h
set_option maxRecDepth 100000 in
set_option maxHeartbeats 8000000 in
theorem specL12Ok (p : Int) (v : Value) (cs : List Ch) (w : World) (hn : cs.length ≤ 1048576) (hv : RdCh w v cs) :
    Calls Try.prog 62 #[.int .i64 p, v] w fun e w' => e = .returned (.bool (oddsB p cs)) ∧ Upd 0 0 w w' := by
  obtain ⟨ad, cap, rfl, hA⟩ := hv
  replace hA := hide hA
  go_enter Try.func62, Try.ntmps62
  go_wp2_with fail
  go_loopw [6, 9] (fun _ i wr => ∃ (j : Nat), i = .int .i64 (j : Int) ∧ j ≤ cs.length ∧ Hid (∀ k, k < j → chB p (cs.getD k (0, 0)) = true) ∧ Hid (Below w.heap.size w wr)) (fun _ i _ => cs.length - (intOf i).toNat)
  case atStart => exact ⟨0, rfl, by omega, hide (fun k hk => by omega), hide (Below.refl _ _)⟩
  case round =>
    obtain ⟨j, rfl, hj, hst, hbel⟩ := hrel
    by_cases hjl : j < cs.length
    · obtain ⟨bb, off, rfl, hbl, hcl⟩ := (unhide hA) (ne_of_lt_length hjl)
      obtain ⟨c0, c1⟩ := hcl j hjl
      rw [show cs.getD j Ch0 = cs.getD j (0, 0) from rfl] at c0 c1
      generalize hx : cs.getD j (0, 0) = c at c0 c1
      obtain ⟨x, y⟩ := c
      have c0 : wr.cell? ⟨bb, off + j * 2, none⟩ = some (.int .i64 x) := ((unhide hbel).cell (by simpa using hbl)).trans c0
      have c1 : wr.cell? ⟨bb, off + j * 2 + 1, none⟩ = some (.int .i64 y) := ((unhide hbel).cell (by simpa using hbl)).trans c1
      have hb2 := hide ((unhide hbel).alloc (unhide hbel).size (.cells #[.int .i64 x, .int .i64 y] 38))
      replace hA := hide hA
      clear hcl
      rcases chB_cases p x y with ⟨hcb, x0, x1, y0, y1⟩ | ⟨hcb, hbad⟩
      · have hst2 := hide (show ∀ k, k < j + 1 → chB p (cs.getD k (0, 0)) = true from fun k hk => by
          rcases Nat.lt_or_ge k j with h | h
          · exact unhide hst k h
          · rw [show k = j by omega, hx]; exact hcb)
        clear hst hx hcb
        go_wp2_with fail
        go_roundw
        case rel => exact ⟨j + 1, by go_num, by omega, hst2, hb2⟩
        case measure => simp [intOf]; omega
      · have hno := hide (oddsB_no (chsB_no (places := p) j hjl (by rw [hx]; exact hcb)))
        have hfin := hide (Upd.of_below (unhide hb2) 0 0)
        clear hst hx hcb
        rcases hbad with h | ⟨h, h'⟩ | ⟨h, h', h''⟩ | ⟨h, h', h'', h3⟩
        all_goals
          go_wp2
          go_ret
          exact ⟨by rw [unhide hno]; rfl, unhide hfin⟩
    · obtain rfl : j = cs.length := by omega
      have hyes := hide (chsOk_take (places := p) (unhide hst))
      clear hst hjl
      have hE := hide (show oddsB p cs = (decide (1 ≤ p) && decide (p ≤ 512) && decide (cs.length ≤ 20000)) by unfold oddsB; rw [unhide hyes, Bool.and_true])
      have hfin := hide (Upd.of_below (unhide hbel) 0 0)
      clear hyes hbel
      rcases (show p < 1 ∨ (1 ≤ p ∧ 512 < p) ∨ (1 ≤ p ∧ p ≤ 512 ∧ 20000 < cs.length) ∨ (1 ≤ p ∧ p ≤ 512 ∧ cs.length ≤ 20000) by omega) with h | ⟨h, h'⟩ | ⟨h, h', h''⟩ | ⟨h, h', h''⟩
      · replace hE := hide (show oddsB p cs = false by rw [unhide hE, decide_eq_false (by omega)]; rfl)
        go_wp2
        go_ret
        exact ⟨by rw [unhide hE]; rfl, unhide hfin⟩
      · replace hE := hide (show oddsB p cs = false by rw [unhide hE, decide_eq_false (show ¬ p ≤ 512 by omega), Bool.and_false]; rfl)
        go_wp2
        go_ret
        exact ⟨by rw [unhide hE]; rfl, unhide hfin⟩
      · replace hE := hide (show oddsB p cs = false by rw [unhide hE, decide_eq_false (show ¬ cs.length ≤ 20000 by omega), Bool.and_false])
        have d : decide ((cs.length : Int) ≤ 20000) = false := decide_eq_false (by omega)
        go_wp2
        go_ret
        exact ⟨by rw [unhide hE]; rfl, unhide hfin⟩
      · replace hE := hide (show oddsB p cs = true by rw [unhide hE, decide_eq_true h, decide_eq_true h', decide_eq_true h'']; rfl)
        have d : decide ((cs.length : Int) ≤ 20000) = true := decide_eq_true (by omega)
        go_wp2
        go_ret
        exact ⟨by rw [unhide hE]; rfl, unhide hfin⟩
def placesB (p : Int) : Bool := decide (1 ≤ p) && decide (p ≤ 512)
set_option maxHeartbeats 4000000 in
theorem implGoodPlaces (p : Int) (w : World) : Calls Try.prog 67 #[.int .i64 p] w fun e w' => e = .returned (.bool (placesB p)) ∧ w' = w := by
  rcases (show p < 1 ∨ (1 ≤ p ∧ 512 < p) ∨ (1 ≤ p ∧ p ≤ 512) by omega) with h | ⟨h, h'⟩ | ⟨h, h'⟩
  · have hE := hide (show placesB p = false by unfold placesB; rw [decide_eq_false (by omega)]; rfl)
    go_enter Try.func67, Try.ntmps67
    go_wp2
    go_ret
    exact ⟨by rw [unhide hE]; rfl, rfl⟩
  · have hE := hide (show placesB p = false by unfold placesB; rw [decide_eq_false (show ¬ p ≤ 512 by omega), Bool.and_false])
    have d : decide (p ≤ 512) = false := decide_eq_false (by omega)
    go_enter Try.func67, Try.ntmps67
    go_wp2
    go_ret
    exact ⟨by rw [unhide hE]; rfl, rfl⟩
  · have hE := hide (show placesB p = true by unfold placesB; rw [decide_eq_true h, decide_eq_true h']; rfl)
    have d : decide (p ≤ 512) = true := decide_eq_true h'
    go_enter Try.func67, Try.ntmps67
    go_wp2
    go_ret
    exact ⟨by rw [unhide hE]; rfl, rfl⟩
set_option maxRecDepth 100000 in
set_option maxHeartbeats 8000000 in
theorem implGoodChoices (p : Int) (v : Value) (cs : List Ch) (w : World) (hn : cs.length ≤ 1048576) (hv : RdCh w v cs) :
    Calls Try.prog 58 #[.int .i64 p, v] w fun e w' => e = .returned (.bool (oddsB p cs)) ∧ Upd 0 0 w w' := by
  obtain ⟨ad, cap, rfl, hA⟩ := hv
  have hP := hide (implGoodPlaces p w)
  by_cases hpl : placesB p = true
  case neg =>
    have hpl : placesB p = false := by simpa using hpl
    have hE := hide (show oddsB p cs = false by unfold oddsB; unfold placesB at hpl; rw [hpl]; rfl)
    rw [hpl] at hP
    clear hpl hA
    go_enter Try.func58, Try.ntmps58
    go_wp2_with fail
    refine (unhide hP).mono ?_
    rintro e w1 ⟨rfl, rfl⟩
    go_wp2
    go_ret
    exact ⟨by rw [unhide hE]; rfl, Upd.refl _ _ _⟩
  by_cases hlen : 20000 < cs.length
  · have hE := hide (show oddsB p cs = false by unfold oddsB; rw [decide_eq_false (show ¬ cs.length ≤ 20000 by omega), Bool.and_false]; rfl)
    rw [hpl] at hP
    clear hpl hA
    go_enter Try.func58, Try.ntmps58
    go_wp2_with fail
    refine (unhide hP).mono ?_
    rintro e w1 ⟨rfl, rfl⟩
    go_wp2
    go_ret
    exact ⟨by rw [unhide hE]; rfl, Upd.refl _ _ _⟩
  have hE0 := hide (show oddsB p cs = chsB p cs by unfold oddsB; unfold placesB at hpl; rw [hpl, decide_eq_true (show cs.length ≤ 20000 by omega)]; rfl)
  rw [hpl] at hP
  clear hpl
  replace hA := hide hA
  go_enter Try.func58, Try.ntmps58
  go_wp2_with fail
  refine (unhide hP).mono ?_
  rintro e w1 ⟨rfl, hw1⟩
  obtain rfl : w = w1 := hw1.symm
  clear hP
  go_wp2_with fail
  go_loopw [6, 17] (fun _ i wr => ∃ (j : Nat), i = .int .i64 (j : Int) ∧ j ≤ cs.length ∧ Hid (∀ k, k < j → chB p (cs.getD k (0, 0)) = true) ∧ Hid (Below w.heap.size w wr)) (fun _ i _ => cs.length - (intOf i).toNat)
  case atStart => exact ⟨0, rfl, by omega, hide (fun k hk => by omega), hide (Below.refl _ _)⟩
  case round =>
    obtain ⟨j, rfl, hj, hst, hbel⟩ := hrel
    by_cases hjl : j < cs.length
    · obtain ⟨bb, off, rfl, hbl, hcl⟩ := (unhide hA) (ne_of_lt_length hjl)
      obtain ⟨c0, c1⟩ := hcl j hjl
      rw [show cs.getD j Ch0 = cs.getD j (0, 0) from rfl] at c0 c1
      generalize hx : cs.getD j (0, 0) = c at c0 c1
      obtain ⟨x, y⟩ := c
      have c0 : wr.cell? ⟨bb, off + j * 2, none⟩ = some (.int .i64 x) := ((unhide hbel).cell (by simpa using hbl)).trans c0
      have c1 : wr.cell? ⟨bb, off + j * 2 + 1, none⟩ = some (.int .i64 y) := ((unhide hbel).cell (by simpa using hbl)).trans c1
      have hb2 := hide ((unhide hbel).alloc (unhide hbel).size (.cells #[.int .i64 x, .int .i64 y] 38))
      replace hA := hide hA
      clear hcl
      rcases chB_cases p x y with ⟨hcb, x0, x1, y0, y1⟩ | ⟨hcb, hbad⟩
      · have hst2 := hide (show ∀ k, k < j + 1 → chB p (cs.getD k (0, 0)) = true from fun k hk => by
          rcases Nat.lt_or_ge k j with h | h
          · exact unhide hst k h
          · rw [show k = j by omega, hx]; exact hcb)
        clear hst hx hcb
        go_wp2_with fail
        go_roundw
        case rel => exact ⟨j + 1, by go_num, by omega, hst2, hb2⟩
        case measure => simp [intOf]; omega
      · have hno := hide (oddsB_no (chsB_no (places := p) j hjl (by rw [hx]; exact hcb)))
        have hfin := hide (Upd.of_below (unhide hb2) 0 0)
        clear hst hx hcb
        rcases hbad with h | ⟨h, h'⟩ | ⟨h, h', h''⟩ | ⟨h, h', h'', h3⟩
        all_goals
          go_wp2
          go_ret
          exact ⟨by rw [unhide hno]; rfl, unhide hfin⟩
    · obtain rfl : j = cs.length := by omega
      have hyes := hide (chsOk_take (places := p) (unhide hst))
      clear hst hjl
      have hfin := hide (Upd.of_below (unhide hbel) 0 0)
      clear hbel
      go_wp2
      go_ret
      exact ⟨by rw [unhide hE0, unhide hyes]; rfl, unhide hfin⟩
end Go.Proofs.Ytocoeodoihdkgaa
