/- Guess: the specification. -/
import Derived.Test.YtpofmcepjmbmcaaWGuB
namespace Go.Proofs.Ytpofmcepjmbmcaa
open Go.RowKit

theorem specL13GuessAll (mode : Int) (size : Int) (ad ad' : Option Addr) (cap cap' : Nat) (xs ys : List Int) (corner : Int) (w : World) (hm : 0 ≤ mode ∧ mode ≤ 3) (hs : size = 4 ∨ size = 8) (hok : GuOk size.toNat xs ys corner) (hAx : ArgI w ad xs) (hAy : ArgI w ad' ys) :
    Calls Try.prog 60 #[.int .i64 mode, .int .i64 size, .slice ad xs.length cap, .slice ad' ys.length cap', .int .i64 corner] w fun e w' => ∃ v, e = .returned (.tuple #[v, .bool (!guLackB mode xs ys)]) ∧ OwnI w' w.heap.size w'.heap.size v (if guLackB mode xs ys = true then [] else guL mode size.toNat xs ys corner) ∧ Upd 0 0 w w' := by
  have e : size = ((size.toNat : Nat) : Int) := by rcases hs with rfl | rfl <;> rfl
  by_cases hl : guLackB mode xs ys = true
  · rw [hl, e]
    refine (specL13GuessNo mode size.toNat ad ad' cap cap' xs ys corner w hm hok.1 (guLackB_iff.1 hl)).mono ?_
    rintro e' w' ⟨rfl, hu⟩
    exact ⟨_, rfl, own_nilI _ _ _, hu⟩
  · have hl0 := Bool.eq_false_iff.2 hl
    have hn : ¬ guLack mode xs ys := fun h => hl (guLackB_iff.2 h)
    unfold guLack at hn
    rw [hl0, e]
    have hx := hok.2.1
    have hy := hok.2.2.1
    rcases (show mode = 0 ∨ mode = 1 ∨ mode = 2 ∨ mode = 3 by omega) with h | h | h | h <;> subst h
    · refine (specL13Guess0 size.toNat ad ad' cap cap' xs ys corner w hok trivial hAx hAy).mono ?_
      rintro e' w' ⟨v, rfl, ho, hu⟩
      exact ⟨v, rfl, ho, hu⟩
    · refine (specL13Guess1 size.toNat ad ad' cap cap' xs ys corner w hok (by omega) hAx hAy).mono ?_
      rintro e' w' ⟨v, rfl, ho, hu⟩
      exact ⟨v, rfl, ho, hu⟩
    · refine (specL13Guess2 size.toNat ad ad' cap cap' xs ys corner w hok (by omega) hAx hAy).mono ?_
      rintro e' w' ⟨v, rfl, ho, hu⟩
      exact ⟨v, rfl, ho, hu⟩
    · refine (specL13Guess3 size.toNat ad ad' cap cap' xs ys corner w hok (by omega) hAx hAy).mono ?_
      rintro e' w' ⟨v, rfl, ho, hu⟩
      exact ⟨v, rfl, ho, hu⟩
set_option maxHeartbeats 8000000 in
set_option maxRecDepth 100000 in
theorem specGuess (mode size : Int) (v0 : Value) (xs : List Int) (v1 : Value) (ys : List Int) (corner : Int) (w : World) (_m0 : -9223372036854775808 ≤ mode) (_m1 : mode ≤ 9223372036854775807) (_s0 : -9223372036854775808 ≤ size) (_s1 : size ≤ 9223372036854775807) (hn : xs.length ≤ 1048576) (_hR : InI xs) (hv : RdI w v0 xs) (hn' : ys.length ≤ 1048576) (_hR' : InI ys) (hv' : RdI w v1 ys) (_c0 : -9223372036854775808 ≤ corner) (_c1 : corner ≤ 9223372036854775807) :
    Calls Try.prog 19 #[.int .i64 mode, .int .i64 size, v0, v1, .int .i64 corner] w fun e w' => ∃ v, e = .returned v ∧ OwnI w' w.heap.size w'.heap.size v (guF mode size xs ys corner) ∧ Upd 0 0 w w' := by
  obtain ⟨ad, cap, rfl, hA⟩ := hv
  obtain ⟨ad', cap', rfl, hA'⟩ := hv'
  by_cases m0 : mode < 0
  · rw [guF_no (by unfold guB; simp; intros; omega)]
    clear hA hA' _hR _hR' _m0 _m1 _s0 _s1 _c0 _c1
    go_enter Try.func19, Try.ntmps19
    go_wp2
    go_ret
    exact ⟨_, rfl, own_nilI _ _ _, Upd.refl 0 0 _⟩
  by_cases m1 : 3 < mode
  · rw [guF_no (by unfold guB; simp; intros; omega)]
    clear hA hA' _hR _hR' _m0 _m1 _s0 _s1 _c0 _c1
    go_enter Try.func19, Try.ntmps19
    go_wp2
    go_ret
    exact ⟨_, rfl, own_nilI _ _ _, Upd.refl 0 0 _⟩
  by_cases hs : size = 4 ∨ size = 8
  case neg =>
    rw [guF_no (by unfold guB; simp; intros; omega)]
    have n4 : (size != 4) = true := by simp; omega
    have n8 : (size != 8) = true := by simp; omega
    replace hs := hide hs
    clear hA hA' _hR _hR' _m0 _m1 _s0 _s1 _c0 _c1
    go_enter Try.func19, Try.ntmps19
    go_wp2
    go_ret
    exact ⟨_, rfl, own_nilI _ _ _, Upd.refl 0 0 _⟩
  have hsz : (size = 4 ∧ (size != 4) = false) ∨ (size = 8 ∧ (size != 4) = true ∧ (size != 8) = false) := by rcases hs with rfl | rfl <;> simp
  by_cases c0 : corner < 0
  · rw [guF_no (by unfold guB; simp; intros; omega)]
    clear hA hA' _hR _hR' _m0 _m1 _s0 _s1 _c0 _c1 hs
    rcases hsz with ⟨rfl, _⟩ | ⟨rfl, _, _⟩ <;>
    · go_enter Try.func19, Try.ntmps19
      go_wp2
      go_ret
      exact ⟨_, rfl, own_nilI _ _ _, Upd.refl 0 0 _⟩
  by_cases c1 : 255 < corner
  · rw [guF_no (by unfold guB; simp; intros; omega)]
    clear hA hA' _hR _hR' _m0 _m1 _s0 _s1 _c0 _c1 hs
    rcases hsz with ⟨rfl, _⟩ | ⟨rfl, _, _⟩ <;>
    · go_enter Try.func19, Try.ntmps19
      go_wp2
      go_ret
      exact ⟨_, rfl, own_nilI _ _ _, Upd.refl 0 0 _⟩
  have hIx := hide (specL13In ad cap xs size w hn hA)
  have hIy := hide (specL13In ad' cap' ys size w hn' hA')
  have hG := hide (fun hok => specL13GuessAll mode size ad ad' cap cap' xs ys corner w (by omega) hs hok hA hA')
  clear hA hA' _hR _hR' _m0 _m1 _s0 _s1 _c0 _c1
  have hsz2 := hsz
  replace hs := hide hs
  have hm : 0 ≤ mode ∧ mode ≤ 3 := by omega
  have hc : 0 ≤ corner ∧ corner ≤ 255 := by omega
  have hNo1 : Hid (guSide size xs = false → guB mode size xs ys corner = false) := hide (fun h => by unfold guSide at h; unfold guB; rw [h]; simp)
  have hNo2 : Hid (guSide size ys = false → guB mode size xs ys corner = false) := hide (fun h => by unfold guSide at h; unfold guB; rw [h]; simp)
  have hYes : Hid (guSide size xs = true → guSide size ys = true → guF mode size xs ys corner = (if guLackB mode xs ys = true then [] else guL mode size.toNat xs ys corner)) := hide (fun h1 h2 => by
    have e := guB_of hm (unhide hs) hc h1 h2
    unfold guF
    rw [e]
    cases guLackB mode xs ys <;> simp)
  have hOk : Hid (guSide size xs = true → guSide size ys = true → GuOk size.toNat xs ys corner) := hide (fun h1 h2 => guOk_of (unhide hs) hc h1 h2)
  have hEx : Hid (¬ xs.length = 0 → (inRB 0 255 xs && ((xs.length : Int) == size)) = guSide size xs) := hide (fun h => by unfold guSide; rw [decide_eq_false h]; rfl)
  have hEy : Hid (¬ ys.length = 0 → (inRB 0 255 ys && ((ys.length : Int) == size)) = guSide size ys) := hide (fun h => by unfold guSide; rw [decide_eq_false h]; rfl)
  have hZx : Hid (xs.length = 0 → guSide size xs = true) := hide (fun h => by unfold guSide; rw [decide_eq_true h]; rfl)
  have hZy : Hid (ys.length = 0 → guSide size ys = true) := hide (fun h => by unfold guSide; rw [decide_eq_true h]; rfl)
  clear hm hc
  by_cases zx : xs.length = 0
  · have hx := unhide hZx zx
    have lx : ¬ (0 : Int) < (xs.length : Int) := by omega
    clear hIx
    by_cases zy : ys.length = 0
    · have hy := unhide hZy zy
      have ly : ¬ (0 : Int) < (ys.length : Int) := by omega
      clear hIy
      replace zx := hide zx
      replace zy := hide zy
      have hG1 := unhide hG (unhide hOk hx hy)
      have hE := unhide hYes hx hy
      clear hG hNo1 hNo2 hYes hOk hZx hZy hEx hEy hx hy hsz
      cases hb : guLackB mode xs ys
      · rw [hb] at hG1 hE
        simp only [Bool.false_eq_true, if_false, Bool.not_false] at hG1
        simp only [Bool.false_eq_true, if_false] at hE
        rw [hE]
        have hGf := hide hG1
        clear hG1 hE hb
        rcases hsz2 with ⟨rfl, n4⟩ | ⟨rfl, n4, n8⟩ <;>
        · go_enter Try.func19, Try.ntmps19
          go_wp2_with fail
          refine (unhide hGf).mono ?_
          rintro e w3 ⟨v, rfl, ho, hu⟩
          obtain ⟨a, c, rfl, hA3⟩ := readK_of_own ho
          replace ho := hide ho
          replace hu := hide hu
          clear hGf hA3
          go_wp2
          go_ret
          exact ⟨_, rfl, by simpa using unhide ho, unhide hu⟩
      · rw [hb] at hG1 hE
        simp only [if_true, Bool.not_true] at hG1
        simp only [if_true] at hE
        rw [hE]
        have hGf := hide hG1
        clear hG1 hE hb
        rcases hsz2 with ⟨rfl, n4⟩ | ⟨rfl, n4, n8⟩ <;>
        · go_enter Try.func19, Try.ntmps19
          go_wp2_with fail
          refine (unhide hGf).mono ?_
          rintro e w3 ⟨v, rfl, ho, hu⟩
          obtain ⟨a, c, rfl, hA3⟩ := readK_of_own ho
          replace hu := hide hu
          clear hGf hA3 ho
          go_wp2
          go_ret
          exact ⟨_, rfl, own_nilI _ _ _, unhide hu⟩
    · have ly : (0 : Int) < (ys.length : Int) := by omega
      rw [unhide hEy zy] at hIy
      replace zx := hide zx
      replace zy := hide zy
      by_cases hy : guSide size ys = true
      · rw [hy] at hIy
        have hG1 := unhide hG (unhide hOk hx hy)
        have hE := unhide hYes hx hy
        clear hG hNo1 hNo2 hYes hOk hZx hZy hEx hEy hx hy hsz
        cases hb : guLackB mode xs ys
        · rw [hb] at hG1 hE
          simp only [Bool.false_eq_true, if_false, Bool.not_false] at hG1
          simp only [Bool.false_eq_true, if_false] at hE
          rw [hE]
          have hGf := hide hG1
          clear hG1 hE hb
          rcases hsz2 with ⟨rfl, n4⟩ | ⟨rfl, n4, n8⟩ <;>
          · go_enter Try.func19, Try.ntmps19
            go_wp2_with fail
            refine (unhide hIy).mono ?_
            rintro e wz ⟨rfl, hwz⟩
            subst wz
            clear hIy
            go_wp2_with fail
            refine (unhide hGf).mono ?_
            rintro e w3 ⟨v, rfl, ho, hu⟩
            obtain ⟨a, c, rfl, hA3⟩ := readK_of_own ho
            replace ho := hide ho
            replace hu := hide hu
            clear hGf hA3
            go_wp2
            go_ret
            exact ⟨_, rfl, by simpa using unhide ho, unhide hu⟩
        · rw [hb] at hG1 hE
          simp only [if_true, Bool.not_true] at hG1
          simp only [if_true] at hE
          rw [hE]
          have hGf := hide hG1
          clear hG1 hE hb
          rcases hsz2 with ⟨rfl, n4⟩ | ⟨rfl, n4, n8⟩ <;>
          · go_enter Try.func19, Try.ntmps19
            go_wp2_with fail
            refine (unhide hIy).mono ?_
            rintro e wz ⟨rfl, hwz⟩
            subst wz
            clear hIy
            go_wp2_with fail
            refine (unhide hGf).mono ?_
            rintro e w3 ⟨v, rfl, ho, hu⟩
            obtain ⟨a, c, rfl, hA3⟩ := readK_of_own ho
            replace hu := hide hu
            clear hGf hA3 ho
            go_wp2
            go_ret
            exact ⟨_, rfl, own_nilI _ _ _, unhide hu⟩
      · replace hy := Bool.eq_false_iff.2 hy
        rw [hy] at hIy
        rw [guF_no (unhide hNo2 hy)]
        clear hG hNo1 hNo2 hYes hOk hZx hZy hEx hEy hx hy hsz
        rcases hsz2 with ⟨rfl, n4⟩ | ⟨rfl, n4, n8⟩ <;>
        · go_enter Try.func19, Try.ntmps19
          go_wp2_with fail
          refine (unhide hIy).mono ?_
          rintro e wz ⟨rfl, hwz⟩
          subst wz
          clear hIy
          go_wp2
          go_ret
          exact ⟨_, rfl, own_nilI _ _ _, Upd.refl 0 0 _⟩
  · have lx : (0 : Int) < (xs.length : Int) := by omega
    rw [unhide hEx zx] at hIx
    replace zx := hide zx
    by_cases hx : guSide size xs = true
    case neg =>
      replace hx := Bool.eq_false_iff.2 hx
      rw [hx] at hIx
      rw [guF_no (unhide hNo1 hx)]
      clear hG hNo1 hNo2 hYes hOk hZx hZy hEx hEy hx hsz hIy
      rcases hsz2 with ⟨rfl, n4⟩ | ⟨rfl, n4, n8⟩ <;>
      · go_enter Try.func19, Try.ntmps19
        go_wp2_with fail
        refine (unhide hIx).mono ?_
        rintro e wz ⟨rfl, hwz⟩
        subst wz
        clear hIx
        go_wp2
        go_ret
        exact ⟨_, rfl, own_nilI _ _ _, Upd.refl 0 0 _⟩
    rw [hx] at hIx
    by_cases zy : ys.length = 0
    · have hy := unhide hZy zy
      have ly : ¬ (0 : Int) < (ys.length : Int) := by omega
      clear hIy
      replace zy := hide zy
      have hG1 := unhide hG (unhide hOk hx hy)
      have hE := unhide hYes hx hy
      clear hG hNo1 hNo2 hYes hOk hZx hZy hEx hEy hx hy hsz
      cases hb : guLackB mode xs ys
      · rw [hb] at hG1 hE
        simp only [Bool.false_eq_true, if_false, Bool.not_false] at hG1
        simp only [Bool.false_eq_true, if_false] at hE
        rw [hE]
        have hGf := hide hG1
        clear hG1 hE hb
        rcases hsz2 with ⟨rfl, n4⟩ | ⟨rfl, n4, n8⟩ <;>
        · go_enter Try.func19, Try.ntmps19
          go_wp2_with fail
          refine (unhide hIx).mono ?_
          rintro e wz ⟨rfl, hwz⟩
          subst wz
          clear hIx
          go_wp2_with fail
          refine (unhide hGf).mono ?_
          rintro e w3 ⟨v, rfl, ho, hu⟩
          obtain ⟨a, c, rfl, hA3⟩ := readK_of_own ho
          replace ho := hide ho
          replace hu := hide hu
          clear hGf hA3
          go_wp2
          go_ret
          exact ⟨_, rfl, by simpa using unhide ho, unhide hu⟩
      · rw [hb] at hG1 hE
        simp only [if_true, Bool.not_true] at hG1
        simp only [if_true] at hE
        rw [hE]
        have hGf := hide hG1
        clear hG1 hE hb
        rcases hsz2 with ⟨rfl, n4⟩ | ⟨rfl, n4, n8⟩ <;>
        · go_enter Try.func19, Try.ntmps19
          go_wp2_with fail
          refine (unhide hIx).mono ?_
          rintro e wz ⟨rfl, hwz⟩
          subst wz
          clear hIx
          go_wp2_with fail
          refine (unhide hGf).mono ?_
          rintro e w3 ⟨v, rfl, ho, hu⟩
          obtain ⟨a, c, rfl, hA3⟩ := readK_of_own ho
          replace hu := hide hu
          clear hGf hA3 ho
          go_wp2
          go_ret
          exact ⟨_, rfl, own_nilI _ _ _, unhide hu⟩
    · have ly : (0 : Int) < (ys.length : Int) := by omega
      rw [unhide hEy zy] at hIy
      replace zy := hide zy
      by_cases hy : guSide size ys = true
      · rw [hy] at hIy
        have hG1 := unhide hG (unhide hOk hx hy)
        have hE := unhide hYes hx hy
        clear hG hNo1 hNo2 hYes hOk hZx hZy hEx hEy hx hy hsz
        cases hb : guLackB mode xs ys
        · rw [hb] at hG1 hE
          simp only [Bool.false_eq_true, if_false, Bool.not_false] at hG1
          simp only [Bool.false_eq_true, if_false] at hE
          rw [hE]
          have hGf := hide hG1
          clear hG1 hE hb
          rcases hsz2 with ⟨rfl, n4⟩ | ⟨rfl, n4, n8⟩ <;>
          · go_enter Try.func19, Try.ntmps19
            go_wp2_with fail
            refine (unhide hIx).mono ?_
            rintro e wz ⟨rfl, hwz⟩
            subst wz
            clear hIx
            go_wp2_with fail
            refine (unhide hIy).mono ?_
            rintro e wz ⟨rfl, hwz⟩
            subst wz
            clear hIy
            go_wp2_with fail
            refine (unhide hGf).mono ?_
            rintro e w3 ⟨v, rfl, ho, hu⟩
            obtain ⟨a, c, rfl, hA3⟩ := readK_of_own ho
            replace ho := hide ho
            replace hu := hide hu
            clear hGf hA3
            go_wp2
            go_ret
            exact ⟨_, rfl, by simpa using unhide ho, unhide hu⟩
        · rw [hb] at hG1 hE
          simp only [if_true, Bool.not_true] at hG1
          simp only [if_true] at hE
          rw [hE]
          have hGf := hide hG1
          clear hG1 hE hb
          rcases hsz2 with ⟨rfl, n4⟩ | ⟨rfl, n4, n8⟩ <;>
          · go_enter Try.func19, Try.ntmps19
            go_wp2_with fail
            refine (unhide hIx).mono ?_
            rintro e wz ⟨rfl, hwz⟩
            subst wz
            clear hIx
            go_wp2_with fail
            refine (unhide hIy).mono ?_
            rintro e wz ⟨rfl, hwz⟩
            subst wz
            clear hIy
            go_wp2_with fail
            refine (unhide hGf).mono ?_
            rintro e w3 ⟨v, rfl, ho, hu⟩
            obtain ⟨a, c, rfl, hA3⟩ := readK_of_own ho
            replace hu := hide hu
            clear hGf hA3 ho
            go_wp2
            go_ret
            exact ⟨_, rfl, own_nilI _ _ _, unhide hu⟩
      · replace hy := Bool.eq_false_iff.2 hy
        rw [hy] at hIy
        rw [guF_no (unhide hNo2 hy)]
        clear hG hNo1 hNo2 hYes hOk hZx hZy hEx hEy hx hy hsz
        rcases hsz2 with ⟨rfl, n4⟩ | ⟨rfl, n4, n8⟩ <;>
        · go_enter Try.func19, Try.ntmps19
          go_wp2_with fail
          refine (unhide hIx).mono ?_
          rintro e wz ⟨rfl, hwz⟩
          subst wz
          clear hIx
          go_wp2_with fail
          refine (unhide hIy).mono ?_
          rintro e wz ⟨rfl, hwz⟩
          subst wz
          clear hIy
          go_wp2
          go_ret
          exact ⟨_, rfl, own_nilI _ _ _, Upd.refl 0 0 _⟩
end Go.Proofs.Ytpofmcepjmbmcaa
