/- The walk of BestKind: the program's. -/
import Derived.Test.YthndnehadkgibaaPlainB
import Derived.Test.YthndnehadkgibaaWFiG
namespace Go.Proofs.Ythndnehadkgibaa
open Go.RowKit

set_option maxHeartbeats 2000000 in
theorem implSum (v : Value) (fr : List Int) (w : World) (hn : fr.length ≤ 1048576) (hin : InB fr) (hv : RdY w v fr) :
    Calls Try.prog 42 #[v] w fun e w' => e = .returned (.int .i64 (sumF fr)) ∧ w' = w := by
  obtain ⟨adf, capf, rfl, hAf⟩ := hv
  replace hAf := hide hAf
  replace hin := hide hin
  go_enter Try.func42, Try.ntmps42
  go_wp2
  go_loop [3, 8] (fun c i => ∃ j : Nat, j ≤ fr.length ∧ i = .int .i64 j ∧ c = .int .i64 (sumTo fr j)) (fun _ i => fr.length - (intOf i).toNat)
  case atStart => exact ⟨0, by omega, rfl, rfl⟩
  case round =>
    obtain ⟨j, hj, rfl, rfl⟩ := hrel
    by_cases hltj : j < fr.length
    · obtain ⟨bb, off, rfl, hbl, hc⟩ := (unhide hAf) (ne_of_lt_length hltj)
      have hck := hc j hltj
      have hx := unhide hin j
      have hs := sumTo_bd (unhide hin) j
      have hsu := hide (show sumTo fr (j + 1) = sumTo fr j + upw (fr.getD j 0) from rfl)
      generalize fr.getD j 0 = y at hck hx hsu
      generalize sumTo fr j = t at hs hsu
      obtain ⟨x1, x2⟩ := hx
      obtain ⟨t1, t2⟩ := hs
      clear hc hbl
      by_cases h127 : 127 < y
      · have hsv := hide (show sumTo fr (j + 1) = t + (256 - y) by rw [unhide hsu]; unfold upw; rw [if_pos h127])
        go_wp2
        go_round
        case rel => exact ⟨j + 1, by omega, by go_num, by rw [unhide hsv]⟩
        case measure => simp [intOf]; omega
      · have hsv := hide (show sumTo fr (j + 1) = t + y by rw [unhide hsu]; unfold upw; rw [if_neg h127])
        go_wp2
        go_round
        case rel => exact ⟨j + 1, by omega, by go_num, by rw [unhide hsv]⟩
        case measure => simp [intOf]; omega
    · have hjl : j = fr.length := by omega
      subst hjl
      go_wp2
      go_ret
      exact ⟨rfl, rfl⟩

set_option maxHeartbeats 4000000 in
set_option maxRecDepth 1000000 in
theorem implBestKind (step : Int) (u : Value) (ab : List Int) (v : Value) (row : List Int) (w : World) (_hl2 : -9223372036854775808 ≤ step) (_hh2 : step ≤ 9223372036854775807)
    (hna : ab.length ≤ 1048576) (ha : InB ab) (hu : RdY w u ab) (hn : row.length ≤ 1048576) (hr : InB row) (hv : RdY w v row) :
    Calls Try.prog 12 #[.int .i64 step, u, v] w fun e w' => e = .returned (.int .i64 (bestF step ab row)) ∧ Upd 0 0 w w' := by
  have hF := hide (fun (k : Nat) (W : World) (hk : k ≤ 4) (hb : Below w.heap.size w W) => implFilterRow (k : Int) step u ab v row W (by omega) (by omega) _hl2 _hh2 hna ha (hu.below hb) hn hr (hv.below hb))
  by_cases hk : filtOk 0 step ab row
  · have hM := hide (implMakeGood 0 step u v ab row w hk hu hv)
    have hE := hide (bestF_yes hk)
    obtain ⟨G, hg⟩ := gfn_form 0
    rw [hg] at hM
    replace hg := hide hg
    replace hk := hide hk
    obtain ⟨ad, cap, rfl, hA⟩ := hu
    obtain ⟨ad', cap', rfl, hA'⟩ := hv
    clear hA hA'
    replace ha := hide ha
    replace hr := hide hr
    go_enter Try.func12, Try.ntmps12
    go_wp2_with fail
    refine (unhide hM).mono ?_
    rintro e w1 ⟨ae, ce, rfl, _, hb1⟩
    have hbA := hb1.alloc hb1.size (.cells #[.func (.func G) #[] #[], .int .i64 step, .slice ae row.length ce] 59)
    clear hM
    go_wp2_with fail
    generalize w1.alloc (.cells #[.func (.func G) #[] #[], .int .i64 step, .slice ae row.length ce] 59) = w2 at hbA ⊢
    go_loopw [9, 10, 22] (fun b l i wr => ∃ k : Nat, k ≤ 5 ∧ i = .int .i64 k ∧ b = .int .i64 (bestP step ab row k).1 ∧ l = .int .i64 (bestP step ab row k).2 ∧ Below w.heap.size w wr) (fun _ _ i _ => 5 - (intOf i).toNat)
    case atStart => exact ⟨0, by omega, rfl, rfl, rfl, hbA⟩
    case round =>
      clear hbA hb1
      obtain ⟨k, hk5, rfl, rfl, rfl, hbel⟩ := hrel
      by_cases hlt : k < 5
      · have hC := hide (unhide hF k wr (by omega) hbel)
        have hst := hide (bestP_succ step ab row k)
        have hks := hide (show kindSum step ab row k = sumF (filtF (k : Int) step ab row) from rfl)
        have hin := hide (filtF_inB (k : Int) step ab row)
        have hfl := filtF_len (k : Int) step ab row
        generalize filtF (k : Int) step ab row = fr at hC hks hin hfl
        generalize kindSum step ab row k = s at hst hks
        generalize bestP step ab row k = p at hst
        obtain ⟨b, l⟩ := p
        have hk4 : (k : Int) ≤ 4 := by omega
        go_wp2_with fail
        refine (unhide hC).mono ?_
        rintro e w3 ⟨x, rfl, ho, hu1⟩
        have hbel1 := hide (hbel.trans (hu1.none.mono hbel.size))
        have hS := hide (implSum x fr w3 hfl (unhide hin) (OwnY.rd ho))
        rw [← unhide hks] at hS
        obtain ⟨adf, capf, rfl, hAf⟩ := OwnY.rd ho
        clear hC ho hu1 hbel hAf
        go_wp2_with fail
        refine (unhide hS).mono ?_
        rintro e w4 ⟨rfl, rfl⟩
        clear hS
        simp only at hst ⊢
        by_cases h1 : k = 0
        · subst h1
          have hst2 := hide (show bestP step ab row (0 + 1) = (((0 : Nat) : Int), s) by rw [unhide hst, if_pos (.inl rfl)])
          go_wp2
          go_roundw
          case rel => exact ⟨0 + 1, by omega, by go_num, by rw [unhide hst2], by rw [unhide hst2], unhide hbel1⟩
          case measure => simp [intOf]
        · have q1 : ((k : Int) == 0) = false := beq_eq_false_iff_ne.2 (by omega)
          by_cases h2 : s < l
          · have hst2 := hide (show bestP step ab row (k + 1) = ((k : Int), s) by rw [unhide hst, if_pos (.inr h2)])
            have q2 : decide (s < l) = true := by simp; omega
            go_wp2
            go_roundw
            case rel => exact ⟨k + 1, by omega, by go_num, by rw [unhide hst2], by rw [unhide hst2], unhide hbel1⟩
            case measure => simp [intOf]; omega
          · have hst2 := hide (show bestP step ab row (k + 1) = (b, l) by rw [unhide hst, if_neg (by omega)])
            have q2 : decide (s < l) = false := by simp; omega
            go_wp2
            go_roundw
            case rel => exact ⟨k + 1, by omega, by go_num, by rw [unhide hst2], by rw [unhide hst2], unhide hbel1⟩
            case measure => simp [intOf]; omega
      · have hk5' : k = 5 := by omega
        subst hk5'
        have hE2 := hide ((unhide hE).trans (show (bestTo step ab row 5).1 = (bestP step ab row 5).1 from rfl))
        rw [← unhide hE2]
        go_wp2
        go_ret
        exact ⟨rfl, Upd.of_below hbel 0 0⟩
  · have hM := hide (implMakeBad 0 step u v ab row w hna hn hk hu hv)
    have hE := hide (bestF_no hk)
    replace hk := hide hk
    obtain ⟨ad, cap, rfl, hA⟩ := hu
    obtain ⟨ad', cap', rfl, hA'⟩ := hv
    clear hA hA'
    go_enter Try.func12, Try.ntmps12
    go_wp2_with fail
    refine (unhide hM).mono ?_
    rintro e w1 ⟨rfl, hb1⟩
    clear hM
    go_wp2
    go_ret
    exact ⟨ret_int (unhide hE).symm, Upd.of_below (hb1.alloc hb1.size _) 0 0⟩
end Go.Proofs.Ythndnehadkgibaa
