/- The walk of BestKind: the specification's. -/
import Derived.Test.YthndnehadkgibaaPlainB
import Derived.Test.YthndnehadkgibaaWFiB
namespace Go.Proofs.Ythndnehadkgibaa
open Go.RowKit

set_option maxHeartbeats 4000000 in
set_option maxRecDepth 1000000 in
theorem specBestKind (step : Int) (u : Value) (ab : List Int) (v : Value) (row : List Int) (w : World) (_hl2 : -9223372036854775808 ≤ step) (_hh2 : step ≤ 9223372036854775807)
    (hna : ab.length ≤ 1048576) (ha : InB ab) (hu : RdY w u ab) (hn : row.length ≤ 1048576) (hr : InB row) (hv : RdY w v row) :
    Calls Try.prog 13 #[.int .i64 step, u, v] w fun e w' => e = .returned (.int .i64 (bestF step ab row)) ∧ Upd 0 0 w w' := by
  have hOk := hide (specL4FilterOk 0 step u v ab row w (by omega) (by omega) hu hv)
  have hF := hide (fun (k : Nat) (W : World) (hk : k ≤ 4) (hb : Below w.heap.size w W) => specFilterRow (k : Int) step u ab v row W (by omega) (by omega) _hl2 _hh2 hna ha (hu.below hb) hn hr (hv.below hb))
  obtain ⟨ad, cap, rfl, hA⟩ := hu
  obtain ⟨ad', cap', rfl, hA'⟩ := hv
  clear hA hA'
  replace ha := hide ha
  replace hr := hide hr
  by_cases hk : filtOk 0 step ab row
  · rw [filtB_yes hk] at hOk
    have hE := hide (bestF_yes hk)
    replace hk := hide hk
    go_enter Try.func13, Try.ntmps13
    go_wp2_with fail
    refine (unhide hOk).mono ?_
    rintro e w0 ⟨rfl, rfl⟩
    clear hOk
    go_wp2
    go_loopw [7, 8, 9] (fun b l i wr => ∃ k : Nat, k ≤ 5 ∧ i = .int .i64 k ∧ b = .int .i64 (bestTo step ab row k).1 ∧ l = .int .i64 (bestTo step ab row k).2 ∧ Below w0.heap.size w0 wr) (fun _ _ i _ => 5 - (intOf i).toNat)
    case atStart => exact ⟨0, by omega, rfl, rfl, rfl, Below.refl _ _⟩
    case round =>
      obtain ⟨k, hk5, rfl, rfl, rfl, hbel⟩ := hrel
      by_cases hlt : k < 5
      · have hC := hide (unhide hF k wr (by omega) hbel)
        have hbd := bestTo_bd step ab row k
        have hsb := kindSum_bd step ab row k
        have hst := hide (show bestTo step ab row (k + 1) = bestStep (bestTo step ab row k) k (kindSum step ab row k) from rfl)
        have hks := hide (show kindSum step ab row k = sumF (filtF (k : Int) step ab row) from rfl)
        have hin := hide (filtF_inB (k : Int) step ab row)
        have hfl := filtF_len (k : Int) step ab row
        generalize filtF (k : Int) step ab row = fr at hC hks hin hfl
        generalize kindSum step ab row k = s at hst hks hsb
        generalize bestTo step ab row k = p at hst hbd
        obtain ⟨b, l⟩ := p
        simp only at hbd
        obtain ⟨⟨b1, b2⟩, l1, l2, _⟩ := hbd
        have hk4 : (k : Int) ≤ 4 := by omega
        replace hsb := hide hsb
        go_wp2_with fail
        refine (unhide hC).mono ?_
        rintro e w1 ⟨x, rfl, ho, hu1⟩
        have hbel1 := hide (hbel.trans (hu1.none.mono hbel.size))
        obtain ⟨adf, capf, rfl, hAf⟩ := OwnY.rd ho
        replace hAf := hide hAf
        clear hC ho hu1 hbel
        go_wp2
        go_loop [10, 28] (fun c i => ∃ j : Nat, j ≤ fr.length ∧ i = .int .i64 j ∧ c = .int .i64 (sumTo fr j)) (fun _ i => fr.length - (intOf i).toNat)
        case atStart => exact ⟨0, by omega, rfl, rfl⟩
        case round =>
          obtain ⟨j, hj, rfl, rfl⟩ := hrel
          by_cases hltj : j < fr.length
          · obtain ⟨bb, off, rfl, hbl, hc⟩ := (unhide hAf) (ne_of_lt_length hltj)
            have hck := hc j hltj
            have hx := unhide hin j
            have hs := sumTo_bd (unhide hin) j
            have hsu := hide (show sumTo fr (j + 1) = sumTo fr j + upw (fr.getD j 0) from rfl)
            generalize fr.getD j 0 = y at hck hx hsu
            generalize sumTo fr j = t at hs hsu
            obtain ⟨x1, x2⟩ := hx
            obtain ⟨t1, t2⟩ := hs
            clear hc hbl
            by_cases h127 : 127 < y
            · have hsv := hide (show sumTo fr (j + 1) = t + (256 - y) by rw [unhide hsu]; unfold upw; rw [if_pos h127])
              go_wp2
              go_round
              case rel => exact ⟨j + 1, by omega, by go_num, by rw [unhide hsv]⟩
              case measure => simp [intOf]; omega
            · have hsv := hide (show sumTo fr (j + 1) = t + y by rw [unhide hsu]; unfold upw; rw [if_neg h127])
              go_wp2
              go_round
              case rel => exact ⟨j + 1, by omega, by go_num, by rw [unhide hsv]⟩
              case measure => simp [intOf]; omega
          · have hjl : j = fr.length := by omega
            subst hjl
            have hsv : sumTo fr fr.length = s := (unhide hks).symm
            rw [hsv]
            obtain ⟨s1, s2⟩ := unhide hsb
            replace hsv := hide hsv
            by_cases h1 : l < 0
            · have hst2 := hide (show bestTo step ab row (k + 1) = ((k : Int), s) by rw [unhide hst]; unfold bestStep; rw [if_pos (.inl h1)])
              have q1 : decide (l < 0) = true := by simp; omega
              go_wp2
              go_roundw
              case rel => exact ⟨k + 1, by omega, by go_num, by rw [unhide hst2], by rw [unhide hst2], unhide hbel1⟩
              case measure => simp [intOf]; omega
            · have q1 : decide (l < 0) = false := by simp; omega
              by_cases h2 : s < l
              · have hst2 := hide (show bestTo step ab row (k + 1) = ((k : Int), s) by rw [unhide hst]; unfold bestStep; rw [if_pos (.inr h2)])
                have q2 : decide (s < l) = true := by simp; omega
                go_wp2
                go_roundw
                case rel => exact ⟨k + 1, by omega, by go_num, by rw [unhide hst2], by rw [unhide hst2], unhide hbel1⟩
                case measure => simp [intOf]; omega
              · have hst2 := hide (show bestTo step ab row (k + 1) = (b, l) by rw [unhide hst]; unfold bestStep; rw [if_neg (by omega)])
                have q2 : decide (s < l) = false := by simp; omega
                go_wp2
                go_roundw
                case rel => exact ⟨k + 1, by omega, by go_num, by rw [unhide hst2], by rw [unhide hst2], unhide hbel1⟩
                case measure => simp [intOf]; omega
      · have hk5' : k = 5 := by omega
        subst hk5'
        rw [← unhide hE]
        go_wp2
        go_ret
        exact ⟨rfl, Upd.of_below hbel 0 0⟩
  · rw [filtB_no hk] at hOk
    have hE := hide (bestF_no hk)
    replace hk := hide hk
    go_enter Try.func13, Try.ntmps13
    go_wp2_with fail
    refine (unhide hOk).mono ?_
    rintro e w0 ⟨rfl, rfl⟩
    clear hOk
    go_wp2
    go_ret
    exact ⟨ret_int (unhide hE).symm, Upd.refl _ _ _⟩
end Go.Proofs.Ythndnehadkgibaa
