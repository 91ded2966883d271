/- Scales: the specification's walk. -/
import Derived.Test.YtnalmingbglgfaaW8B
import Derived.Deep.DeepCutAuto
namespace Go.Proofs.Ytnalmingbglgfaa
open Go.RowKit

set_option maxHeartbeats 16000000 in
set_option maxRecDepth 100000 in
theorem specScales (q : Int) (c : Bool) (w : World) (hl : -9223372036854775808 ≤ q) (hh : q ≤ 9223372036854775807) :
    Calls Try.prog 32 #[.int .i64 q, .bool c] w fun e w' => ∃ v, e = .returned v ∧ OwnI w' w.heap.size w'.heap.size v (scalesF q c) ∧ Upd 0 0 w w' := by
  by_cases hq : 1 ≤ q ∧ q ≤ 100
  case neg =>
    have hF : scalesF q c = [] := by unfold scalesF; rw [if_neg hq]
    rw [hF]
    rcases Int.lt_or_le q 1 with h | h
    · clear hF hq
      go_enter Try.func32, Try.ntmps32
      go_wp2
      go_ret
      exact ⟨_, rfl, own_nilI _ _ _, Upd.refl 0 0 _⟩
    · have h2 : 100 < q := by omega
      have h3 : ¬ q < 1 := by omega
      clear hF hq
      go_enter Try.func32, Try.ntmps32
      go_wp2
      go_ret
      exact ⟨_, rfl, own_nilI _ _ _, Upd.refl 0 0 _⟩
  obtain ⟨q1, q2⟩ := hq
  have hF : Hid (scalesF q c = tab (scaleZ q c)) := hide (by unfold scalesF; rw [if_pos ⟨q1, q2⟩])
  have hS : Hid (∀ k, k < 64 → scaleZ q c k = cutZ 1 255 ((baseZ (k / 8) (k % 8) c * percZ q + 50) / 100)) := hide (fun k _ => rfl)
  have hPb := percZ_bd q q1 q2
  have hpE : Hid (percZ q = if q < 50 then 5000 / q else 200 - 2 * q) := hide rfl
  generalize percZ q = p at hPb hS hpE
  obtain ⟨p1, p2⟩ := hPb
  obtain ⟨i0, hi, hz0, hz1, hz2⟩ := info_parts infoI
  have h3 : ¬ q < 1 := by omega
  have h4 : ¬ 100 < q := by omega
  go_enter Try.func32, Try.ntmps32
  go_upto_if 22 with fail
  go_cut [5] (fun s wx => s = .int .i64 p ∧ wx = w)
  case first =>
    by_cases hq5 : q < 50
    · have hp' := unhide hpE
      rw [if_pos hq5] at hp'
      subst hp'
      go_wp2
      go_meet
      exact ⟨rfl, rfl⟩
    · have hp' := unhide hpE
      rw [if_neg hq5] at hp'
      subst hp'
      go_wp2
      go_meet
      exact ⟨rfl, rfl⟩
  case rest =>
    obtain ⟨rfl, rfl⟩ := hcut
    clear q1 q2 h3 h4
    go_wp2_with (at_make; refine wpList_make_full _ rfl _ _ 23 rfl wc.heap.size 3 i0 (.int .i64 0) 1 Try.underlying23 hi hz0 hz1 .i64 .i64 _ _ 64 rfl rfl (by omega) (by omega) (by rw [hz2]; omega) (by unfold maxLen; omega) (Nat.le_refl _) ?_; intro w1 hown hgrow)
    have hbel := (Below.refl wc.heap.size wc).grown hgrow (Nat.le_refl _) (by simp)
    have hown0 : w1.ownsRow wc.heap.size 3 1 (.slice (some ⟨wc.heap.size, 0, none⟩) 64 64) 64 (partI (tab (scaleZ q c)) 0) := by
      rw [partI_zero]; simpa [toList_madeCells_one, Value.cells] using hown
    have hbel := hide hbel
    clear hown hgrow
    go_loopw [28] (fun i wr => ∃ k : Nat, k ≤ 64 ∧ i = .int .i64 k ∧ wr.ownsRow wc.heap.size 3 1 (.slice (some ⟨wc.heap.size, 0, none⟩) 64 64) 64 (partI (tab (scaleZ q c)) k) ∧ Hid (Below wc.heap.size wc wr)) (fun i _ => 64 - (intOf i).toNat)
    case atStart => exact ⟨0, Nat.zero_le _, rfl, hown0, hbel⟩
    case round =>
      clear hown0 hbel
      obtain ⟨k, hk, rfl, hown, hbel⟩ := hrel
      by_cases hlt : k < 64
      · have hps := partI_set (tab (scaleZ q c)) k (by simpa using hlt)
        rw [tab_getD _ k hlt, unhide hS k hlt] at hps
        have hbb := baseZ_bd (k / 8) (k % 8) c (by omega) (by omega)
        have hbE : Hid (baseZ (k / 8) (k % 8) c = if c then 10 + 6 * (((k % 8 : Nat) : Int) + (k / 8 : Nat)) else 8 + 3 * (((k % 8 : Nat) : Int) + (k / 8 : Nat)) + ((k % 8 * (k / 8) / 2 : Nat) : Int)) := hide rfl
        generalize baseZ (k / 8) (k % 8) c = b at hps hbb hbE
        obtain ⟨b1, b2⟩ := hbb
        obtain ⟨v, hv⟩ : ∃ v, k / 8 = v := ⟨_, rfl⟩
        obtain ⟨u, hu⟩ : ∃ u, k % 8 = u := ⟨_, rfl⟩
        have e1 : (k : Int) / 8 = (v : Int) := by omega
        have e2 : (k : Int) % 8 = (u : Int) := by omega
        have e3 : (k : Int).tdiv 8 = (v : Int) := by rw [Int.tdiv_eq_ediv_of_nonneg (by omega)]; exact e1
        have e4 : (k : Int).tmod 8 = (u : Int) := by rw [Int.tmod_eq_emod_of_nonneg (by omega)]; exact e2
        have v8 : v < 8 := by omega
        have u8 : u < 8 := by omega
        rw [hv, hu] at hbE
        clear hv hu
        obtain ⟨P, hP⟩ : ∃ P, b * p = P := ⟨_, rfl⟩
        have hP0 : 0 ≤ P := by rw [← hP]; exact Int.mul_nonneg (by omega) (by omega)
        have hP1 : P ≤ 94 * 5000 := by rw [← hP]; exact Int.mul_le_mul b2 p2 p1 (by omega)
        obtain ⟨R, hR⟩ : ∃ R, u * v = R := ⟨_, rfl⟩
        have hR2 : R ≤ 7 * 7 := by rw [← hR]; exact Nat.mul_le_mul (by omega) (by omega)
        have eR : (u : Int) * (v : Int) = (R : Int) := by rw [← hR]; simp
        rw [hR] at hbE
        rw [hP] at hps
        clear hR
        have hX : Hid (cutZ 1 255 ((P + 50) / 100) = if (P + 50) / 100 < 1 then 1 else if 255 < (P + 50) / 100 then 255 else (P + 50) / 100) := hide rfl
        generalize cutZ 1 255 ((P + 50) / 100) = x at hps hX
        have hdst : ∃ y, wr.cell? ⟨wc.heap.size, k, none⟩ = some y := by
          rw [hown.cellAt k (by omega)]; exact ⟨_, List.getElem?_eq_getElem (by have := hown.1; omega)⟩
        obtain ⟨y, hdst⟩ := hdst
        have hfz := hown.frozenAt k
        have hst := (hown.stored k (.int .i64 x)).1
        rw [hps] at hst
        have hb2 := hide ((unhide hbel).setCell (p := ⟨wc.heap.size, k, none⟩) (Nat.le_refl _) (.int .i64 x))
        replace hst := hide hst
        clear hown hps
        go_upto_if 45 with fail
        go_cut [10] (fun s wx => s = .int .i64 b ∧ wx = wr)
        case first =>
          cases c
          · have hb' := unhide hbE
            simp only [Bool.false_eq_true, if_false] at hb'
            have hb3 : b = 8 + 3 * ((u : Int) + v) + (R : Int) / 2 := by omega
            subst hb3
            clear hbE hP
            go_wp2
            go_meet
            exact ⟨rfl, rfl⟩
          · have hb' := unhide hbE
            simp only [if_true] at hb'
            subst hb'
            clear hbE hP
            go_wp2
            go_meet
            exact ⟨rfl, rfl⟩
        case rest =>
          obtain ⟨rfl, hwc⟩ := hcut
          subst hwc
          clear hbE eR e1 e2 e3 e4
          go_upto_region 16 with fail
          have n1 : (P + 50).tdiv 100 = (P + 50) / 100 := Int.tdiv_eq_ediv_of_nonneg (by omega)
          by_cases x1 : (P + 50) / 100 < 1
          · have hx' := unhide hX
            rw [if_pos x1] at hx'
            subst hx'
            clear hX hP
            go_wp2
            go_roundw
            case rel => exact ⟨k + 1, by omega, by go_num, unhide hst, hb2⟩
            case measure => simp [intOf]; omega
          · by_cases x2 : 255 < (P + 50) / 100
            · have hx' := unhide hX
              rw [if_neg x1, if_pos x2] at hx'
              subst hx'
              clear hX hP
              go_wp2
              go_roundw
              case rel => exact ⟨k + 1, by omega, by go_num, unhide hst, hb2⟩
              case measure => simp [intOf]; omega
            · have hx' := unhide hX
              rw [if_neg x1, if_neg x2] at hx'
              subst hx'
              clear hX hP
              go_wp2
              go_roundw
              case rel => exact ⟨k + 1, by omega, by go_num, unhide hst, hb2⟩
              case measure => simp [intOf]; omega
      · have hkl : k = 64 := by omega
        subst hkl
        have hl : (tab (scaleZ q c)).length = 64 := by simp
        have ha := partI_all (tab (scaleZ q c))
        rw [hl] at ha
        rw [ha] at hown
        have hown2 : OwnI wr wc.heap.size wr.heap.size (.slice (some ⟨wc.heap.size, 0, none⟩) 64 64) (tab (scaleZ q c)) := by
          unfold OwnI; rw [hl]; exact Own.of hown
        replace hown2 := hide hown2
        clear hown ha hl
        go_wp2
        go_ret
        exact ⟨_, rfl, by rw [unhide hF]; exact unhide hown2, Upd.of_below (unhide hbel) 0 0⟩
end Go.Proofs.Ytnalmingbglgfaa
