/- Scales: the walks of both sides. -/
import Derived.Test.YtnalmingbglgfaaPlainBl
import Derived.Test.YtnalmingbglgfaaWInts
import Derived.Test.YtnalmingbglgfaaWTrC
import Derived.Test.YtnalmingbglgfaaWAppI
namespace Go.Proofs.Ytnalmingbglgfaa
open Go.RowKit

theorem implPerc (q : Int) (w : World) (h1 : 1 ≤ q) (h2 : q ≤ 100) : Calls Try.prog 76 #[.int .i64 q] w fun e w' => e = .returned (.int .i64 (percZ q)) ∧ w' = w := by
  have hP : percZ q = if q < 50 then 5000 / q else 200 - 2 * q := rfl
  by_cases h : q < 50
  · rw [if_pos h] at hP
    rw [hP]
    clear hP
    go_enter Try.func76, Try.ntmps76
    go_wp2
    go_ret
    exact ⟨rfl, rfl⟩
  · rw [if_neg h] at hP
    rw [hP]
    clear hP
    go_enter Try.func76, Try.ntmps76
    go_wp2
    go_ret
    exact ⟨ret_int (by omega), rfl⟩
theorem implBase (v u : Nat) (c : Bool) (w : World) (hv : v < 8) (hu : u < 8) : Calls Try.prog 77 #[.int .i64 (v : Int), .int .i64 (u : Int), .bool c] w fun e w' => e = .returned (.int .i64 (baseZ v u c)) ∧ w' = w := by
  obtain ⟨P, hP⟩ : ∃ P, v * u = P := ⟨_, rfl⟩
  have hP2 : P ≤ 7 * 7 := by rw [← hP]; exact Nat.mul_le_mul (by omega) (by omega)
  have e1 : (v : Int) * (u : Int) = (P : Int) := by rw [← hP]; simp
  cases c
  · have hB : baseZ v u false = 8 + 3 * ((v : Int) + u) + (P : Int) / 2 := by unfold baseZ; rw [Nat.mul_comm u v, hP]; simp; omega
    rw [hB]
    clear hB hP
    go_enter Try.func77, Try.ntmps77
    go_wp2
    go_ret
    exact ⟨rfl, rfl⟩
  · have hB : baseZ v u true = 10 + 6 * ((v : Int) + u) := by unfold baseZ; simp; omega
    rw [hB]
    clear hB hP e1
    go_enter Try.func77, Try.ntmps77
    go_wp2
    go_ret
    exact ⟨rfl, rfl⟩
set_option maxHeartbeats 4000000 in
set_option maxRecDepth 100000 in
theorem implScales (q : Int) (c : Bool) (w : World) (_hl : -9223372036854775808 ≤ q) (_hh : q ≤ 9223372036854775807) :
    Calls Try.prog 33 #[.int .i64 q, .bool c] w fun e w' => ∃ v, e = .returned v ∧ OwnI w' w.heap.size w'.heap.size v (scalesF q c) ∧ Upd 0 0 w w' := by
  by_cases hq : 1 ≤ q ∧ q ≤ 100
  case neg =>
    have hF : scalesF q c = [] := by unfold scalesF; rw [if_neg hq]
    rw [hF]
    rcases Int.lt_or_le q 1 with h | h
    · clear hF hq
      go_enter Try.func33, Try.ntmps33
      go_wp2
      go_ret
      exact ⟨_, rfl, own_nilI _ _ _, Upd.refl 0 0 _⟩
    · have h2 : 100 < q := by omega
      have h3 : ¬ q < 1 := by omega
      clear hF hq
      go_enter Try.func33, Try.ntmps33
      go_wp2
      go_ret
      exact ⟨_, rfl, own_nilI _ _ _, Upd.refl 0 0 _⟩
  obtain ⟨q1, q2⟩ := hq
  have hF : Hid (scalesF q c = tab (scaleZ q c)) := hide (by unfold scalesF; rw [if_pos ⟨q1, q2⟩])
  have hS : Hid (∀ k, k < 64 → scaleZ q c k = max 1 (min 255 ((baseZ (k / 8) (k % 8) c * percZ q + 50) / 100))) := hide (fun k _ => (cutZ_max 1 255 _ (by omega)).symm)
  have hPb := percZ_bd q q1 q2
  have hp := hide (fun W => implPerc q W q1 q2)
  generalize percZ q = p at hPb hS hp
  obtain ⟨p1, p2⟩ := hPb
  obtain ⟨i0, hi, hz0, hz1, hz2⟩ := info_parts infoI
  have h3 : ¬ q < 1 := by omega
  have h4 : ¬ 100 < q := by omega
  go_enter Try.func33, Try.ntmps33
  go_wp2_with (first | (at_make; refine wpList_make_full _ rfl _ _ 23 rfl w.heap.size 3 i0 (.int .i64 0) 1 Try.underlying23 hi hz0 hz1 .i64 .i64 _ _ 64 rfl rfl (by omega) (by omega) (by rw [hz2]; omega) (by unfold maxLen; omega) (Nat.le_refl _) ?_; intro w1 hown hgrow) | (go_at_call 76; refine (unhide hp _).mono ?_; rintro e wp ⟨rfl, hwp⟩; subst wp))
  have hbel := (Below.refl w.heap.size w).grown hgrow (Nat.le_refl _) (by simp)
  have hown0 : w1.ownsRow w.heap.size 3 1 (.slice (some ⟨w.heap.size, 0, none⟩) 64 64) 64 (partI (tab (scaleZ q c)) 0) := by
    rw [partI_zero]; simpa [toList_madeCells_one, Value.cells] using hown
  have hbel := hide hbel
  clear hown hgrow hp q1 q2 h3 h4
  go_loopw [20] (fun i wr => ∃ k : Nat, k ≤ 64 ∧ i = .int .i64 k ∧ wr.ownsRow w.heap.size 3 1 (.slice (some ⟨w.heap.size, 0, none⟩) 64 64) 64 (partI (tab (scaleZ q c)) k) ∧ Hid (Below w.heap.size w wr)) (fun i _ => 64 - (intOf i).toNat)
  case atStart => exact ⟨0, Nat.zero_le _, rfl, hown0, hbel⟩
  case round =>
    clear hown0 hbel
    obtain ⟨k, hk, rfl, hown, hbel⟩ := hrel
    by_cases hlt : k < 64
    · have hps := partI_set (tab (scaleZ q c)) k (by simpa using hlt)
      rw [tab_getD _ k hlt, unhide hS k hlt] at hps
      have hbb := baseZ_bd (k / 8) (k % 8) c (by omega) (by omega)
      have hbC := hide (fun W => implBase (k / 8) (k % 8) c W (by omega) (by omega))
      generalize baseZ (k / 8) (k % 8) c = b at hps hbb hbC
      obtain ⟨b1, b2⟩ := hbb
      obtain ⟨P, hP⟩ : ∃ P, b * p = P := ⟨_, rfl⟩
      have hP0 : 0 ≤ P := by rw [← hP]; exact Int.mul_nonneg (by omega) (by omega)
      have hP1 : P ≤ 94 * 5000 := by rw [← hP]; exact Int.mul_le_mul b2 p2 p1 (by omega)
      rw [hP] at hps
      have hC := hide (fun W => implClipInt ((P + 50) / 100) 1 255 W)
      generalize max 1 (min 255 ((P + 50) / 100)) = x at hps hC
      obtain ⟨v, hv⟩ : ∃ v, k / 8 = v := ⟨_, rfl⟩
      obtain ⟨u, hu⟩ : ∃ u, k % 8 = u := ⟨_, rfl⟩
      have e1 : (k : Int) / 8 = (v : Int) := by omega
      have e2 : (k : Int) % 8 = (u : Int) := by omega
      have e3 : (k : Int).tdiv 8 = (v : Int) := by rw [Int.tdiv_eq_ediv_of_nonneg (by omega)]; exact e1
      have e4 : (k : Int).tmod 8 = (u : Int) := by rw [Int.tmod_eq_emod_of_nonneg (by omega)]; exact e2
      have v8 : v < 8 := by omega
      have u8 : u < 8 := by omega
      rw [hv, hu] at hbC
      clear hv hu
      have hdst : ∃ y, wr.cell? ⟨w.heap.size, k, none⟩ = some y := by
        rw [hown.cellAt k (by omega)]; exact ⟨_, List.getElem?_eq_getElem (by have := hown.1; omega)⟩
      obtain ⟨y, hdst⟩ := hdst
      have hfz := hown.frozenAt k
      have hst := (hown.stored k (.int .i64 x)).1
      rw [hps] at hst
      have hb2 := hide ((unhide hbel).setCell (p := ⟨w.heap.size, k, none⟩) (Nat.le_refl _) (.int .i64 x))
      replace hst := hide hst
      clear hown hps
      go_wp2_with (first | (go_at_call 77; refine (unhide hbC _).mono ?_; rintro e w2 ⟨rfl, rfl⟩) | (go_at_call 78; refine (unhide hC _).mono ?_; rintro e w2 ⟨rfl, rfl⟩))
      go_roundw
      case rel => exact ⟨k + 1, by omega, by go_num, unhide hst, hb2⟩
      case measure => simp [intOf]; omega
    · have hkl : k = 64 := by omega
      subst hkl
      have hl : (tab (scaleZ q c)).length = 64 := by simp
      have ha := partI_all (tab (scaleZ q c))
      rw [hl] at ha
      rw [ha] at hown
      have hown2 : OwnI wr w.heap.size wr.heap.size (.slice (some ⟨w.heap.size, 0, none⟩) 64 64) (tab (scaleZ q c)) := by
        unfold OwnI; rw [hl]; exact Own.of hown
      replace hown2 := hide hown2
      clear hown ha hl
      go_wp2
      go_ret
      exact ⟨_, rfl, by rw [unhide hF]; exact unhide hown2, Upd.of_below (unhide hbel) 0 0⟩
end Go.Proofs.Ytnalmingbglgfaa
