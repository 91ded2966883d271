/- Coarse and fine numbers of small blocks: the program's walks. -/
import Derived.Test.YtpofmcepjmbmcaaDoorWSkA
import Derived.Test.YtpofmcepjmbmcaaDoorWSbE
import Derived.Test.YtpofmcepjmbmcaaDoorWTrC
import Derived.Laws.EntriesVeiled
namespace Go.Proofs.YtpofmcepjmbmcaaDoor
open Go.RowKit

def coT : List Int := [13107, 5243, 8066, 11916, 4660, 7490, 10082, 4194, 6554, 9362, 3647, 5825, 8192, 3355, 5243, 7282, 2893, 4559]
def fiT : List Int := [10, 16, 13, 11, 18, 14, 13, 20, 16, 14, 23, 18, 16, 25, 20, 18, 29, 23]
theorem implPlaceClass (i : Nat) (w : World) (hi : i < 16) : Calls Tryd.prog 101 #[.int .i64 (i : Int)] w fun e w' => e = .returned (.int .i64 (smClass i : Int)) ∧ w' = w := by
  rcases (show i = 0 ∨ i = 1 ∨ i = 2 ∨ i = 3 ∨ i = 4 ∨ i = 5 ∨ i = 6 ∨ i = 7 ∨ i = 8 ∨ i = 9 ∨ i = 10 ∨ i = 11 ∨ i = 12 ∨ i = 13 ∨ i = 14 ∨ i = 15 by omega) with e | e | e | e | e | e | e | e | e | e | e | e | e | e | e | e <;> subst e <;>
  · go_enter Tryd.func101, Tryd.ntmps101
    go_wp2
    go_ret
    exact ⟨rfl, rfl⟩
theorem implDistW (a : Int) (w : World) (h0 : -1000000 ≤ a) (h1 : a ≤ 1000000) : Calls Tryd.prog 96 #[.int .i64 a, .int .i64 0] w fun e w' => e = .returned (.int .i64 (absI a)) ∧ w' = w := by
  by_cases h : a < 0
  · have hE := hide (show absI a = -a from if_pos h)
    have e1 : ¬ a > 0 - a := by omega
    go_enter Tryd.func96, Tryd.ntmps96
    go_wp2
    all_goals
      go_ret
      exact ⟨ret_int (by have := unhide hE; omega), rfl⟩
  · have hE := hide (show absI a = a from if_neg h)
    go_enter Tryd.func96, Tryd.ntmps96
    go_wp2
    all_goals
      go_ret
      exact ⟨ret_int (by have := unhide hE; omega), rfl⟩
theorem implRndQ (P : Int) (q : Nat) (w : World) (hq : q ≤ 6) (h0 : 0 ≤ P) (h1 : P ≤ 860000000) : Calls Tryd.prog 77 #[.int .i64 P, .int .i64 (15 + (q : Int))] w fun e w' => e = .returned (.int .i64 ((P + 2 ^ (14 + q)) / 2 ^ (15 + q))) ∧ w' = w := by
  rcases (show q = 0 ∨ q = 1 ∨ q = 2 ∨ q = 3 ∨ q = 4 ∨ q = 5 ∨ q = 6 by omega) with e | e | e | e | e | e | e <;> subst e <;>
  · go_enter Tryd.func77, Tryd.ntmps77
    go_wp2
    go_ret
    exact ⟨rfl, rfl⟩
theorem cells18 (w : World) (g : Nat) (L : List Int) (hL : L.length = 18) (h : Held w g (ints L)) (j : Nat) (hj : j < 18) : w.cell? ⟨g, j, none⟩ = some (.int .i64 (L.getD j 0)) := by
  refine h.2 j _ ?_
  unfold ints
  rw [List.getElem?_map, List.getD_eq_getElem?_getD, List.getElem?_eq_getElem (by omega)]
  rfl
theorem pow_fB (q : Nat) (h : q ≤ 6) : (1 : Int) ≤ 2 ^ q ∧ (2 : Int) ^ q ≤ 64 := by
  rcases (show q = 0 ∨ q = 1 ∨ q = 2 ∨ q = 3 ∨ q = 4 ∨ q = 5 ∨ q = 6 by omega) with e | e | e | e | e | e | e <;> subst e <;> decide
theorem fi_bdB (P A : Int) (h : -1900544 ≤ P ∧ P ≤ 1900544) (hA : 1 ≤ A ∧ A ≤ 64) : -121634816 ≤ P * A ∧ P * A ≤ 121634816 := by
  have := mul_both P A 1900544 64 h ⟨by omega, hA.2⟩
  omega
set_option maxHeartbeats 4000000 in
set_option maxRecDepth 100000 in
theorem implSmallCoarseZ (x : Int) (p : Nat) (s : Int) (w : World) (hx : -65536 ≤ x ∧ x ≤ 65536) (hp : p < 16) (hs : 0 ≤ s ∧ s ≤ 40) (hTb : Held w 0 (ints coT)) :
    Calls Tryd.prog 67 #[.int .i64 x, .int .i64 (p : Int), .int .i64 s] w fun e w' => e = .returned (.int .i64 (smCo x p s.toNat)) ∧ Upd 0 0 w w' := by
  obtain ⟨q, r, hq, hr, q6, r6, e1, e2⟩ := step_parts s hs.1 hs.2
  obtain ⟨c, hc⟩ : ∃ c, smClass p = c := ⟨_, rfl⟩
  have hc3 : c < 3 := by rw [← hc]; exact smClass_lt p
  have hCl := hide (fun W => implPlaceClass p W hp)
  have hV : smCo x p s.toNat = coZ x (smM r c) q := by rw [smCo_eq, hq, hr, hc]
  rw [hc] at hCl
  have hm := smM_bd r c r6 hc3
  have hcm := cells18 w _ coT rfl hTb (r * 3 + c) (by omega)
  rw [show coT.getD (r * 3 + c) 0 = smM r c by unfold smM coT; rw [Nat.mul_comm 3 r]] at hcm
  rw [hV]
  clear hV hc hTb hq hr
  generalize smM r c = m at hcm hm ⊢
  obtain ⟨m0, m1⟩ := hm
  obtain ⟨x0, x1⟩ := hx
  obtain ⟨s0, s1⟩ := hs
  have r0 : (0 : Int) ≤ (r : Int) := by omega
  have r1 : (r : Int) < 6 := by omega
  have c0 : (0 : Int) ≤ (c : Int) := by omega
  have c1 : (c : Int) < 3 := by omega
  have hu := hide (show Upd 0 0 w w.drew from (Upd.drewB _))
  have hD := hide (fun W => implDistW x W (by omega) (by omega))
  have hmi := mul_in (absI x) m 65536 13107 (absI_bd x 65536 ⟨by omega, by omega⟩) ⟨by omega, m1⟩
  have hab := absI_bd x 65536 ⟨by omega, by omega⟩
  obtain ⟨P, hP⟩ : ∃ P, absI x * m = P := ⟨_, rfl⟩
  rw [hP] at hmi
  obtain ⟨P0, P1⟩ := hmi
  have hR := hide (fun W => implRndQ P q W q6 P0 (by omega))
  obtain ⟨w1, w2, w3⟩ := sh_wraps P (2 ^ (14 + q)) (2 ^ (15 + q)) P0 (by omega) (pow_q q q6).1 (pow_q q q6).2
  have hQ0 : 0 ≤ (P + 2 ^ (14 + q)) / 2 ^ (15 + q) := Int.ediv_nonneg (Int.add_nonneg P0 (pow_q q q6).1.1) (Int.le_of_lt (pow_q q q6).2)
  have hN : Hid (x < 0 → coZ x m q = -((P + 2 ^ (14 + q)) / 2 ^ (15 + q))) := hide (fun h => by unfold coZ; rw [if_pos h, ← hP, show absI x = -x from if_pos h])
  have hY : Hid (¬ x < 0 → coZ x m q = (P + 2 ^ (14 + q)) / 2 ^ (15 + q)) := hide (fun h => by unfold coZ; rw [if_neg h, ← hP, show absI x = x from if_neg h])
  generalize coZ x m q = y at hN hY ⊢
  generalize (P + 2 ^ (14 + q)) / 2 ^ (15 + q) = Q at hN hY hR w3 hQ0
  clear w1 w2
  by_cases hneg : x < 0
  · have hE := hide (unhide hN hneg)
    clear hN hY
    go_enter Tryd.func67, Tryd.ntmps67
    go_wp2_with fail
    refine wp_region_still_lit (by kernel_rfl) (by kernel_rfl) ?_
    iterate 3 still_step
    still_call (unhide hCl _)
    iterate 4 still_step
    refine wpStill_nil ?_
    go_wp2_with (first | (go_at_call 96; refine (unhide hD _).mono ?_; rintro e wz ⟨rfl, hwz⟩; subst wz) | (go_at_call 77; refine (unhide hR _).mono ?_; rintro e wz ⟨rfl, hwz⟩; subst wz))
    go_ret
    exact ⟨ret_int (by rw [w3]; exact (unhide hE).symm), unhide hu⟩
  · have hE := hide (unhide hY hneg)
    clear hN hY
    go_enter Tryd.func67, Tryd.ntmps67
    go_wp2_with fail
    refine wp_region_still_lit (by kernel_rfl) (by kernel_rfl) ?_
    iterate 3 still_step
    still_call (unhide hCl _)
    iterate 4 still_step
    refine wpStill_nil ?_
    go_wp2_with (first | (go_at_call 96; refine (unhide hD _).mono ?_; rintro e wz ⟨rfl, hwz⟩; subst wz) | (go_at_call 77; refine (unhide hR _).mono ?_; rintro e wz ⟨rfl, hwz⟩; subst wz))
    go_ret
    exact ⟨ret_int (unhide hE).symm, unhide hu⟩
set_option maxHeartbeats 4000000 in
set_option maxRecDepth 100000 in
theorem implSmallFineZ (x : Int) (p : Nat) (s : Int) (w : World) (hx : -65536 ≤ x ∧ x ≤ 65536) (hp : p < 16) (hs : 0 ≤ s ∧ s ≤ 40) (hTb : Held w 2 (ints fiT)) :
    Calls Tryd.prog 78 #[.int .i64 x, .int .i64 (p : Int), .int .i64 s] w fun e w' => e = .returned (.int .i64 (smFi x p s.toNat)) ∧ Upd 0 0 w w' := by
  obtain ⟨q, r, hq, hr, q6, r6, e1, e2⟩ := step_parts s hs.1 hs.2
  obtain ⟨c, hc⟩ : ∃ c, smClass p = c := ⟨_, rfl⟩
  have hc3 : c < 3 := by rw [← hc]; exact smClass_lt p
  have hCl := hide (fun W => implPlaceClass p W hp)
  have hV : smFi x p s.toNat = cutZ (-65536) 65535 (x * smV r c * 2 ^ q) := by unfold smFi; rw [hq, hr, hc, ← Int.mul_assoc]
  rw [hc] at hCl
  have hm := smV_bd r c r6 hc3
  have hcm := cells18 w _ fiT rfl hTb (r * 3 + c) (by omega)
  rw [show fiT.getD (r * 3 + c) 0 = smV r c by unfold smV fiT; rw [Nat.mul_comm 3 r]] at hcm
  rw [hV]
  clear hV hc hTb hq hr
  generalize smV r c = m at hcm hm ⊢
  obtain ⟨m0, m1⟩ := hm
  obtain ⟨x0, x1⟩ := hx
  obtain ⟨s0, s1⟩ := hs
  have r0 : (0 : Int) ≤ (r : Int) := by omega
  have r1 : (r : Int) < 6 := by omega
  have c0 : (0 : Int) ≤ (c : Int) := by omega
  have c1 : (c : Int) < 3 := by omega
  have hu := hide (show Upd 0 0 w w.drew from (Upd.drewB _))
  have hmi := mul_both x m 65536 29 ⟨x0, by omega⟩ ⟨by omega, m1⟩
  have hA := pow_fB q q6
  have hYb := fi_bdB (x * m) (2 ^ q) ⟨by omega, by omega⟩ hA
  have e3 : x * (m * 2 ^ q) = x * m * 2 ^ q := (Int.mul_assoc _ _ _).symm
  have hF2 := mul_in m (2 ^ q) 29 64 ⟨by omega, m1⟩ ⟨by omega, hA.2⟩
  obtain ⟨F, hF⟩ : ∃ F, m * 2 ^ q = F := ⟨_, rfl⟩
  rw [hF] at e3 hF2
  obtain ⟨Y, hY⟩ : ∃ Y, x * F = Y := ⟨_, rfl⟩
  rw [← e3, hY] at hYb ⊢
  obtain ⟨Y0, Y1⟩ := hYb
  obtain ⟨F0, F1⟩ := hF2
  have wF : wrap64 F = F := by unfold wrap64; omega
  have wY : wrap64 Y = Y := by unfold wrap64; omega
  have hC := hide (fun W => implClipInt Y (-65536) 65535 W)
  have hE := hide (cutZ_max (-65536) 65535 Y (by omega))
  rw [← unhide hE]
  generalize max (-65536) (min 65535 Y) = y at hC ⊢
  have wq : IntKind.i64.wrap (q : Int) = (q : Int) := wrapB (by omega)
  have q0 : (0 : Int) ≤ (q : Int) := by omega
  have q1 : (q : Int) ≤ 6 := by omega
  clear e3 hE hA hmi
  go_enter Tryd.func78, Tryd.ntmps78
  go_wp2_with fail
  refine wp_region_still_lit (by kernel_rfl) (by kernel_rfl) ?_
  iterate 3 still_step
  still_call (unhide hCl _)
  iterate 7 still_step
  refine wpStill_nil ?_
  go_wp2_with (go_at_call 106; refine (unhide hC _).mono ?_; rintro e wz ⟨rfl, hwz⟩; subst wz)
  go_ret
  exact ⟨rfl, unhide hu⟩
end Go.Proofs.YtpofmcepjmbmcaaDoor
