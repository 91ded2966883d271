/- The walks of CodeCost: the specification's and the program's. -/
import Derived.Test.YtcoegccnkdhpjaaWKind
namespace Go.Proofs.Ytcoegccnkdhpjaa
open Go.RowKit

set_option maxHeartbeats 400000 in
theorem implGoodCount (c : Int) (w : World) : Calls Try.prog 55 #[.int .i64 c] w fun e w' => e = .returned (.bool (decide (okC c))) ∧ w' = w := by
  by_cases h0 : 0 ≤ c
  · by_cases h1 : c ≤ 1000000000
    · have hB := hide (decide_eq_true (p := okC c) ⟨h0, h1⟩)
      have q0 : decide ((0 : Int) ≤ c) = true := by simp; omega
      have q1 : decide (c ≤ 1000000000) = true := by simp; omega
      go_enter Try.func55, Try.ntmps55
      go_wp2
      go_ret
      exact ⟨ret_bool (unhide hB).symm, rfl⟩
    · have hB := hide (decide_eq_false (p := okC c) (fun h => h1 h.2))
      have q0 : decide ((0 : Int) ≤ c) = true := by simp; omega
      have q1 : decide (c ≤ 1000000000) = false := by simp; omega
      go_enter Try.func55, Try.ntmps55
      go_wp2
      go_ret
      exact ⟨ret_bool (unhide hB).symm, rfl⟩
  · have hB := hide (decide_eq_false (p := okC c) (fun h => h0 h.1))
    have q0 : decide ((0 : Int) ≤ c) = false := by simp; omega
    go_enter Try.func55, Try.ntmps55
    go_wp2
    go_ret
    exact ⟨ret_bool (unhide hB).symm, rfl⟩

set_option maxHeartbeats 2000000 in
theorem specCost (u v : Value) (cs zs : List Int) (w : World) (hn0 : cs.length ≤ 1048576) (_hn1 : zs.length ≤ 1048576) (hu : RdI w u cs) (hv : RdI w v zs) :
    Calls Try.prog 26 #[u, v] w fun e w' => e = .returned (.int .i64 (costF cs zs)) ∧ w' = w := by
  have hV := specValid v zs w hv
  obtain ⟨ad', cap', rfl, hA'⟩ := hv
  obtain ⟨ad, cap, rfl, hA⟩ := hu
  replace hA := hide hA
  replace hA' := hide hA'
  by_cases hl : cs.length = zs.length
  · have q0 : ((cs.length : Int) != (zs.length : Int)) = false := by simp; omega
    by_cases hg : goodL zs
    · rw [goodLB_yes hg] at hV
      have hlen := hg.1
      have hK : Hid ((∀ j, j < cs.length → okC (cs.getD j 0)) → costF cs zs = costTo cs zs cs.length) := fun h => costF_good ⟨hl, hg, h⟩
      have hBad : Hid (∀ k, k < cs.length → ¬ okC (cs.getD k 0) → ¬ goodC cs zs) := fun k hk h g => h (g.2.2 k hk)
      replace hg := hide hg.2
      replace hV := hide hV
      replace hl := hide hl
      go_enter Try.func26, Try.ntmps26
      go_wp2_with fail
      refine (unhide hV).mono ?_
      rintro e w' ⟨rfl, hw⟩
      subst hw
      clear hV
      have hle : cs.length ≤ 300 := by rw [unhide hl]; exact hlen
      go_wp2
      go_loop [5, 20] (fun s i => ∃ k : Nat, k ≤ cs.length ∧ s = .int .i64 (costTo cs zs k) ∧ i = .int .i64 k ∧ Hid (∀ j, j < k → okC (cs.getD j 0))) (fun _ i => cs.length - (intOf i).toNat)
      case atStart => exact ⟨0, Nat.zero_le _, rfl, rfl, fun j hj => by omega⟩
      case round =>
       obtain ⟨k, hk, rfl, rfl, hok⟩ := hrel
       by_cases hlt : k < cs.length
       · have hltz : k < zs.length := by rw [← unhide hl]; exact hlt
         obtain ⟨b, off, rfl, hbl, hc⟩ := (unhide hA) (ne_of_lt_length hlt)
         obtain ⟨b', off', rfl, hbl', hc'⟩ := (unhide hA') (ne_of_lt_length hltz)
         have hck := hc k hlt
         have hcz := hc' k hltz
         have hS := hide (show costTo cs zs (k + 1) = costTo cs zs k + cs.getD k 0 * zs.getD k 0 from rfl)
         have hbad := hide (unhide hBad k hlt)
         have hgood : Hid (okC (cs.getD k 0) → ∀ j, j < k + 1 → okC (cs.getD j 0)) := fun h j hj => by
           rcases Nat.lt_or_eq_of_le (Nat.le_of_lt_succ hj) with h' | h'
           · exact unhide hok j h'
           · subst h'; exact h
         have hbb : Hid (okC (cs.getD k 0) → (0 ≤ cs.getD k 0 * zs.getD k 0 ∧ cs.getD k 0 * zs.getD k 0 ≤ 15000000000) ∧ 0 ≤ costTo cs zs k + cs.getD k 0 * zs.getD k 0 ∧ costTo cs zs k + cs.getD k 0 * zs.getD k 0 ≤ 15000000000 * (300 : Nat)) := fun h => by
           have h1 := cost_bd _ _ h ((unhide hg) k hltz)
           have h2 := costTo_bd cs zs k (unhide hok) (fun j hj => (unhide hg) j (by omega))
           refine ⟨h1, by omega, by omega⟩
         clear hc hc' hA hA' hbl hbl' hBad
         generalize cs.getD k 0 = c at hck hbad hgood hS hbb
         generalize zs.getD k 0 = z at hcz hS hbb
         generalize costTo cs zs k = s at hS hbb
         by_cases h1 : c < 0
         · have hB := hide (costF_bad (unhide hbad (fun h => by have := h.1; omega)))
           go_wp2
           go_ret
           exact ⟨ret_int (unhide hB).symm, rfl⟩
         · by_cases h2 : 1000000000 < c
           · have hB := hide (costF_bad (unhide hbad (fun h => by have := h.2; omega)))
             go_wp2
             go_ret
             exact ⟨ret_int (unhide hB).symm, rfl⟩
           · replace hgood := hide (unhide hgood ⟨by omega, by omega⟩)
             have hck2 := hcz
             have hbb := hide (unhide hbb ⟨by omega, by omega⟩)
             go_wp2
             rw [wrap64_of (x := c * z) (by have := (unhide hbb).1; omega) (by have := (unhide hbb).1; omega), wrap64_of (x := s + c * z) (by have := (unhide hbb).2; omega) (by have := (unhide hbb).2; omega)]
             go_round
             case rel => exact ⟨k + 1, by omega, by rw [unhide hS], by go_num, unhide hgood⟩
             case measure => simp [intOf]; omega
       · have hkl : k = cs.length := by omega
         subst hkl
         have hB := hide (unhide hK (unhide hok))
         go_wp2
         go_ret
         exact ⟨ret_int (unhide hB).symm, rfl⟩
    · rw [goodLB_no hg] at hV
      have hK := hide (costF_bad (cs := cs) (zs := zs) (fun h => hg h.2.1))
      replace hV := hide hV
      replace hl := hide hl
      clear hg hA hA'
      go_enter Try.func26, Try.ntmps26
      go_wp2_with fail
      refine (unhide hV).mono ?_
      rintro e w' ⟨rfl, hw⟩
      subst hw
      clear hV
      go_wp2
      go_ret
      exact ⟨ret_int (unhide hK).symm, rfl⟩
  · have q0 : ((cs.length : Int) != (zs.length : Int)) = true := by simp; omega
    have hK := hide (costF_bad (cs := cs) (zs := zs) (fun h => hl h.1))
    replace hl := hide hl
    clear hV hA hA'
    go_enter Try.func26, Try.ntmps26
    go_wp2
    go_ret
    exact ⟨ret_int (unhide hK).symm, rfl⟩
theorem specCodeCost (u : Value) (cs : List Int) (v : Value) (zs : List Int) (w : World) (hn0 : cs.length ≤ 1048576) (_hR0 : InI cs) (hu : RdI w u cs) (hn1 : zs.length ≤ 1048576) (_hR1 : InI zs) (hv : RdI w v zs) :
    Calls Try.prog 26 #[u, v] w fun e w' => e = .returned (.int .i64 (costF cs zs)) ∧ Upd 0 0 w w' := upd_of_same (specCost u v cs zs w hn0 hn1 hu hv)

set_option maxHeartbeats 2000000 in
theorem implCost (u v : Value) (cs zs : List Int) (w : World) (hn0 : cs.length ≤ 1048576) (hn1 : zs.length ≤ 1048576) (hu : RdI w u cs) (hv : RdI w v zs) :
    Calls Try.prog 24 #[u, v] w fun e w' => e = .returned (.int .i64 (costF cs zs)) ∧ w' = w := by
  have hV := implGoodLengths v zs w (by omega) hv
  obtain ⟨ad', cap', rfl, hA'⟩ := hv
  obtain ⟨ad, cap, rfl, hA⟩ := hu
  replace hA := hide hA
  replace hA' := hide hA'
  by_cases hl : cs.length = zs.length
  · have q0 : ((cs.length : Int) != (zs.length : Int)) = false := by simp; omega
    by_cases hg : goodL zs
    · rw [goodLB_yes hg] at hV
      have hlen := hg.1
      have hK : Hid ((∀ j, j < cs.length → okC (cs.getD j 0)) → costF cs zs = costTo cs zs cs.length) := fun h => costF_good ⟨hl, hg, h⟩
      have hBad : Hid (∀ k, k < cs.length → ¬ okC (cs.getD k 0) → ¬ goodC cs zs) := fun k hk h g => h (g.2.2 k hk)
      replace hg := hide hg.2
      replace hV := hide hV
      replace hl := hide hl
      go_enter Try.func24, Try.ntmps24
      go_wp2_with fail
      refine (unhide hV).mono ?_
      rintro e w' ⟨rfl, hw⟩
      subst hw
      clear hV
      have hle : cs.length ≤ 300 := by rw [unhide hl]; exact hlen
      go_wp2
      go_loop [5, 20] (fun s i => ∃ k : Nat, k ≤ cs.length ∧ s = .int .i64 (costTo cs zs k) ∧ i = .int .i64 k ∧ Hid (∀ j, j < k → okC (cs.getD j 0))) (fun _ i => cs.length - (intOf i).toNat)
      case atStart => exact ⟨0, Nat.zero_le _, rfl, rfl, fun j hj => by omega⟩
      case round =>
       obtain ⟨k, hk, rfl, rfl, hok⟩ := hrel
       by_cases hlt : k < cs.length
       · have hltz : k < zs.length := by rw [← unhide hl]; exact hlt
         obtain ⟨b, off, rfl, hbl, hc⟩ := (unhide hA) (ne_of_lt_length hlt)
         obtain ⟨b', off', rfl, hbl', hc'⟩ := (unhide hA') (ne_of_lt_length hltz)
         have hck := hc k hlt
         have hcz := hc' k hltz
         have hS := hide (show costTo cs zs (k + 1) = costTo cs zs k + cs.getD k 0 * zs.getD k 0 from rfl)
         have hbad := hide (unhide hBad k hlt)
         have hgood : Hid (okC (cs.getD k 0) → ∀ j, j < k + 1 → okC (cs.getD j 0)) := fun h j hj => by
           rcases Nat.lt_or_eq_of_le (Nat.le_of_lt_succ hj) with h' | h'
           · exact unhide hok j h'
           · subst h'; exact h
         have hbb : Hid (okC (cs.getD k 0) → (0 ≤ cs.getD k 0 * zs.getD k 0 ∧ cs.getD k 0 * zs.getD k 0 ≤ 15000000000) ∧ 0 ≤ costTo cs zs k + cs.getD k 0 * zs.getD k 0 ∧ costTo cs zs k + cs.getD k 0 * zs.getD k 0 ≤ 15000000000 * (300 : Nat)) := fun h => by
           have h1 := cost_bd _ _ h ((unhide hg) k hltz)
           have h2 := costTo_bd cs zs k (unhide hok) (fun j hj => (unhide hg) j (by omega))
           refine ⟨h1, by omega, by omega⟩
         clear hc hc' hA hA' hbl hbl' hBad
         generalize cs.getD k 0 = c at hck hbad hgood hS hbb
         generalize zs.getD k 0 = z at hcz hS hbb
         generalize costTo cs zs k = s at hS hbb
         have hG := implGoodCount c w'
         by_cases h1 : okC c
         · rw [decide_eq_true h1] at hG
           replace hgood := hide (unhide hgood h1)
           have hbb := hide (unhide hbb h1)
           clear hbad
           replace hG := hide hG
           go_wp2_with fail
           refine (unhide hG).mono ?_
           rintro e w2 ⟨rfl, hw⟩
           subst hw
           clear hG
           go_wp2
           rw [wrap64_of (x := c * z) (by have := (unhide hbb).1; omega) (by have := (unhide hbb).1; omega), wrap64_of (x := s + c * z) (by have := (unhide hbb).2; omega) (by have := (unhide hbb).2; omega)]
           go_round
           case rel => exact ⟨k + 1, by omega, by rw [unhide hS], by go_num, unhide hgood⟩
           case measure => simp [intOf]; omega
         · rw [decide_eq_false h1] at hG
           have hB := hide (costF_bad (unhide hbad h1))
           replace hG := hide hG
           go_wp2_with fail
           refine (unhide hG).mono ?_
           rintro e w2 ⟨rfl, hw⟩
           subst hw
           clear hG
           go_wp2
           go_ret
           exact ⟨ret_int (unhide hB).symm, rfl⟩
       · have hkl : k = cs.length := by omega
         subst hkl
         have hB := hide (unhide hK (unhide hok))
         go_wp2
         go_ret
         exact ⟨ret_int (unhide hB).symm, rfl⟩
    · rw [goodLB_no hg] at hV
      have hK := hide (costF_bad (cs := cs) (zs := zs) (fun h => hg h.2.1))
      replace hV := hide hV
      replace hl := hide hl
      clear hg hA hA'
      go_enter Try.func24, Try.ntmps24
      go_wp2_with fail
      refine (unhide hV).mono ?_
      rintro e w' ⟨rfl, hw⟩
      subst hw
      clear hV
      go_wp2
      go_ret
      exact ⟨ret_int (unhide hK).symm, rfl⟩
  · have q0 : ((cs.length : Int) != (zs.length : Int)) = true := by simp; omega
    have hK := hide (costF_bad (cs := cs) (zs := zs) (fun h => hl h.1))
    replace hl := hide hl
    clear hV hA hA'
    go_enter Try.func24, Try.ntmps24
    go_wp2
    go_ret
    exact ⟨ret_int (unhide hK).symm, rfl⟩
theorem implCodeCost (u : Value) (cs : List Int) (v : Value) (zs : List Int) (w : World) (hn0 : cs.length ≤ 1048576) (_hR0 : InI cs) (hu : RdI w u cs) (hn1 : zs.length ≤ 1048576) (_hR1 : InI zs) (hv : RdI w v zs) :
    Calls Try.prog 24 #[u, v] w fun e w' => e = .returned (.int .i64 (costF cs zs)) ∧ Upd 0 0 w w' := upd_of_same (implCost u v cs zs w hn0 hn1 hu hv)
end Go.Proofs.Ytcoegccnkdhpjaa
