/- The walks of CodeKind: the specification's and the program's. -/
import Derived.Test.YtcoegccnkdhpjaaWInts
import Derived.Test.YtcoegccnkdhpjaaPlainH
namespace Go.Proofs.Ytcoegccnkdhpjaa
open Go.RowKit

set_option maxHeartbeats 1000000 in
theorem specValid (v : Value) (zs : List Int) (w : World) (hv : RdI w v zs) :
    Calls Try.prog 62 #[v] w fun e w' => e = .returned (.bool (goodLB zs)) ∧ w' = w := by
  obtain ⟨ad, cap, rfl, hA⟩ := hv
  by_cases hlen : zs.length ≤ 300
  · replace hA := hide hA
    go_enter Try.func62, Try.ntmps62
    go_wp2
    go_loop [10] (fun i => ∃ k : Nat, k ≤ zs.length ∧ i = .int .i64 k ∧ Hid (allL zs k)) (fun i => zs.length - (intOf i).toNat)
    case atStart => exact ⟨0, Nat.zero_le _, rfl, allL_zero zs⟩
    case round =>
      obtain ⟨k, hk, rfl, hok⟩ := hrel
      by_cases hlt : k < zs.length
      · obtain ⟨b, off, rfl, hbl, hc⟩ := (unhide hA) (ne_of_lt_length hlt)
        have hck := hc k hlt
        have hbad := hide (not_goodL_at (zs := zs) hlt)
        have hgood := hide (allL_succ (unhide hok))
        clear hc hA hbl
        generalize zs.getD k 0 = x at hck hbad hgood
        by_cases h1 : x < 0
        · have hB := hide (goodLB_no (unhide hbad (fun h => by have := h.1; omega)))
          go_wp2
          go_ret
          exact ⟨ret_bool (unhide hB).symm, rfl⟩
        · by_cases h2 : 15 < x
          · have hB := hide (goodLB_no (unhide hbad (fun h => by have := h.2; omega)))
            go_wp2
            go_ret
            exact ⟨ret_bool (unhide hB).symm, rfl⟩
          · replace hgood := hide (unhide hgood ⟨by omega, by omega⟩)
            go_wp2
            go_round
            case rel => exact ⟨k + 1, by omega, by go_num, hgood⟩
            case measure => simp [intOf]; omega
      · have hkl : k = zs.length := by omega
        subst hkl
        have hB := hide (goodLB_yes ⟨hlen, unhide hok⟩)
        go_wp2
        go_ret
        exact ⟨ret_bool (unhide hB).symm, rfl⟩
  · have hB := hide (goodLB_no (zs := zs) (fun h => hlen h.1))
    go_enter Try.func62, Try.ntmps62
    go_wp2
    go_ret
    exact ⟨ret_bool (unhide hB).symm, rfl⟩

set_option maxHeartbeats 1000000 in
theorem implGoodLengths (v : Value) (zs : List Int) (w : World) (hn : zs.length ≤ 140737488351232) (hv : RdI w v zs) :
    Calls Try.prog 60 #[v] w fun e w' => e = .returned (.bool (goodLB zs)) ∧ w' = w := by
  obtain ⟨ad, cap, rfl, hA⟩ := hv
  replace hA := hide hA
  go_enter Try.func60, Try.ntmps60
  go_wp2
  go_loop [7] (fun i => ∃ k : Nat, k ≤ zs.length ∧ i = .int .i64 k ∧ Hid (allL zs k)) (fun i => zs.length - (intOf i).toNat)
  case atStart => exact ⟨0, Nat.zero_le _, rfl, allL_zero zs⟩
  case round =>
    obtain ⟨k, hk, rfl, hok⟩ := hrel
    by_cases hlt : k < zs.length
    · obtain ⟨b, off, rfl, hbl, hc⟩ := (unhide hA) (ne_of_lt_length hlt)
      have hck := hc k hlt
      have hbad := hide (not_goodL_at (zs := zs) hlt)
      have hgood := hide (allL_succ (unhide hok))
      clear hc hA hbl
      generalize zs.getD k 0 = x at hck hbad hgood
      by_cases h1 : x < 0
      · have hB := hide (goodLB_no (unhide hbad (fun h => by have := h.1; omega)))
        go_wp2
        go_ret
        exact ⟨ret_bool (unhide hB).symm, rfl⟩
      · by_cases h2 : 15 < x
        · have hB := hide (goodLB_no (unhide hbad (fun h => by have := h.2; omega)))
          go_wp2
          go_ret
          exact ⟨ret_bool (unhide hB).symm, rfl⟩
        · replace hgood := hide (unhide hgood ⟨by omega, by omega⟩)
          go_wp2
          go_round
          case rel => exact ⟨k + 1, by omega, by go_num, hgood⟩
          case measure => simp [intOf]; omega
    · have hkl : k = zs.length := by omega
      subst hkl
      by_cases hlen : zs.length ≤ 300
      · have hB := hide (goodLB_yes ⟨hlen, unhide hok⟩)
        go_wp2
        go_ret
        exact ⟨ret_bool (by rw [unhide hB]; simp; omega), rfl⟩
      · have hB := hide (goodLB_no (zs := zs) (fun h => hlen h.1))
        go_wp2
        go_ret
        exact ⟨ret_bool (by rw [unhide hB]; simp; omega), rfl⟩

set_option maxHeartbeats 1000000 in
theorem specKind (v : Value) (zs : List Int) (w : World) (hn : zs.length ≤ 140737488351232) (hv : RdI w v zs) :
    Calls Try.prog 37 #[v] w fun e w' => e = .returned (.int .i64 (kindF zs)) ∧ w' = w := by
  have hV := specValid v zs w hv
  by_cases hg : goodL zs
  · rw [goodLB_yes hg] at hV
    have hK := hide (kindF_good hg)
    obtain ⟨ad, cap, rfl, hA⟩ := hv
    replace hA := hide hA
    have hlen := hg.1
    replace hg := hide hg.2
    replace hV := hide hV
    go_enter Try.func37, Try.ntmps37
    go_wp2_with fail
    refine (unhide hV).mono ?_
    rintro e w' ⟨rfl, hw⟩
    subst hw
    clear hV
    go_wp2
    go_loop [3, 11] (fun s i => ∃ k : Nat, k ≤ zs.length ∧ s = .int .i64 (sharesTo zs k : Nat) ∧ i = .int .i64 k) (fun _ i => zs.length - (intOf i).toNat)
    case atStart => exact ⟨0, Nat.zero_le _, rfl, rfl⟩
    case round =>
      obtain ⟨k, hk, rfl, rfl⟩ := hrel
      by_cases hlt : k < zs.length
      · obtain ⟨b, off, rfl, hbl, hc⟩ := (unhide hA) (ne_of_lt_length hlt)
        have hck := hc k hlt
        have hS := hide (show sharesTo zs (k + 1) = sharesTo zs k + shareOf (zs.getD k 0) from rfl)
        have hok := (unhide hg) k hlt
        have hb := sharesTo_le zs k
        clear hc hA hbl
        generalize zs.getD k 0 = x at hck hS hok
        obtain ⟨x, rfl⟩ := Int.eq_ofNat_of_zero_le hok.1
        have hx15 : x ≤ 15 := by have := hok.2; omega
        clear hok
        by_cases h1 : 0 < x
        · have hsh := hide (share_shl x h1 hx15)
          have hle := shareOf_le (x : Int)
          go_wp2
          rw [unhide hsh, wrap64_of (by omega) (by omega)]
          go_round
          case rel => exact ⟨k + 1, by omega, by rw [unhide hS]; go_num, by go_num⟩
          case measure => simp [intOf]; omega
        · have hx0 : shareOf (x : Int) = 0 := if_neg (by omega)
          rw [hx0] at hS
          clear hx0
          go_wp2
          go_round
          case rel => exact ⟨k + 1, by omega, by rw [unhide hS]; rfl, by go_num⟩
          case measure => simp [intOf]; omega
      · have hkl : k = zs.length := by omega
        subst hkl
        generalize sharesTo zs zs.length = s at hK
        unfold kindS at hK
        by_cases h1 : s = 0
        · rw [if_pos (Or.inl h1)] at hK
          have q0 : ((s : Int) == 0) = true := by simp; omega
          go_wp2
          go_ret
          exact ⟨ret_int (unhide hK).symm, rfl⟩
        · have q0 : ((s : Int) == 0) = false := by simp; omega
          by_cases h2 : 32768 < s
          · rw [if_pos (Or.inr h2)] at hK
            have q1 : decide ((32768 : Int) < s) = true := by simp; omega
            go_wp2
            go_ret
            exact ⟨ret_int (unhide hK).symm, rfl⟩
          · rw [if_neg (by omega)] at hK
            have q1 : decide ((32768 : Int) < s) = false := by simp; omega
            by_cases h3 : s = 32768
            · rw [if_pos h3] at hK
              have q2 : ((s : Int) == 32768) = true := by simp; omega
              clear h3
              go_wp2
              go_ret
              exact ⟨ret_int (unhide hK).symm, rfl⟩
            · rw [if_neg h3] at hK
              have q2 : ((s : Int) == 32768) = false := by simp; omega
              go_wp2
              go_ret
              exact ⟨ret_int (unhide hK).symm, rfl⟩
  · rw [goodLB_no hg] at hV
    have hK := hide (kindF_bad hg)
    replace hV := hide hV
    clear hg hv
    go_enter Try.func37, Try.ntmps37
    go_wp2_with fail
    refine (unhide hV).mono ?_
    rintro e w' ⟨rfl, hw⟩
    subst hw
    clear hV
    go_wp2
    go_ret
    exact ⟨ret_int (unhide hK).symm, rfl⟩

set_option maxHeartbeats 1000000 in
theorem implKind (v : Value) (zs : List Int) (w : World) (hn : zs.length ≤ 140737488351232) (hv : RdI w v zs) :
    Calls Try.prog 23 #[v] w fun e w' => e = .returned (.int .i64 (kindF zs)) ∧ w' = w := by
  have hV := implGoodLengths v zs w hn hv
  by_cases hg : goodL zs
  · rw [goodLB_yes hg] at hV
    have hK := hide (kindF_good hg)
    obtain ⟨ad, cap, rfl, hA⟩ := hv
    replace hA := hide hA
    have hlen := hg.1
    replace hg := hide hg.2
    replace hV := hide hV
    go_enter Try.func23, Try.ntmps23
    go_wp2_with fail
    refine (unhide hV).mono ?_
    rintro e w' ⟨rfl, hw⟩
    subst hw
    clear hV
    go_wp2
    go_loop [3, 11] (fun s i => ∃ k : Nat, k ≤ zs.length ∧ s = .int .i64 (sharesTo zs k : Nat) ∧ i = .int .i64 k) (fun _ i => zs.length - (intOf i).toNat)
    case atStart => exact ⟨0, Nat.zero_le _, rfl, rfl⟩
    case round =>
      obtain ⟨k, hk, rfl, rfl⟩ := hrel
      by_cases hlt : k < zs.length
      · obtain ⟨b, off, rfl, hbl, hc⟩ := (unhide hA) (ne_of_lt_length hlt)
        have hck := hc k hlt
        have hS := hide (show sharesTo zs (k + 1) = sharesTo zs k + shareOf (zs.getD k 0) from rfl)
        have hok := (unhide hg) k hlt
        have hb := sharesTo_le zs k
        clear hc hA hbl
        generalize zs.getD k 0 = x at hck hS hok
        obtain ⟨x, rfl⟩ := Int.eq_ofNat_of_zero_le hok.1
        have hx15 : x ≤ 15 := by have := hok.2; omega
        clear hok
        by_cases h1 : 0 < x
        · have hsh := hide (share_shr x h1 hx15)
          have hle := shareOf_le (x : Int)
          go_wp2
          rw [unhide hsh, wrap64_of (by omega) (by omega)]
          go_round
          case rel => exact ⟨k + 1, by omega, by rw [unhide hS]; go_num, by go_num⟩
          case measure => simp [intOf]; omega
        · have hx0 : shareOf (x : Int) = 0 := if_neg (by omega)
          rw [hx0] at hS
          clear hx0
          go_wp2
          go_round
          case rel => exact ⟨k + 1, by omega, by rw [unhide hS]; rfl, by go_num⟩
          case measure => simp [intOf]; omega
      · have hkl : k = zs.length := by omega
        subst hkl
        generalize sharesTo zs zs.length = s at hK
        unfold kindS at hK
        by_cases h1 : s = 0
        · rw [if_pos (Or.inl h1)] at hK
          have q0 : ((s : Int) == 0) = true := by simp; omega
          go_wp2
          go_ret
          exact ⟨ret_int (unhide hK).symm, rfl⟩
        · have q0 : ((s : Int) == 0) = false := by simp; omega
          by_cases h2 : 32768 < s
          · rw [if_pos (Or.inr h2)] at hK
            have q1 : decide ((32768 : Int) < s) = true := by simp; omega
            go_wp2
            go_ret
            exact ⟨ret_int (unhide hK).symm, rfl⟩
          · rw [if_neg (by omega)] at hK
            have q1 : decide ((32768 : Int) < s) = false := by simp; omega
            by_cases h3 : s = 32768
            · rw [if_pos h3] at hK
              have q2 : decide ((s : Int) < 32768) = false := by simp; omega
              clear h3
              go_wp2
              go_ret
              exact ⟨ret_int (unhide hK).symm, rfl⟩
            · rw [if_neg h3] at hK
              have q2 : decide ((s : Int) < 32768) = true := by simp; omega
              go_wp2
              go_ret
              exact ⟨ret_int (unhide hK).symm, rfl⟩
  · rw [goodLB_no hg] at hV
    have hK := hide (kindF_bad hg)
    replace hV := hide hV
    clear hg hv
    go_enter Try.func23, Try.ntmps23
    go_wp2_with fail
    refine (unhide hV).mono ?_
    rintro e w' ⟨rfl, hw⟩
    subst hw
    clear hV
    go_wp2
    go_ret
    exact ⟨ret_int (unhide hK).symm, rfl⟩
end Go.Proofs.Ytcoegccnkdhpjaa
