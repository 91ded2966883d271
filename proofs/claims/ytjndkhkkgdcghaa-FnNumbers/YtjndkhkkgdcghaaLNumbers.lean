/- The law on numbers: what is put is got, what is cut short is none, folded and unfolded. -/
import Derived.Test.YtjndkhkkgdcghaaWPut2
import Derived.Test.YtjndkhkkgdcghaaWNum3
import Derived.Test.YtjndkhkkgdcghaaWCur
import Derived.Test.YtjndkhkkgdcghaaWSums
namespace Go.Proofs.Ytjndkhkkgdcghaa
open Go.RowKit

theorem getD_app (xs ys : List Int) : (xs ++ ys).getD xs.length 0 = ys.getD 0 0 := by
  rw [List.getD_eq_getElem?_getD, List.getD_eq_getElem?_getD, List.getElem?_append_right (Nat.le_refl _), Nat.sub_self]
theorem gn_put (m : Nat) : ∀ (xs : List Int) (v : Nat), xs.length ≤ 9 → m < 2 ^ (64 - 7 * xs.length) → (0 < m ∨ xs.length = 0) →
    gnGo (xs ++ putL m) 0 (10 - xs.length) xs.length v = some (v + m * 2 ^ (7 * xs.length), xs.length + (putL m).length) := by
  induction m using Nat.strongRecOn with
  | ind m ih =>
    intro xs v hl hm hpos
    have ef : 10 - xs.length = (9 - xs.length) + 1 := by omega
    by_cases h : m < 128
    · rw [putL_last m h, ef]
      unfold gnGo
      rw [Nat.zero_add, getD_app]
      simp only [List.length_append, List.length_singleton, List.getD_cons_zero, Int.toNat_natCast]
      rw [if_neg (by omega), if_neg, if_pos h, if_neg (by omega), Nat.mod_eq_of_lt h]
      rintro ⟨e9, h1⟩
      rw [e9] at hm; omega
    · have hs := put_step m xs.length h hm
      have h2 := ih (m / 128) (by omega) (xs ++ [((m % 128 + 128 : Nat) : Int)]) (v + (m % 128 + 128) % 128 * 2 ^ (7 * xs.length)) (by simp; omega) (by simpa using hs.2) (by left; omega)
      rw [putL_more m h, ef]
      unfold gnGo
      rw [Nat.zero_add, getD_app]
      simp only [List.length_append, List.length_cons, List.getD_cons_zero, Int.toNat_natCast]
      rw [if_neg (by omega), if_neg (by omega), if_neg (by omega)]
      rw [List.append_assoc, List.length_append, List.length_singleton] at h2
      rw [show 9 - xs.length = 10 - (xs.length + 1) by omega]
      refine h2.trans ?_
      have e1 : (m % 128 + 128) % 128 = m % 128 := by omega
      have e2 : 2 ^ (7 * (xs.length + 1)) = 128 * 2 ^ (7 * xs.length) := by rw [show 7 * (xs.length + 1) = 7 + 7 * xs.length by omega, Nat.pow_add]
      have e3 : v + m % 128 * 2 ^ (7 * xs.length) + m / 128 * (128 * 2 ^ (7 * xs.length)) = v + m * 2 ^ (7 * xs.length) := by
        rw [← Nat.mul_assoc, Nat.add_assoc, ← Nat.add_mul, show m % 128 + m / 128 * 128 = m by omega]
      rw [e1, e2, e3]
      congr 2; omega
theorem getNum_put (n : Nat) (hn : n < 2 ^ 64) : getNum (putL n) 0 = some (n, (putL n).length) := by
  have := gn_put n [] 0 (by simp) (by simpa using hn) (by right; rfl)
  unfold getNum
  rw [if_neg (by omega)]
  simpa using this
theorem gn_cut (m : Nat) : ∀ (xs : List Int) (f v : Nat), gnGo (xs ++ (putL m).dropLast) 0 f xs.length v = none := by
  induction m using Nat.strongRecOn with
  | ind m ih =>
    intro xs f v
    by_cases h : m < 128
    · rw [putL_last m h]; exact gn_end _ _ _ _ _ (by simp)
    · rcases f with _ | f
      · rfl
      have hne : putL (m / 128) ≠ [] := by rw [putL]; split <;> simp
      have h2 := ih (m / 128) (by omega) (xs ++ [((m % 128 + 128 : Nat) : Int)]) f (v + (m % 128 + 128) % 128 * 2 ^ (7 * xs.length))
      rw [putL_more m h, List.dropLast_cons_of_ne_nil hne]
      unfold gnGo
      rw [Nat.zero_add, getD_app]
      simp only [List.length_append, List.length_cons, List.getD_cons_zero, Int.toNat_natCast]
      rw [if_neg (by omega)]
      split
      · rfl
      · rw [if_neg (by omega)]
        rw [List.append_assoc, List.length_append, List.length_singleton] at h2
        exact h2
theorem getNum_cut (n : Nat) : getNum ((putL n).take ((putL n).length - 1)) 0 = none := by
  have := gn_cut n [] 10 0
  unfold getNum
  rw [if_neg (by omega), ← List.dropLast_eq_take]
  simpa using this
theorem fold_unfold (n : Int) (h0 : 0 ≤ n) : foldF (unfoldF n) = n := by unfold foldF unfoldF; split <;> split <;> omega
theorem unfold_fold (n : Int) : unfoldF (foldF n) = n := by unfold foldF unfoldF; split <;> split <;> omega
theorem unfoldF_bd (n : Int) (h0 : 0 ≤ n) (h1 : n ≤ 18446744073709551615) : -9223372036854775808 ≤ unfoldF n ∧ unfoldF n ≤ 9223372036854775807 := by unfold unfoldF; split <;> omega
theorem foldF_bd (n : Int) (h0 : -9223372036854775808 ≤ n) (h1 : n ≤ 9223372036854775807) : 0 ≤ foldF n ∧ foldF n ≤ 18446744073709551615 := by unfold foldF; split <;> omega

set_option maxHeartbeats 1000000 in
theorem wBytes_eq (b off cap b' off' cap' len : Nat) (zs : List Int) (w : World) (hlen : zs.length = len) (hn : len ≤ 1048576) (hc : BytesAt w b off zs) (hc' : BytesAt w b' off' zs) :
    Calls Try.prog 19 #[.slice (some ⟨b, off, none⟩) len cap, .slice (some ⟨b', off', none⟩) len cap'] w fun e w' => e = .returned (.bool true) ∧ ∃ nq, w' = w.drewN nq := by
  subst hlen
  replace hc := hide hc
  replace hc' := hide hc'
  go_enter Try.func19, Try.ntmps19
  go_wp2
  go_loopw [13] (fun i wr => ∃ k : Nat, k ≤ zs.length ∧ i = .int .i64 k ∧ ∃ nq, wr = w.drewN nq) (fun i _ => zs.length - (intOf i).toNat)
  case atStart => exact ⟨0, Nat.zero_le _, rfl, 0, rfl⟩
  case round =>
    obtain ⟨k, hk, rfl, nq, rfl⟩ := hrel
    by_cases hlt : k < zs.length
    · have hck := unhide hc k hlt
      have hck' := unhide hc' k hlt
      generalize zs.getD k 0 = x at hck hck'
      go_wp2
      go_quiet (fail)
      go_wp2
      go_roundw
      case rel => exact ⟨k + 1, by omega, by go_num, _, rfl⟩
      case measure => simp [intOf]; omega
    · have hkl : k = zs.length := by omega
      subst hkl
      go_wp2
      go_ret
      exact ⟨rfl, _, rfl⟩

theorem field_none (w : World) : (Instr.field 32 (.agg #[.bool false, .int .u64 0, .int .i64 0]) 0).run Try.prog w = .ok (.bool false) w := by kernel_rfl

set_option maxHeartbeats 1000000 in
theorem lawNumbers_long (ad : Option Addr) (n cap : Nat) (w : World) (hn : 1048576 < n) :
    Calls Try.prog 4 #[.slice ad n cap] w fun e w' => e = .returned (.bool true) ∧ Below w.heap.size w w' := by
  go_enter Try.func4, Try.ntmps4
  go_wp2
  go_ret
  exact ⟨rfl, Below.refl _ _⟩
set_option maxHeartbeats 2000000 in
set_option maxRecDepth 100000 in
theorem lawNumbers_short (ad : Option Addr) (cap : Nat) (zs : List Int) (w : World) (h : ArgB w ad zs) (hn : zs.length ≤ 1048576) :
    Calls Try.prog 4 #[.slice ad zs.length cap] w fun e w' => e = .returned (.bool true) ∧ Below w.heap.size w w' := by
  have hD := hide (specDrawPut ad cap zs w h hn)
  clear h
  go_enter Try.func4, Try.ntmps4
  go_wp2_with fail
  refine (unhide hD).mono ?_
  rintro e w1 ⟨n, rfl, hn64, hb1⟩
  clear hD
  have hL := putL_len n 0 (by omega) (by simpa using hn64)
  have hl : (putL n).length ≤ 1048576 := by omega
  have hl10 : ((putL n).length : Int) ≤ 10 := by omega
  have hpos : 0 < (putL n).length := by rw [putL]; split <;> simp
  have hposI : 0 < ((putL n).length : Int) := by omega
  clear hL
  replace hn64 := hide hn64
  go_wp2_with fail
  refine (implPutNumber n w1 (unhide hn64)).mono ?_
  rintro e w2 ⟨g1, cap1, rfl, hown1, hb2⟩
  have hcap : (putL n).length ≤ cap1 := by
    rcases hown1.2 with ⟨e, _⟩ | ⟨g, cap', cur, e, _, _, hc, _⟩
    · simp at e
    · simp at e; omega
  have ho1 := hide (ownB_of_owns rfl hown1)
  clear hown1
  replace hb1 := hb1.trans (hb2.mono hb1.size)
  go_wp2_with fail
  refine (specPutNumber n w2 (unhide hn64)).mono ?_
  rintro e w3 ⟨g2, cap2, rfl, hown2, hb3⟩
  have ho2 := hide (ownB_of_owns rfl hown2)
  replace ho1 := hide ((unhide ho1).below hb3)
  replace hb1 := hb1.trans (hb3.mono hb1.size)
  clear hown2 hb2 hb3
  go_wp2_with fail
  refine (wBytes_eq g1 0 cap1 g2 0 cap2 _ (putL n) w3 rfl hl (unhide ho1).2 (unhide ho2).2).mono ?_
  rintro e w4 ⟨rfl, nq, rfl⟩
  replace ho1 := hide ((unhide ho1).below (below_drewN (Below.refl _ _) nq))
  replace hb1 := below_drewN hb1 nq
  generalize w3.drewN nq = w4 at ho1 hb1 ⊢
  clear ho2
  go_wp2_with fail
  refine (implGetNumber g1 cap1 (putL n) 0 w4 hl hcap (putL_inB n) (unhide ho1)).mono ?_
  rintro e w5 ⟨rfl, hb5⟩
  rw [getNum_put n (unhide hn64)]
  replace ho1 := hide ((unhide ho1).below hb5)
  replace hb1 := hb1.trans (hb5.mono hb1.size)
  clear hb5
  unfold numV
  have hbA := hb1.alloc hb1.size (.cells #[.bool true, .int .u64 n, .int .i64 (putL n).length] 32)
  have hT : ((putL n).take ((putL n).length - 1)).length = (putL n).length - 1 := by rw [List.length_take]; omega
  have hO : OwnB w5 g1 ((putL n).take ((putL n).length - 1)) := ⟨(unhide ho1).1, fun j hj => by
    rw [hT] at hj
    rw [(unhide ho1).2 j (by omega), List.getD_eq_getElem?_getD, List.getD_eq_getElem?_getD, List.getElem?_take, if_pos hj]⟩
  have hI : InB ((putL n).take ((putL n).length - 1)) := fun j => by
    have := putL_inB n j
    rw [List.getD_eq_getElem?_getD, List.getElem?_take]
    split
    · rwa [List.getD_eq_getElem?_getD] at this
    · simp
  have hG := implGetNumber g1 cap1 ((putL n).take ((putL n).length - 1)) 0 _ (by omega) (by omega) hI (hO.below (Below.alloc (Below.refl w5.heap.size w5) (Nat.le_refl _) (.cells #[.bool true, .int .u64 n, .int .i64 (putL n).length] 32)))
  rw [hT, getNum_cut] at hG
  replace hG := hide hG
  replace hbA := hide hbA
  have hfld := field_none
  clear hT hO hI hb1 ho1
  go_wp2_with fail
  refine (unhide hG).mono ?_
  rintro e w6 ⟨rfl, hb6⟩
  have hb7 := (unhide hbA).trans (hb6.mono (unhide hbA).size)
  clear hG hbA hb6
  unfold numV
  have hn0 : 0 ≤ (n : Int) := by omega
  have hn1 : (n : Int) ≤ 18446744073709551615 := by have := unhide hn64; omega
  have hw : -9223372036854775808 ≤ wrap64 (n : Int) ∧ wrap64 (n : Int) ≤ 9223372036854775807 := by unfold wrap64; omega
  have hU := implUnfold (n : Int) hn0 hn1
  have hUb := unfoldF_bd (n : Int) hn0 hn1
  have hF := implFold (unfoldF (n : Int)) hUb.1 hUb.2
  rw [fold_unfold _ hn0] at hF
  have hFb := foldF_bd (wrap64 (n : Int)) hw.1 hw.2
  have hF2 := implFold (wrap64 (n : Int)) hw.1 hw.2
  have hU2 := implUnfold (foldF (wrap64 (n : Int))) hFb.1 hFb.2
  rw [unfold_fold] at hU2
  replace hU := hide hU
  replace hF := hide hF
  replace hU2 := hide hU2
  replace hF2 := hide hF2
  clear hw hUb hFb hn1
  go_wp2_with fail
  refine (unhide hU _).mono ?_
  rintro e w8 ⟨rfl, hw8⟩
  subst hw8
  go_wp2_with fail
  refine (unhide hF _).mono ?_
  rintro e w9 ⟨rfl, hw9⟩
  subst hw9
  go_wp2_with fail
  refine (unhide hF2 _).mono ?_
  rintro e w10 ⟨rfl, hw10⟩
  subst hw10
  go_wp2_with fail
  refine (unhide hU2 _).mono ?_
  rintro e w11 ⟨rfl, hw11⟩
  subst hw11
  go_wp2_with fail
  go_ret
  exact ⟨rfl, hb7⟩
theorem lawNumbers (ad : Option Addr) (cap : Nat) (zs : List Int) (w : World) (h : ArgB w ad zs) :
    Calls Try.prog 4 #[.slice ad zs.length cap] w fun e w' => e = .returned (.bool true) ∧ Below w.heap.size w w' := by
  by_cases hn : 1048576 < zs.length
  · exact lawNumbers_long ad _ cap w hn
  · exact lawNumbers_short ad cap zs w h (by omega)
end Go.Proofs.Ytjndkhkkgdcghaa
