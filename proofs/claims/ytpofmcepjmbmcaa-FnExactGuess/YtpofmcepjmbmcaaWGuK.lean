/- Guesses: the mean of what is around a square: the program. -/
import Derived.Test.YtpofmcepjmbmcaaWGuI
import Derived.Test.YtpofmcepjmbmcaaWConcI2
import Derived.Test.YtpofmcepjmbmcaaWRowJ
namespace Go.Proofs.Ytpofmcepjmbmcaa
open Go.RowKit

theorem sumTo_left (xs ys : List Int) (k : Nat) (hk : k ≤ xs.length) : sumTo (xs ++ ys) k = sumTo xs k := by
  induction k with
  | zero => rfl
  | succ k ih =>
    unfold sumTo
    rw [ih (by omega)]
    simp [List.getD_eq_getElem?_getD, List.getElem?_append_left (show k < xs.length by omega)]
theorem sumTo_right (xs ys : List Int) (k : Nat) : sumTo (xs ++ ys) (xs.length + k) = sumTo xs xs.length + sumTo ys k := by
  induction k with
  | zero => rw [Nat.add_zero, sumTo_left _ _ _ (Nat.le_refl _)]; show _ = _ + 0; omega
  | succ k ih =>
    rw [← Nat.add_assoc]
    show sumTo (xs ++ ys) (xs.length + k) + (xs ++ ys).getD (xs.length + k) 0 = _ + (sumTo ys k + ys.getD k 0)
    rw [ih]
    have : (xs ++ ys).getD (xs.length + k) 0 = ys.getD k 0 := by simp [List.getD_eq_getElem?_getD, List.getElem?_append_right]
    rw [this]
    omega
theorem inR_two {xs ys : List Int} {lo hi : Int} (hx : InR lo hi xs) (hy : InR lo hi ys) : InR lo hi (xs ++ ys) := by
  intro j hj
  by_cases h : j < xs.length
  · have := hx j h
    simpa [List.getD_eq_getElem?_getD, List.getElem?_append_left h] using this
  · have := hy (j - xs.length) (by rw [List.length_append] at hj; omega)
    simpa [List.getD_eq_getElem?_getD, List.getElem?_append_right (show xs.length ≤ j by omega)] using this
set_option maxHeartbeats 8000000 in
set_option maxRecDepth 100000 in
theorem implMeanAround (size c : Int) (v1 v2 : Value) (xs ys : List Int) (w : World) (hl : xs.length ≤ 8) (hl2 : ys.length ≤ 8) (hx : InR 0 255 xs) (hy : InR 0 255 ys) (hv : RdX w v1 xs) (hv2 : RdX w v2 ys) :
    Calls Try.prog 104 #[.agg #[.int .i64 size, v1, v2, .int .i64 c]] w fun e w' => e = .returned (.int .i64 (guMean xs ys)) ∧ Upd 0 0 w w' := by
  have hB := hide ((Below.refl w.heap.size w).alloc (Nat.le_refl _) (.cells #[.int .i64 size, v1, v2, .int .i64 c] 94))
  have hcs := hide (held_new w [.int .i64 size, v1, v2, .int .i64 c] 94)
  obtain ⟨ad, cap, e0, _⟩ := hv.rd
  obtain ⟨ad2, cap2, e1, _⟩ := hv2.rd
  have hC := hide (fun X (hX : Below w.heap.size w X) (hl : xs.length + ys.length ≤ 1099511627776) t => concat2Z v1 v2 xs ys X t hl (hv.below hX).rj (hv2.below hX).rj)
  subst e0
  subst e1
  clear hv hv2
  by_cases h0 : xs.length + ys.length = 0
  · have e : guMean xs ys = 128 := by unfold guMean; rw [if_pos h0]
    rw [e]
    have t0 : ((xs.length : Int) + (ys.length : Int) == 0) = true := by rw [beq_iff_eq]; omega
    clear hC
    replace h0 := hide h0
    replace hcs := unhide hcs
    have c1 := hcs.2 1 _ rfl
    have c2 := hcs.2 2 _ rfl
    have cl := hcs.1
    clear hcs
    go_enter Try.func104, Try.ntmps104
    go_wp2
    go_ret
    exact ⟨rfl, Upd.of_below (unhide hB) 0 0⟩
  have t0 : ((xs.length : Int) + (ys.length : Int) == 0) = false := beq_eq_false_iff_ne.2 (by omega)
  have wN : IntKind.i64.wrap ((xs.length : Int) + (ys.length : Int)) = (xs.length : Int) + (ys.length : Int) := by simp [IntKind.wrap, IntKind.bits, IntKind.signed]; omega
  have hE : Hid (guMean xs ys = (sumTo (xs ++ ys) (xs.length + ys.length) + (((xs.length + ys.length) / 2 : Nat) : Int)) / ((xs.length + ys.length : Nat) : Int)) := hide (by unfold guMean; rw [if_neg h0, sumTo_right])
  replace h0 := hide h0
  generalize guMean xs ys = r at hE ⊢
  go_enter Try.func104, Try.ntmps104
  go_upto_region 1 with fail
  change Hid (Held (w.alloc (.cells #[.int .i64 size, .slice ad xs.length cap, .slice ad2 ys.length cap2, .int .i64 c] 94)) w.heap.size _) at hcs
  generalize w.alloc (.cells #[.int .i64 size, .slice ad xs.length cap, .slice ad2 ys.length cap2, .int .i64 c] 94) = w2 at hB hcs ⊢
  generalize hgf : w.heap.size = gf at hcs ⊢
  replace hgf := hide hgf
  replace hcs := unhide hcs
  have c1 := hcs.2 1 _ rfl
  have c2 := hcs.2 2 _ rfl
  have cl := hcs.1
  clear hcs
  go_wp2_with fail
  refine (unhide hC _ (unhide hB) (by omega) _).mono ?_
  rintro e w3 ⟨u, rfl, how, hu3⟩
  obtain ⟨ad3, cp, rfl, hA⟩ := how.rd
  have hU := hide (Upd.of_below (below_upd (unhide hB) hu3 (Nat.le_refl _) (.inr (Nat.zero_le _))) 0 0)
  clear c1 c2 cl hgf
  have hzl : (xs ++ ys).length = xs.length + ys.length := List.length_append
  have hS : Hid (∀ k, k < xs.length + ys.length → 0 ≤ (xs ++ ys).getD k 0 ∧ (xs ++ ys).getD k 0 ≤ 255) := hide (fun k hk => inR_two hx hy k (by omega))
  have hT : Hid (∀ k, k ≤ xs.length + ys.length → 0 ≤ sumTo (xs ++ ys) k ∧ sumTo (xs ++ ys) k ≤ 255 * k) := hide (fun k hk => sumTo_bd (inR_two hx hy) k (by omega))
  rw [hzl]
  have eN : ((xs.length + ys.length : Nat) : Int) = (xs.length : Int) + (ys.length : Int) := by omega
  clear how hu3 hC hx hy hB
  generalize xs ++ ys = zs at hA hS hT hzl hE ⊢
  have hN16 : xs.length + ys.length ≤ 16 := by omega
  have hH0 := hide (show ((xs.length : Int) + (ys.length : Int)) / 2 = (((xs.length + ys.length) / 2 : Nat) : Int) by omega)
  have hH1 : 0 ≤ ((xs.length : Int) + (ys.length : Int)) / 2 ∧ ((xs.length : Int) + (ys.length : Int)) / 2 ≤ 8 := by omega
  generalize hN : xs.length + ys.length = N at hA hS hT hzl hE eN hN16 hH0 ⊢
  replace hzl := hide hzl
  replace eN := hide eN
  replace hN := hide hN
  generalize ((xs.length : Int) + (ys.length : Int)) / 2 = H at hH0 hH1 ⊢
  clear t0
  replace wN := hide wN
  obtain ⟨H0, H8⟩ := hH1
  go_wp2_with fail
  go_loopw [4, 25] (fun s i wr => ∃ (k : Nat) (S : Int), k ≤ N ∧ s = .int .i64 S ∧ i = .int .i64 (k : Int) ∧ Hid (S = H + sumTo zs k) ∧ ∃ q, wr = w3.drewN q) (fun _ i _ => N - (intOf i).toNat)
  case atStart => exact ⟨0, H, by omega, rfl, rfl, hide (by simp [sumTo]), 0, rfl⟩
  case round =>
    obtain ⟨k, S, hk, rfl, rfl, hs, q, rfl⟩ := hrel
    generalize hwx : w3.drewN q = wx
    have hb := unhide hT k hk
    have hsb : 0 ≤ S ∧ S ≤ 8 + 255 * 16 := by have := unhide hs; omega
    obtain ⟨b0, b1⟩ := hsb
    clear hb
    by_cases hlt : k < N
    · obtain ⟨bb, off, rfl, hbl, hcl⟩ := hA (ne_of_lt_length (k := k) (by have := unhide hzl; omega))
      have hck : wx.cell? ⟨bb, off + k, none⟩ = some (.int .i64 (zs.getD k 0)) := by rw [← hwx]; exact hcl k (by have := unhide hzl; omega)
      have hnx : Hid (S + zs.getD k 0 = H + sumTo zs (k + 1)) := hide (by rw [unhide hs]; show _ = H + (sumTo zs k + zs.getD k 0); omega)
      have hr := unhide hS k hlt
      generalize zs.getD k 0 = x at hck hnx hr
      obtain ⟨x0, x1⟩ := hr
      have w4 : IntKind.i64.wrap (S + x) = S + x := by simp [IntKind.wrap, IntKind.bits, IntKind.signed]; omega
      replace hwx := hide hwx
      clear hcl hbl hs hA
      go_wp2_with fail
      go_roundw
      case rel => exact ⟨k + 1, _, by omega, rfl, by go_num, hnx, q, by rw [← unhide hwx]⟩
      case measure => simp [intOf]; omega
    · have hkl : k = N := by omega
      subst hkl
      have hr : r = S / ((xs.length : Int) + (ys.length : Int)) := by rw [unhide hE, unhide hs, unhide hH0, unhide eN, Int.add_comm]
      have hu := hide (show Upd 0 0 w wx by rw [← hwx]; exact (unhide hU).drewN q)
      have hD1 : 0 < (xs.length : Int) + (ys.length : Int) := by have := unhide h0; omega
      have hD2 : (xs.length : Int) + (ys.length : Int) ≤ 16 := by omega
      replace hr := hide hr
      clear hwx hA hs
      generalize (xs.length : Int) + (ys.length : Int) = D at hr hD1 hD2 ⊢
      have hq0 : Int.tdiv S D = S / D := Int.tdiv_eq_ediv_of_nonneg b0
      have hq1 : 0 ≤ S / D := Int.ediv_nonneg b0 (by omega)
      have hq2 : S / D ≤ S := Int.ediv_le_self _ b0
      go_wp2
      go_ret
      exact ⟨by rw [unhide hr]; rfl, unhide hu⟩
end Go.Proofs.Ytpofmcepjmbmcaa
