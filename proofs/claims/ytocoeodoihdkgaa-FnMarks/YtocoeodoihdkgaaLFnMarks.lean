/- The law on the marks of drawn numbers, walked. -/
import Derived.Test.YtocoeodoihdkgaaWMkD
import Derived.Test.YtocoeodoihdkgaaWMkA
import Derived.Test.YtocoeodoihdkgaaWMkB
namespace Go.Proofs.Ytocoeodoihdkgaa
open Go.RowKit

theorem marksF_ok {n f : Int} (h : marksF n f ≠ []) : MkOk n f := by
  by_cases hb : MkOk n f
  · exact hb
  · exfalso; apply h; unfold marksF; rw [if_neg hb]
theorem marksTo_at (n f : Int) (b k j : Nat) (h : j < k) : (marksTo n f b k).getD j (0, 0) = mkAt n f b j := by
  unfold marksTo; rw [List.getD_eq_getElem?_getD, List.getElem?_map, List.getElem?_range h]; rfl
/-- A bit more of a number. -/
theorem bit_more (m : Int) (i : Nat) : 2 * (m / 2 ^ (i + 1)) + m / 2 ^ i % 2 = m / 2 ^ i := by
  have hp : (2 : Int) ^ (i + 1) = 2 ^ i * 2 := Int.pow_succ _ _
  rw [hp, ← Int.ediv_ediv_of_nonneg (Int.pow_nonneg (by omega))]
  omega
theorem top_one (n : Int) (b : Nat) (h : 0 ≤ n) (h0 : 2 ^ b ≤ (n + 1).toNat) (h1 : (n + 1).toNat < 2 ^ (b + 1)) : (n + 1) / 2 ^ b = 1 := by
  obtain ⟨m, hm⟩ : ∃ m : Nat, n + 1 = (m : Int) := ⟨(n + 1).toNat, by omega⟩
  have hp : 0 < 2 ^ b := Nat.two_pow_pos b
  rw [hm] at h0 h1 ⊢
  simp only [Int.toNat_natCast] at h0 h1
  rw [show ((m : Int) / 2 ^ b) = ((m / 2 ^ b : Nat) : Int) by simp]
  rw [Nat.pow_succ] at h1
  rw [show m / 2 ^ b = 1 from Nat.div_eq_of_lt_le (by omega) (by omega)]
  rfl
set_option maxHeartbeats 16000000 in
set_option maxRecDepth 100000 in
theorem lawFnMarksB (ad : Option Addr) (cap : Nat) (zs : List Int) (w : World) (hA : ArgB w ad zs) :
    Calls Try.prog 5 #[.slice ad zs.length cap] w fun e w' => e = .returned (.bool true) ∧ Below w.heap.size w w' := by
  by_cases hl : 1048576 < zs.length
  · clear hA
    go_enter Try.func5, Try.ntmps5
    go_wp2
    go_ret
    exact ⟨rfl, Below.refl _ _⟩
  have hl' : zs.length ≤ 1048576 := by omega
  replace hA := hide hA
  go_enter Try.func5, Try.ntmps5
  go_wp2_with fail
  refine (specDrawMarks ad cap zs _ (unhide hA) hl').mono ?_
  rintro e w1 ⟨n, f, rfl, ⟨n0, n1⟩, ⟨f0, f1⟩, hB⟩
  replace hB := hide hB
  clear hA hl hl'
  go_wp2_with fail
  refine (implMarks n f w1 (by omega) (by omega) (by omega) (by omega)).mono ?_
  rintro e w2 ⟨u, rfl, hO, hu⟩
  replace hB := hide (below_upd (unhide hB) hu (Nat.le_refl _) (.inr (Nat.le_refl _)))
  obtain ⟨adr, capr, rfl, hr⟩ := OwnCh.rd hO
  replace hr := hide hr
  clear hO hu
  go_wp2_with fail
  refine (specMarks n f w2 (by omega) (by omega) (by omega) (by omega)).mono ?_
  rintro e w3 ⟨u, rfl, hO, hu⟩
  replace hB := hide (below_upd (unhide hB) hu (Nat.le_refl _) (.inr (Nat.le_refl _)))
  replace hr := hide ((unhide hr).below hu.none)
  obtain ⟨adr', capr', rfl, _⟩ := OwnCh.rd hO
  clear hO hu
  by_cases h0 : marksF n f = []
  · rw [h0]
    clear hr h0
    go_wp2
    go_ret
    exact ⟨rfl, unhide hB⟩
  have hk := marksF_ok h0
  have hE : marksF n f = marksL n f := by unfold marksF; rw [if_pos hk]
  obtain ⟨bb, off, rfl, hbl, hcl⟩ := (unhide hr) h0
  obtain ⟨a0, a1, a2, a3⟩ := hk
  have hbd := markBits_bd n ⟨a0, a1⟩
  rw [hE] at hcl ⊢
  unfold marksL at hcl ⊢
  generalize markBits n = b at hbd hcl ⊢
  have hC := hide (fun (j : Nat) (hj : j < 2 * b + 1) => by
    have h := hcl j (by simpa using hj)
    rw [show (marksTo n f b (2 * b + 1)).getD j Ch0 = mkAt n f b j from marksTo_at n f b _ j hj] at h
    exact h)
  obtain ⟨hb0, hb1, hb16⟩ := hbd
  have hone := hide (top_one n b a0 hb0 hb1)
  rw [marksTo_length]
  clear hr h0 hE hcl hb0 hb1
  have t0 : ((2 * (b : Int) + 1) == 0) = false := by simp; omega
  go_wp2_with fail
  go_loopw [6] (fun r wr => ∃ (j : Nat), r = .int .i64 (j : Int) ∧ j ≤ b ∧ w3 = wr) (fun r _ => b - (intOf r).toNat)
  case atStart => exact ⟨0, rfl, by omega, rfl⟩
  case round =>
    obtain ⟨j, rfl, hj, rfl⟩ := hrel
    by_cases hjb : j < b
    · have hc := unhide hC j (by omega)
      rw [mkAt_lt n f b j hjb] at hc
      obtain ⟨c0, c1⟩ := hc
      replace c0 : w3.cell? ⟨bb, off + j * 2, none⟩ = some (.int .i64 (f + (j : Int))) := c0
      replace c1 : w3.cell? ⟨bb, off + j * 2 + 1, none⟩ = some (.int .i64 1) := c1
      have t1 : decide ((j : Int) < ((2 * b + 1 : Nat) : Int)) = true := decide_eq_true (by omega)
      go_wp2_with fail
      go_roundw
      case rel => exact ⟨j + 1, rfl, by omega, trivial⟩
      case measure => simp [intOf]; omega
    · obtain rfl : j = b := by omega
      have hc := unhide hC j (by omega)
      rw [mkAt_eq n f j] at hc
      obtain ⟨c0, c1⟩ := hc
      replace c0 : w3.cell? ⟨bb, off + j * 2, none⟩ = some (.int .i64 (f + (j : Int))) := c0
      replace c1 : w3.cell? ⟨bb, off + j * 2 + 1, none⟩ = some (.int .i64 0) := c1
      have t1 : decide ((j : Int) < ((2 * j + 1 : Nat) : Int)) = true := decide_eq_true (by omega)
      have hB3 := hide (show Below w3.heap.size w3 w3 from Below.refl _ _)
      go_wp2_with fail
      clear c0 c1 t1 hjb hj
      go_loopw [7, 8, 9] (fun m i _ wr => ∃ (k : Nat) (y : Int), m = .int .i64 y ∧ i = .int .i64 (k : Int) ∧ k ≤ j ∧ Hid ((n + 1) / 2 ^ (j - k) = y) ∧ (0 ≤ y ∧ y ≤ 70000) ∧ Hid (Below w3.heap.size w3 wr)) (fun _ i _ _ => j - (intOf i).toNat)
      case atStart => exact ⟨0, 1, rfl, rfl, by omega, by rw [Nat.sub_zero]; exact hone, by omega, hB3⟩
      case round =>
        clear hB3
        obtain ⟨k, y, rfl, rfl, hk, hy, ⟨y0, y1⟩, hb3⟩ := hrel
        by_cases hkj : k < j
        · obtain ⟨i, hij⟩ : ∃ i : Nat, j = i + 1 + k := ⟨j - 1 - k, by omega⟩
          have hc := unhide hC (j + 1 + k) (by omega)
          rw [show j + 1 + k = 2 * j - i by omega, mkAt_gt n f j i (by omega), show 2 * j - i = j + 1 + k by omega] at hc
          obtain ⟨c0, c1⟩ := hc
          have hm := bit_more (n + 1) i
          rw [show j - k = i + 1 by omega] at hy
          rw [unhide hy] at hm
          obtain ⟨z, hz⟩ : ∃ z, (n + 1) / 2 ^ i % 2 = z := ⟨_, rfl⟩
          have hz1 : 0 ≤ z ∧ z ≤ 1 := by
            rw [← hz]; generalize (n + 1) / 2 ^ i = q; omega
          obtain ⟨z0, z1⟩ := hz1
          have hm2 := hide (show (n + 1) / 2 ^ (j - (k + 1)) = 2 * y + z by rw [show j - (k + 1) = i by omega, ← hm, hz])
          have hm3 : 2 * y + z ≤ 70000 := by
            have : (n + 1) / 2 ^ i ≤ n + 1 := Int.ediv_le_self _ (by omega)
            omega
          simp only [hz] at c0 c1
          have c0 : wr.cell? ⟨bb, off + (j + 1 + k) * 2, none⟩ = some (.int .i64 (f + 20 + (i : Int))) := ((unhide hb3).cell (by simpa using hbl)).trans c0
          have c1 : wr.cell? ⟨bb, off + (j + 1 + k) * 2 + 1, none⟩ = some (.int .i64 z) := ((unhide hb3).cell (by simpa using hbl)).trans c1
          have ei : (j : Int) - 1 - (k : Int) = (i : Int) := by omega
          clear hm hz hy
          replace hij := hide hij
          go_wp2_with fail
          go_roundw
          case rel => exact ⟨k + 1, _, rfl, by go_num, by have := unhide hij; omega, hm2, by omega, hide ((unhide hb3).alloc (unhide hb3).size _)⟩
          case measure => have := unhide hij; simp [intOf]; omega
        · obtain rfl : k = j := by omega
          rw [Nat.sub_self, Int.pow_zero, Int.ediv_one] at hy
          have hyn : y - 1 = n := by have := unhide hy; omega
          have hyb : (y - 1 == n) = true := by simpa using hyn
          have hB4 := hide ((unhide hB).trans ((unhide hb3).mono (unhide hB).size))
          clear hy hkj
          replace hyn := hide hyn
          go_wp2
          go_ret
          exact ⟨rfl, unhide hB4⟩
theorem lawFnMarks (ad : Option Addr) (cap : Nat) (zs : List Int) (w : World) (hA : ArgY w ad zs) (hR : InB zs) :
    Calls Try.prog 5 #[.slice ad zs.length cap] w fun e w' => e = .returned (.bool true) ∧ Below w.heap.size w w' :=
  lawFnMarksB ad cap zs w ⟨hR, fun hne => by
    obtain ⟨b, off, e, hl, hc⟩ := hA hne
    exact ⟨b, off, e, hl, hc⟩⟩
end Go.Proofs.Ytocoeodoihdkgaa
