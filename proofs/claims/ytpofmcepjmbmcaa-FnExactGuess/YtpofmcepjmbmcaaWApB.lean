/- How far two lists are apart: the program's walk. -/
import Derived.Test.YtpofmcepjmbmcaaPlainAp
import Derived.Test.YtpofmcepjmbmcaaWFiA
import Derived.Test.YtpofmcepjmbmcaaWFiD
import Derived.Test.YtpofmcepjmbmcaaWRowB
import Derived.Test.YtpofmcepjmbmcaaWInts
import Derived.StillTailTactics
namespace Go.Proofs.Ytpofmcepjmbmcaa
open Go.RowKit

theorem smpB_8 (zs : List Int) : smpB zs ((8 : Nat) : Int) = inRB 0 255 zs := by
  rw [Bool.eq_iff_iff, smpB_iff, inRB_iff0, inR_smp]
  rfl
set_option maxHeartbeats 4000000 in
set_option maxRecDepth 100000 in
theorem implApartL (ad ad' : Option Addr) (cap cap' n : Nat) (xs ys : List Int) (w : World) (hn : xs.length = n) (hn' : ys.length = n) (hn2 : n ≤ 64) (hx : InR 0 255 xs) (hy : InR 0 255 ys) (hA : ArgI w ad xs) (hA' : ArgI w ad' ys) :
    Calls Try.prog 68 #[.slice ad n cap, .slice ad' n cap'] w fun e w' => e = .returned (.int .i64 (apartN xs ys n)) ∧ Upd 0 0 w w' := by
  have hS : Hid (∀ k, k < n → (0 ≤ xs.getD k 0 ∧ xs.getD k 0 ≤ 255) ∧ (0 ≤ ys.getD k 0 ∧ ys.getD k 0 ≤ 255)) := hide (fun k hk => ⟨hx k (by omega), hy k (by omega)⟩)
  have hB : Hid (∀ k, k ≤ n → 0 ≤ apartN xs ys k ∧ apartN xs ys k ≤ 255 * k) := hide (fun k hk => apartN_bd hx hy k (by omega) (by omega))
  have h0 : Hid ((0 : Int) = apartN xs ys 0) := hide rfl
  replace hA := hide hA
  replace hA' := hide hA'
  replace hn := hide hn
  replace hn' := hide hn'
  clear hx hy
  go_enter Try.func68, Try.ntmps68
  go_wp2_with fail
  go_loopw [5, 9] (fun s i wr => ∃ (k : Nat) (S : Int), k ≤ n ∧ s = .int .i64 S ∧ i = .int .i64 (k : Int) ∧ Hid (S = apartN xs ys k) ∧ ∃ q, wr = w.drewN q) (fun _ i _ => n - (intOf i).toNat)
  case atStart => exact ⟨0, 0, by omega, rfl, rfl, h0, 0, rfl⟩
  case round =>
    clear h0
    obtain ⟨k, S, hk, rfl, rfl, hs, q, rfl⟩ := hrel
    generalize hwx : w.drewN q = wx
    have hb := unhide hB k hk
    rw [← unhide hs] at hb
    obtain ⟨b0, b1⟩ := hb
    by_cases hlt : k < n
    · obtain ⟨bb, off, rfl, hbl, hcl⟩ := (unhide hA) (ne_of_lt_length (k := k) (by have := unhide hn; omega))
      obtain ⟨bb', off', rfl, hbl', hcl'⟩ := (unhide hA') (ne_of_lt_length (k := k) (by have := unhide hn'; omega))
      have hck : wx.cell? ⟨bb, off + k, none⟩ = some (.int .i64 (xs.getD k 0)) := by rw [← hwx]; exact hcl k (by have := unhide hn; omega)
      have hck' : wx.cell? ⟨bb', off' + k, none⟩ = some (.int .i64 (ys.getD k 0)) := by rw [← hwx]; exact hcl' k (by have := unhide hn'; omega)
      have hnx : Hid (S + absI (xs.getD k 0 - ys.getD k 0) = apartN xs ys (k + 1)) := hide (by rw [unhide hs]; rfl)
      have hr := unhide hS k hlt
      generalize xs.getD k 0 = x at hck hnx hr
      generalize ys.getD k 0 = y at hck' hnx hr
      obtain ⟨⟨x0, x1⟩, y0, y1⟩ := hr
      have hC := hide (fun W => implDistance x y W (by omega) (by omega))
      have hab := absI_bd (x - y) 255 (by omega)
      generalize absI (x - y) = z at hnx hC hab
      obtain ⟨z0, z1⟩ := hab
      have w4 : IntKind.i64.wrap (S + z) = S + z := by simp [IntKind.wrap, IntKind.bits, IntKind.signed]; omega
      have hk0 : (0 : Int) ≤ (k : Int) := by omega
      have hk1 : (k : Int) < (n : Int) := by omega
      replace hwx := hide hwx
      clear hcl hcl' hbl hbl' hs
      go_wp2_with fail
      refine wp_region_still_lit (by kernel_rfl) (by kernel_rfl) ?_
      iterate 9 still_step
      still_call (unhide hC _)
      iterate 2 still_step
      refine wpStill_nil ?_
      go_wp2_with fail
      go_roundw
      case rel => exact ⟨k + 1, _, by omega, rfl, by go_num, hnx, q + 1, by rw [← unhide hwx]; rfl⟩
      case measure => simp [intOf]; omega
    · have hkl : k = n := by omega
      subst hkl
      have hs2 := unhide hs
      subst hs2
      have hu := hide (show Upd 0 0 w wx by rw [← hwx]; exact (Upd.refl 0 0 w).drewN q)
      clear hs hwx
      go_wp2
      go_ret
      exact ⟨rfl, unhide hu⟩
set_option maxHeartbeats 4000000 in
set_option maxRecDepth 100000 in
theorem implApart (v0 : Value) (xs : List Int) (v1 : Value) (ys : List Int) (w : World) (hn : xs.length ≤ 1048576) (_hR : InI xs) (hv : RdI w v0 xs) (hn' : ys.length ≤ 1048576) (_hR' : InI ys) (hv' : RdI w v1 ys) :
    Calls Try.prog 26 #[v0, v1] w fun e w' => e = .returned (.int .i64 (apF xs ys)) ∧ Upd 0 0 w w' := by
  obtain ⟨ad, cap, rfl, hA⟩ := hv
  obtain ⟨ad', cap', rfl, hA'⟩ := hv'
  have hI := hide (implGoodSamples (.slice ad xs.length cap) xs 8 w (by omega) hn ⟨_, _, rfl, hA⟩)
  have hI' := hide (implGoodSamples (.slice ad' ys.length cap') ys 8 w (by omega) hn' ⟨_, _, rfl, hA'⟩)
  rw [smpB_8] at hI hI'
  by_cases h1 : xs.length = ys.length
  case neg =>
    rw [apF_no (by unfold apB; simp [h1])]
    have t : ((xs.length : Int) != (ys.length : Int)) = true := by simp; omega
    clear hI hI'
    go_enter Try.func26, Try.ntmps26
    go_wp2
    go_ret
    exact ⟨rfl, Upd.refl 0 0 _⟩
  have t1 : ((xs.length : Int) != (ys.length : Int)) = false := by simp; omega
  by_cases h2 : xs.length ≤ 64
  case neg =>
    rw [apF_no (by unfold apB; simp [h2])]
    replace h1 := hide h1
    clear hI hI'
    go_enter Try.func26, Try.ntmps26
    go_wp2
    go_ret
    exact ⟨rfl, Upd.refl 0 0 _⟩
  by_cases h3 : inRB 0 255 xs = true
  case neg =>
    replace h3 := Bool.eq_false_iff.2 h3
    rw [apF_no (by unfold apB; simp [h3])]
    rw [h3] at hI
    replace h1 := hide h1
    clear hI'
    go_enter Try.func26, Try.ntmps26
    go_wp2_with (go_at_call 67; refine (unhide hI).mono ?_; rintro e wz ⟨rfl, hwz⟩; subst wz)
    go_ret
    exact ⟨rfl, Upd.refl 0 0 _⟩
  rw [h3] at hI
  by_cases h4 : inRB 0 255 ys = true
  case neg =>
    replace h4 := Bool.eq_false_iff.2 h4
    rw [apF_no (by unfold apB; simp [h4])]
    rw [h4] at hI'
    replace h1 := hide h1
    go_enter Try.func26, Try.ntmps26
    go_wp2_with fail
    refine (unhide hI).mono ?_
    rintro e wz ⟨rfl, hwz⟩; subst wz
    clear hI
    go_wp2_with fail
    refine (unhide hI').mono ?_
    rintro e wz ⟨rfl, hwz⟩; subst wz
    go_wp2
    go_ret
    exact ⟨rfl, Upd.refl 0 0 _⟩
  rw [h4] at hI'
  have hE := hide (apF_yes (apB_iff.2 ⟨h1, h2, inRB_iff0.1 h3, inRB_iff0.1 h4⟩))
  have hP := hide (implApartL ad ad' cap cap' xs.length xs ys w rfl h1.symm h2 (inRB_iff0.1 h3) (inRB_iff0.1 h4) hA hA')
  rw [unhide hE]
  generalize apartN xs ys xs.length = r at hP ⊢
  generalize xs.length = n at *
  subst h1
  clear h3 h4 hE hA hA' hn hn'
  go_enter Try.func26, Try.ntmps26
  go_wp2_with fail
  refine (unhide hI).mono ?_
  rintro e wz ⟨rfl, hwz⟩; subst wz
  clear hI
  go_wp2_with fail
  refine (unhide hI').mono ?_
  rintro e wz ⟨rfl, hwz⟩; subst wz
  clear hI'
  go_wp2_with fail
  refine (unhide hP).mono ?_
  rintro e wz ⟨rfl, hwz⟩
  replace hwz := hide hwz
  clear hP
  go_wp2
  go_ret
  exact ⟨rfl, unhide hwz⟩
end Go.Proofs.Ytpofmcepjmbmcaa
