/- Odds: how they learn, what a choice costs: the small functions of both sides. -/
import Derived.Test.YtocoeodoihdkgaaPlainOd
import Derived.Test.YtocoeodoihdkgaaWMkA
import Derived.Test.YtocoeodoihdkgaaWGrd
namespace Go.Proofs.Ytocoeodoihdkgaa
open Go.RowKit

set_option maxHeartbeats 4000000 in
theorem specL12Learn (o b : Int) (h : 31 ≤ o ∧ o ≤ 4065) (w : World) :
    Calls Try.prog 93 #[.int .i64 o, .int .i64 b] w fun e w' => e = .returned (.int .i64 (learnF o b)) ∧ w' = w := by
  obtain ⟨h0, h1⟩ := h
  unfold learnF
  by_cases hb : b = 0
  · rw [if_pos hb]
    have t : (b == 0) = true := by simpa using hb
    subst hb
    go_enter Try.func93, Try.ntmps93
    go_wp2
    go_ret
    exact ⟨rfl, rfl⟩
  · rw [if_neg hb]
    have t : (b == 0) = false := by simpa using hb
    clear hb
    go_enter Try.func93, Try.ntmps93
    go_wp2
    go_ret
    exact ⟨rfl, rfl⟩
theorem logF_of (v : Int) (b : Nat) (h0 : 1 ≤ v) (h1 : v ≤ 256) (hb0 : 2 ^ b ≤ v.toNat) (hb1 : v.toNat < 2 ^ (b + 1)) : logF v = 256 * (8 - (b : Int)) - 256 * (v - 2 ^ b) / 2 ^ b := by
  unfold logF
  rw [show max v 1 = v by omega]
  simp only [bitLen_between _ b hb0 hb1 (by omega), Nat.add_sub_cancel]
theorem shr_8 (m b : Nat) (h : 2 ^ b ≤ m) (hm : m ≤ 256) : b ≤ 8 := by
  rcases Nat.lt_or_ge 8 b with h1 | h1
  · have : 2 ^ 9 ≤ 2 ^ b := Nat.pow_le_pow_right (by omega) (by omega)
    omega
  · exact h1
set_option maxRecDepth 100000 in
set_option maxHeartbeats 8000000 in
theorem specL12Log (v : Int) (h0 : 1 ≤ v) (h1 : v ≤ 256) (w : World) :
    Calls Try.prog 92 #[.int .i64 v] w fun e w' => e = .returned (.int .i64 (logF v)) ∧ w' = w := by
  obtain ⟨m, rfl⟩ := Int.eq_ofNat_of_zero_le (show 0 ≤ v by omega)
  have hL := hide (fun b => logF_of (m : Int) b h0 h1)
  go_enter Try.func92, Try.ntmps92
  go_wp2_with fail
  go_loopw [3] (fun r wr => ∃ (b : Nat), r = .int .i64 (b : Int) ∧ b ≤ 8 ∧ Hid (2 ^ b ≤ m) ∧ w = wr) (fun r _ => 64 - (intOf r).toNat)
  case atStart => exact ⟨0, rfl, by omega, hide (show 2 ^ 0 ≤ m by rw [Nat.pow_zero]; omega), rfl⟩
  case round =>
    obtain ⟨b, rfl, hb, hbm, rfl⟩ := hrel
    have hb0 : (0 : Int) ≤ (b : Int) + 1 := by omega
    have hb1 : (b : Int) + 1 ≤ 64 := by omega
    by_cases hq : 2 ^ (b + 1) ≤ m
    · have hd : (0 : Int) < (m : Int) / 2 ^ (b + 1) := shr_pos m b hq
      have hgt : decide ((0 : Int) < (m : Int) / 2 ^ (b + 1)) = true := decide_eq_true hd
      have hb8 := shr_8 m (b + 1) hq (by omega)
      replace hd := hide hd
      replace hq := hide hq
      go_wp2_with fail
      go_roundw
      case rel => exact ⟨b + 1, by simp, by omega, hq, trivial⟩
      case measure => simp [intOf]; omega
    · have hd : ¬ ((0 : Int) < (m : Int) / 2 ^ (b + 1)) := shr_zero m b hq
      have hgt : decide ((0 : Int) < (m : Int) / 2 ^ (b + 1)) = false := decide_eq_false hd
      have hE := hide (unhide hL b (by simpa using unhide hbm) (by simp; omega))
      have hm0 := unhide hbm
      clear hL hbm hd
      obtain ⟨P, hP⟩ : ∃ P : Nat, 2 ^ b = P := ⟨_, rfl⟩
      have hPi : (2 : Int) ^ b = (P : Int) := by rw [← hP]; simp
      rw [hP] at hm0
      have hP0 : 0 < P := by rw [← hP]; exact Nat.two_pow_pos b
      have hb64 : (b : Int) ≤ 64 := by omega
      have hb00 : (0 : Int) ≤ (b : Int) := by omega
      rw [hPi] at hE
      clear hq hP
      have hlb := hide (logF_all ⟨m, by omega⟩)
      go_wp2
      go_ret
      refine ⟨ret_int ?_, rfl⟩
      have h2 : 0 ≤ logF (m : Int) ∧ logF (m : Int) ≤ 2048 := unhide hlb
      rw [← unhide hE]
      unfold wrap64
      omega
/-- With the number's bits known. -/
theorem bits_of (m : Nat) (h0 : 1 ≤ m) (h1 : m ≤ 256) : ∃ b, b ≤ 8 ∧ 2 ^ b ≤ m ∧ m < 2 ^ (b + 1) ∧ Lib.bitLen m = b + 1 := by
  obtain ⟨b, h2, h3⟩ := exists_between m (by omega)
  exact ⟨b, shr_8 m b h2 h1, h2, h3, bitLen_between m b h2 h3 (by omega)⟩
set_option maxRecDepth 100000 in
set_option maxHeartbeats 8000000 in
theorem implLikely (v : Int) (h0 : 1 ≤ v) (h1 : v ≤ 256) (w : World) :
    Calls Try.prog 107 #[.int .i64 v] w fun e w' => e = .returned (.int .i64 (logF v)) ∧ w' = w := by
  obtain ⟨m, rfl⟩ := Int.eq_ofNat_of_zero_le (show 0 ≤ v by omega)
  obtain ⟨b, hb, hm0, hm1, hbl⟩ := bits_of m (by omega) (by omega)
  have hE := hide (logF_of (m : Int) b h0 h1 (by simpa using hm0) (by simpa using hm1))
  have hlb := hide (logF_all ⟨m, by omega⟩)
  have hS := hide (fun X => implSizeOf (m : Int) X (by omega) (by omega))
  rw [show (Lib.bitLen (m : Int).toNat : Int) = (b : Int) + 1 by rw [Int.toNat_natCast, hbl]; rfl] at hS
  obtain ⟨P, hP⟩ : ∃ P : Nat, 2 ^ b = P := ⟨_, rfl⟩
  have hPi : (2 : Int) ^ b = (P : Int) := by rw [← hP]; simp
  rw [hP] at hm0
  have hP0 : 0 < P := by rw [← hP]; exact Nat.two_pow_pos b
  have hb64 : (b : Int) ≤ 64 := by omega
  have hb00 : (0 : Int) ≤ (b : Int) := by omega
  rw [hPi] at hE
  clear hP hm1 hbl
  go_enter Try.func107, Try.ntmps107
  go_wp2_with fail
  rw [show max (m : Int) 1 = (m : Int) by omega]
  refine (unhide hS _).mono ?_
  rintro e w1 ⟨rfl, rfl⟩
  go_wp2
  go_ret
  refine ⟨ret_int ?_, rfl⟩
  have h2 : 0 ≤ logF (m : Int) ∧ logF (m : Int) ≤ 2048 := unhide hlb
  rw [← unhide hE]
  unfold wrap64
  omega
end Go.Proofs.Ytocoeodoihdkgaa
