/- The walks of the sink of bits: the specification's numbers. -/
import Derived.Test.YtnoojbppfbmbgaaWSink
namespace Go.Proofs.Ytnoojbppfbmbgaa
open Go.RowKit

theorem specBit (h : Bool) (zs : List Nat) (L b c : Nat) (w : World) (hi : Inv h zs L) (hb : b ≤ 1) (hL : L ≤ 2097152) (hs : Sink w c (.bool h) zs L) :
    Calls Try.prog 92 #[.pointer (some ⟨c, 0, none⟩), .int .u64 (b : Int)] w fun e w' => e = .returned (.tuple #[]) ∧ Sink w' c (.bool h) (addBit h zs L b) ((L + 1 : Nat) : Int) ∧ Below c w w' := by
  rcases (show b = 0 ∨ b = 1 by omega) with e | e <;> subst e <;> cases h
  · exact specBitF0 zs L c w hi hL hs
  · exact specBitT0 zs L c w hi hL hs
  · exact specBitF1 zs L c w hi hL hs
  · exact specBitT1 zs L c w hi hL hs
theorem bit_of_u64 (v k : Nat) (hv : v < 18446744073709551616) : bits .and .u64 ((v : Int) / 2 ^ k) 1 = ((v / 2 ^ k % 2 : Nat) : Int) := by
  have h := Nat.div_le_self v (2 ^ k)
  rw [show ((v : Int) / 2 ^ k) = ((v / 2 ^ k : Nat) : Int) by simp]
  generalize v / 2 ^ k = y at h ⊢
  go_bits2

set_option maxHeartbeats 2000000 in
set_option maxRecDepth 100000 in
theorem specPutF (zs : List Nat) (L v n c : Nat) (w : World) (hi : Inv false zs L) (hv : v < 18446744073709551616) (hn : n ≤ 64) (hL : L + n ≤ 2097152) (hs : Sink w c (.bool false) zs L) :
    Calls Try.prog 61 #[.pointer (some ⟨c, 0, none⟩), .int .i64 n, .int .u64 v] w fun e w' => e = .returned (.tuple #[]) ∧ Sink w' c (.bool false) (ft false v n zs L n) ((L + n : Nat) : Int) ∧ Below c w w' := by
  replace hi := hide hi
  replace hs := hide hs
  go_enter Try.func61, Try.ntmps61
  go_wp2
  go_loopw [6] (fun i wr => ∃ k : Nat, k ≤ n ∧ i = .int .i64 k ∧ Sink wr c (.bool false) (ft false v n zs L k) ((L + k : Nat) : Int) ∧ Below c w wr) (fun i _ => n - (intOf i).toNat)
  case atStart => exact ⟨0, Nat.zero_le _, rfl, unhide hs, Below.refl _ _⟩
  case round =>
    obtain ⟨k, hk, rfl, hS, hbel⟩ := hrel
    by_cases hlt : k < n
    · have hB := hide (specBit false _ (L + k) (fbit false v n k) c wr (ft_inv (v := v) (n := n) (unhide hi) k) (fbit_le _ _ _ _) (by omega) hS)
      obtain ⟨vv, hSS, hown⟩ := hS
      obtain ⟨s0, s1, s2, s3, s4, s5⟩ := hSS
      have hbit := hide (bit_of_u64 v k hv)
      clear hown s2 s3 s4 s5
      go_wp2_with fail
      rw [unhide hbit]
      refine (unhide hB).mono ?_
      rintro e w2 ⟨rfl, hS2, hb2⟩
      replace hS2 := hide hS2
      replace hb2 := hide (hbel.trans hb2)
      clear hB hbel s0 s1 hbit
      go_wp2
      go_roundw
      case rel => exact ⟨k + 1, by omega, by go_num, unhide hS2, unhide hb2⟩
      case measure => simp [intOf]; omega
    · have hkn : k = n := by omega
      subst hkn
      replace hS := hide hS
      go_wp2
      go_end0
      exact ⟨rfl, unhide hS, hbel⟩
set_option maxHeartbeats 2000000 in
set_option maxRecDepth 100000 in
theorem specPutT (zs : List Nat) (L v n c : Nat) (w : World) (hi : Inv true zs L) (hv : v < 18446744073709551616) (hn : n ≤ 64) (hL : L + n ≤ 2097152) (hs : Sink w c (.bool true) zs L) :
    Calls Try.prog 61 #[.pointer (some ⟨c, 0, none⟩), .int .i64 n, .int .u64 v] w fun e w' => e = .returned (.tuple #[]) ∧ Sink w' c (.bool true) (ft true v n zs L n) ((L + n : Nat) : Int) ∧ Below c w w' := by
  replace hi := hide hi
  replace hs := hide hs
  go_enter Try.func61, Try.ntmps61
  go_wp2
  go_loopw [6] (fun i wr => ∃ k : Nat, k ≤ n ∧ i = .int .i64 k ∧ Sink wr c (.bool true) (ft true v n zs L k) ((L + k : Nat) : Int) ∧ Below c w wr) (fun i _ => n - (intOf i).toNat)
  case atStart => exact ⟨0, Nat.zero_le _, rfl, unhide hs, Below.refl _ _⟩
  case round =>
    obtain ⟨k, hk, rfl, hS, hbel⟩ := hrel
    by_cases hlt : k < n
    · have hB := hide (specBit true _ (L + k) (fbit true v n k) c wr (ft_inv (v := v) (n := n) (unhide hi) k) (fbit_le _ _ _ _) (by omega) hS)
      obtain ⟨vv, hSS, hown⟩ := hS
      obtain ⟨s0, s1, s2, s3, s4, s5⟩ := hSS
      have hbit := hide (bit_of_u64 v (n - 1 - k) hv)
      clear hown s2 s3 s4 s5
      go_wp2_with fail
      rw [unhide hbit]
      refine (unhide hB).mono ?_
      rintro e w2 ⟨rfl, hS2, hb2⟩
      replace hS2 := hide hS2
      replace hb2 := hide (hbel.trans hb2)
      clear hB hbel s0 s1 hbit
      go_wp2
      go_roundw
      case rel => exact ⟨k + 1, by omega, by go_num, unhide hS2, unhide hb2⟩
      case measure => simp [intOf]; omega
    · have hkn : k = n := by omega
      subst hkn
      replace hS := hide hS
      go_wp2
      go_end0
      exact ⟨rfl, unhide hS, hbel⟩
end Go.Proofs.Ytnoojbppfbmbgaa
