/- The walks of Fold, Unfold and Adler: what each gives. -/
import Derived.Test.YtailhdfmfmlniaaRows
import Derived.Test.YtailhdfmfmlniaaPlain
import Derived.WalkKit
import Derived.WalkSpells
import Derived.WalkLawsBesides
namespace Go.Proofs.Ytailhdfmfmlniaa
open Go.RowKit

set_option maxHeartbeats 400000 in
theorem implFold (n : Int) (h0 : -9223372036854775808 ≤ n) (h1 : n ≤ 9223372036854775807) (w : World) :
    Calls Try.prog 154 #[.int .i64 n] w fun e w' => e = .returned (.int .u64 (foldF n)) ∧ w' = w := by
  have H := hide (fold_bits n h0 h1)
  go_enter Try.func154, Try.ntmps154
  go_wp2
  go_ret
  exact ⟨ret_int (unhide H), rfl⟩

set_option maxHeartbeats 400000 in
theorem implUnfold (n : Int) (h0 : 0 ≤ n) (h1 : n ≤ 18446744073709551615) (w : World) :
    Calls Try.prog 176 #[.int .u64 n] w fun e w' => e = .returned (.int .i64 (unfoldF n)) ∧ w' = w := by
  have H := hide (unfold_bits n h0 h1)
  go_enter Try.func176, Try.ntmps176
  go_wp2
  go_ret
  exact ⟨ret_int (unhide H), rfl⟩

set_option maxHeartbeats 1000000 in
theorem specCrc (b off len cap : Nat) (zs : List Int) (w : World) (hlen : zs.length = len) (hreach : len ≤ 140737488351232)
    (hz : ∀ j, 0 ≤ zs.getD j 0 ∧ zs.getD j 0 < 256) (hc : ∀ j, j < len → w.cell? ⟨b, off + j, none⟩ = some (.int .u8 (zs.getD j 0))) :
    Calls Try.prog 139 #[.slice (some ⟨b, off, none⟩) len cap] w fun e w' => e = .returned (.int .u32 (crcF zs)) ∧ w' = w := by
  subst hlen
  replace hc := hide hc
  go_enter Try.func139, Try.ntmps139
  go_wp2
  go_loop [3, 10] (fun a i => ∃ k : Nat, k ≤ zs.length ∧ a = .int .u32 (crcTo zs k : Nat) ∧ i = .int .i64 k) (fun _ i => zs.length - (intOf i).toNat)
  case atStart => exact ⟨0, Nat.zero_le _, rfl, rfl⟩
  case round =>
    obtain ⟨k, hk, rfl, rfl⟩ := hrel
    have hb := crcTo_lt zs k
    by_cases hlt : k < zs.length
    · have hzk := hz k
      have hck := unhide hc k hlt
      have H1 := crcTo_succ zs k hlt
      generalize zs.getD k 0 = x at hzk hck H1
      obtain ⟨x, rfl⟩ := Int.eq_ofNat_of_zero_le hzk.1
      generalize crcTo zs k = r at hb H1
      replace H1 := hide H1
      have HX := hide (u32_xor_nat r x (by omega) (by omega))
      have hrx : r ^^^ x < 4294967296 := Nat.xor_lt_two_pow (n := 32) (by omega) (by omega)
      go_wp2
      rw [unhide HX]
      go_loop [3, 6] (fun a i => ∃ m : Nat, m ≤ 8 ∧ a = .int .u32 (crcIt m (r ^^^ x) : Nat) ∧ i = .int .i64 m) (fun _ i => 8 - (intOf i).toNat)
      case atStart => exact ⟨0, Nat.zero_le _, rfl, rfl⟩
      case round =>
        obtain ⟨m, hm, rfl, rfl⟩ := hrel
        have hr := crcIt_lt m (r ^^^ x) hrx
        by_cases hlt : m < 8
        · have HS := hide (show crcIt (m + 1) (r ^^^ x) = crcBit (crcIt m (r ^^^ x)) from rfl)
          generalize crcIt m (r ^^^ x) = y at hr HS
          have hand := u32_and_one y hr
          by_cases ho : y % 2 = 1
          · have hand1 : bits .and .u32 (y : Int) 1 = 1 := by rw [hand]; omega
            clear hand
            have HY := hide (crcBit_odd y hr ho)
            go_wp2
            go_round
            case rel => exact ⟨m + 1, by omega, by rw [unhide HS, unhide HY], by go_num⟩
            case measure => simp [intOf]; omega
          · have hand0 : bits .and .u32 (y : Int) 1 = 0 := by rw [hand]; omega
            clear hand
            have HY := hide (crcBit_even y ho)
            go_wp2
            go_round
            case rel => exact ⟨m + 1, by omega, by rw [unhide HS, unhide HY], by go_num⟩
            case measure => simp [intOf]; omega
        · have hm8 : m = 8 := by omega
          subst hm8
          go_wp2
          go_round
          case rel => exact ⟨k + 1, by omega, by rw [unhide H1]; simp only [Int.toNat_natCast]; rw [Nat.mod_eq_of_lt (by omega)], by go_num⟩
          case measure => simp [intOf]; omega
    · have hkl : k = zs.length := by omega
      subst hkl
      have HN := hide (crcF_bits zs)
      go_wp2
      go_ret
      exact ⟨ret_int (unhide HN), rfl⟩
end Go.Proofs.Ytailhdfmfmlniaa
