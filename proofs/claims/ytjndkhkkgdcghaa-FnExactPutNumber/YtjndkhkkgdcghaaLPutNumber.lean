/- The law on PutNumber, walked. -/
import Derived.Test.YtjndkhkkgdcghaaWPut2
namespace Go.Proofs.Ytjndkhkkgdcghaa
open Go.RowKit

set_option maxHeartbeats 1000000 in
theorem lawPutNat (n : Nat) (w : World) (hn : n < 2 ^ 64) :
    Calls Try.prog 10 #[.int .u64 n] w fun e w' => e = .returned (.bool true) ∧ Below w.heap.size w w' := by
  have hL := putL_len n 0 (by omega) (by simpa using hn)
  have hl : (putL n).length ≤ 1048576 := by omega
  have hlz : 0 ≤ ((putL n).length : Int) := by omega
  clear hL
  replace hn := hide hn
  go_enter Try.func10, Try.ntmps10
  go_wp2_with fail
  refine (specPutNumber n w (unhide hn)).mono ?_
  rintro e w1 ⟨g0, cap0, rfl, hown0, hb1⟩
  have ho0 := hide (ownB_of_owns rfl hown0)
  have hg0 := (unhide ho0).1
  clear hown0
  go_wp2_with fail
  refine (implPutNumber n w1 (unhide hn)).mono ?_
  rintro e w2 ⟨g1, cap1, rfl, hown1, hb2⟩
  have hg1 := hown1.lt g1 rfl
  have ho1 := hide (ownB_of_owns rfl hown1)
  replace ho0 := hide ((unhide ho0).below hb2)
  have hb12 := hb1.trans (hb2.mono hb1.size)
  go_wp2_with fail
  refine (eqByteS_own g1 g0 cap1 cap0 (putL n) w2 hl (unhide ho1) (unhide ho0)).mono ?_
  rintro e w3 ⟨rfl, hb3⟩
  replace hown1 := owns_below hown1 hb3
  replace ho0 := hide ((unhide ho0).below hb3)
  replace hb12 := hb12.trans (hb3.mono hb12.size)
  go_wp2_with fail
  refine (markByteS_own w1.heap.size g1 cap1 (putL n).length 1 _ w3 hl (by omega) hown1).mono ?_
  rintro e w4 ⟨rfl, hM, hO, ys, hown4⟩
  have hg4 := (hown4.lt g1 rfl).2
  replace ho0 := hide ((unhide ho0).only hO (by omega))
  replace hb12 := hb12.trans (hO.below (by have := hb1.size; omega) hb12.size)
  replace hM := hide hM
  clear hown1 hown4 hO ho1 hb1 hb2 hb3
  go_wp2_with fail
  refine (heldByteS_own g1 cap1 (putL n).length 1 w4 hl (by omega) (unhide hM)).mono ?_
  rintro e w4' ⟨rfl, hw4⟩
  subst hw4
  go_wp2_with fail
  refine (implPutNumber n w4' (unhide hn)).mono ?_
  rintro e w5 ⟨g2, cap2, rfl, hown2, hb5⟩
  have ho2 := hide (ownB_of_owns rfl hown2)
  replace ho0 := hide ((unhide ho0).below hb5)
  replace hM := hide ((unhide hM).below hg4 hb5)
  replace hb12 := hb12.trans (hb5.mono hb12.size)
  have hg5 := Nat.lt_of_lt_of_le hg4 hb5.size
  clear hown2 hb5
  go_wp2_with fail
  refine (eqByteS_own g2 g0 cap2 cap0 (putL n) w5 hl (unhide ho2) (unhide ho0)).mono ?_
  rintro e w6 ⟨rfl, hb6⟩
  replace hM := hide ((unhide hM).below hg5 hb6)
  replace hb12 := hb12.trans (hb6.mono hb12.size)
  go_wp2_with fail
  refine (heldByteS_own g1 cap1 (putL n).length 1 w6 hl (by omega) (unhide hM)).mono ?_
  rintro e w6' ⟨rfl, hw6⟩
  subst hw6
  go_wp2_with fail
  go_ret
  exact ⟨rfl, hb12⟩
theorem lawPutNumber (n : Int) (w : World) (h0 : 0 ≤ n) (h1 : n ≤ 18446744073709551615) :
    Calls Try.prog 10 #[.int .u64 n] w fun e w' => e = .returned (.bool true) ∧ Below w.heap.size w w' := by
  obtain ⟨N, rfl⟩ := Int.eq_ofNat_of_zero_le h0
  exact lawPutNat N w (by omega)
end Go.Proofs.Ytjndkhkkgdcghaa
