/- Guesses: what is around a square is as it must be: the program. -/
import Derived.Test.YtpofmcepjmbmcaaPlainGu
import Derived.Test.YtpofmcepjmbmcaaWRowB
import Derived.Test.YtpofmcepjmbmcaaWInts
import Derived.Test.YtpofmcepjmbmcaaWTrC
import Derived.Test.YtpofmcepjmbmcaaWApB
import Derived.Test.YtpofmcepjmbmcaaWUpd2
import Derived.Test.YtpofmcepjmbmcaaWHeld
import Derived.Test.YtpofmcepjmbmcaaWSzI
namespace Go.Proofs.Ytpofmcepjmbmcaa
open Go.RowKit

theorem implGoodSize (n : Int) (w : World) : Calls Try.prog 101 #[.int .i64 n] w fun e w' => e = .returned (.bool (decide (n = 4 ∨ n = 8))) ∧ w' = w := by
  by_cases h4 : n = 4
  · subst h4
    go_enter Try.func101, Try.ntmps101
    go_wp2
    go_ret
    exact ⟨rfl, rfl⟩
  · have t4 : (n == 4) = false := beq_eq_false_iff_ne.2 h4
    by_cases h8 : n = 8
    · subst h8
      go_enter Try.func101, Try.ntmps101
      go_wp2
      go_ret
      exact ⟨rfl, rfl⟩
    · have t8 : (n == 8) = false := beq_eq_false_iff_ne.2 h8
      have e : decide (n = 4 ∨ n = 8) = false := by simp [h4, h8]
      rw [e]
      clear e h4 h8
      go_enter Try.func101, Try.ntmps101
      go_wp2
      go_ret
      exact ⟨rfl, rfl⟩
set_option maxHeartbeats 4000000 in
set_option maxRecDepth 100000 in
theorem implGoodSide (size c : Int) (v1 v2 v : Value) (zs : List Int) (w : World) (hn : zs.length ≤ 1048576) (hv : RdI w v zs) :
    Calls Try.prog 102 #[.agg #[.int .i64 size, v1, v2, .int .i64 c], v] w fun e w' => e = .returned (.bool (guSide size zs)) ∧ Upd 0 0 w w' := by
  obtain ⟨ad, cap, rfl, hA⟩ := hv
  have hB := (Below.refl w.heap.size w).alloc (Nat.le_refl _) (.cells #[.int .i64 size, v1, v2, .int .i64 c] 94)
  have hU := hide (Upd.of_below hB 0 0)
  have hG := implGoodSamples (.slice ad zs.length cap) zs 8 _ (by omega) hn ⟨_, _, rfl, hA.below hB⟩
  rw [smpB_8] at hG
  replace hG := hide hG
  have hcs := heldF_new w [.int .i64 size, v1, v2, .int .i64 c] 94
  change HeldF (w.alloc (.cells #[.int .i64 size, v1, v2, .int .i64 c] 94)) _ _ at hcs
  by_cases h0 : zs.length = 0
  · have e : guSide size zs = true := by unfold guSide; simp [h0]
    have e2 : inRB 0 255 zs = true := inRB_iff0.2 (fun j hj => by omega)
    rw [e]
    rw [e2] at hG
    have t0 : ((zs.length : Int) == 0) = true := by simp [h0]
    replace h0 := hide h0
    clear e e2 hB hA hcs
    go_enter Try.func102, Try.ntmps102
    go_wp2_with (go_at_call 67; refine (unhide hG).mono ?_; rintro e wz ⟨rfl, hwz⟩; subst wz)
    go_ret
    exact ⟨rfl, unhide hU⟩
  have t0 : ((zs.length : Int) == 0) = false := beq_eq_false_iff_ne.2 (by omega)
  have c0 := hcs.1.2 0 _ rfl
  by_cases h1 : (zs.length : Int) = size
  · have e : guSide size zs = inRB 0 255 zs := by unfold guSide; simp [h0, h1]
    rw [e]
    have t1 : ((zs.length : Int) == size) = true := by simp [h1]
    replace h0 := hide h0
    replace h1 := hide h1
    clear e hB hA hcs
    go_enter Try.func102, Try.ntmps102
    go_wp2_with (go_at_call 67; refine (unhide hG).mono ?_; rintro e wz ⟨rfl, hwz⟩; subst wz)
    go_ret
    exact ⟨rfl, unhide hU⟩
  · have e : guSide size zs = false := by unfold guSide; simp [h0, h1]
    rw [e]
    have t1 : ((zs.length : Int) == size) = false := beq_eq_false_iff_ne.2 h1
    replace h0 := hide h0
    replace h1 := hide h1
    clear e hB hA hcs hG
    go_enter Try.func102, Try.ntmps102
    go_wp2
    go_ret
    exact ⟨rfl, unhide hU⟩
end Go.Proofs.Ytpofmcepjmbmcaa
