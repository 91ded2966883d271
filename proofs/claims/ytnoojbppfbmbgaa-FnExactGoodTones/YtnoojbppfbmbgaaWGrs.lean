/- Grades: the specification's walk, and both in the law's form. -/
import Derived.Test.YtnoojbppfbmbgaaWGrd
namespace Go.Proofs.Ytnoojbppfbmbgaa
open Go.RowKit

set_option maxHeartbeats 2000000 in
theorem specGradeW (p q : Int) (w : World) (h1 : p ≤ 9223372036854775807) :
    Calls Try.prog 23 #[.int .i64 p, .int .i64 q] w fun e w' => e = .returned (.int .i64 (gradeF p q)) ∧ w' = w := by
  by_cases c0 : p < 0
  · have e : gradeF p q = 0 := by unfold gradeF; rw [if_pos c0]
    rw [e]
    go_enter Try.func23, Try.ntmps23
    go_wp2
    go_ret
    exact ⟨rfl, rfl⟩
  by_cases c1 : q < 0
  · have e : gradeF p q = 0 := by unfold gradeF; rw [if_neg c0, if_pos c1]
    rw [e]
    go_enter Try.func23, Try.ntmps23
    go_wp2
    go_ret
    exact ⟨rfl, rfl⟩
  by_cases c2 : 15 < q
  · have e : gradeF p q = 0 := by unfold gradeF; rw [if_neg c0, if_neg c1, if_pos c2]
    rw [e]
    go_enter Try.func23, Try.ntmps23
    go_wp2
    go_ret
    exact ⟨rfl, rfl⟩
  have e : gradeF p q = max 0 (min 12 (((Lib.bitLen p.toNat : Int) + 1) / 2 - q)) := by unfold gradeF; rw [if_neg c0, if_neg c1, if_neg c2]
  rw [e]
  clear e
  obtain ⟨P, rfl⟩ := Int.eq_ofNat_of_zero_le (show 0 ≤ p by omega)
  rw [Int.toNat_natCast]
  have hb : Lib.bitLen P ≤ 64 := by have := bitLen_64 (P : Int) h1; rwa [Int.toNat_natCast] at this
  obtain ⟨B, hB⟩ : ∃ B, Lib.bitLen P = B := ⟨_, rfl⟩
  rw [hB] at hb ⊢
  have hB0 := hide hB
  clear hB
  go_enter Try.func23, Try.ntmps23
  go_wp2
  go_loop [0, 5, 17, 18, 19, 20, 21, 22] (fun p0 b _ _ _ _ _ _ => ∃ c k : Nat, p0 = .int .i64 c ∧ b = .int .i64 k ∧ k ≤ 64 ∧ c ≤ P ∧ Hid (k + Lib.bitLen c = B)) (fun p0 _ _ _ _ _ _ _ => (intOf p0).toNat)
  case atStart => exact ⟨P, 0, rfl, rfl, by omega, Nat.le_refl _, by have := unhide hB0; unfold Hid; omega⟩
  case round =>
    obtain ⟨c, k, rfl, rfl, hk, hc, hkb⟩ := hrel
    by_cases hz : 0 < c
    · have hh := Lib.bitLen_half c (by omega) (show c < 18446744073709551616 by omega)
      have hkb2 : Hid ((k + 1) + Lib.bitLen (c / 2) = B) := hide (by have := unhide hkb; omega)
      have hk2 : k + 1 ≤ 64 := by have := unhide hkb2; omega
      have hd : ((c : Int).tdiv 2) = ((c / 2 : Nat) : Int) := by rw [Int.tdiv_eq_ediv_of_nonneg (by omega)]; omega
      have q1 : decide ((0 : Int) < (c : Int)) = true := decide_eq_true (by omega)
      have q2 : decide (0 < c) = true := decide_eq_true hz
      clear hh hkb
      obtain ⟨c2, hc2⟩ : ∃ c2, c / 2 = c2 := ⟨_, rfl⟩
      have hlt : c2 < c := by omega
      rw [hc2] at hd hkb2
      clear hc2
      go_wp2
      go_round
      case rel => exact ⟨c2, k + 1, by go_num, by go_num, hk2, by omega, hkb2⟩
      case measure => simp [intOf]; omega
    · have hc0 : c = 0 := by omega
      subst hc0
      have hkB : k = B := by have := unhide hkb; rw [show Lib.bitLen 0 = 0 from by decide] at this; omega
      subst hkB
      clear hkb hB0
      have hd : (((k : Int) + 1).tdiv 2) = ((k : Int) + 1) / 2 := Int.tdiv_eq_ediv_of_nonneg (by omega)
      by_cases g1 : ((k : Int) + 1) / 2 - q < 0
      · go_wp2
        go_ret
        exact ⟨ret_int (by omega), rfl⟩
      · by_cases g2 : 12 < ((k : Int) + 1) / 2 - q
        · go_wp2
          go_ret
          exact ⟨ret_int (by omega), rfl⟩
        · go_wp2
          go_ret
          exact ⟨ret_int (by omega), rfl⟩
theorem specGrade (p q : Int) (w : World) (_hl : -9223372036854775808 ≤ p) (hh : p ≤ 9223372036854775807) (_hl' : -9223372036854775808 ≤ q) (_hh' : q ≤ 9223372036854775807) :
    Calls Try.prog 23 #[.int .i64 p, .int .i64 q] w fun e w' => e = .returned (.int .i64 (gradeF p q)) ∧ Upd 0 0 w w' := upd_of_same (specGradeW p q w hh)
theorem implGradeU (p q : Int) (w : World) (_hl : -9223372036854775808 ≤ p) (hh : p ≤ 9223372036854775807) (hl' : -9223372036854775808 ≤ q) (hh' : q ≤ 9223372036854775807) :
    Calls Try.prog 24 #[.int .i64 p, .int .i64 q] w fun e w' => e = .returned (.int .i64 (gradeF p q)) ∧ Upd 0 0 w w' := upd_of_same (implGrade p q w hh hl' hh')
end Go.Proofs.Ytnoojbppfbmbgaa
