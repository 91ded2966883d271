/- Which lists are lists of chapter 10: the walks of both sides. -/
import Derived.Test.YtocoeodoihdkgaaPlainLi
import Derived.Test.YtocoeodoihdkgaaWInts
import Derived.Laws.ShiftsVar
namespace Go.Proofs.Ytocoeodoihdkgaa
open Go.RowKit

theorem lsB_len {lo hi : Int} {zs : List Int} (h : InR lo hi zs) : lsB lo hi zs = decide (zs.length ≤ 4000) := by
  by_cases hl : zs.length ≤ 4000
  · rw [lsB_yes ⟨hl, h⟩, decide_eq_true hl]
  · rw [lsB_no (fun h' => hl h'.1), decide_eq_false hl]

/-- The ends of numbers of so many bits. -/
def loB (b : Nat) : Int := -(2 ^ (b - 1) : Nat)
def hiB (b : Nat) : Int := (2 ^ (b - 1) : Nat) - 1
theorem loB_27 : loB 27 = -67108864 := rfl
theorem hiB_27 : hiB 27 = 67108863 := rfl
theorem loB_29 : loB 29 = -268435456 := rfl
theorem hiB_29 : hiB 29 = 268435455 := rfl
theorem loB_32 : loB 32 = -2147483648 := rfl
theorem hiB_32 : hiB 32 = 2147483647 := rfl
theorem pow_small (c : Nat) (h : c ≤ 61) : (1 : Int) ≤ 2 ^ c ∧ (2 : Int) ^ c ≤ 2305843009213693952 := by
  have h1 : 2 ^ c ≤ 2 ^ 61 := Nat.pow_le_pow_right (by omega) h
  have h2 : 1 ≤ 2 ^ c := Nat.one_le_two_pow
  have e : ((2 ^ c : Nat) : Int) = (2 : Int) ^ c := by rw [Int.natCast_pow]; rfl
  rw [← e]
  have e61 : (2 : Nat) ^ 61 = 2305843009213693952 := by decide
  rw [e61] at h1
  omega
theorem wrap64_in (n : Int) (h : -9223372036854775808 ≤ n ∧ n ≤ 9223372036854775807) : wrap64 n = n := by unfold wrap64; omega
set_option maxHeartbeats 4000000 in
theorem implHasBits (n : Int) (b : Nat) (w : World) (h1 : 1 ≤ b) (h2 : b ≤ 62) : Calls Try.prog 115 #[.int .i64 n, .int .i64 (b : Int)] w fun e w' => e = .returned (.bool (decide (loB b ≤ n ∧ n ≤ hiB b))) ∧ w' = w := by
  obtain ⟨c, hc⟩ : ∃ c, b - 1 = c := ⟨_, rfl⟩
  have hw : IntKind.i64.wrap ((b : Int) - 1) = (c : Int) := by simp [IntKind.wrap, IntKind.bits, IntKind.signed]; omega
  have e1 : (b : Int) - 1 = (c : Int) := by omega
  have hp := pow_small c (by omega)
  have el : loB b = -(2 : Int) ^ c := by unfold loB; rw [hc, Int.natCast_pow]; rfl
  have eh : hiB b = (2 : Int) ^ c - 1 := by unfold hiB; rw [hc, Int.natCast_pow]; rfl
  rw [el, eh]
  have hw1 : wrap64 (-(2 : Int) ^ c) = -(2 : Int) ^ c := wrap64_in _ (by omega)
  have hw2 : wrap64 ((2 : Int) ^ c) = (2 : Int) ^ c := wrap64_in _ (by omega)
  replace hw1 := hide hw1
  replace hw2 := hide hw2
  have hcb : c ≤ 61 := by omega
  clear el eh hp hc h1 h2
  go_enter Try.func115, Try.ntmps115
  go_wp2
  all_goals
    rename_i h
    rw [unhide hw1] at h
    go_ret
    refine ⟨?_, rfl⟩
    first
      | (show Ending.returned (Value.bool (decide (n < wrap64 ((2 : Int) ^ c)))) = _
         rw [unhide hw2]
         congr 2
         rw [Bool.eq_iff_iff]
         simp
         omega)
      | (show Ending.returned (Value.bool false) = _
         congr 2
         rw [Bool.eq_iff_iff]
         simp
         omega)
theorem lsB_ends (b : Nat) (zs : List Int) (k : Nat) (hk : k < zs.length) (h : decide (loB b ≤ zs.getD k 0 ∧ zs.getD k 0 ≤ hiB b) = false) : lsB (loB b) (hiB b) zs = false :=
  lsB_no (fun h' => of_decide_eq_false h (h'.2 k hk))
set_option maxHeartbeats 4000000 in
theorem implGoodNumbers (ad : Option Addr) (cap : Nat) (zs : List Int) (b : Nat) (w : World) (h1 : 1 ≤ b) (h2 : b ≤ 62) (hn : zs.length ≤ 1048576) (hA : ArgI w ad zs) :
    Calls Try.prog 80 #[.slice ad zs.length cap, .int .i64 (b : Int)] w fun e w' => e = .returned (.bool (lsB (loB b) (hiB b) zs)) ∧ Upd 0 0 w w' := by
  replace hA := hide hA
  have hNo := hide (lsB_ends b zs)
  have hYes : Hid ((∀ j, j < zs.length → decide (loB b ≤ zs.getD j 0 ∧ zs.getD j 0 ≤ hiB b) = true) → lsB (loB b) (hiB b) zs = decide (zs.length ≤ 4000)) := hide (fun h => lsB_len (fun j hj => of_decide_eq_true (h j hj)))
  have hC := hide (fun n W => implHasBits n b W h1 h2)
  generalize lsB (loB b) (hiB b) zs = R at hNo hYes ⊢
  clear h1 h2
  go_enter Try.func80, Try.ntmps80
  go_wp2
  go_loop [9] (fun i => ∃ k : Nat, k ≤ zs.length ∧ i = .int .i64 k ∧ Hid (∀ j, j < k → decide (loB b ≤ zs.getD j 0 ∧ zs.getD j 0 ≤ hiB b) = true)) (fun i => zs.length - (intOf i).toNat)
  case atStart => exact ⟨0, Nat.zero_le _, rfl, fun j hj => by omega⟩
  case round =>
    obtain ⟨k, hk', rfl, hok⟩ := hrel
    by_cases hlt : k < zs.length
    · obtain ⟨bb, off, rfl, hbl, hcl⟩ := (unhide hA) (ne_of_lt_length hlt)
      have hck := hcl k hlt
      have hbad := hide (unhide hNo k hlt)
      have hOk : Hid (decide (loB b ≤ zs.getD k 0 ∧ zs.getD k 0 ≤ hiB b) = true → ∀ j, j < k + 1 → decide (loB b ≤ zs.getD j 0 ∧ zs.getD j 0 ≤ hiB b) = true) := hide (fun h j hj => by
        rcases Nat.lt_or_eq_of_le (Nat.le_of_lt_succ hj) with h' | h'
        · exact unhide hok j h'
        · subst h'; exact h)
      clear hcl hbl
      generalize zs.getD k 0 = x at hck hbad hOk
      have hCx := hide (fun W => unhide hC x W)
      generalize decide (loB b ≤ x ∧ x ≤ hiB b) = q at hCx hbad hOk
      cases q
      · have hB := hide (unhide hbad rfl)
        clear hbad hOk
        go_wp2_with fail
        refine (unhide hCx _).mono ?_
        rintro e w1 ⟨rfl, rfl⟩
        go_wp2
        go_ret
        exact ⟨by rw [unhide hB]; rfl, Upd.refl 0 0 _⟩
      · have hok2 := hide (unhide hOk rfl)
        clear hbad hOk
        go_wp2_with fail
        refine (unhide hCx _).mono ?_
        rintro e w1 ⟨rfl, rfl⟩
        go_wp2
        go_round
        case rel => exact ⟨k + 1, by omega, by go_num, unhide hok2⟩
        case measure => simp [intOf]; omega
    · have hkl : k = zs.length := by omega
      subst hkl
      have hs := hide (unhide hYes (unhide hok))
      have hb : decide ((zs.length : Int) ≤ 4000) = decide (zs.length ≤ 4000) := by rw [Bool.eq_iff_iff]; simp; omega
      go_wp2
      go_ret
      exact ⟨by rw [unhide hs]; first | rfl | (rw [hb]; done), Upd.refl 0 0 _⟩
end Go.Proofs.Ytocoeodoihdkgaa
