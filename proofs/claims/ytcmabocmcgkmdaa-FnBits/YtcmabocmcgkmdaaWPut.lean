/- The walks of PutNumber, by the program and by the specification. -/
import Derived.Test.YtcmabocmcgkmdaaWMark
namespace Go.Proofs.Ytcmabocmcgkmdaa
open Go.RowKit

def putL (n : Nat) : List Int := if n < 128 then [(n : Int)] else ((n % 128 + 128 : Nat) : Int) :: putL (n / 128)
termination_by n
decreasing_by omega
theorem putL_last (n : Nat) (h : n < 128) : putL n = [(n : Int)] := by rw [putL, if_pos h]
theorem putL_more (n : Nat) (h : ¬ n < 128) : putL n = ((n % 128 + 128 : Nat) : Int) :: putL (n / 128) := by rw [putL, if_neg h]
theorem putL_inB (n : Nat) : InB (putL n) := by
  induction n using Nat.strongRecOn with
  | ind n ih =>
    intro j
    by_cases h : n < 128
    · rw [putL_last n h]
      rcases j with _ | j
      · simp; omega
      · simp
    · rw [putL_more n h]
      rcases j with _ | j
      · simp only [List.getD_cons_zero]; omega
      · rw [List.getD_cons_succ]; exact ih (n / 128) (by omega) j
theorem put_step (m l : Nat) (h : ¬ m < 128) (hm : m < 2 ^ (64 - 7 * l)) : l ≤ 8 ∧ m / 128 < 2 ^ (64 - 7 * (l + 1)) := by
  have h8 : l ≤ 8 := by
    rcases Nat.lt_or_ge 8 l with h9 | h9
    · have := Nat.pow_le_pow_right (show 0 < 2 by omega) (show 64 - 7 * l ≤ 1 by omega); omega
    · exact h9
  refine ⟨h8, ?_⟩
  have e : 64 - 7 * l = (64 - 7 * (l + 1)) + 7 := by omega
  rw [e, Nat.pow_add] at hm
  omega
theorem or_128 (m : Nat) : bits .or .u8 ((m : Int) % 256) 128 = (m : Int) % 128 + 128 := by
  have h1 := u8_or_nat (m % 128) 128 (by omega) (by omega)
  have h2 := u8_or_nat (m % 256) 128 (by omega) (by omega)
  have e : m % 256 ||| 128 = m % 128 + 128 := by
    have hj := nat_join 7 128 (m % 128) (by omega) (by omega)
    rw [Nat.or_comm] at hj
    rcases Nat.lt_or_ge (m % 256) 128 with hl | hl
    · rw [show m % 256 = m % 128 by omega, hj]; omega
    · have e1 : m % 256 = m % 128 ||| 128 := by rw [hj]; omega
      rw [e1, Nat.or_assoc, Nat.or_self, hj]; omega
  rw [show ((m : Int) % 256) = ((m % 256 : Nat) : Int) by omega]
  refine h2.trans ?_
  rw [e]; omega

set_option maxHeartbeats 2000000 in
set_option maxRecDepth 100000 in
theorem implPutNumber (n : Nat) (w : World) (hn : n < 2 ^ 64) :
    Calls Try.prog 25 #[.int .u64 n] w fun e w' => ∃ g cap, e = .returned (.slice (some ⟨g, 0, none⟩) (putL n).length cap) ∧ w'.ownsRow w.heap.size 5 1 (.slice (some ⟨g, 0, none⟩) (putL n).length cap) (putL n).length ((putL n).map (.int .u8)) ∧ Below w.heap.size w w' := by
  obtain ⟨i0, hi, hz0, hz1, hz2⟩ := info_parts infoB
  go_enter Try.func25, Try.ntmps25
  go_wp2
  go_loopw [0, 3] (fun a v wr => ∃ m : Nat, ∃ xs, a = .int .u64 m ∧ m < 2 ^ (64 - 7 * xs.length) ∧ xs.length ≤ 9 ∧ xs ++ putL m = putL n ∧ wr.ownsRow w.heap.size 5 1 v xs.length (xs.map (.int .u8)) ∧ Below w.heap.size w wr) (fun a _ _ => (intOf a).toNat)
  case atStart => exact ⟨n, [], rfl, by simpa using hn, by simp, by simp, World.ownsRow_nil _ _ _ _, Below.refl _ _⟩
  case round =>
    obtain ⟨m, xs, rfl, hm, hxs, hput, hown, hbel⟩ := hrel
    by_cases hlt : m < 128
    · rw [putL_last m hlt] at hput
      replace hput := hide hput
      have hm256 : (m : Int) % 256 = m := by omega
      go_wp2_with (at_builtin; refine wpList_append_own _ rfl (.tmp 14) (.tmp 17) 22 rfl w.heap.size 5 i0 (.int .u8 0) 1 1 Try.underlying22 hi hz0 hz1 hz2 rfl (by decide) _ _ _ rfl (hown.alloc _) ⟨wr.heap.size, 0, none⟩ 1 1 [.int .u8 m] rfl rfl ?c1 ?c2 ?c3 ?c4 ?c5 ?_)
      case c1 =>
        intro j u hj
        match j, hj with
        | 0, hj => simp at hj; subst hj; simp [Addr.add]
      case c2 => intro u hu; simp at hu; subst hu; rfl
      case c3 => unfold maxLen; omega
      case c4 => omega
      case c5 => have := hbel.size; simp; omega
      intro v' w1 hown' hgrow _
      have hbel' := (hbel.alloc hbel.size (.cells #[.int .u8 m] 5)).grown hgrow (by have := hbel.size; simp; omega) (fun k hk => (hown.lt k hk).1)
      have hlen : (putL n).length = xs.length + 1 := by rw [← unhide hput]; simp
      have hmap : (putL n).map (Value.int .u8) = xs.map (Value.int .u8) ++ [.int .u8 m] := by rw [← unhide hput]; simp
      rw [← hlen, ← hmap] at hown'
      have hsh : ∃ g cap, v' = .slice (some ⟨g, 0, none⟩) (putL n).length cap := by
        rcases hown'.2 with ⟨_, h0⟩ | ⟨g, cap', cur, e, _⟩
        · omega
        · exact ⟨g, cap', e⟩
      obtain ⟨g, cap', rfl⟩ := hsh
      clear hown hgrow hlen hmap hput hbel
      replace hown' := hide hown'
      go_wp2
      go_ret
      exact ⟨g, cap', rfl, unhide hown', hbel'⟩
    · rw [putL_more m hlt] at hput
      have hst := put_step m xs.length hlt hm
      replace hput := hide hput
      have hor := or_128 m
      go_wp2_with (at_builtin; refine wpList_append_own _ rfl (.tmp 6) (.tmp 10) 22 rfl w.heap.size 5 i0 (.int .u8 0) 1 1 Try.underlying22 hi hz0 hz1 hz2 rfl (by decide) _ _ _ rfl (hown.alloc _) ⟨wr.heap.size, 0, none⟩ 1 1 [.int .u8 ((m : Int) % 128 + 128)] rfl rfl ?d1 ?d2 ?d3 ?d4 ?d5 ?_)
      case d1 =>
        intro j u hj
        match j, hj with
        | 0, hj => simp at hj; subst hj; simp [Addr.add]
      case d2 => intro u hu; simp at hu; subst hu; rfl
      case d3 => unfold maxLen; omega
      case d4 => omega
      case d5 => have := hbel.size; simp; omega
      intro v' w1 hown' hgrow _
      have hbel' := (hbel.alloc hbel.size (.cells #[.int .u8 ((m : Int) % 128 + 128)] 5)).grown hgrow (by have := hbel.size; simp; omega) (fun k hk => (hown.lt k hk).1)
      have hown2 : w1.ownsRow w.heap.size 5 1 v' (xs ++ [((m % 128 + 128 : Nat) : Int)]).length ((xs ++ [((m % 128 + 128 : Nat) : Int)]).map (.int .u8)) := by
        simpa using hown'
      have hput2 : (xs ++ [((m % 128 + 128 : Nat) : Int)]) ++ putL (m / 128) = putL n := by rw [List.append_assoc]; exact unhide hput
      have hst2 : m / 128 < 2 ^ (64 - 7 * (xs ++ [((m % 128 + 128 : Nat) : Int)]).length) := by simpa using hst.2
      replace hst2 := hide hst2
      replace hown2 := hide hown2
      replace hput2 := hide hput2
      clear hown hown' hgrow hput hbel hm
      go_wp2
      go_roundw
      case rel => exact ⟨m / 128, _, by go_num, unhide hst2, by simp; omega, unhide hput2, unhide hown2, hbel'⟩
      case measure => simp [intOf]; omega
end Go.Proofs.Ytcmabocmcgkmdaa
