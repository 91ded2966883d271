/- The walk of PutNumber: the specification's. -/
import Derived.Test.YtcmabocmcgkmdaaWPut
namespace Go.Proofs.Ytcmabocmcgkmdaa
open Go.RowKit

set_option maxHeartbeats 2000000 in
set_option maxRecDepth 100000 in
theorem specPutNumber (n : Nat) (w : World) (hn : n < 2 ^ 64) :
    Calls Try.prog 26 #[.int .u64 n] w fun e w' => ∃ g cap, e = .returned (.slice (some ⟨g, 0, none⟩) (putL n).length cap) ∧ w'.ownsRow w.heap.size 5 1 (.slice (some ⟨g, 0, none⟩) (putL n).length cap) (putL n).length ((putL n).map (.int .u8)) ∧ Below w.heap.size w w' := by
  obtain ⟨i0, hi, hz0, hz1, hz2⟩ := info_parts infoB
  go_enter Try.func26, Try.ntmps26
  go_wp2
  go_loopw [0, 3] (fun a v wr => ∃ m : Nat, ∃ xs, a = .int .u64 m ∧ m < 2 ^ (64 - 7 * xs.length) ∧ xs.length ≤ 9 ∧ xs ++ putL m = putL n ∧ wr.ownsRow w.heap.size 5 1 v xs.length (xs.map (.int .u8)) ∧ Below w.heap.size w wr) (fun a _ _ => (intOf a).toNat)
  case atStart => exact ⟨n, [], rfl, by simpa using hn, by simp, by simp, World.ownsRow_nil _ _ _ _, Below.refl _ _⟩
  case round =>
    obtain ⟨m, xs, rfl, hm, hxs, hput, hown, hbel⟩ := hrel
    by_cases hlt : m < 128
    · rw [putL_last m hlt] at hput
      replace hput := hide hput
      have hm256 : (m : Int) % 256 = m := by omega
      go_wp2_with (at_builtin; refine wpList_append_own _ rfl (.tmp 15) (.tmp 18) 22 rfl w.heap.size 5 i0 (.int .u8 0) 1 1 Try.underlying22 hi hz0 hz1 hz2 rfl (by decide) _ _ _ rfl (hown.alloc _) ⟨wr.heap.size, 0, none⟩ 1 1 [.int .u8 m] rfl rfl ?c1 ?c2 ?c3 ?c4 ?c5 ?_)
      case c1 =>
        intro j u hj
        match j, hj with
        | 0, hj => simp at hj; subst hj; simp [Addr.add]
      case c2 => intro u hu; simp at hu; subst hu; rfl
      case c3 => unfold maxLen; omega
      case c4 => omega
      case c5 => have := hbel.size; simp; omega
      intro v' w1 hown' hgrow _
      have hbel' := (hbel.alloc hbel.size (.cells #[.int .u8 m] 5)).grown hgrow (by have := hbel.size; simp; omega) (fun k hk => (hown.lt k hk).1)
      have hlen : (putL n).length = xs.length + 1 := by rw [← unhide hput]; simp
      have hmap : (putL n).map (Value.int .u8) = xs.map (Value.int .u8) ++ [.int .u8 m] := by rw [← unhide hput]; simp
      rw [← hlen, ← hmap] at hown'
      have hsh : ∃ g cap, v' = .slice (some ⟨g, 0, none⟩) (putL n).length cap := by
        rcases hown'.2 with ⟨_, h0⟩ | ⟨g, cap', cur, e, _⟩
        · omega
        · exact ⟨g, cap', e⟩
      obtain ⟨g, cap', rfl⟩ := hsh
      clear hown hgrow hlen hmap hput hbel
      replace hown' := hide hown'
      go_wp2
      go_ret
      exact ⟨g, cap', rfl, unhide hown', hbel'⟩
    · have hm64 : m < 18446744073709551616 := Nat.lt_of_lt_of_le hm (show 2 ^ (64 - 7 * xs.length) ≤ 2 ^ 64 from Nat.pow_le_pow_right (by omega) (by omega))
      rw [putL_more m hlt] at hput
      have hst := put_step m xs.length hlt hm
      replace hput := hide hput
      go_wp2_with (at_builtin; refine wpList_append_own _ rfl (.tmp 6) (.tmp 11) 22 rfl w.heap.size 5 i0 (.int .u8 0) 1 1 Try.underlying22 hi hz0 hz1 hz2 rfl (by decide) _ _ _ rfl (hown.alloc _) ⟨wr.heap.size, 0, none⟩ 1 1 [.int .u8 ((m : Int) % 128 + 128)] rfl rfl ?d1 ?d2 ?d3 ?d4 ?d5 ?_)
      case d1 =>
        intro j u hj
        match j, hj with
        | 0, hj => simp at hj; subst hj; simp [Addr.add]
      case d2 => intro u hu; simp at hu; subst hu; rfl
      case d3 => unfold maxLen; omega
      case d4 => omega
      case d5 => have := hbel.size; simp; omega
      intro v' w1 hown' hgrow _
      have hbel' := (hbel.alloc hbel.size (.cells #[.int .u8 ((m : Int) % 128 + 128)] 5)).grown hgrow (by have := hbel.size; simp; omega) (fun k hk => (hown.lt k hk).1)
      have hown2 : w1.ownsRow w.heap.size 5 1 v' (xs ++ [((m % 128 + 128 : Nat) : Int)]).length ((xs ++ [((m % 128 + 128 : Nat) : Int)]).map (.int .u8)) := by
        simpa using hown'
      have hput2 : (xs ++ [((m % 128 + 128 : Nat) : Int)]) ++ putL (m / 128) = putL n := by rw [List.append_assoc]; exact unhide hput
      have hst2 : m / 128 < 2 ^ (64 - 7 * (xs ++ [((m % 128 + 128 : Nat) : Int)]).length) := by simpa using hst.2
      replace hst2 := hide hst2
      replace hown2 := hide hown2
      replace hput2 := hide hput2
      clear hown hown' hgrow hput hbel hm
      go_wp2
      go_roundw
      case rel => exact ⟨m / 128, _, by go_num, unhide hst2, by simp; omega, unhide hput2, unhide hown2, hbel'⟩
      case measure => simp [intOf]; omega

theorem putL_len (n : Nat) : ∀ l, l ≤ 9 → n < 2 ^ (64 - 7 * l) → (putL n).length + l ≤ 10 := by
  induction n using Nat.strongRecOn with
  | ind n ih =>
    intro l hl hn
    by_cases h : n < 128
    · rw [putL_last n h]; simp; omega
    · have hs := put_step n l h hn
      have := ih (n / 128) (by omega) (l + 1) (by omega) hs.2
      rw [putL_more n h, List.length_cons]; omega
theorem owns_below {w w' : World} {base : Nat} {e : TypeId} {size g n cap : Nat} {xs : List Value} (h : w.ownsRow base e size (.slice (some ⟨g, 0, none⟩) n cap) n xs) (hb : Below w.heap.size w w') : w'.ownsRow base e size (.slice (some ⟨g, 0, none⟩) n cap) n xs :=
  h.kept (row := none) ⟨hb.os, hb.tape, hb.output, hb.size, fun k hk _ => hb.block k hk⟩ (.inr (by simp [Value.ownBlock]))
theorem OwnB.only {w w' : World} {r g : Nat} {zs : List Int} (h : OwnB w g zs) (ho : OnlyAt r w w') (hne : g ≠ r) : OwnB w' g zs :=
  ⟨Nat.lt_of_lt_of_le h.1 ho.size, fun j hj => (ho.cell (by simpa using h.1) (by simpa using hne)).trans (h.2 j hj)⟩
theorem Marked.below {w w' : World} {g n k : Nat} (h : Marked w g n k) (hg : g < w.heap.size) (hb : Below w.heap.size w w') : Marked w' g n k :=
  fun j hj => (hb.cell (by simpa using hg)).trans (h j hj)
end Go.Proofs.Ytcmabocmcgkmdaa
