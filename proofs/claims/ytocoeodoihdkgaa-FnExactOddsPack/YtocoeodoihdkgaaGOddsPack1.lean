/- The texts behind FnExactOddsPack, part 1: what each of them says stands at its head. -/
import Derived.Test.YtocoeodoihdkgaaGOddsPack0
import Derived.Maps.AppendAt
import Derived.RangeFuncBox
import Derived.Deep.RegionHeld3
import Derived.Deep.QuietTactic
import Derived.BigQuiet
import Derived.StillTailTactics
import Derived.StillTail
import Derived.Deep.Cut
import Derived.Deep.RegionWith
import Derived.Lib.Strings
import Derived.Lib.Slices
import Derived.Lib.Small
import Derived.Lib.Walk
import Derived.Lib.BitFns
import Derived.Deep.WholeRow
import Derived.Laws.ResultCell
import Derived.Laws.CopyOwn
/- The specification's marks. -/
namespace Go.Proofs.Ytocoeodoihdkgaa
open Go.RowKit

theorem i64_and_1m (n : Int) : bits .and .i64 n 1 = n % 2 := by
  have h1 : (BitVec.ofInt 64 1).toNat = 2 ^ 1 - 1 := by decide
  have key : (BitVec.ofInt 64 n &&& BitVec.ofInt 64 1).toNat = (n % ((2 ^ 64 : Nat) : Int)).toNat % 2 ^ 1 := by
    rw [BitVec.toNat_and, BitVec.toNat_ofInt, h1, Nat.and_two_pow_sub_one_eq_mod]
  show IntKind.i64.wrap ((BitVec.ofInt 64 n &&& BitVec.ofInt 64 1).toNat : Nat) = _
  rw [key, IntKind.wrap_i64]
  omega
theorem shr_pos (m b : Nat) (h : 2 ^ (b + 1) ≤ m) : (0 : Int) < (m : Int) / 2 ^ (b + 1) := by
  have hp : 0 < 2 ^ (b + 1) := Nat.two_pow_pos _
  rw [show ((m : Int) / 2 ^ (b + 1)) = ((m / 2 ^ (b + 1) : Nat) : Int) by simp]
  have : 1 ≤ m / 2 ^ (b + 1) := (Nat.le_div_iff_mul_le hp).2 (by omega)
  omega
theorem shr_zero (m b : Nat) (h : ¬ 2 ^ (b + 1) ≤ m) : ¬ (0 : Int) < (m : Int) / 2 ^ (b + 1) := by
  rw [show ((m : Int) / 2 ^ (b + 1)) = ((m / 2 ^ (b + 1) : Nat) : Int) by simp, Nat.div_eq_of_lt (by omega)]
  simp
theorem shr_16 (m b : Nat) (h : 2 ^ (b + 1) ≤ m) (hm : m ≤ 65536) : b < 16 := by
  rcases Nat.lt_or_ge b 16 with h1 | h1
  · exact h1
  · have : 2 ^ 17 ≤ 2 ^ (b + 1) := Nat.pow_le_pow_right (by omega) (by omega)
    omega
theorem twoNewM (w : World) (u u' : Value) (t : TypeId) : ∀ j v, [u, u'][j]? = some v → (w.alloc (.cells #[u, u'] t)).cell? ((⟨w.heap.size, 0, none⟩ : Addr).add j) = some v := by
  intro j v hj
  match j, hj with
  | 0, hj => simp at hj; subst hj; simp [Addr.add]
  | 1, hj => simp at hj; subst hj; simp [Addr.add]
theorem twoOneM (q q' : IntKind) (a b : Int) : ∀ u ∈ [Value.int q a, Value.int q' b], u.oneCell' = true := by
  intro u hu; simp at hu; rcases hu with rfl | rfl <;> rfl
set_option maxRecDepth 100000 in
set_option maxHeartbeats 4000000 in
theorem specL12Marks (n f : Int) (w : World) (h0 : 0 ≤ n) (h1 : n ≤ 65535) (h2 : 0 ≤ f) (h3 : f ≤ 472) :
    Calls Try.prog 74 #[.int .i64 n, .int .i64 f] w fun e w' => ∃ v, e = .returned v ∧ OwnCh w' w.heap.size w'.heap.size v (marksL n f) ∧ Upd 0 0 w w' := by
  obtain ⟨m, hm⟩ : ∃ m : Nat, n + 1 = (m : Int) := ⟨(n + 1).toNat, by omega⟩
  have hm1 : 1 ≤ m ∧ m ≤ 65536 := by omega
  have hw : IntKind.i64.wrap (n + 1) = (m : Int) := by rw [hm]; simp [IntKind.wrap, IntKind.bits, IntKind.signed]; omega
  go_enter Try.func74, Try.ntmps74
  go_wp2_with fail
  go_loopw [6] (fun r wr => ∃ (b : Nat), r = .int .i64 (b : Int) ∧ b ≤ 16 ∧ 2 ^ b ≤ m ∧ w = wr) (fun r _ => 64 - (intOf r).toNat)
  case atStart => exact ⟨0, rfl, by omega, by simpa using hm1.1, rfl⟩
  case round =>
    obtain ⟨b, rfl, hb, hbm, rfl⟩ := hrel
    have hb0 : (0 : Int) ≤ (b : Int) + 1 := by omega
    have hb1 : (b : Int) + 1 ≤ 64 := by omega
    replace hbm := hide hbm
    replace hm := hide hm
    clear hw
    by_cases hq : 2 ^ (b + 1) ≤ m
    · have hd : (0 : Int) < (m : Int) / 2 ^ (b + 1) := shr_pos m b hq
      have hgt : decide ((0 : Int) < (m : Int) / 2 ^ (b + 1)) = true := decide_eq_true hd
      have hb16 := shr_16 m b hq hm1.2
      replace hd := hide hd
      replace hq := hide hq
      go_wp2_with fail
      go_roundw
      case rel => exact ⟨b + 1, by simp, by omega, unhide hq, trivial⟩
      case measure => simp [intOf]; omega
    · have hd : ¬ ((0 : Int) < (m : Int) / 2 ^ (b + 1)) := shr_zero m b hq
      have hgt : decide ((0 : Int) < (m : Int) / 2 ^ (b + 1)) = false := decide_eq_false hd
      replace hd := hide hd
      have hbb := hide (markBits_of n b ⟨h0, h1⟩ (by have := unhide hm; have := unhide hbm; omega) (by have := unhide hm; omega))
      clear hq
      go_wp2_with fail
      go_loopw [7, 8] (fun r i wr => ∃ (j : Nat) (ad2 : Option Addr) (cp : Nat) (L : List Ch), r = .slice ad2 L.length cp ∧ i = .int .i64 (j : Int) ∧ j ≤ b ∧ L.length = j ∧ Hid (marksTo n f b j = L) ∧ Hid (wr.ownsRow w.heap.size 38 2 (.slice ad2 L.length cp) L.length (cellsCh L)) ∧ Hid (Below w.heap.size w wr)) (fun _ i _ => b - (intOf i).toNat)
      case atStart => exact ⟨0, none, 0, [], rfl, rfl, by omega, rfl, hide rfl, hide (World.ownsRow_nil _ _ _ _), hide (Below.refl _ _)⟩
      case round =>
        obtain ⟨j, ad2, cp, L, rfl, rfl, hj, hLj, hst, hrow, hbel⟩ := hrel
        by_cases hjb : j < b
        · have hjt : decide ((j : Int) < (b : Int)) = true := decide_eq_true (by omega)
          have hnx := hide (show marksTo n f b (j + 1) = L ++ [(f + (j : Int), 1)] by rw [marksTo_succ, unhide hst, mkAt_lt n f b j hjb])
          clear hst
          replace hLj := hide hLj
          have hLl : L.length ≤ 16 := by have := unhide hLj; omega
          have hrow1 := unhide hrow
          have hbel1 := unhide hbel
          have hsz := hbel1.size
          obtain ⟨i0, hi, hz0, hz1, hz2⟩ := info_parts infoCh
          have hb1 : L.length + 1 ≤ maxLen := by unfold maxLen; omega
          have hb2 : (L.length + 1) * 16 ≤ 140737488355328 := by omega
          have hb3 : w.heap.size ≤ (wr.alloc (.cells #[.int .i64 (f + (j : Int)), .int .i64 1] 38)).heap.size := by simp; omega
          go_wp2_with (at_builtin; refine wpList_append_own_at _ rfl (.tmp 25) (.tmp 30) 32 rfl w.heap.size 38 i0 (.agg #[.int .i64 0, .int .i64 0]) 2 16 Try.underlying32 hi hz0 hz1 hz2 rfl (by decide) (.slice ad2 L.length cp) L.length (cellsCh L) rfl (hrow1.alloc _) ⟨wr.heap.size, 0, none⟩ 1 1 [.int .i64 (f + (j : Int)), .int .i64 1] rfl rfl (twoNewM _ _ _ _) (twoOneM _ _ _ _) hb1 hb2 hb3 ?_)
          intro v' w2 hown' hgrow _ _
          have hbel2 := hide ((hbel1.alloc hsz (.cells #[.int .i64 (f + (j : Int)), .int .i64 1] 38)).grown hgrow (by simp; omega) (fun k hk => (hrow1.lt k hk).1))
          obtain ⟨ad3, cp3, rfl⟩ : ∃ ad3 cp3, v' = .slice ad3 (L.length + 1) cp3 := by
            obtain ⟨g, c, e⟩ := ownsRow_succ hown'
            exact ⟨_, _, e⟩
          have hrow2 : Hid (w2.ownsRow w.heap.size 38 2 (.slice ad3 (L ++ [((f + (j : Int)), 1)]).length cp3) (L ++ [((f + (j : Int)), 1)]).length (cellsCh (L ++ [((f + (j : Int)), 1)]))) := hide (by
            rw [cellsCh_snoc, List.length_append]; exact hown')
          rw [show L.length + 1 = (L ++ [((f + (j : Int)), 1)]).length by simp]
          generalize hLn : L ++ [((f + (j : Int)), 1)] = L2 at hrow2 ⊢
          clear hown' hgrow hrow1 hbel1 hsz hb1 hb2 hb3
          rw [hLn] at hnx
          have hl2 : L2.length = j + 1 := by rw [← hLn, List.length_append, unhide hLj]; rfl
          go_wp2_with fail
          go_roundw
          case rel => exact ⟨j + 1, _, _, L2, rfl, by go_num, by omega, hl2, hnx, hrow2, hbel2⟩
          case measure => simp [intOf]; omega
        · have hjt : decide ((j : Int) < (b : Int)) = false := decide_eq_false (by omega)
          obtain rfl : j = b := by omega
          have hnx := hide (show marksTo n f j (j + 1 + 0) = L ++ [(f + (j : Int), 0)] by rw [Nat.add_zero, marksTo_succ, unhide hst, mkAt_eq n f j])
          clear hst hjb
          replace hLj := hide hLj
          have hLl : L.length ≤ 16 := by have := unhide hLj; omega
          have hrow1 := unhide hrow
          have hbel1 := unhide hbel
          have hsz := hbel1.size
          obtain ⟨i0, hi, hz0, hz1, hz2⟩ := info_parts infoCh
          have hb1 : L.length + 1 ≤ maxLen := by unfold maxLen; omega
          have hb2 : (L.length + 1) * 16 ≤ 140737488355328 := by omega
          have hb3 : w.heap.size ≤ (wr.alloc (.cells #[.int .i64 (f + (j : Int)), .int .i64 0] 38)).heap.size := by simp; omega
          go_wp2_with (at_builtin; refine wpList_append_own_at _ rfl (.tmp 32) (.tmp 37) 32 rfl w.heap.size 38 i0 (.agg #[.int .i64 0, .int .i64 0]) 2 16 Try.underlying32 hi hz0 hz1 hz2 rfl (by decide) (.slice ad2 L.length cp) L.length (cellsCh L) rfl (hrow1.alloc _) ⟨wr.heap.size, 0, none⟩ 1 1 [.int .i64 (f + (j : Int)), .int .i64 0] rfl rfl (twoNewM _ _ _ _) (twoOneM _ _ _ _) hb1 hb2 hb3 ?_)
          intro v' w2 hown' hgrow _ _
          have hbel2 := hide ((hbel1.alloc hsz (.cells #[.int .i64 (f + (j : Int)), .int .i64 0] 38)).grown hgrow (by simp; omega) (fun k hk => (hrow1.lt k hk).1))
          obtain ⟨ad3, cp3, rfl⟩ : ∃ ad3 cp3, v' = .slice ad3 (L.length + 1) cp3 := by
            obtain ⟨g, c, e⟩ := ownsRow_succ hown'
            exact ⟨_, _, e⟩
          have hrow2 : Hid (w2.ownsRow w.heap.size 38 2 (.slice ad3 (L ++ [((f + (j : Int)), 0)]).length cp3) (L ++ [((f + (j : Int)), 0)]).length (cellsCh (L ++ [((f + (j : Int)), 0)]))) := hide (by
            rw [cellsCh_snoc, List.length_append]; exact hown')
          rw [show L.length + 1 = (L ++ [((f + (j : Int)), 0)]).length by simp]
          generalize hLn : L ++ [((f + (j : Int)), 0)] = L2 at hrow2 ⊢
          clear hown' hgrow hrow1 hbel1 hsz hb1 hb2 hb3
          rw [hLn] at hnx
          have hl2 : L2.length = j + 1 + 0 := by rw [← hLn, List.length_append, unhide hLj]; rfl
          clear hLj hLn hLl hrow hbel hjt
          go_wp2_with fail
          rename_i wq
          go_loopw [7, 9] (fun r i wr => ∃ (k : Nat) (ad2 : Option Addr) (cp : Nat) (L : List Ch), r = .slice ad2 L.length cp ∧ i = .int .i64 ((j : Int) - 1 - (k : Int)) ∧ k ≤ j ∧ L.length = j + 1 + k ∧ Hid (marksTo n f j (j + 1 + k) = L) ∧ Hid (wr.ownsRow w.heap.size 38 2 (.slice ad2 L.length cp) L.length (cellsCh L)) ∧ Hid (Below w.heap.size w wr)) (fun _ i _ => (intOf i + 1).toNat)
          case atStart => exact ⟨0, _, _, L2, rfl, by go_num, by omega, hl2, hnx, hrow2, hbel2⟩
          case round =>
            clear hnx hrow2 hbel2 hl2
            obtain ⟨k, ad2, cp, L, rfl, rfl, hk, hLj, hst, hrow, hbel⟩ := hrel
            by_cases hkb : k < j
            · obtain ⟨i, hij⟩ : ∃ i : Nat, j = i + 1 + k := ⟨j - 1 - k, by omega⟩
              have e1 : (j : Int) - 1 - (k : Int) = (i : Int) := by omega
              rw [e1]
              have hjt : decide ((0 : Int) ≤ (i : Int)) = true := decide_eq_true (by omega)
              have hjt2 : decide ((i : Int) < 0) = false := decide_eq_false (by omega)
              have hbit : bits .and .i64 ((m : Int) / 2 ^ i) 1 = (m : Int) / 2 ^ i % 2 := i64_and_1m _
              have hnx := hide (show marksTo n f j (j + 1 + (k + 1)) = L ++ [(f + 20 + (i : Int), (m : Int) / 2 ^ i % 2)] by
                rw [show j + 1 + (k + 1) = j + 1 + k + 1 by omega, marksTo_succ, unhide hst, show j + 1 + k = 2 * j - i by omega, mkAt_gt n f j i (by omega), unhide hm])
              have hi16 : (i : Int) ≤ 16 := by omega
              have hi0 : (0 : Int) ≤ (i : Int) := by omega
              replace hij := hide hij
              have hy : 0 ≤ (m : Int) / 2 ^ i % 2 ∧ (m : Int) / 2 ^ i % 2 ≤ 1 := by
                generalize (m : Int) / 2 ^ i = z
                omega
              generalize (m : Int) / 2 ^ i % 2 = y at hbit hnx hy
              clear hst e1
              replace hLj := hide hLj
              have hLl : L.length ≤ 33 := by have := unhide hLj; omega
              have hrow1 := unhide hrow
              have hbel1 := unhide hbel
              have hsz := hbel1.size
              obtain ⟨i0, hi, hz0, hz1, hz2⟩ := info_parts infoCh
              have hb1 : L.length + 1 ≤ maxLen := by unfold maxLen; omega
              have hb2 : (L.length + 1) * 16 ≤ 140737488355328 := by omega
              have hb3 : w.heap.size ≤ (wr.alloc (.cells #[.int .i64 (f + 20 + (i : Int)), .int .i64 y] 38)).heap.size := by simp; omega
              go_wp2_with (at_builtin; refine wpList_append_own_at _ rfl (.tmp 45) (.tmp 56) 32 rfl w.heap.size 38 i0 (.agg #[.int .i64 0, .int .i64 0]) 2 16 Try.underlying32 hi hz0 hz1 hz2 rfl (by decide) (.slice ad2 L.length cp) L.length (cellsCh L) rfl (hrow1.alloc _) ⟨wr.heap.size, 0, none⟩ 1 1 [.int .i64 (f + 20 + (i : Int)), .int .i64 y] rfl rfl (twoNewM _ _ _ _) (twoOneM _ _ _ _) hb1 hb2 hb3 ?_)
              intro v' w2 hown' hgrow _ _
              have hbel2 := hide ((hbel1.alloc hsz (.cells #[.int .i64 (f + 20 + (i : Int)), .int .i64 y] 38)).grown hgrow (by simp; omega) (fun k hk => (hrow1.lt k hk).1))
              obtain ⟨ad3, cp3, rfl⟩ : ∃ ad3 cp3, v' = .slice ad3 (L.length + 1) cp3 := by
                obtain ⟨g, c, e⟩ := ownsRow_succ hown'
                exact ⟨_, _, e⟩
              have hrow2 : Hid (w2.ownsRow w.heap.size 38 2 (.slice ad3 (L ++ [((f + 20 + (i : Int)), y)]).length cp3) (L ++ [((f + 20 + (i : Int)), y)]).length (cellsCh (L ++ [((f + 20 + (i : Int)), y)]))) := hide (by
                rw [cellsCh_snoc, List.length_append]; exact hown')
              rw [show L.length + 1 = (L ++ [((f + 20 + (i : Int)), y)]).length by simp]
              generalize hLn : L ++ [((f + 20 + (i : Int)), y)] = L2 at hrow2 ⊢
              clear hown' hgrow hrow1 hbel1 hsz hb1 hb2 hb3
              rw [hLn] at hnx
              have hl2 : L2.length = j + 1 + (k + 1) := by rw [← hLn, List.length_append, unhide hLj]; rfl
              replace hij := unhide hij
              go_wp2_with fail
              go_roundw
              case rel => exact ⟨k + 1, _, _, L2, rfl, by first | (congr 1; omega) | go_num, by omega, hl2, hnx, hrow2, hbel2⟩
              case measure => first | (simp [intOf]; done) | (simp [intOf]; omega)
            · obtain rfl : k = j := by omega
              have hjt : decide ((0 : Int) ≤ (k : Int) - 1 - (k : Int)) = false := decide_eq_false (by omega)
              have hF := hide (show marksL n f = L by unfold marksL; rw [unhide hbb, ← unhide hst]; congr 1; omega)
              clear hst hkb
              have hlj := hide hLj
              clear hLj
              go_wp2
              go_ret
              exact ⟨_, rfl, by rw [unhide hF]; exact Own.of (unhide hrow), Upd.of_below (unhide hbel) 0 0⟩
set_option maxRecDepth 100000 in
set_option maxHeartbeats 4000000 in
theorem specMarks (n f : Int) (w : World) (hn0 : -9223372036854775808 ≤ n) (hn1 : n ≤ 9223372036854775807) (hf0 : -9223372036854775808 ≤ f) (hf1 : f ≤ 9223372036854775807) :
    Calls Try.prog 24 #[.int .i64 n, .int .i64 f] w fun e w' => ∃ v, e = .returned v ∧ OwnCh w' w.heap.size w'.heap.size v (marksF n f) ∧ Upd 0 0 w w' := by
  by_cases h1 : MkOk n f
  · obtain ⟨a0, a1, a2, a3⟩ := h1
    have hE : Hid (marksF n f = marksL n f) := hide (by unfold marksF; rw [if_pos ⟨a0, a1, a2, a3⟩])
    have hC := hide (fun X => specL12Marks n f X a0 a1 a2 a3)
    go_enter Try.func24, Try.ntmps24
    go_wp2_with fail
    refine (unhide hC _).mono ?_
    rintro e w1 ⟨v, rfl, ho, hu⟩
    have ho2 := hide ho
    have hu2 := hide hu
    clear ho hu
    go_wp2
    go_ret
    exact ⟨_, rfl, by rw [unhide hE]; exact unhide ho2, unhide hu2⟩
  · have hE : Hid (marksF n f = []) := hide (by unfold marksF; rw [if_neg h1])
    rcases (show n < 0 ∨ (0 ≤ n ∧ 65535 < n) ∨ (0 ≤ n ∧ n ≤ 65535 ∧ f < 0) ∨ (0 ≤ n ∧ n ≤ 65535 ∧ 0 ≤ f ∧ 472 < f) by unfold MkOk at h1; omega) with h | ⟨h, h'⟩ | ⟨h, h', h''⟩ | ⟨h, h', h'', h3⟩
    all_goals
      clear h1
      go_enter Try.func24, Try.ntmps24
      go_wp2
      go_ret
      exact ⟨_, rfl, by rw [unhide hE]; exact own_nilCh _ _ _, Upd.refl _ _ _⟩
end Go.Proofs.Ytocoeodoihdkgaa

/- Plain: sides of pictures. -/
namespace Go.Proofs.Ytocoeodoihdkgaa
open Go.RowKit

def sideB (w : Int) : Bool := decide (1 ≤ w ∧ w ≤ 512)
def sidesB (w h : Int) : Bool := sideB w && sideB h
theorem sideB_yes {w : Int} (h : 1 ≤ w ∧ w ≤ 512) : sideB w = true := decide_eq_true h
theorem sideB_no {w : Int} (h : ¬ (1 ≤ w ∧ w ≤ 512)) : sideB w = false := decide_eq_false h
theorem sideB_iff {w : Int} : sideB w = true ↔ 1 ≤ w ∧ w ≤ 512 := by unfold sideB; simp
theorem sidesB_yes {w h : Int} (a : 1 ≤ w ∧ w ≤ 512) (b : 1 ≤ h ∧ h ≤ 512) : sidesB w h = true := by unfold sidesB; rw [sideB_yes a, sideB_yes b]; rfl
theorem sidesB_no {w h : Int} (a : ¬ ((1 ≤ w ∧ w ≤ 512) ∧ 1 ≤ h ∧ h ≤ 512)) : sidesB w h = false := by
  unfold sidesB
  by_cases h1 : 1 ≤ w ∧ w ≤ 512
  · rw [sideB_yes h1, sideB_no (fun h2 => a ⟨h1, h2⟩)]; rfl
  · rw [sideB_no h1]; rfl
end Go.Proofs.Ytocoeodoihdkgaa

/- Plain: depths of samples, rows of samples packed into bytes. -/
namespace Go.Proofs.Ytocoeodoihdkgaa
open Go.RowKit

def depthOk (d : Int) : Bool := d == 1 || d == 2 || d == 4 || d == 8 || d == 16
theorem depthOk_cases {d : Int} (h : depthOk d = true) : d = 1 ∨ d = 2 ∨ d = 4 ∨ d = 8 ∨ d = 16 := by
  unfold depthOk at h; simp at h; omega
theorem depthOk_nat {d : Int} (h : depthOk d = true) : ∃ D : Nat, d = (D : Int) ∧ 1 ≤ D ∧ D ≤ 16 := by
  rcases depthOk_cases h with e | e | e | e | e <;> subst e
  · exact ⟨1, rfl, by omega, by omega⟩
  · exact ⟨2, rfl, by omega, by omega⟩
  · exact ⟨4, rfl, by omega, by omega⟩
  · exact ⟨8, rfl, by omega, by omega⟩
  · exact ⟨16, rfl, by omega, by omega⟩
theorem two_pow_16 {D : Nat} (h : D ≤ 16) : (0 : Int) < (2 : Int) ^ D ∧ (2 : Int) ^ D ≤ 65536 := by
  have h1 : 2 ^ D ≤ 2 ^ 16 := Nat.pow_le_pow_right (by omega) h
  have h2 : 0 < 2 ^ D := Nat.pow_pos (by omega)
  have e : (2 : Int) ^ D = ((2 ^ D : Nat) : Int) := by simp
  rw [e]; generalize 2 ^ D = y at h1 h2; omega
theorem two_pow_n {D : Nat} : (2 : Int) ^ D = ((2 ^ D : Nat) : Int) := by simp
/-- All samples are in the range of a depth. -/
def SmpOk (zs : List Int) (d : Int) : Prop := ∀ j, j < zs.length → 0 ≤ zs.getD j 0 ∧ zs.getD j 0 < 2 ^ d.toNat
def RowOk (zs : List Int) (d : Int) : Prop := depthOk d = true ∧ zs.length ≤ 4096 ∧ SmpOk zs d
def rowFs (zs : List Int) (d : Int) : List (Int × Int) := zs.map fun x => (d, x)
@[simp] theorem rowFs_length (zs : List Int) (d : Int) : (rowFs zs d).length = zs.length := by simp [rowFs]
theorem rowFs_at (zs : List Int) (d : Int) (k : Nat) (h : k < zs.length) : (rowFs zs d).getD k (0, 0) = (d, zs.getD k 0) := by
  unfold rowFs
  rw [List.getD_eq_getElem?_getD, List.getD_eq_getElem?_getD, List.getElem?_map, List.getElem?_eq_getElem h]; rfl
theorem rowFs_ok {d : Int} (h : depthOk d = true) (zs : List Int) (k : Nat) (hk : k < zs.length) : okF ((rowFs zs d).getD k (0, 0)) := by
  rw [rowFs_at zs d k hk]
  obtain ⟨D, rfl, h1, h2⟩ := depthOk_nat h
  exact ⟨by simp, by simp; omega⟩
noncomputable def rowB (zs : List Int) (d : Int) : List Nat := open Classical in if RowOk zs d then (packTo true (rowFs zs d) zs.length).1 else []
theorem rowB_yes {zs : List Int} {d : Int} (h : RowOk zs d) : rowB zs d = (packTo true (rowFs zs d) zs.length).1 := by unfold rowB; exact if_pos h
theorem rowB_no {zs : List Int} {d : Int} (h : ¬ RowOk zs d) : rowB zs d = [] := by unfold rowB; exact if_neg h
noncomputable def rowF (zs : List Int) (d : Int) : List Int := (rowB zs d).map fun b : Nat => (b : Int)
theorem rowF_no {zs : List Int} {d : Int} (h : ¬ RowOk zs d) : rowF zs d = [] := by unfold rowF; rw [rowB_no h]; rfl
theorem rowF_length (zs : List Int) (d : Int) : (rowF zs d).length = (rowB zs d).length := by simp [rowF]
theorem rowF_byts (zs : List Int) (d : Int) : byts (rowF zs d) = vals (rowB zs d) := by unfold rowF byts vals; simp
theorem row_inv {d : Int} (h : depthOk d = true) (zs : List Int) (k : Nat) (hk : k ≤ zs.length) : Inv true (packTo true (rowFs zs d) k).1 (packTo true (rowFs zs d) k).2 ∧ (packTo true (rowFs zs d) k).2 ≤ 64 * k :=
  packTo_inv true (rowFs zs d) k (by simpa using hk) (fun j hj => rowFs_ok h zs j (by omega))
theorem row_step {zs : List Int} {D : Nat} {k : Nat} (hk : k < zs.length) (u : Nat) (hu : zs.getD k 0 = (u : Int)) :
    (packTo true (rowFs zs D) (k + 1)).1 = ft true u D (packTo true (rowFs zs D) k).1 (packTo true (rowFs zs D) k).2 D ∧ (packTo true (rowFs zs D) (k + 1)).2 = (packTo true (rowFs zs D) k).2 + D := by
  rw [packTo_succ true _ k (by simpa using hk), rowFs_at zs D k hk]
  unfold packStep
  rw [hu]
  exact ⟨rfl, rfl⟩
theorem rowF_len (zs : List Int) (d : Int) : (rowF zs d).length ≤ 1048576 := by
  rw [rowF_length]
  by_cases h : RowOk zs d
  · rw [rowB_yes h]
    have h1 := row_inv h.1 zs zs.length (Nat.le_refl _)
    have h2 := h1.1.1
    have := h.2.1
    omega
  · rw [rowB_no h]; simp
end Go.Proofs.Ytocoeodoihdkgaa

/- How much a list of ints holds. -/
namespace Go.Proofs.Ytocoeodoihdkgaa
open Go.RowKit

theorem bcellU {W w1 : World} (hb : Upd 0 0 W w1) : (∀ b o, b < W.heap.size → w1.cell? ⟨b, o, none⟩ = W.cell? ⟨b, o, none⟩) ∧ (∀ b o, b < W.heap.size → w1.frozen? ⟨b, o, none⟩ = W.frozen? ⟨b, o, none⟩) :=
  ⟨fun b o h => hb.none.cell (p := ⟨b, o, none⟩) h, fun b o h => hb.none.frozen (p := ⟨b, o, none⟩) h⟩

theorem Upd.drew1 (w : World) : Upd 0 0 w w.drew := ⟨rfl, rfl, rfl, Nat.le_refl _, fun _ _ _ => rfl⟩
theorem Own.set {e : TypeId} {s : Nat} {w : World} {a b : Nat} {v : Value} {n : Nat} {xs : List Value} (h : Own e s w a b v n xs) {c : Nat} (hc : c < a) (o : Nat) (u : Value) : Own e s (w.setCell ⟨c, o, none⟩ u) a b v n xs :=
  ⟨ownsRow_setCell_below h.1 hc u, h.2⟩

set_option maxHeartbeats 1000000 in
theorem szIntS_any (ad : Option Addr) (n cap : Nat) (left : Int) (w : World) (h0 : 0 ≤ left) (h1 : left ≤ 1099511627776) (hn : n ≤ 9223372036854775807) :
    Calls Try.prog 113 #[.slice ad n cap, .int .i64 left] w fun e w' => e = .returned (.int .i64 (if left < n then -1 else left - n)) ∧ w' = w := by
  by_cases hlt : left < n
  · rw [if_pos hlt]
    go_enter Try.func113, Try.ntmps113
    go_wp2
    go_ret
    exact ⟨rfl, rfl⟩
  · rw [if_neg hlt]
    go_enter Try.func113, Try.ntmps113
    go_wp2
    go_ret
    exact ⟨rfl, rfl⟩

end Go.Proofs.Ytocoeodoihdkgaa

/- Images as arguments and answers: four numbers and a list; the walks of the laws' own helpers on them. -/
namespace Go.Proofs.Ytocoeodoihdkgaa
open Go.RowKit

abbrev Im := Int × Int × Int × Int × List Int
abbrev imv (d : Im) (vl : Value) : Value := .agg #[.int .i64 d.1, .int .i64 d.2.1, .int .i64 d.2.2.1, .int .i64 d.2.2.2.1, vl]
abbrev imc (d : Im) (vl : Value) : List Value := [.int .i64 d.1, .int .i64 d.2.1, .int .i64 d.2.2.1, .int .i64 d.2.2.2.1, vl]
abbrev ims (d : Im) : List Int := d.2.2.2.2
def RdIm (w : World) (v : Value) (d : Im) : Prop := ∃ vl, v = imv d vl ∧ RdI w vl (ims d)
def OwnIm (w : World) (a b : Nat) (v : Value) (d : Im) : Prop := ∃ vl, v = imv d vl ∧ OwnI w a b vl (ims d)
theorem OwnIm.rd {w : World} {a b : Nat} {v : Value} {d : Im} (h : OwnIm w a b v d) : RdIm w v d := by
  obtain ⟨vl, rfl, h⟩ := h
  exact ⟨vl, rfl, h.rd⟩
theorem RdIm.below {w w' : World} {v : Value} {d : Im} (h : RdIm w v d) (hb : Below w.heap.size w w') : RdIm w' v d := by
  obtain ⟨vl, rfl, h⟩ := h
  exact ⟨vl, rfl, h.below hb⟩
theorem OwnIm.upd {w w' : World} {a b c e : Nat} {v : Value} {d : Im} (h : OwnIm w a b v d) (u : Upd c e w w') (hd : b ≤ c ∨ e ≤ a) : OwnIm w' a b v d := by
  obtain ⟨vl, rfl, h⟩ := h
  exact ⟨vl, rfl, h.upd u hd⟩
theorem OwnIm.keep {w w' : World} {a b : Nat} {v : Value} {d : Im} (h : OwnIm w a b v d) (u : Upd 0 0 w w') : OwnIm w' a b v d := h.upd u (.inr (Nat.zero_le _))
theorem OwnIm.form {w : World} {a b : Nat} {v : Value} {d : Im} (h : OwnIm w a b v d) : ∃ ad cap, v = imv d (.slice ad (ims d).length cap) := by
  obtain ⟨vl, rfl, h⟩ := h
  obtain ⟨ad, cap, rfl, _⟩ := h.rd
  exact ⟨ad, cap, rfl⟩
/-- All numbers fit. -/
def InIm (d : Im) : Prop := (-9223372036854775808 ≤ d.1 ∧ d.1 ≤ 9223372036854775807) ∧ (-9223372036854775808 ≤ d.2.1 ∧ d.2.1 ≤ 9223372036854775807) ∧ (-9223372036854775808 ≤ d.2.2.1 ∧ d.2.2.1 ≤ 9223372036854775807) ∧ (-9223372036854775808 ≤ d.2.2.2.1 ∧ d.2.2.2.1 ≤ 9223372036854775807) ∧ InI (ims d)
def imCount (d : Im) : Nat := (ims d).length
def imMarked (k : Nat) (d : Im) : Im := (d.1, d.2.1, d.2.2.1, d.2.2.2.1, marks k (ims d).length)

end Go.Proofs.Ytocoeodoihdkgaa

/- Planes as arguments and answers; the walks of the laws' own helpers on them. -/
namespace Go.Proofs.Ytocoeodoihdkgaa
open Go.RowKit

abbrev Pl := Int × Int × List Int
abbrev Plv (d : Pl) (vl : Value) : Value := .agg #[.int .i64 d.1, .int .i64 d.2.1, vl]
abbrev Pls (d : Pl) : List Int := d.2.2
def RdPl (w : World) (v : Value) (d : Pl) : Prop := ∃ vl, v = Plv d vl ∧ RdI w vl (Pls d)
def OwnPl (w : World) (a b : Nat) (v : Value) (d : Pl) : Prop := ∃ vl, v = Plv d vl ∧ OwnI w a b vl (Pls d)
theorem OwnPl.rd {w : World} {a b : Nat} {v : Value} {d : Pl} (h : OwnPl w a b v d) : RdPl w v d := by
  obtain ⟨vl, rfl, h⟩ := h
  exact ⟨vl, rfl, h.rd⟩
theorem RdPl.below {w w' : World} {v : Value} {d : Pl} (h : RdPl w v d) (hb : Below w.heap.size w w') : RdPl w' v d := by
  obtain ⟨vl, rfl, h⟩ := h
  exact ⟨vl, rfl, h.below hb⟩
theorem OwnPl.upd {w w' : World} {a b c e : Nat} {v : Value} {d : Pl} (h : OwnPl w a b v d) (u : Upd c e w w') (hd : b ≤ c ∨ e ≤ a) : OwnPl w' a b v d := by
  obtain ⟨vl, rfl, h⟩ := h
  exact ⟨vl, rfl, h.upd u hd⟩
theorem OwnPl.keep {w w' : World} {a b : Nat} {v : Value} {d : Pl} (h : OwnPl w a b v d) (u : Upd 0 0 w w') : OwnPl w' a b v d := h.upd u (.inr (Nat.zero_le _))
theorem OwnPl.form {w : World} {a b : Nat} {v : Value} {d : Pl} (h : OwnPl w a b v d) : ∃ ad cap, v = Plv d (.slice ad (Pls d).length cap) := by
  obtain ⟨vl, rfl, h⟩ := h
  obtain ⟨ad, cap, rfl, _⟩ := h.rd
  exact ⟨ad, cap, rfl⟩
def PlCount (d : Pl) : Nat := (Pls d).length
def PlMarked (k : Nat) (d : Pl) : Pl := (d.1, d.2.1, marks k (Pls d).length)
/-- All numbers fit. -/
def InPl (d : Pl) : Prop := (-9223372036854775808 ≤ d.1 ∧ d.1 ≤ 9223372036854775807) ∧ (-9223372036854775808 ≤ d.2.1 ∧ d.2.1 ≤ 9223372036854775807) ∧ InI d.2.2

end Go.Proofs.Ytocoeodoihdkgaa

/- Plain: good planes. -/
namespace Go.Proofs.Ytocoeodoihdkgaa
open Go.RowKit

def SidesOk (a b : Int) : Prop := (1 ≤ a ∧ a ≤ 512) ∧ (1 ≤ b ∧ b ≤ 512) ∧ a * b ≤ 4096
instance (a b : Int) : Decidable (SidesOk a b) := by unfold SidesOk; infer_instance
def GoodPl (d : Pl) : Prop := SidesOk d.1 d.2.1 ∧ (d.2.2.length : Int) = d.1 * d.2.1 ∧ SmpOk d.2.2 8
noncomputable def goodPlB (d : Pl) : Bool := open Classical in decide (GoodPl d)
theorem goodPlB_yes {d : Pl} (h : GoodPl d) : goodPlB d = true := by unfold goodPlB; simpa using h
theorem goodPlB_no {d : Pl} (h : ¬ GoodPl d) : goodPlB d = false := by unfold goodPlB; simpa using h
theorem prod_side {w h : Int} (hw : 1 ≤ w ∧ w ≤ 512) (hh : 1 ≤ h ∧ h ≤ 512) : ∃ P : Int, w * h = P ∧ 1 ≤ P ∧ P ≤ 262144 := by
  obtain ⟨W, rfl⟩ := Int.eq_ofNat_of_zero_le (show 0 ≤ w by omega)
  obtain ⟨H, rfl⟩ := Int.eq_ofNat_of_zero_le (show 0 ≤ h by omega)
  have h1 : W * H ≤ 512 * 512 := Nat.mul_le_mul (by omega) (by omega)
  have h2 : 1 * 1 ≤ W * H := Nat.mul_le_mul (by omega) (by omega)
  exact ⟨((W * H : Nat) : Int), by simp, by omega, by omega⟩
end Go.Proofs.Ytocoeodoihdkgaa

/- Plain: a plane made smaller. -/
namespace Go.Proofs.Ytocoeodoihdkgaa
open Go.RowKit

/-- The first n samples from x on in row j. -/
def rowSum (zs : List Int) (W j x : Nat) : Nat → Int
  | 0 => 0
  | n + 1 => rowSum zs W j x n + zs.getD (j * W + (x + n)) 0
/-- .. of the first m rows from y on. -/
def boxSum (zs : List Int) (W x nx y : Nat) : Nat → Int
  | 0 => 0
  | m + 1 => boxSum zs W x nx y m + rowSum zs W (y + m) x nx
def manyF (W by_ x : Nat) : Nat := min (x + by_) W - x
def meanF (zs : List Int) (W H by_ x y : Nat) : Int :=
  (boxSum zs W x (manyF W by_ x) y (manyF H by_ y) + ((manyF W by_ x * manyF H by_ y / 2 : Nat) : Int)) / ((manyF W by_ x * manyF H by_ y : Nat) : Int)
def stepsF (n by_ : Nat) : Nat := (n + by_ - 1) / by_
def shrinkL (zs : List Int) (W H by_ : Nat) (k : Nat) : List Int := (List.range k).map fun i => meanF zs W H by_ (i % stepsF W by_ * by_) (i / stepsF W by_ * by_)
theorem shrinkL_zero (zs : List Int) (W H b : Nat) : shrinkL zs W H b 0 = [] := rfl
theorem shrinkL_succ (zs : List Int) (W H b k : Nat) : shrinkL zs W H b (k + 1) = shrinkL zs W H b k ++ [meanF zs W H b (k % stepsF W b * b) (k / stepsF W b * b)] := by
  unfold shrinkL; rw [List.range_succ, List.map_append]; rfl
@[simp] theorem shrinkL_length (zs : List Int) (W H b k : Nat) : (shrinkL zs W H b k).length = k := by simp [shrinkL]
theorem smp_bd {zs : List Int} (h : SmpOk zs 8) (k : Nat) : 0 ≤ zs.getD k 0 ∧ zs.getD k 0 ≤ 255 := by
  by_cases hk : k < zs.length
  · have h1 := h k hk
    have h2 : zs.getD k 0 < 2 ^ 8 := h1.2
    exact ⟨h1.1, by omega⟩
  · rw [List.getD_eq_getElem?_getD, List.getElem?_eq_none (by omega)]; simp
theorem rowSum_bd {zs : List Int} (h : SmpOk zs 8) (W j x n : Nat) : 0 ≤ rowSum zs W j x n ∧ rowSum zs W j x n ≤ 255 * n := by
  induction n with
  | zero => unfold rowSum; omega
  | succ n ih => have := smp_bd h (j * W + (x + n)); unfold rowSum; omega
theorem boxSum_bd {zs : List Int} (h : SmpOk zs 8) (W x nx y m : Nat) (hx : nx ≤ 4) : 0 ≤ boxSum zs W x nx y m ∧ boxSum zs W x nx y m ≤ 1020 * m := by
  induction m with
  | zero => unfold boxSum; omega
  | succ m ih => have := rowSum_bd h W (y + m) x nx; unfold boxSum; omega
theorem manyF_bd {W b x : Nat} (hx : x < W) (hb : 1 ≤ b) : 1 ≤ manyF W b x ∧ manyF W b x ≤ b ∧ x + manyF W b x ≤ W ∧ x + manyF W b x = min (x + b) W := by unfold manyF; omega
theorem stepsF_lt {W b i : Nat} (hb : b = 2 ∨ b = 4) (hi : i < stepsF W b) : i * b < W := by
  unfold stepsF at hi
  rcases hb with rfl | rfl <;> omega
theorem stepsF_bd {W b : Nat} (hb : b = 2 ∨ b = 4) (hW : 1 ≤ W) : 1 ≤ stepsF W b ∧ stepsF W b ≤ W := by
  unfold stepsF
  rcases hb with rfl | rfl <;> omega
/-- What Shrink answers. -/
noncomputable def shrinkF (d : Pl) (b : Int) : Pl :=
  open Classical in if GoodPl d ∧ (b = 2 ∨ b = 4) then (((stepsF d.1.toNat b.toNat : Nat) : Int), ((stepsF d.2.1.toNat b.toNat : Nat) : Int), shrinkL d.2.2 d.1.toNat d.2.1.toNat b.toNat (stepsF d.1.toNat b.toNat * stepsF d.2.1.toNat b.toNat)) else (0, 0, [])
theorem shrinkF_yes {d : Pl} {b : Int} (h : GoodPl d) (hb : b = 2 ∨ b = 4) : shrinkF d b = (((stepsF d.1.toNat b.toNat : Nat) : Int), ((stepsF d.2.1.toNat b.toNat : Nat) : Int), shrinkL d.2.2 d.1.toNat d.2.1.toNat b.toNat (stepsF d.1.toNat b.toNat * stepsF d.2.1.toNat b.toNat)) := by
  unfold shrinkF; rw [if_pos ⟨h, hb⟩]
theorem shrinkF_no {d : Pl} {b : Int} (h : ¬ (GoodPl d ∧ (b = 2 ∨ b = 4))) : shrinkF d b = (0, 0, []) := by
  unfold shrinkF; rw [if_neg h]
theorem shrinkF_len (d : Pl) (b : Int) : (shrinkF d b).2.2.length ≤ 1048576 := by
  by_cases h : GoodPl d ∧ (b = 2 ∨ b = 4)
  · rw [shrinkF_yes h.1 h.2]
    simp only [shrinkL_length]
    obtain ⟨⟨h1, h2, _⟩, _⟩ := h.1
    obtain ⟨b, rfl⟩ := Int.eq_ofNat_of_zero_le (show 0 ≤ b by omega)
    have hb : b = 2 ∨ b = 4 := by omega
    have e1 := (stepsF_bd (W := d.1.toNat) hb (by omega)).2
    have e2 := (stepsF_bd (W := d.2.1.toNat) hb (by omega)).2
    rw [Int.toNat_natCast]
    exact Nat.le_trans (Nat.mul_le_mul (Nat.le_trans e1 (show d.1.toNat ≤ 512 by omega)) (Nat.le_trans e2 (show d.2.1.toNat ≤ 512 by omega))) (by omega)
  · rw [shrinkF_no h]; simp
end Go.Proofs.Ytocoeodoihdkgaa

/- A region that draws its order, whose operations read old memory and whose calls only lay new blocks: one walk of the text's order serves. -/
namespace Go.Proofs.Ytocoeodoihdkgaa
open Go.RowKit

/-- The worlds in which all that was there is as it was. -/
def UpdT (w : World) : Type := { w' : World // Upd 0 0 w w' }
def UpdT.to {w : World} (x : UpdT w) : World := x.1
instance (w : World) : Nonempty (UpdT w) := ⟨⟨w, Upd.refl _ _ _⟩⟩
theorem UpdT.upd {w : World} (x : UpdT w) : Upd 0 0 w x.to := x.2
theorem wp_region_upd {P : Program} {id : Nat} {Q : Exit → Act → World → Prop} {a : Act} {w : World} {l : List Oper} (hm : P.follows .mixedOrders = true) (hB : Region.lexB .any l.toArray = true)
    (h : wpQuiet P l.toArray (fun w' => ∃ x : UpdT w, w' = x.to) (fun a' => ∀ w', (∃ x : UpdT w, w' = x.to) → Q .normal a' w') l a) : (Code.region id l.toArray true).wp P Q a w :=
  wp_region_quiet (C := fun w' => ∃ x : UpdT w, w' = x.to) hm hB ⟨⟨{ w with drawn := w.drawn + 1 }, ⟨rfl, rfl, rfl, Nat.le_refl _, fun _ _ _ => rfl⟩⟩, rfl⟩ (by simpa using h)
/-- A call that only lays new blocks, in such a world. -/
theorem Calls.updT {P : Program} {f : FuncId} {args : Array Value} {w : World} {v : Value} (x : UpdT w) (h : Calls P f args x.to fun e w' => e = .returned v ∧ Upd 0 0 x.to w') :
    Calls P f args x.to fun e w' => e = .returned v ∧ ∃ y : UpdT w, w' = y.to :=
  h.mono fun _ w' ⟨he, hu⟩ => ⟨he, ⟨w', x.upd.trans hu⟩, rfl⟩
theorem Calls.updT_same {P : Program} {f : FuncId} {args : Array Value} {w : World} {v : Value} (x : UpdT w) (h : Calls P f args x.to fun e w' => e = .returned v ∧ w' = x.to) :
    Calls P f args x.to fun e w' => e = .returned v ∧ ∃ y : UpdT w, w' = y.to :=
  h.mono fun _ _ ⟨he, hw⟩ => ⟨he, x, hw⟩
theorem Held.updT {w : World} {g : Nat} {cs : List Value} (h : Held w g cs) (x : UpdT w) : Held x.to g cs := h.keep x.upd
end Go.Proofs.Ytocoeodoihdkgaa

/- The walk of a region that draws its order, behind a wrapper that no elaborator looks through (a guard's test is then never evaluated unasked). -/
namespace Go.Proofs.Ytocoeodoihdkgaa
open Go.RowKit

structure WQ (P : Program) (ops : Array Oper) (C : World → Prop) (Q : Act → Prop) (l : List Oper) (a : Act) : Prop where
  h : wpQuiet P ops C Q l a
theorem WQ.nil {P : Program} {ops : Array Oper} {C : World → Prop} {Q : Act → Prop} {a : Act} (h : Q a) : WQ P ops C Q [] a := ⟨h⟩
theorem WQ.step {P : Program} {ops : Array Oper} {C : World → Prop} {Q : Act → Prop} {a : Act} {o : Oper} {rest : List Oper}
    (h : ∀ K : Act → Prop, (∀ a, WQ P ops C Q rest a → K a) → if Region.wanted o (yielded ops a.tmps) then o.quiet P a C K else K (a.put o.dst undef)) : WQ P ops C Q (o :: rest) a :=
  ⟨wpQuiet_step (fun K hK => h K (fun a ha => hK a ha.h))⟩
theorem wq_region_upd {P : Program} {id : Nat} {Q : Exit → Act → World → Prop} {a : Act} {w : World} {l : List Oper} (hm : P.follows .mixedOrders = true) (hB : Region.lexB .any l.toArray = true)
    (h : WQ P l.toArray (fun w' => ∃ x : UpdT w, w' = x.to) (fun a' => ∀ w', (∃ x : UpdT w, w' = x.to) → Q .normal a' w') l a) : (Code.region id l.toArray true).wp P Q a w :=
  wp_region_upd hm hB h.h
end Go.Proofs.Ytocoeodoihdkgaa

/- The program's samples of a plane, and means of them. -/
namespace Go.Proofs.Ytocoeodoihdkgaa
open Go.RowKit

/-- A good plane's facts, in natural numbers. -/
structure PlOk (W H : Nat) (zs : List Int) : Prop where
  w : 1 ≤ W ∧ W ≤ 512
  h : 1 ≤ H ∧ H ≤ 512
  l : zs.length = W * H
  m : W * H ≤ 4096
  s : SmpOk zs 8
theorem GoodPl.nat {a b : Int} {zs : List Int} (h : GoodPl (a, b, zs)) : ∃ W H : Nat, a = W ∧ b = H ∧ PlOk W H zs := by
  obtain ⟨⟨h1, h2, h3⟩, hl, hs⟩ := h
  simp only at h1 h2 h3 hl hs
  obtain ⟨W, rfl⟩ := Int.eq_ofNat_of_zero_le (show 0 ≤ a by omega)
  obtain ⟨H, rfl⟩ := Int.eq_ofNat_of_zero_le (show 0 ≤ b by omega)
  have e : (W : Int) * (H : Int) = ((W * H : Nat) : Int) := by simp
  exact ⟨W, H, rfl, rfl, ⟨by omega, by omega, by omega, by omega, hs⟩⟩
theorem PlOk.at_lt {W H : Nat} {zs : List Int} (h : PlOk W H zs) {x y : Nat} (hx : x < W) (hy : y < H) : y * W + x < zs.length ∧ y * W ≤ 4096 := by
  have h1 : (y + 1) * W ≤ H * W := Nat.mul_le_mul hy (Nat.le_refl _)
  have h2 := h.m
  rw [h.l, Nat.mul_comm W H]
  rw [Nat.mul_comm W H] at h2
  rw [Nat.add_mul, Nat.one_mul] at h1
  omega

end Go.Proofs.Ytocoeodoihdkgaa

/- Plain: a plane in other sides. -/
namespace Go.Proofs.Ytocoeodoihdkgaa
open Go.RowKit

/-- Where a sample comes from, in parts of 256. -/
def fromF (x old new : Nat) : Nat := (2 * x + 1) * old * 256 / (2 * new) - 128
/-- A sample, the nearest one where there is none. -/
def nearF (zs : List Int) (W H x y : Nat) : Int := zs.getD (min y (H - 1) * W + min x (W - 1)) 0
def topF (zs : List Int) (W H s j : Nat) : Int := (256 - ((s % 256 : Nat) : Int)) * nearF zs W H (s / 256) j + ((s % 256 : Nat) : Int) * nearF zs W H (s / 256 + 1) j
def blendF (zs : List Int) (W H s t : Nat) : Int := ((256 - ((t % 256 : Nat) : Int)) * topF zs W H s (t / 256) + ((t % 256 : Nat) : Int) * topF zs W H s (t / 256 + 1) + 32768) / 65536
def resizeL (zs : List Int) (W H w h k : Nat) : List Int := (List.range k).map fun i => blendF zs W H (fromF (i % w) W w) (fromF (i / w) H h)
theorem resizeL_zero (zs : List Int) (W H w h : Nat) : resizeL zs W H w h 0 = [] := rfl
theorem resizeL_succ (zs : List Int) (W H w h k : Nat) : resizeL zs W H w h (k + 1) = resizeL zs W H w h k ++ [blendF zs W H (fromF (k % w) W w) (fromF (k / w) H h)] := by
  unfold resizeL; rw [List.range_succ, List.map_append]; rfl
@[simp] theorem resizeL_length (zs : List Int) (W H w h k : Nat) : (resizeL zs W H w h k).length = k := by simp [resizeL]
theorem mul_bd {a b m n : Int} (a0 : 0 ≤ a) (a1 : a ≤ m) (b0 : 0 ≤ b) (b1 : b ≤ n) : 0 ≤ a * b ∧ a * b ≤ m * n :=
  ⟨Int.mul_nonneg a0 b0, Int.mul_le_mul a1 b1 b0 (Int.le_trans a0 a1)⟩
theorem nearF_bd {zs : List Int} (h : SmpOk zs 8) (W H x y : Nat) : 0 ≤ nearF zs W H x y ∧ nearF zs W H x y ≤ 255 := smp_bd h _
theorem fromF_bd {x W w : Nat} (hx : x < w) (hW : W ≤ 512) : fromF x W w ≤ 131072 := by
  unfold fromF
  have h0 : W * 256 ≤ 131072 := by omega
  have h1 : (2 * x + 1) * W * 256 ≤ (2 * w) * 131072 := by
    rw [Nat.mul_assoc]
    exact Nat.mul_le_mul (by omega) h0
  have h2 : (2 * x + 1) * W * 256 / (2 * w) ≤ 131072 := Nat.div_le_of_le_mul h1
  generalize (2 * x + 1) * W * 256 / (2 * w) = q at h2
  omega
theorem topF_bd {zs : List Int} (h : SmpOk zs 8) (W H s j : Nat) : 0 ≤ topF zs W H s j ∧ topF zs W H s j ≤ 65280 := by
  have a := nearF_bd h W H (s / 256) j
  have b := nearF_bd h W H (s / 256 + 1) j
  unfold topF
  generalize nearF zs W H (s / 256) j = p at a
  generalize nearF zs W H (s / 256 + 1) j = q at b
  have hf : s % 256 < 256 := Nat.mod_lt _ (by omega)
  generalize s % 256 = f at hf
  have h1 : (256 - (f : Int)) * p ≤ (256 - (f : Int)) * 255 := Int.mul_le_mul_of_nonneg_left a.2 (by omega)
  have h2 : (f : Int) * q ≤ (f : Int) * 255 := Int.mul_le_mul_of_nonneg_left b.2 (by omega)
  have h3 : 0 ≤ (256 - (f : Int)) * p := Int.mul_nonneg (by omega) a.1
  have h4 : 0 ≤ (f : Int) * q := Int.mul_nonneg (by omega) b.1
  generalize (256 - (f : Int)) * p = P at h1 h3
  generalize (f : Int) * q = Q at h2 h4
  omega
/-- What Resize answers. -/
noncomputable def resizeF (d : Pl) (w h : Int) : Pl :=
  open Classical in if GoodPl d ∧ SidesOk w h then (w, h, resizeL d.2.2 d.1.toNat d.2.1.toNat w.toNat h.toNat (w.toNat * h.toNat)) else (0, 0, [])
theorem resizeF_yes {d : Pl} {w h : Int} (a : GoodPl d) (b : SidesOk w h) : resizeF d w h = (w, h, resizeL d.2.2 d.1.toNat d.2.1.toNat w.toNat h.toNat (w.toNat * h.toNat)) := by
  unfold resizeF; rw [if_pos ⟨a, b⟩]
theorem resizeF_no {d : Pl} {w h : Int} (a : ¬ (GoodPl d ∧ SidesOk w h)) : resizeF d w h = (0, 0, []) := by
  unfold resizeF; rw [if_neg a]
theorem resizeF_len (d : Pl) (w h : Int) : (resizeF d w h).2.2.length ≤ 1048576 := by
  by_cases a : GoodPl d ∧ SidesOk w h
  · rw [resizeF_yes a.1 a.2]
    simp only [resizeL_length]
    obtain ⟨h1, h2, _⟩ := a.2
    exact Nat.le_trans (Nat.mul_le_mul (show w.toNat ≤ 512 by omega) (show h.toNat ≤ 512 by omega)) (by omega)
  · rw [resizeF_no a]; simp
end Go.Proofs.Ytocoeodoihdkgaa

/- The specification's Resize: where samples come from. -/
namespace Go.Proofs.Ytocoeodoihdkgaa
open Go.RowKit

theorem wrapI {x : Int} (h : -9223372036854775808 ≤ x ∧ x ≤ 9223372036854775807) : IntKind.i64.wrap x = x := by
  simp [IntKind.wrap, IntKind.bits, IntKind.signed]; omega
theorem i64_and_255 (n : Nat) : bits .and .i64 (n : Int) 255 = ((n % 256 : Nat) : Int) := by
  have h1 : (BitVec.ofInt 64 255).toNat = 2 ^ 8 - 1 := by decide
  have key : (BitVec.ofInt 64 (n : Int) &&& BitVec.ofInt 64 255).toNat = ((n : Int) % ((2 ^ 64 : Nat) : Int)).toNat % 2 ^ 8 := by
    rw [BitVec.toNat_and, BitVec.toNat_ofInt, h1, Nat.and_two_pow_sub_one_eq_mod]
  show IntKind.i64.wrap ((BitVec.ofInt 64 (n : Int) &&& BitVec.ofInt 64 255).toNat : Nat) = _
  rw [key, IntKind.wrap_i64]
  omega
end Go.Proofs.Ytocoeodoihdkgaa

/- Plain: colours of three numbers. -/
namespace Go.Proofs.Ytocoeodoihdkgaa
open Go.RowKit

def clipF (n : Int) : Int := if n < 0 then 0 else if 255 < n then 255 else n
theorem clipF_bd (n : Int) : 0 ≤ clipF n ∧ clipF n ≤ 255 := by unfold clipF; split <;> (try split) <;> omega
theorem clipF_low {n : Int} (h : n < 0) : clipF n = 0 := by unfold clipF; rw [if_pos h]
theorem clipF_high {n : Int} (h : 255 < n) : clipF n = 255 := by unfold clipF; rw [if_neg (by omega), if_pos h]
theorem clipF_in {n : Int} (h0 : ¬ n < 0) (h : ¬ 255 < n) : clipF n = n := by unfold clipF; rw [if_neg h0, if_neg h]
def yOf (r g b : Int) : Int := clipF ((77 * r + 150 * g + 29 * b + 128) / 256)
def cbOf (r g b : Int) : Int := clipF ((-43 * r - 85 * g + 128 * b + 128) / 256 + 128)
def crOf (r g b : Int) : Int := clipF ((128 * r - 107 * g - 21 * b + 128) / 256 + 128)
def brightF (d : Int × Int × Int) : Int × Int × Int := (yOf (clipF d.1) (clipF d.2.1) (clipF d.2.2), cbOf (clipF d.1) (clipF d.2.1) (clipF d.2.2), crOf (clipF d.1) (clipF d.2.1) (clipF d.2.2))
def rOf (y _u v : Int) : Int := clipF (y + (359 * v + 128) / 256)
def gOf (y u v : Int) : Int := clipF (y - (88 * u + 183 * v + 128) / 256)
def bOf (y u _v : Int) : Int := clipF (y + (454 * u + 128) / 256)
def unbrightF (d : Int × Int × Int) : Int × Int × Int := (rOf (clipF d.1) (clipF d.2.1 - 128) (clipF d.2.2 - 128), gOf (clipF d.1) (clipF d.2.1 - 128) (clipF d.2.2 - 128), bOf (clipF d.1) (clipF d.2.1 - 128) (clipF d.2.2 - 128))
def Near (m : Int) (d : Int × Int × Int) : Prop := (-m ≤ d.1 ∧ d.1 ≤ m) ∧ (-m ≤ d.2.1 ∧ d.2.1 ≤ m) ∧ (-m ≤ d.2.2 ∧ d.2.2 ≤ m)
instance (m : Int) (d : Int × Int × Int) : Decidable (Near m d) := by unfold Near; infer_instance
def liftF (d : Int × Int × Int) : Int × Int × Int := if Near 1000000 d then ((d.1 + 2 * d.2.1 + d.2.2) / 4, d.2.2 - d.2.1, d.1 - d.2.1) else (0, 0, 0)
def unliftG (d : Int × Int × Int) : Int := d.1 - (d.2.1 + d.2.2) / 4
def unliftF (d : Int × Int × Int) : Int × Int × Int := if Near 4000000 d ∧ Near 1000000 (d.2.2 + unliftG d, unliftG d, d.2.1 + unliftG d) then (d.2.2 + unliftG d, unliftG d, d.2.1 + unliftG d) else (0, 0, 0)
theorem unlift_lift {d : Int × Int × Int} (h : Near 1000000 d) : unliftF (liftF d) = d := by
  obtain ⟨r, g, b⟩ := d
  unfold liftF
  rw [if_pos h]
  obtain ⟨⟨h1, h2⟩, ⟨h3, h4⟩, h5, h6⟩ := h
  simp only at h1 h2 h3 h4 h5 h6
  have e : unliftG ((r + 2 * g + b) / 4, b - g, r - g) = g := by unfold unliftG; simp only; omega
  unfold unliftF
  rw [e, if_pos]
  · simp only [Prod.mk.injEq]; exact ⟨by omega, trivial, by omega⟩
  · unfold Near; simp only; omega
theorem yOf_bd (r g b : Int) (hr : 0 ≤ r ∧ r ≤ 255) (hg : 0 ≤ g ∧ g ≤ 255) (hb : 0 ≤ b ∧ b ≤ 255) : yOf r g b = (77 * r + 150 * g + 29 * b + 128) / 256 := by
  unfold yOf; rw [clipF_in (by omega) (by omega)]
theorem red_near (r g b : Int) (hr : 0 ≤ r ∧ r ≤ 255) (hg : 0 ≤ g ∧ g ≤ 255) (hb : 0 ≤ b ∧ b ≤ 255) : -2 ≤ r - rOf (yOf r g b) (cbOf r g b - 128) (crOf r g b - 128) ∧ r - rOf (yOf r g b) (cbOf r g b - 128) (crOf r g b - 128) ≤ 2 := by
  rw [yOf_bd r g b hr hg hb]
  unfold rOf crOf clipF
  split <;> (try split) <;> (try split) <;> (try split) <;> omega
theorem green_near (r g b : Int) (hr : 0 ≤ r ∧ r ≤ 255) (hg : 0 ≤ g ∧ g ≤ 255) (hb : 0 ≤ b ∧ b ≤ 255) : -2 ≤ g - gOf (yOf r g b) (cbOf r g b - 128) (crOf r g b - 128) ∧ g - gOf (yOf r g b) (cbOf r g b - 128) (crOf r g b - 128) ≤ 2 := by
  rw [yOf_bd r g b hr hg hb]
  unfold gOf cbOf crOf clipF
  split <;> (try split) <;> (try split) <;> (try split) <;> (try split) <;> (try split) <;> omega
theorem blue_near (r g b : Int) (hr : 0 ≤ r ∧ r ≤ 255) (hg : 0 ≤ g ∧ g ≤ 255) (hb : 0 ≤ b ∧ b ≤ 255) : -2 ≤ b - bOf (yOf r g b) (cbOf r g b - 128) (crOf r g b - 128) ∧ b - bOf (yOf r g b) (cbOf r g b - 128) (crOf r g b - 128) ≤ 2 := by
  rw [yOf_bd r g b hr hg hb]
  unfold bOf cbOf clipF
  split <;> (try split) <;> (try split) <;> (try split) <;> omega
theorem grey_bright (g : Int) (hg : 0 ≤ g ∧ g ≤ 255) : brightF (g, g, g) = (g, 128, 128) := by
  unfold brightF
  simp only
  rw [clipF_in (by omega) (by omega)]
  unfold yOf cbOf crOf
  simp only [Prod.mk.injEq]
  refine ⟨?_, ?_, ?_⟩
  · rw [clipF_in (by omega) (by omega)]; omega
  · rw [clipF_in (by omega) (by omega)]; omega
  · rw [clipF_in (by omega) (by omega)]; omega
end Go.Proofs.Ytocoeodoihdkgaa

/- Triples as arguments and answers; the walks of the laws' own helpers on them. -/
namespace Go.Proofs.Ytocoeodoihdkgaa
open Go.RowKit

abbrev Tr := Int × Int × Int
abbrev Trv (d : Tr) : Value := .agg #[.int .i64 d.1, .int .i64 d.2.1, .int .i64 d.2.2]
def RdTr (_w : World) (v : Value) (d : Tr) : Prop := v = Trv d 
def OwnTr (_w : World) (_a _b : Nat) (v : Value) (d : Tr) : Prop := v = Trv d
theorem OwnTr.rd {w : World} {a b : Nat} {v : Value} {d : Tr} (h : OwnTr w a b v d) : RdTr w v d := by
  exact h
theorem RdTr.below {w w' : World} {v : Value} {d : Tr} (h : RdTr w v d) (_hb : Below w.heap.size w w') : RdTr w' v d := by
  exact h
theorem OwnTr.upd {w w' : World} {a b c e : Nat} {v : Value} {d : Tr} (h : OwnTr w a b v d) (_u : Upd c e w w') (_hd : b ≤ c ∨ e ≤ a) : OwnTr w' a b v d := by
  exact h
theorem OwnTr.keep {w w' : World} {a b : Nat} {v : Value} {d : Tr} (h : OwnTr w a b v d) (u : Upd 0 0 w w') : OwnTr w' a b v d := h.upd u (.inr (Nat.zero_le _))
theorem OwnTr.form {w : World} {a b : Nat} {v : Value} {d : Tr} (h : OwnTr w a b v d) : v = Trv d := h
/-- All numbers fit. -/
def InTr (d : Tr) : Prop := (-9223372036854775808 ≤ d.1 ∧ d.1 ≤ 9223372036854775807) ∧ (-9223372036854775808 ≤ d.2.1 ∧ d.2.1 ≤ 9223372036854775807) ∧ (-9223372036854775808 ≤ d.2.2 ∧ d.2.2 ≤ 9223372036854775807)
def TrSize (_d : Tr) : Nat := 0
def TrCount (_d : Tr) : Nat := 0
def TrMarked (_k : Nat) (d : Tr) : Tr := d

end Go.Proofs.Ytocoeodoihdkgaa

/- The program's colours: clipping. -/
namespace Go.Proofs.Ytocoeodoihdkgaa
open Go.RowKit

set_option maxHeartbeats 4000000 in
set_option maxRecDepth 100000 in
theorem implRound8 (n : Int) (w : World) (h0 : -1152921504606846976 ≤ n) (h1 : n ≤ 1152921504606846976) : Calls Try.prog 108 #[.int .i64 n, .int .i64 8] w fun e w' => e = .returned (.int .i64 ((n + 128) / 256)) ∧ w' = w := by
  go_enter Try.func108, Try.ntmps108
  go_wp2
  go_ret
  exact ⟨rfl, rfl⟩
theorem implRound4 (n : Int) (w : World) (h0 : -1152921504606846976 ≤ n) (h1 : n ≤ 1152921504606846976) : Calls Try.prog 108 #[.int .i64 n, .int .i64 4] w fun e w' => e = .returned (.int .i64 ((n + 8) / 16)) ∧ w' = w := by
  go_enter Try.func108, Try.ntmps108
  go_wp2
  go_ret
  exact ⟨rfl, rfl⟩
theorem implRound16 (n : Int) (w : World) (h0 : -1152921504606846976 ≤ n) (h1 : n ≤ 1152921504606846976) : Calls Try.prog 108 #[.int .i64 n, .int .i64 16] w fun e w' => e = .returned (.int .i64 ((n + 32768) / 65536)) ∧ w' = w := by
  go_enter Try.func108, Try.ntmps108
  go_wp2
  go_ret
  exact ⟨rfl, rfl⟩
end Go.Proofs.Ytocoeodoihdkgaa

/- A region that draws its order: a head of operations that are quiet in a class of worlds (loads, arithmetic, calls that lay new blocks alone), and a tail that waits for all of them: the head is walked once, in the text's order; the tail behind it. -/
namespace Go.Proofs.Ytocoeodoihdkgaa
open Go.RowKit

section
variable {P : Program} {ops : Array Oper} {md : Region.Mode} {C : World → Prop}
/-- Whatever order is picked among the first n, with 'L' to be shown behind them. -/
def wpHeadQ (P : Program) (md : Region.Mode) (ops : Array Oper) (C : World → Prop) (n : Nat) (L : Array Bool → Act → Prop) : Nat → Array Bool → Act → Prop
  | 0, b, a => L b a
  | f + 1, b, a => Region.ready md ops b ≠ [] ∧ ∀ i ∈ Region.ready md ops b, i < n ∧ qOp P ops C i (wpHeadQ P md ops C n L f (b.setIfInBounds i true)) a
theorem wpAny_of_headQ {n g : Nat} {L : Array Bool → Act → Prop} {Q' : Exit → Act → World → Prop} (hL : ∀ b a w, C w → L b a → wpAny P md ops Q' g b a w) (f : Nat) :
    ∀ (b : Array Bool) (a : Act) (w : World), C w → wpHeadQ P md ops C n L f b a → wpAny P md ops Q' (f + g) b a w := by
  induction f with
  | zero => intro b a w hC h; rw [Nat.zero_add]; exact hL _ _ _ hC h
  | succ f ih =>
    intro b a w hC h
    rw [show f + 1 + g = (f + g) + 1 by omega]
    exact ⟨fun h0 => absurd h0 h.1, fun i hi => wpOp_of_qOp hC (fun a' w' hC' h' => ih _ a' w' hC' h') (h.2 i hi).2⟩
theorem wpHeadQ_first {n i : Nat} {oi : Oper} {v : Value} {L : Array Bool → Act → Prop} (hi : ops[i]? = some oi) (hsel : ∀ (j : Nat) (o : Oper) cs b, ops[j]? = some o → o.op ≠ .select cs b)
    (hs : Region.sinkB md ops n = true) (hc : Region.chainB md ops n = true) (hn : n < ops.size) (hin : i < n) (hdone : ∀ b a, L b a → ∀ j ∈ Region.ready md ops b, n ≤ j) (f : Nat) :
    ∀ (b : Array Bool) (a : Act), HeadInv md ops n b →
      (∀ j oj, ops[j]? = some oj → j ≠ i → b.getD j true = false → (∀ e ∈ oj.after, Region.binds md e = true → e.on ≠ i) → oi.apart ops oj = true) →
      i ∈ Region.ready md ops b → YieldsIn P ops C oi v a →
      wpHeadQ P md ops C n L f (b.setIfInBounds i true) (a.put oi.dst v) → wpHeadQ P md ops C n L (f + 1) b a := by
  induction f with
  | zero =>
    intro b a inv _ hr hy H
    refine ⟨fun h => (by rw [h] at hr; cases hr), fun j hj => ?_⟩
    have hjn : j < n := Nat.lt_of_not_le fun h => tail_waits hs hc hn inv _ i rfl hin (mem_ready.1 hr).1 j h hj
    refine ⟨hjn, ?_⟩
    by_cases hji : j = i
    · subst hji; exact hy.qOp hi H
    · exact absurd (hdone _ _ H j (ready_mono hj hji)) (by omega)
  | succ f ih =>
    intro b a inv hfree hr hy H
    refine ⟨fun h => (by rw [h] at hr; cases hr), fun j hj => ?_⟩
    have hun := (mem_ready.1 hr).1
    have hjn : j < n := Nat.lt_of_not_le fun h => tail_waits hs hc hn inv _ i rfl hin hun j h hj
    refine ⟨hjn, ?_⟩
    by_cases hji : j = i
    · subst hji; exact hy.qOp hi H
    · obtain ⟨hjun, oj, hoj, hall⟩ := mem_ready.1 hj
      have hnot : ∀ e ∈ oj.after, Region.binds md e = true → e.on ≠ i := fun e he hb heq => by
        have h1 := hall e he hb
        rw [heq, getD_both hun] at h1
        cases h1
      have h2 := qOp_put hoj (hfree j oj hoj hji hjun hnot) (fun cs b => hsel i oi cs b hi) (fun cs b => hsel j oj cs b hoj) hy (H.2 j (ready_mono hj hji)).2
      refine qOp_mono (fun a' h3 => ih (b.setIfInBounds j true) a' (inv.set hj hjn) (fun k ok hk hki hun' hno => hfree k ok hk hki ?_ hno) (ready_mono hr (Ne.symm hji)) h3.1 ?_) h2
      · by_cases hjk : j = k
        · subst hjk; exact hjun
        · rw [getD_set_ne true hjk] at hun'; exact hun'
      · rw [Array.setIfInBounds_comm _ _ hji]
        exact h3.2
theorem wpHeadQ_lex {n g : Nat} {Lq : Act → Prop} (hsel : Region.noSelect ops = true) (hs : Region.sinkB md ops n = true) (hc : Region.chainB md ops n = true) (hn : n < ops.size) (l : List Oper) :
    ∀ (k : Nat) (b : Array Bool) (a : Act), (∀ j, j < l.length → l[j]? = ops[k + j]?) → k + l.length = n → HeadInv md ops n b →
    Region.lexHead md ops g l.length k b = true → wpQuiet P ops C Lq l a → wpHeadQ P md ops C n (fun b' a' => Region.seqB md ops g n b' = true ∧ Lq a') l.length b a := by
  induction l with
  | nil =>
    intro k b a hl hk inv hB h
    have hkn : k = n := by simpa using hk
    subst hkn
    exact ⟨by simpa [Region.lexHead] using hB, h⟩
  | cons o l ih =>
    intro k b a hl hk inv hB h
    have h0 : ops[k]? = some o := by simpa using (hl 0 (by simp)).symm
    simp only [List.length_cons, Region.lexHead, Bool.and_eq_true] at hB
    obtain ⟨⟨hr, hf⟩, hB'⟩ := hB
    have hkn : k < n := by simp only [List.length_cons] at hk; omega
    have hr' : k ∈ Region.ready md ops b := by simpa using hr
    have hst : qOp P ops C k (wpQuiet P ops C Lq l) a := by unfold qOp; simp only [h0]; exact h
    obtain ⟨v, hy, hK⟩ := yieldsIn_of_qOp h0 hst
    exact wpHeadQ_first h0 (Region.noSelect_spec hsel) hs hc hn hkn (fun b' a' hL => seqB_ready hL.1) l.length b a inv (Region.free_spec h0 hf) hr' hy
      (ih (k + 1) _ _ (fun j hj => by have := hl (j + 1) (by simp; omega); simpa [Nat.add_assoc, Nat.add_comm 1 j] using this) (by simp only [List.length_cons] at hk; omega) (inv.set hr' hkn) hB' hK)
theorem wp_region_quiet_tail {id : Nat} {Q : Exit → Act → World → Prop} {a : Act} {w : World} {l : List Oper} (n : Nat) (hm : P.follows .mixedOrders = true) (hB : Region.lexTailB .any l.toArray n = true) (hC : C { w with drawn := w.drawn + 1 })
    (h : wpQuiet P l.toArray C (fun a' => ∀ w', C w' → wpList P l.toArray Q (l.drop n) a' w') (l.take n) a) : (Code.region id l.toArray true).wp P Q a w := by
  simp only [Region.lexTailB, Bool.and_eq_true, decide_eq_true_eq] at hB
  obtain ⟨⟨⟨⟨hsel, hn⟩, hs⟩, hc⟩, hlex⟩ := hB
  have hn' : n < l.length := by simpa using hn
  have htl : (l.take n).length = n := by simp; omega
  have hdl : (l.drop n).length = l.toArray.size - n := by simp
  have inv0 : HeadInv .any l.toArray n (Array.replicate l.toArray.size false) :=
    ⟨by simp, fun j oj _ hl => (by rw [getD_replicate_false] at hl; cases hl), fun t _ ht => getD_in (by simpa using ht) (getD_replicate_false _ _)⟩
  have H := wpHeadQ_lex (md := .any) (g := l.toArray.size - n) hsel hs hc hn (l.take n) 0 _ a (fun j hj => by
    have hj' : j < n := by rw [htl] at hj; exact hj
    simp [hj']) (by simpa using htl) inv0 (by rw [htl]; exact hlex) h
  refine wp_region_any hm ?_
  have := wpAny_of_headQ (Q' := Q) (g := l.toArray.size - n) (fun b a' w' hC' hL => by
    have := wpAny_of_seq (md := .any) (Q' := Q) (l.drop n) n b a' w' (fun j => by simp [List.getElem?_drop]) (by rw [hdl]; exact hL.1) (hL.2 w' hC')
    rwa [hdl] at this) _ _ _ _ hC H
  rw [htl, show n + (l.toArray.size - n) = l.toArray.size by omega] at this
  exact this
end
/-- .. at the class 'all that was there is as it was', behind the wrapper. -/
theorem wq_region_tail {P : Program} {id : Nat} {Q : Exit → Act → World → Prop} {a : Act} {w : World} {l : List Oper} (n : Nat) (hm : P.follows .mixedOrders = true) (hB : Region.lexTailB .any l.toArray n = true)
    (h : WQ P l.toArray (fun w' => ∃ x : UpdT w, w' = x.to) (fun a' => ∀ w', (∃ x : UpdT w, w' = x.to) → wpList P l.toArray Q (l.drop n) a' w') (l.take n) a) : (Code.region id l.toArray true).wp P Q a w :=
  wp_region_quiet_tail (C := fun w' => ∃ x : UpdT w, w' = x.to) n hm hB ⟨⟨{ w with drawn := w.drawn + 1 }, ⟨rfl, rfl, rfl, Nat.le_refl _, fun _ _ _ => rfl⟩⟩, rfl⟩ h.h
end Go.Proofs.Ytocoeodoihdkgaa

/- The program's weights, corners and blending. -/
namespace Go.Proofs.Ytocoeodoihdkgaa
open Go.RowKit

end Go.Proofs.Ytocoeodoihdkgaa

/- The program's blending of four samples. -/
namespace Go.Proofs.Ytocoeodoihdkgaa
open Go.RowKit

end Go.Proofs.Ytocoeodoihdkgaa

/- Lists of Passs: 6 numbers each; the walks of the laws' own helpers on them. -/
namespace Go.Proofs.Ytocoeodoihdkgaa
open Go.RowKit

abbrev Ps := Int × Int × Int × Int × Int × Int
abbrev Ps0 : Ps := (0, 0, 0, 0, 0, 0)
def cellsPs (ps : List Ps) : List Value := ps.flatMap fun p => [.int .i64 p.1, .int .i64 p.2.1, .int .i64 p.2.2.1, .int .i64 p.2.2.2.1, .int .i64 p.2.2.2.2.1, .int .i64 p.2.2.2.2.2]
theorem cellsPs_length (ps : List Ps) : (cellsPs ps).length = ps.length * 6 := by
  induction ps with
  | nil => rfl
  | cons p ps ih => unfold cellsPs at ih ⊢; rw [List.flatMap_cons, List.length_append, ih]; simp; omega
theorem cellsPs_snoc (ps : List Ps) (p : Ps) : cellsPs (ps ++ [p]) = cellsPs ps ++ [.int .i64 p.1, .int .i64 p.2.1, .int .i64 p.2.2.1, .int .i64 p.2.2.2.1, .int .i64 p.2.2.2.2.1, .int .i64 p.2.2.2.2.2] := by unfold cellsPs; simp
def RowPs (ys : List Value) (ps : List Ps) (k : Nat) : Prop := ∀ j, j < k → ys[j * 6]? = some (.int .i64 (ps.getD j Ps0).1) ∧ ys[j * 6 + 1]? = some (.int .i64 (ps.getD j Ps0).2.1) ∧ ys[j * 6 + 2]? = some (.int .i64 (ps.getD j Ps0).2.2.1) ∧ ys[j * 6 + 3]? = some (.int .i64 (ps.getD j Ps0).2.2.2.1) ∧ ys[j * 6 + 4]? = some (.int .i64 (ps.getD j Ps0).2.2.2.2.1) ∧ ys[j * 6 + 5]? = some (.int .i64 (ps.getD j Ps0).2.2.2.2.2)
theorem cellsPs_at (ps : List Ps) : RowPs (cellsPs ps) ps ps.length := by
  induction ps with
  | nil => intro j hj; simp at hj
  | cons p ps ih =>
    intro j hj
    have e : cellsPs (p :: ps) = [.int .i64 p.1, .int .i64 p.2.1, .int .i64 p.2.2.1, .int .i64 p.2.2.2.1, .int .i64 p.2.2.2.2.1, .int .i64 p.2.2.2.2.2] ++ cellsPs ps := by unfold cellsPs; simp
    rw [e]
    cases j with
    | zero => exact ⟨rfl, rfl, rfl, rfl, rfl, rfl⟩
    | succ j =>
      have h := ih j (by simpa using hj)
      rw [List.getElem?_append_right (by simp; omega), List.getElem?_append_right (by simp; omega), List.getElem?_append_right (by simp; omega), List.getElem?_append_right (by simp; omega), List.getElem?_append_right (by simp; omega), List.getElem?_append_right (by simp; omega)]
      simp only [List.length_cons, List.length_nil, List.getD_cons_succ]
      rw [show (j + 1) * 6 - (0 + 1 + 1 + 1 + 1 + 1 + 1) = j * 6 by omega, show (j + 1) * 6 + 1 - (0 + 1 + 1 + 1 + 1 + 1 + 1) = j * 6 + 1 by omega, show (j + 1) * 6 + 2 - (0 + 1 + 1 + 1 + 1 + 1 + 1) = j * 6 + 2 by omega, show (j + 1) * 6 + 3 - (0 + 1 + 1 + 1 + 1 + 1 + 1) = j * 6 + 3 by omega, show (j + 1) * 6 + 4 - (0 + 1 + 1 + 1 + 1 + 1 + 1) = j * 6 + 4 by omega, show (j + 1) * 6 + 5 - (0 + 1 + 1 + 1 + 1 + 1 + 1) = j * 6 + 5 by omega]
      exact h
theorem cellsPs_of {ys : List Value} {ps : List Ps} (hl : ys.length = ps.length * 6) (h : RowPs ys ps ps.length) : ys = cellsPs ps := by
  apply List.ext_getElem?
  intro i
  by_cases hi : i < ps.length * 6
  · have h1 := h (i / 6) (by omega)
    have h2 := cellsPs_at ps (i / 6) (by omega)
    rcases (show i = i / 6 * 6 ∨ i = i / 6 * 6 + 1 ∨ i = i / 6 * 6 + 2 ∨ i = i / 6 * 6 + 3 ∨ i = i / 6 * 6 + 4 ∨ i = i / 6 * 6 + 5 by omega) with e | e | e | e | e | e
    · rw [e, h1.1, h2.1]
    · rw [e, h1.2.1, h2.2.1]
    · rw [e, h1.2.2.1, h2.2.2.1]
    · rw [e, h1.2.2.2.1, h2.2.2.2.1]
    · rw [e, h1.2.2.2.2.1, h2.2.2.2.2.1]
    · rw [e, h1.2.2.2.2.2, h2.2.2.2.2.2]
  · rw [List.getElem?_eq_none (by omega), List.getElem?_eq_none (by rw [cellsPs_length]; omega)]
def AtPs (w : World) (b off : Nat) (ps : List Ps) : Prop := ∀ j, j < ps.length → w.cell? ⟨b, off + j * 6, none⟩ = some (.int .i64 (ps.getD j Ps0).1) ∧ w.cell? ⟨b, off + j * 6 + 1, none⟩ = some (.int .i64 (ps.getD j Ps0).2.1) ∧ w.cell? ⟨b, off + j * 6 + 2, none⟩ = some (.int .i64 (ps.getD j Ps0).2.2.1) ∧ w.cell? ⟨b, off + j * 6 + 3, none⟩ = some (.int .i64 (ps.getD j Ps0).2.2.2.1) ∧ w.cell? ⟨b, off + j * 6 + 4, none⟩ = some (.int .i64 (ps.getD j Ps0).2.2.2.2.1) ∧ w.cell? ⟨b, off + j * 6 + 5, none⟩ = some (.int .i64 (ps.getD j Ps0).2.2.2.2.2)
def InPs (ps : List Ps) : Prop := ∀ j, (-9223372036854775808 ≤ (ps.getD j Ps0).1 ∧ (ps.getD j Ps0).1 ≤ 9223372036854775807) ∧ (-9223372036854775808 ≤ (ps.getD j Ps0).2.1 ∧ (ps.getD j Ps0).2.1 ≤ 9223372036854775807) ∧ (-9223372036854775808 ≤ (ps.getD j Ps0).2.2.1 ∧ (ps.getD j Ps0).2.2.1 ≤ 9223372036854775807) ∧ (-9223372036854775808 ≤ (ps.getD j Ps0).2.2.2.1 ∧ (ps.getD j Ps0).2.2.2.1 ≤ 9223372036854775807) ∧ (-9223372036854775808 ≤ (ps.getD j Ps0).2.2.2.2.1 ∧ (ps.getD j Ps0).2.2.2.2.1 ≤ 9223372036854775807) ∧ (-9223372036854775808 ≤ (ps.getD j Ps0).2.2.2.2.2 ∧ (ps.getD j Ps0).2.2.2.2.2 ≤ 9223372036854775807)
def ArgPs (w : World) (ad : Option Addr) (ps : List Ps) : Prop := ps ≠ [] → ∃ b off, ad = some ⟨b, off, none⟩ ∧ b < w.heap.size ∧ AtPs w b off ps
theorem ArgPs.below {w w' : World} {ad : Option Addr} {ps : List Ps} (h : ArgPs w ad ps) (hb : Below w.heap.size w w') : ArgPs w' ad ps := by
  intro hne
  obtain ⟨b, off, e, hl, hc⟩ := h hne
  exact ⟨b, off, e, Nat.lt_of_lt_of_le hl hb.size, fun j hj => ⟨(hb.cell (by simpa using hl)).trans (hc j hj).1, (hb.cell (by simpa using hl)).trans (hc j hj).2.1, (hb.cell (by simpa using hl)).trans (hc j hj).2.2.1, (hb.cell (by simpa using hl)).trans (hc j hj).2.2.2.1, (hb.cell (by simpa using hl)).trans (hc j hj).2.2.2.2.1, (hb.cell (by simpa using hl)).trans (hc j hj).2.2.2.2.2⟩⟩
def RdPs (w : World) (v : Value) (ps : List Ps) : Prop := ∃ ad cap, v = .slice ad ps.length cap ∧ ArgPs w ad ps
theorem RdPs.below {w w' : World} {v : Value} {ps : List Ps} (h : RdPs w v ps) (hb : Below w.heap.size w w') : RdPs w' v ps := by
  obtain ⟨ad, cap, e, h⟩ := h
  exact ⟨ad, cap, e, h.below hb⟩
def marksPs (k n : Nat) : List Ps := (List.range n).map fun j => (((k + 6 * j : Nat) : Int), ((k + 6 * j + 1 : Nat) : Int), ((k + 6 * j + 2 : Nat) : Int), ((k + 6 * j + 3 : Nat) : Int), ((k + 6 * j + 4 : Nat) : Int), ((k + 6 * j + 5 : Nat) : Int))
@[simp] theorem marksPs_length (k n : Nat) : (marksPs k n).length = n := by simp [marksPs]
theorem marksPs_at (k n j : Nat) (h : j < n) : (marksPs k n).getD j Ps0 = (((k + 6 * j : Nat) : Int), ((k + 6 * j + 1 : Nat) : Int), ((k + 6 * j + 2 : Nat) : Int), ((k + 6 * j + 3 : Nat) : Int), ((k + 6 * j + 4 : Nat) : Int), ((k + 6 * j + 5 : Nat) : Int)) := by
  unfold marksPs; rw [List.getD_eq_getElem?_getD, List.getElem?_map, List.getElem?_range h]; rfl
end Go.Proofs.Ytocoeodoihdkgaa

/- The program's mixes for another side. -/
namespace Go.Proofs.Ytocoeodoihdkgaa
open Go.RowKit

def RowMx (ys : List Value) (old side k : Nat) : Prop := ∀ j, j < k → ys[j * 3]? = some (.int .i64 ((min (fromF j old side / 256) (old - 1) : Nat) : Int)) ∧ ys[j * 3 + 1]? = some (.int .i64 ((min (fromF j old side / 256 + 1) (old - 1) : Nat) : Int)) ∧ ys[j * 3 + 2]? = some (.int .i64 ((fromF j old side % 256 : Nat) : Int))
theorem RowMx.snoc {ys : List Value} {old side k : Nat} (h : RowMx ys old side k) (hk : k * 3 + 2 < ys.length) :
    RowMx (((ys.set (k * 3) (.int .i64 ((min (fromF k old side / 256) (old - 1) : Nat) : Int))).set (k * 3 + 1) (.int .i64 ((min (fromF k old side / 256 + 1) (old - 1) : Nat) : Int))).set (k * 3 + 2) (.int .i64 ((fromF k old side % 256 : Nat) : Int))) old side (k + 1) := by
  intro j hj
  by_cases e : j = k
  · subst e
    refine ⟨?_, ?_, ?_⟩
    · rw [List.getElem?_set_ne (by omega), List.getElem?_set_ne (by omega), List.getElem?_set_self (by first | omega | (simp; omega))]
    · rw [List.getElem?_set_ne (by omega), List.getElem?_set_self (by first | omega | (simp; omega))]
    · rw [List.getElem?_set_self (by first | omega | (simp; omega))]
  · have := h j (by omega)
    refine ⟨?_, ?_, ?_⟩
    · rw [List.getElem?_set_ne (by omega), List.getElem?_set_ne (by omega), List.getElem?_set_ne (by omega)]; exact this.1
    · rw [List.getElem?_set_ne (by omega), List.getElem?_set_ne (by omega), List.getElem?_set_ne (by omega)]; exact this.2.1
    · rw [List.getElem?_set_ne (by omega), List.getElem?_set_ne (by omega), List.getElem?_set_ne (by omega)]; exact this.2.2
end Go.Proofs.Ytocoeodoihdkgaa

/- How many bits a number has; grades: the program's walk. -/
namespace Go.Proofs.Ytocoeodoihdkgaa
open Go.RowKit

/-- The bits of a number of which all but the last eight are shifted away. -/
theorem len_of (x q : Int) (s : Nat) (h0 : 0 ≤ x) (h1 : x ≤ 18446744073709551615) (hq : q.toNat = x.toNat / 2 ^ s) (hl : 2 ^ s ≤ x.toNat) (q0 : 0 ≤ q) (q1 : q ≤ 255) :
    (s : Int) + Lib.len8 q = Lib.bitLen x.toNat := by
  rw [Lib.len8_of q q0 q1, hq, Lib.bitLen_shift s x.toNat hl (show x.toNat < 18446744073709551616 by omega)]
  omega
theorem len_bd (q : Int) (q0 : 0 ≤ q) (q1 : q ≤ 255) : 0 ≤ Lib.len8 q ∧ Lib.len8 q ≤ 8 := by
  rw [Lib.len8_of q q0 q1]
  have := Lib.bitLen_le8' q q0 q1
  omega
set_option maxHeartbeats 4000000 in
set_option maxRecDepth 100000 in
theorem implLen64c111 (x : Int) (w : World) (h0 : 0 ≤ x) (h1 : x ≤ 18446744073709551615) (_c1 : 4294967296 ≤ x) (_c2 : 65536 ≤ x / 4294967296) (_c3 : 256 ≤ x / 4294967296 / 65536) :
    Calls Try.prog 122 #[.int .u64 x] w fun e w' => e = .returned (.int .i64 (Lib.bitLen x.toNat)) ∧ w' = w := by
  obtain ⟨q, hq⟩ : ∃ q : Int, q = x / 4294967296 / 65536 / 256 := ⟨_, rfl⟩
  have q0 : 0 ≤ q := by omega
  have q1 : q ≤ 255 := by omega
  have hv : (56 : Int) + Lib.len8 q = Lib.bitLen x.toNat := len_of x q 56 h0 h1 (by rw [hq]; show _ = x.toNat / 72057594037927936; omega) (by show 72057594037927936 ≤ x.toNat; omega) q0 q1
  rw [← hv]
  have hb := len_bd q q0 q1
  have hix := fun W => Lib.run_index_len8tab (P := Try.prog) W 9 .u8 q (by kernel_rfl) q0 q1
  have hw : IntKind.u8.wrap q = q := by simp [IntKind.wrap, IntKind.bits, IntKind.signed]; omega
  clear hv
  generalize Lib.len8 q = r at hb hix ⊢
  go_enter Try.func122, Try.ntmps122
  go_upto_region 10 with fail
  rw [← hq]
  clear hq _c1 _c2 _c3 h0 h1
  go_wp2
  go_ret
  exact ⟨ret_int (by omega), rfl⟩
set_option maxHeartbeats 4000000 in
set_option maxRecDepth 100000 in
theorem implLen64c110 (x : Int) (w : World) (h0 : 0 ≤ x) (h1 : x ≤ 18446744073709551615) (_c1 : 4294967296 ≤ x) (_c2 : 65536 ≤ x / 4294967296) (_c3 : x / 4294967296 / 65536 < 256) :
    Calls Try.prog 122 #[.int .u64 x] w fun e w' => e = .returned (.int .i64 (Lib.bitLen x.toNat)) ∧ w' = w := by
  obtain ⟨q, hq⟩ : ∃ q : Int, q = x / 4294967296 / 65536 := ⟨_, rfl⟩
  have q0 : 0 ≤ q := by omega
  have q1 : q ≤ 255 := by omega
  have hv : (48 : Int) + Lib.len8 q = Lib.bitLen x.toNat := len_of x q 48 h0 h1 (by rw [hq]; show _ = x.toNat / 281474976710656; omega) (by show 281474976710656 ≤ x.toNat; omega) q0 q1
  rw [← hv]
  have hb := len_bd q q0 q1
  have hix := fun W => Lib.run_index_len8tab (P := Try.prog) W 9 .u8 q (by kernel_rfl) q0 q1
  have hw : IntKind.u8.wrap q = q := by simp [IntKind.wrap, IntKind.bits, IntKind.signed]; omega
  clear hv
  generalize Lib.len8 q = r at hb hix ⊢
  go_enter Try.func122, Try.ntmps122
  go_upto_region 10 with fail
  rw [← hq]
  clear hq _c1 _c2 _c3 h0 h1
  go_wp2
  go_ret
  exact ⟨ret_int (by omega), rfl⟩
set_option maxHeartbeats 4000000 in
set_option maxRecDepth 100000 in
theorem implLen64c101 (x : Int) (w : World) (h0 : 0 ≤ x) (h1 : x ≤ 18446744073709551615) (_c1 : 4294967296 ≤ x) (_c2 : x / 4294967296 < 65536) (_c3 : 256 ≤ x / 4294967296) :
    Calls Try.prog 122 #[.int .u64 x] w fun e w' => e = .returned (.int .i64 (Lib.bitLen x.toNat)) ∧ w' = w := by
  obtain ⟨q, hq⟩ : ∃ q : Int, q = x / 4294967296 / 256 := ⟨_, rfl⟩
  have q0 : 0 ≤ q := by omega
  have q1 : q ≤ 255 := by omega
  have hv : (40 : Int) + Lib.len8 q = Lib.bitLen x.toNat := len_of x q 40 h0 h1 (by rw [hq]; show _ = x.toNat / 1099511627776; omega) (by show 1099511627776 ≤ x.toNat; omega) q0 q1
  rw [← hv]
  have hb := len_bd q q0 q1
  have hix := fun W => Lib.run_index_len8tab (P := Try.prog) W 9 .u8 q (by kernel_rfl) q0 q1
  have hw : IntKind.u8.wrap q = q := by simp [IntKind.wrap, IntKind.bits, IntKind.signed]; omega
  clear hv
  generalize Lib.len8 q = r at hb hix ⊢
  go_enter Try.func122, Try.ntmps122
  go_upto_region 10 with fail
  rw [← hq]
  clear hq _c1 _c2 _c3 h0 h1
  go_wp2
  go_ret
  exact ⟨ret_int (by omega), rfl⟩
set_option maxHeartbeats 4000000 in
set_option maxRecDepth 100000 in
theorem implLen64c100 (x : Int) (w : World) (h0 : 0 ≤ x) (h1 : x ≤ 18446744073709551615) (_c1 : 4294967296 ≤ x) (_c2 : x / 4294967296 < 65536) (_c3 : x / 4294967296 < 256) :
    Calls Try.prog 122 #[.int .u64 x] w fun e w' => e = .returned (.int .i64 (Lib.bitLen x.toNat)) ∧ w' = w := by
  obtain ⟨q, hq⟩ : ∃ q : Int, q = x / 4294967296 := ⟨_, rfl⟩
  have q0 : 0 ≤ q := by omega
  have q1 : q ≤ 255 := by omega
  have hv : (32 : Int) + Lib.len8 q = Lib.bitLen x.toNat := len_of x q 32 h0 h1 (by rw [hq]; show _ = x.toNat / 4294967296; omega) (by show 4294967296 ≤ x.toNat; omega) q0 q1
  rw [← hv]
  have hb := len_bd q q0 q1
  have hix := fun W => Lib.run_index_len8tab (P := Try.prog) W 9 .u8 q (by kernel_rfl) q0 q1
  have hw : IntKind.u8.wrap q = q := by simp [IntKind.wrap, IntKind.bits, IntKind.signed]; omega
  clear hv
  generalize Lib.len8 q = r at hb hix ⊢
  go_enter Try.func122, Try.ntmps122
  go_upto_region 10 with fail
  rw [← hq]
  clear hq _c1 _c2 _c3 h0 h1
  go_wp2
  go_ret
  exact ⟨ret_int (by omega), rfl⟩
set_option maxHeartbeats 4000000 in
set_option maxRecDepth 100000 in
theorem implLen64c011 (x : Int) (w : World) (h0 : 0 ≤ x) (h1 : x ≤ 18446744073709551615) (_c1 : x < 4294967296) (_c2 : 65536 ≤ x) (_c3 : 256 ≤ x / 65536) :
    Calls Try.prog 122 #[.int .u64 x] w fun e w' => e = .returned (.int .i64 (Lib.bitLen x.toNat)) ∧ w' = w := by
  obtain ⟨q, hq⟩ : ∃ q : Int, q = x / 65536 / 256 := ⟨_, rfl⟩
  have q0 : 0 ≤ q := by omega
  have q1 : q ≤ 255 := by omega
  have hv : (24 : Int) + Lib.len8 q = Lib.bitLen x.toNat := len_of x q 24 h0 h1 (by rw [hq]; show _ = x.toNat / 16777216; omega) (by show 16777216 ≤ x.toNat; omega) q0 q1
  rw [← hv]
  have hb := len_bd q q0 q1
  have hix := fun W => Lib.run_index_len8tab (P := Try.prog) W 9 .u8 q (by kernel_rfl) q0 q1
  have hw : IntKind.u8.wrap q = q := by simp [IntKind.wrap, IntKind.bits, IntKind.signed]; omega
  clear hv
  generalize Lib.len8 q = r at hb hix ⊢
  go_enter Try.func122, Try.ntmps122
  go_upto_region 10 with fail
  rw [← hq]
  clear hq _c1 _c2 _c3 h0 h1
  go_wp2
  go_ret
  exact ⟨ret_int (by omega), rfl⟩
set_option maxHeartbeats 4000000 in
set_option maxRecDepth 100000 in
theorem implLen64c010 (x : Int) (w : World) (h0 : 0 ≤ x) (h1 : x ≤ 18446744073709551615) (_c1 : x < 4294967296) (_c2 : 65536 ≤ x) (_c3 : x / 65536 < 256) :
    Calls Try.prog 122 #[.int .u64 x] w fun e w' => e = .returned (.int .i64 (Lib.bitLen x.toNat)) ∧ w' = w := by
  obtain ⟨q, hq⟩ : ∃ q : Int, q = x / 65536 := ⟨_, rfl⟩
  have q0 : 0 ≤ q := by omega
  have q1 : q ≤ 255 := by omega
  have hv : (16 : Int) + Lib.len8 q = Lib.bitLen x.toNat := len_of x q 16 h0 h1 (by rw [hq]; show _ = x.toNat / 65536; omega) (by show 65536 ≤ x.toNat; omega) q0 q1
  rw [← hv]
  have hb := len_bd q q0 q1
  have hix := fun W => Lib.run_index_len8tab (P := Try.prog) W 9 .u8 q (by kernel_rfl) q0 q1
  have hw : IntKind.u8.wrap q = q := by simp [IntKind.wrap, IntKind.bits, IntKind.signed]; omega
  clear hv
  generalize Lib.len8 q = r at hb hix ⊢
  go_enter Try.func122, Try.ntmps122
  go_upto_region 10 with fail
  rw [← hq]
  clear hq _c1 _c2 _c3 h0 h1
  go_wp2
  go_ret
  exact ⟨ret_int (by omega), rfl⟩
set_option maxHeartbeats 4000000 in
set_option maxRecDepth 100000 in
theorem implLen64c001 (x : Int) (w : World) (h0 : 0 ≤ x) (h1 : x ≤ 18446744073709551615) (_c1 : x < 4294967296) (_c2 : x < 65536) (_c3 : 256 ≤ x) :
    Calls Try.prog 122 #[.int .u64 x] w fun e w' => e = .returned (.int .i64 (Lib.bitLen x.toNat)) ∧ w' = w := by
  obtain ⟨q, hq⟩ : ∃ q : Int, q = x / 256 := ⟨_, rfl⟩
  have q0 : 0 ≤ q := by omega
  have q1 : q ≤ 255 := by omega
  have hv : (8 : Int) + Lib.len8 q = Lib.bitLen x.toNat := len_of x q 8 h0 h1 (by rw [hq]; show _ = x.toNat / 256; omega) (by show 256 ≤ x.toNat; omega) q0 q1
  rw [← hv]
  have hb := len_bd q q0 q1
  have hix := fun W => Lib.run_index_len8tab (P := Try.prog) W 9 .u8 q (by kernel_rfl) q0 q1
  have hw : IntKind.u8.wrap q = q := by simp [IntKind.wrap, IntKind.bits, IntKind.signed]; omega
  clear hv
  generalize Lib.len8 q = r at hb hix ⊢
  go_enter Try.func122, Try.ntmps122
  go_upto_region 10 with fail
  rw [← hq]
  clear hq _c1 _c2 _c3 h0 h1
  go_wp2
  go_ret
  exact ⟨ret_int (by omega), rfl⟩
set_option maxHeartbeats 4000000 in
set_option maxRecDepth 100000 in
theorem implLen64c000 (x : Int) (w : World) (h0 : 0 ≤ x) (h1 : x ≤ 18446744073709551615) (_c1 : x < 4294967296) (_c2 : x < 65536) (_c3 : x < 256) :
    Calls Try.prog 122 #[.int .u64 x] w fun e w' => e = .returned (.int .i64 (Lib.bitLen x.toNat)) ∧ w' = w := by
  obtain ⟨q, hq⟩ : ∃ q : Int, q = x := ⟨_, rfl⟩
  have q0 : 0 ≤ q := by omega
  have q1 : q ≤ 255 := by omega
  have hv : (0 : Int) + Lib.len8 q = Lib.bitLen x.toNat := by have e : q.toNat = x.toNat := (by omega); have e2 := Lib.len8_of q q0 q1; rw [e] at e2; omega
  rw [← hv]
  have hb := len_bd q q0 q1
  have hix := fun W => Lib.run_index_len8tab (P := Try.prog) W 9 .u8 q (by kernel_rfl) q0 q1
  have hw : IntKind.u8.wrap q = q := by simp [IntKind.wrap, IntKind.bits, IntKind.signed]; omega
  clear hv
  generalize Lib.len8 q = r at hb hix ⊢
  go_enter Try.func122, Try.ntmps122
  go_upto_region 10 with fail
  rw [← hq]
  clear hq _c1 _c2 _c3 h0 h1
  go_wp2
  go_ret
  exact ⟨ret_int (by omega), rfl⟩
theorem implLen64 (x : Int) (w : World) (h0 : 0 ≤ x) (h1 : x ≤ 18446744073709551615) :
    Calls Try.prog 122 #[.int .u64 x] w fun e w' => e = .returned (.int .i64 (Lib.bitLen x.toNat)) ∧ w' = w := by
  rcases Int.lt_or_le x 4294967296 with c1 | c1
  · rcases Int.lt_or_le x 65536 with c2 | c2
    · rcases Int.lt_or_le x 256 with c3 | c3
      · exact implLen64c000 x w h0 h1 c1 c2 c3
      · exact implLen64c001 x w h0 h1 c1 c2 c3
    · rcases Int.lt_or_le (x / 65536) 256 with c3 | c3
      · exact implLen64c010 x w h0 h1 c1 c2 c3
      · exact implLen64c011 x w h0 h1 c1 c2 c3
  · rcases Int.lt_or_le (x / 4294967296) 65536 with c2 | c2
    · rcases Int.lt_or_le (x / 4294967296) 256 with c3 | c3
      · exact implLen64c100 x w h0 h1 c1 c2 c3
      · exact implLen64c101 x w h0 h1 c1 c2 c3
    · rcases Int.lt_or_le (x / 4294967296 / 65536) 256 with c3 | c3
      · exact implLen64c110 x w h0 h1 c1 c2 c3
      · exact implLen64c111 x w h0 h1 c1 c2 c3
set_option maxHeartbeats 1000000 in
theorem implLen (x : Int) (w : World) (h0 : 0 ≤ x) (h1 : x ≤ 18446744073709551615) :
    Calls Try.prog 111 #[.int .u64 x] w fun e w' => e = .returned (.int .i64 (Lib.bitLen x.toNat)) ∧ w' = w := by
  have h := hide (implLen64 x w h0 h1)
  go_enter Try.func111, Try.ntmps111
  go_wp2_with fail
  refine (unhide h).mono ?_
  rintro e w' ⟨rfl, rfl⟩
  go_wp2
  go_ret
  exact ⟨rfl, rfl⟩
set_option maxHeartbeats 1000000 in
theorem implDistP (p : Int) (w : World) (h0 : 0 ≤ p) (h1 : p ≤ 9223372036854775807) :
    Calls Try.prog 112 #[.int .i64 p, .int .i64 0] w fun e w' => e = .returned (.int .i64 p) ∧ w' = w := by
  go_enter Try.func112, Try.ntmps112
  go_wp2
  all_goals
    go_ret
    exact ⟨ret_int (by omega), rfl⟩
set_option maxHeartbeats 1000000 in
theorem implSizeOf (p : Int) (w : World) (h0 : 0 ≤ p) (h1 : p ≤ 9223372036854775807) :
    Calls Try.prog 73 #[.int .i64 p] w fun e w' => e = .returned (.int .i64 (Lib.bitLen p.toNat)) ∧ w' = w := by
  have hd := hide (implDistP p w h0 h1)
  have h := hide (implLen p w h0 (by omega))
  go_enter Try.func73, Try.ntmps73
  go_wp2_with fail
  refine (unhide hd).mono ?_
  rintro e w' ⟨rfl, rfl⟩
  go_wp2_with fail
  refine (unhide h).mono ?_
  rintro e w' ⟨rfl, rfl⟩
  go_wp2
  go_ret
  exact ⟨rfl, rfl⟩
def GrdOk (p q : Int) : Prop := 0 ≤ p ∧ 0 ≤ q ∧ q ≤ 15
def gradeF (p q : Int) : Int := if p < 0 then 0 else if q < 0 then 0 else if 15 < q then 0 else max 0 (min 12 (((Lib.bitLen p.toNat : Int) + 1) / 2 - q))
theorem bitLen_64 (p : Int) (h1 : p ≤ 9223372036854775807) : Lib.bitLen p.toNat ≤ 64 := by
  refine Lib.bitLen_le _ 64 (Nat.le_refl _) ?_
  show p.toNat < 18446744073709551616
  omega
end Go.Proofs.Ytocoeodoihdkgaa

/- Odds: how they learn, what a choice costs: the small functions of both sides. -/
namespace Go.Proofs.Ytocoeodoihdkgaa
open Go.RowKit

set_option maxHeartbeats 4000000 in
theorem specL12Learn (o b : Int) (h : 31 ≤ o ∧ o ≤ 4065) (w : World) :
    Calls Try.prog 93 #[.int .i64 o, .int .i64 b] w fun e w' => e = .returned (.int .i64 (learnF o b)) ∧ w' = w := by
  obtain ⟨h0, h1⟩ := h
  unfold learnF
  by_cases hb : b = 0
  · rw [if_pos hb]
    have t : (b == 0) = true := by simpa using hb
    subst hb
    go_enter Try.func93, Try.ntmps93
    go_wp2
    go_ret
    exact ⟨rfl, rfl⟩
  · rw [if_neg hb]
    have t : (b == 0) = false := by simpa using hb
    clear hb
    go_enter Try.func93, Try.ntmps93
    go_wp2
    go_ret
    exact ⟨rfl, rfl⟩
theorem logF_of (v : Int) (b : Nat) (h0 : 1 ≤ v) (h1 : v ≤ 256) (hb0 : 2 ^ b ≤ v.toNat) (hb1 : v.toNat < 2 ^ (b + 1)) : logF v = 256 * (8 - (b : Int)) - 256 * (v - 2 ^ b) / 2 ^ b := by
  unfold logF
  rw [show max v 1 = v by omega]
  simp only [bitLen_between _ b hb0 hb1 (by omega), Nat.add_sub_cancel]
theorem shr_8 (m b : Nat) (h : 2 ^ b ≤ m) (hm : m ≤ 256) : b ≤ 8 := by
  rcases Nat.lt_or_ge 8 b with h1 | h1
  · have : 2 ^ 9 ≤ 2 ^ b := Nat.pow_le_pow_right (by omega) (by omega)
    omega
  · exact h1
set_option maxRecDepth 100000 in
set_option maxHeartbeats 8000000 in
theorem specL12Log (v : Int) (h0 : 1 ≤ v) (h1 : v ≤ 256) (w : World) :
    Calls Try.prog 92 #[.int .i64 v] w fun e w' => e = .returned (.int .i64 (logF v)) ∧ w' = w := by
  obtain ⟨m, rfl⟩ := Int.eq_ofNat_of_zero_le (show 0 ≤ v by omega)
  have hL := hide (fun b => logF_of (m : Int) b h0 h1)
  go_enter Try.func92, Try.ntmps92
  go_wp2_with fail
  go_loopw [3] (fun r wr => ∃ (b : Nat), r = .int .i64 (b : Int) ∧ b ≤ 8 ∧ Hid (2 ^ b ≤ m) ∧ w = wr) (fun r _ => 64 - (intOf r).toNat)
  case atStart => exact ⟨0, rfl, by omega, hide (show 2 ^ 0 ≤ m by rw [Nat.pow_zero]; omega), rfl⟩
  case round =>
    obtain ⟨b, rfl, hb, hbm, rfl⟩ := hrel
    have hb0 : (0 : Int) ≤ (b : Int) + 1 := by omega
    have hb1 : (b : Int) + 1 ≤ 64 := by omega
    by_cases hq : 2 ^ (b + 1) ≤ m
    · have hd : (0 : Int) < (m : Int) / 2 ^ (b + 1) := shr_pos m b hq
      have hgt : decide ((0 : Int) < (m : Int) / 2 ^ (b + 1)) = true := decide_eq_true hd
      have hb8 := shr_8 m (b + 1) hq (by omega)
      replace hd := hide hd
      replace hq := hide hq
      go_wp2_with fail
      go_roundw
      case rel => exact ⟨b + 1, by simp, by omega, hq, trivial⟩
      case measure => simp [intOf]; omega
    · have hd : ¬ ((0 : Int) < (m : Int) / 2 ^ (b + 1)) := shr_zero m b hq
      have hgt : decide ((0 : Int) < (m : Int) / 2 ^ (b + 1)) = false := decide_eq_false hd
      have hE := hide (unhide hL b (by simpa using unhide hbm) (by simp; omega))
      have hm0 := unhide hbm
      clear hL hbm hd
      obtain ⟨P, hP⟩ : ∃ P : Nat, 2 ^ b = P := ⟨_, rfl⟩
      have hPi : (2 : Int) ^ b = (P : Int) := by rw [← hP]; simp
      rw [hP] at hm0
      have hP0 : 0 < P := by rw [← hP]; exact Nat.two_pow_pos b
      have hb64 : (b : Int) ≤ 64 := by omega
      have hb00 : (0 : Int) ≤ (b : Int) := by omega
      rw [hPi] at hE
      clear hq hP
      have hlb := hide (logF_all ⟨m, by omega⟩)
      go_wp2
      go_ret
      refine ⟨ret_int ?_, rfl⟩
      have h2 : 0 ≤ logF (m : Int) ∧ logF (m : Int) ≤ 2048 := unhide hlb
      rw [← unhide hE]
      unfold wrap64
      omega
/-- With the number's bits known. -/
theorem bits_of (m : Nat) (h0 : 1 ≤ m) (h1 : m ≤ 256) : ∃ b, b ≤ 8 ∧ 2 ^ b ≤ m ∧ m < 2 ^ (b + 1) ∧ Lib.bitLen m = b + 1 := by
  obtain ⟨b, h2, h3⟩ := exists_between m (by omega)
  exact ⟨b, shr_8 m b h2 h1, h2, h3, bitLen_between m b h2 h3 (by omega)⟩
set_option maxRecDepth 100000 in
set_option maxHeartbeats 8000000 in
theorem implLikely (v : Int) (h0 : 1 ≤ v) (h1 : v ≤ 256) (w : World) :
    Calls Try.prog 107 #[.int .i64 v] w fun e w' => e = .returned (.int .i64 (logF v)) ∧ w' = w := by
  obtain ⟨m, rfl⟩ := Int.eq_ofNat_of_zero_le (show 0 ≤ v by omega)
  obtain ⟨b, hb, hm0, hm1, hbl⟩ := bits_of m (by omega) (by omega)
  have hE := hide (logF_of (m : Int) b h0 h1 (by simpa using hm0) (by simpa using hm1))
  have hlb := hide (logF_all ⟨m, by omega⟩)
  have hS := hide (fun X => implSizeOf (m : Int) X (by omega) (by omega))
  rw [show (Lib.bitLen (m : Int).toNat : Int) = (b : Int) + 1 by rw [Int.toNat_natCast, hbl]; rfl] at hS
  obtain ⟨P, hP⟩ : ∃ P : Nat, 2 ^ b = P := ⟨_, rfl⟩
  have hPi : (2 : Int) ^ b = (P : Int) := by rw [← hP]; simp
  rw [hP] at hm0
  have hP0 : 0 < P := by rw [← hP]; exact Nat.two_pow_pos b
  have hb64 : (b : Int) ≤ 64 := by omega
  have hb00 : (0 : Int) ≤ (b : Int) := by omega
  rw [hPi] at hE
  clear hP hm1 hbl
  go_enter Try.func107, Try.ntmps107
  go_wp2_with fail
  rw [show max (m : Int) 1 = (m : Int) by omega]
  refine (unhide hS _).mono ?_
  rintro e w1 ⟨rfl, rfl⟩
  go_wp2
  go_ret
  refine ⟨ret_int ?_, rfl⟩
  have h2 : 0 ≤ logF (m : Int) ∧ logF (m : Int) ≤ 2048 := unhide hlb
  rw [← unhide hE]
  unfold wrap64
  omega
end Go.Proofs.Ytocoeodoihdkgaa

/- Odds: the specification's odds at first, and what choices cost. -/
namespace Go.Proofs.Ytocoeodoihdkgaa
open Go.RowKit

def oddsI (P : Nat) (s : Int → Int) : List Value := (List.range P).map fun p : Nat => .int .i64 (s (p : Int))
@[simp] theorem oddsI_length (P : Nat) (s : Int → Int) : (oddsI P s).length = P := by simp [oddsI]
theorem oddsI_at (P : Nat) (s : Int → Int) (p : Nat) (h : p < P) : (oddsI P s)[p]? = some (.int .i64 (s p)) := by
  unfold oddsI; rw [List.getElem?_map, List.getElem?_range h]; rfl
theorem oddsI_put (P : Nat) (s s' : Int → Int) (p : Nat) (y : Int) (h : ∀ q, s' q = if q = (p : Int) then y else s q) : (oddsI P s).set p (.int .i64 y) = oddsI P s' := by
  apply List.ext_getElem?
  intro j
  by_cases hj : j < P
  · by_cases e : p = j
    · subst e
      rw [List.getElem?_set_self (by simpa using hj), oddsI_at _ _ _ hj, h, if_pos rfl]
    · rw [List.getElem?_set_ne e, oddsI_at _ _ _ hj, oddsI_at _ _ _ hj, h, if_neg (by omega)]
  · rw [List.getElem?_eq_none (by simp; omega), List.getElem?_eq_none (by simp; omega)]
theorem oddsI_congr (P : Nat) (s s' : Int → Int) (h : ∀ p : Nat, p < P → s p = s' p) : oddsI P s = oddsI P s' := by
  unfold oddsI
  apply List.map_congr_left
  intro p hp
  rw [h p (List.mem_range.1 hp)]
def oddsTo (k : Nat) : Int → Int := fun q => if q < (k : Int) then 2048 else 0
theorem oddsTo_zero (P : Nat) : oddsI P (oddsTo 0) = List.replicate P (.int .i64 0) := by
  apply List.ext_getElem?
  intro j
  by_cases hj : j < P
  · rw [oddsI_at _ _ _ hj, List.getElem?_replicate, if_pos hj]; unfold oddsTo; rw [if_neg (by omega)]
  · rw [List.getElem?_eq_none (by simp; omega), List.getElem?_eq_none (by simp; omega)]
theorem oddsTo_succ (P k : Nat) : (oddsI P (oddsTo k)).set k (.int .i64 2048) = oddsI P (oddsTo (k + 1)) :=
  oddsI_put P _ _ k 2048 (fun q => by unfold oddsTo; by_cases h : q = (k : Int)
                                      · rw [if_pos h, if_pos (by omega)]
                                      · rw [if_neg h]
                                        by_cases h2 : q < (k : Int)
                                        · rw [if_pos h2, if_pos (by omega)]
                                        · rw [if_neg h2, if_neg (by omega)])
theorem oddsTo_all (P : Nat) : oddsI P (oddsTo P) = oddsI P (fun _ => 2048) := oddsI_congr P _ _ (fun p hp => by unfold oddsTo; rw [if_pos (by omega)])
theorem RowI.learn {w : World} {g P : Nat} {s : Int → Int} (h : RowI w g P (oddsI P s)) (c : Int × Int) (p : Nat) (hp : c.1 = (p : Int)) : RowI (w.setCell ⟨g, p, none⟩ (.int .i64 (learnF (s p) c.2))) g P (oddsI P (oddsSet s c)) := by
  have h1 := RowI.set h p (.int .i64 (learnF (s p) c.2))
  rw [oddsI_put P s (oddsSet s c) p (learnF (s p) c.2) (fun q => by
    unfold oddsSet
    by_cases e : q = (p : Int)
    · rw [if_pos (by rw [hp]; exact e), if_pos e, e]
    · rw [if_neg (by rw [hp]; exact e), if_neg e])] at h1
  exact h1
set_option maxHeartbeats 8000000 in
set_option maxRecDepth 100000 in
theorem specL12Odds (P : Nat) (w : World) (hP : P ≤ 512) :
    Calls Try.prog 91 #[.int .i64 (P : Int)] w fun e w' => e = .returned (.slice (some ⟨w.heap.size, 0, none⟩) P P) ∧ RowI w' w.heap.size P (oddsI P (fun _ => 2048)) ∧ Below w.heap.size w w' := by
  obtain ⟨o, hmk⟩ := mkRowI P (by omega)
  have hrun : ∀ X : World, (Instr.makeSlice 23 (.int .i64 (P : Int)) (.int .i64 (P : Int))).run Try.prog X = .ok (.slice (some ⟨X.heap.size, 0, none⟩) P P) (X.alloc o) := fun X => (hmk X).1
  have hrow := (hmk w).2
  rw [← oddsTo_zero] at hrow
  replace hrow := hide hrow
  have hB := hide ((Below.refl w.heap.size w).alloc (Nat.le_refl _) o)
  clear hmk
  go_enter Try.func91, Try.ntmps91
  go_upto_region 2 with fail
  generalize w.alloc o = w0 at hrow hB ⊢
  clear hrun
  go_wp2_with fail
  go_loopw [4, 9] (fun _ i wr => ∃ k : Nat, k ≤ P ∧ i = .int .i64 k ∧ Hid (RowI wr w.heap.size P (oddsI P (oddsTo k))) ∧ Hid (Below w.heap.size w wr)) (fun _ i _ => P - (intOf i).toNat)
  case atStart => exact ⟨0, Nat.zero_le _, rfl, hrow, hB⟩
  case round =>
    clear hrow hB
    obtain ⟨k, hk, rfl, hrow, hB⟩ := hrel
    by_cases hlt : k < P
    · have c0 := (unhide hrow).cell k hlt
      rw [oddsI_at _ _ _ hlt] at c0
      have f0 := (unhide hrow).frozen k
      have hr2 := (unhide hrow).set k (.int .i64 2048)
      rw [oddsTo_succ] at hr2
      replace hr2 := hide hr2
      have hB2 := hide ((unhide hB).setCell (p := ⟨w.heap.size, k, none⟩) (Nat.le_refl _) (.int .i64 2048))
      have kI : decide ((k : Int) < (P : Int)) = true := decide_eq_true (by omega)
      clear hrow hB
      go_wp2_with fail
      go_roundw
      case rel => exact ⟨k + 1, by omega, by go_num, hr2, hB2⟩
      case measure => simp [intOf]; omega
    · obtain rfl : k = P := by omega
      have kI : decide ((k : Int) < (k : Int)) = false := decide_eq_false (by omega)
      have hE := hide (oddsTo_all k)
      go_wp2
      go_ret
      exact ⟨rfl, by rw [← unhide hE]; exact unhide hrow, unhide hB⟩
end Go.Proofs.Ytocoeodoihdkgaa

/- Odds: the specification's OddsCost. -/
namespace Go.Proofs.Ytocoeodoihdkgaa
open Go.RowKit

/-- One cell of a block is written. -/
theorem upd_setCellG (w : World) (g j : Nat) (v : Value) : Upd g (g + 1) w (w.setCell ⟨g, j, none⟩ v) :=
  ⟨rfl, rfl, rfl, by simp, fun k _ hk => Below.heap_setCell w ⟨g, j, none⟩ v k (by simp; omega)⟩
set_option maxHeartbeats 16000000 in
set_option maxRecDepth 1000000 in
theorem specOddsCost (p : Int) (v : Value) (cs : List Ch) (w : World) (hp0 : -9223372036854775808 ≤ p) (hp1 : p ≤ 9223372036854775807) (hn : cs.length ≤ 1048576) (_hR : InCh cs) (hv : RdCh w v cs) :
    Calls Try.prog 52 #[.int .i64 p, v] w fun e w' => e = .returned (.int .i64 (oddsCost p cs)) ∧ Upd 0 0 w w' := by
  have hG := hide (specL12Ok p v cs w hn hv)
  obtain ⟨ad, cap, rfl, hA⟩ := hv
  by_cases hok : oddsB p cs = true
  case neg =>
    have hok : oddsB p cs = false := by simpa using hok
    have hE := hide (show oddsCost p cs = -1 by unfold oddsCost; rw [hok]; rfl)
    rw [hok] at hG
    clear hok hA
    go_enter Try.func52, Try.ntmps52
    go_wp2_with fail
    refine (unhide hG).mono ?_
    rintro e w1 ⟨rfl, hu⟩
    replace hu := hide hu
    clear hG
    go_wp2
    go_ret
    exact ⟨by rw [unhide hE]; rfl, unhide hu⟩
  have hE := hide (show oddsCost p cs = costK cs cs.length by unfold oddsCost; rw [hok]; rfl)
  rw [hok] at hG
  obtain ⟨⟨hp1', hp512⟩, hlen, hch⟩ := (oddsB_iff _ _).1 hok
  obtain ⟨P, rfl⟩ := Int.eq_ofNat_of_zero_le (show 0 ≤ p by omega)
  have hS := hide (fun X => specL12Odds P X (by omega))
  replace hch := hide hch
  replace hA := hide hA
  clear hok
  go_enter Try.func52, Try.ntmps52
  go_wp2_with fail
  refine (unhide hG).mono ?_
  rintro e w1 ⟨rfl, hu1⟩
  replace hu1 := hide hu1
  clear hG
  go_wp2_with fail
  refine (unhide hS _).mono ?_
  rintro e w2 ⟨rfl, hrow, hb2⟩
  have hs1 := (unhide hu1).size
  have hB := hide ((unhide hu1).none.trans (hb2.mono hs1))
  generalize w1.heap.size = g at hs1 hrow hB ⊢
  clear hu1 hb2
  replace hrow := hide (show RowI w2 g P (oddsI P (oddsK cs 0)) from hrow)
  go_wp2_with fail
  go_loopw [6, 18, 8, 9] (fun c i _ _ wr => ∃ (k : Nat), c = .int .i64 (costK cs k) ∧ i = .int .i64 (k : Int) ∧ k ≤ cs.length ∧ Hid (RowI wr g P (oddsI P (oddsK cs k))) ∧ Hid (Below w.heap.size w wr)) (fun _ i _ _ _ => cs.length - (intOf i).toNat)
  case atStart => exact ⟨0, rfl, rfl, by omega, hrow, hB⟩
  case round =>
    clear hB hrow
    obtain ⟨k, rfl, rfl, hk, hod, hB⟩ := hrel
    by_cases hkl : k < cs.length
    · obtain ⟨bb, off, rfl, hbl, hcl⟩ := (unhide hA) (ne_of_lt_length hkl)
      obtain ⟨c0, c1⟩ := hcl k hkl
      replace c0 := ((unhide hB).cell (by simpa using hbl)).trans c0
      replace c1 := ((unhide hB).cell (by simpa using hbl)).trans c1
      have hck := unhide hch k hkl
      have hsc := costK_succ cs k
      have hso := oddsK_succ cs k
      have hcb := costK_bd cs k
      have hSk : ∀ q, 31 ≤ oddsK cs k q ∧ oddsK cs k q ≤ 4065 := oddsK_bd cs k
      rw [show cs.getD k Ch0 = cs.getD k (0, 0) from rfl] at c0 c1
      generalize cs.getD k (0, 0) = c at c0 c1 hck hsc hso
      obtain ⟨x, y⟩ := c
      obtain ⟨⟨x0, x1⟩, y0, y1⟩ := hck
      obtain ⟨q, rfl⟩ := Int.eq_ofNat_of_zero_le x0
      have hq : q < P := by simp at x1; omega
      have hqI : (q : Int) < (P : Int) := by omega
      replace c0 : wr.cell? ⟨bb, off + k * 2, none⟩ = some (.int .i64 (q : Int)) := c0
      replace c1 : wr.cell? ⟨bb, off + k * 2 + 1, none⟩ = some (.int .i64 y) := c1
      replace hsc : costK cs (k + 1) = costK cs k + costF (oddsK cs k (q : Int)) y := hsc
      have hcf := costF_bd (oddsK cs k (q : Int)) y (hSk _)
      have hpb := partsF_bd (oddsK cs k (q : Int)) y (hSk _)
      have hLog := hide (fun X => specL12Log (partsF (oddsK cs k (q : Int)) y) (by omega) (by omega) X)
      have hLn := hide (fun X => specL12Learn (oddsK cs k (q : Int)) y (hSk _) X)
      rw [show logF (partsF (oddsK cs k (q : Int)) y) = costF (oddsK cs k (q : Int)) y from rfl] at hLog
      have hpf : partsF (oddsK cs k (q : Int)) y = ((if y = 1 then 4096 - oddsK cs k (q : Int) else oddsK cs k (q : Int)) + 8) / 16 := rfl
      rw [hpf] at hLog
      clear hpf hpb
      have hal := Upd.of_below ((Below.refl wr.heap.size wr).alloc (Nat.le_refl _) (.cells #[.int .i64 (q : Int), .int .i64 y] 38)) 0 0
      have hod1 := (unhide hod).keep hal
      have hcc := heldF_new wr [.int .i64 (q : Int), .int .i64 y] 38
      have hB1 := hide (below_upd (unhide hB) hal (Nat.le_refl _) (.inr (Nat.le_refl _)))
      have hgl := (unhide hod).lt
      have hgw : w.heap.size ≤ g := hs1
      have hput := hide (fun X (hX : RowI X g P (oddsI P (oddsK cs k))) => hX.learn ((q : Int), y) q rfl)
      rw [← hso] at hput
      generalize costF (oddsK cs k (q : Int)) y = cf at hcf hsc hLog
      have hob := hSk (q : Int)
      have hcell := oddsI_at P (oddsK cs k) q hq
      generalize hov : oddsK cs k (q : Int) = o at hob hcell hLog hLn hput
      have hlb := learnF_bd o y hob
      generalize hlv : learnF o y = o2 at hlb hLn hput
      obtain ⟨o0, o1⟩ := hob
      obtain ⟨l0, l1⟩ := hlb
      obtain ⟨s0, s1⟩ := hcb
      obtain ⟨cf0, cf1⟩ := hcf
      have s2 : costK cs k ≤ 40960000 := by omega
      clear s1
      generalize costK cs k = sm at s0 s2 hsc ⊢
      generalize hs2 : costK cs (k + 1) = sm2 at hsc
      subst hsc
      replace hcell := hide hcell
      replace hod1 := hide hod1
      replace hcc := hide hcc
      replace hso := hide hso
      replace hs2 := hide hs2
      replace hov := hide hov
      replace hlv := hide hlv
      clear hal hod hB hcl x1 hSk
      have kI : decide ((k : Int) < (cs.length : Int)) = true := decide_eq_true (by omega)
      go_upto_region 8 with fail
      simp only [List.toArray] at hcc
      generalize wr.alloc (.cells #[.int .i64 (q : Int), .int .i64 y] 38) = wn at hod1 hcc hB1 ⊢
      generalize wr.heap.size = cb at hcc hgl ⊢
      have d0 := (unhide hcc).1.2 0 _ rfl
      have d1 := (unhide hcc).1.2 1 _ rfl
      have dq := ((unhide hod1).cell q hq).trans (unhide hcell)
      clear c0 c1
      by_cases hy : y = 1
      · have ty : (y == 1) = true := by simpa using hy
        rw [if_pos hy] at hLog
        clear hy
        go_wp2_with fail
        refine (unhide hLog _).mono ?_
        rintro e w3 ⟨rfl, hw3⟩
        obtain rfl : wn = w3 := hw3.symm
        clear hLog
        go_wp2_with fail
        clear d0 d1 dq
        have k0 := fun X : UpdT wn => (((unhide hcc).1.updT X).2 0 _ rfl)
        have k1 := fun X : UpdT wn => (((unhide hcc).1.updT X).2 1 _ rfl)
        have kq := fun X : UpdT wn => ((((unhide hod1).keep X.upd).cell q hq).trans (unhide hcell))
        refine wq_region_tail 12 (by kernel_rfl) (by kernel_rfl) ?_
        simp only [List.take_succ_cons, List.take_zero, List.drop_succ_cons, List.drop_zero]
        iterate 10
          refine WQ.step (fun K hK => ?_)
          go_simp
          refine hK _ ?_
          clear hK K
        refine WQ.step (fun K hK => ?_)
        go_simp
        refine ⟨_, fun X => Calls.updT_same X (unhide hLn X.to), hK _ ?_⟩
        clear hK K
        refine WQ.step (fun K hK => ?_)
        go_simp
        refine hK _ ?_
        clear hK K
        refine WQ.nil ?_
        rintro _ ⟨X, rfl⟩
        clear k0 k1 kq
        have hX := X.upd
        generalize X.to = wt at hX ⊢
        have hod4 := (unhide hod1).keep hX
        have dq := (hod4.cell q hq).trans (unhide hcell)
        have fq := hod4.frozen q
        have hod5 := hide (unhide hput _ hod4)
        have hB5 := hide (below_upd (below_upd (unhide hB1) hX (Nat.le_refl _) (.inr (Nat.le_refl _))) (upd_setCellG wt g q (.int .i64 o2)) (Nat.le_refl _) (.inl hgw))
        clear hX hod1 hod4 hB1 hcc hput hLn
        go_wp2_with fail
        go_roundw
        case rel => exact ⟨k + 1, by rw [unhide hs2], by go_num, by omega, hod5, hB5⟩
        case measure => simp [intOf]; omega
      · have ty : (y == 1) = false := by simpa using hy
        rw [if_neg hy] at hLog
        clear hy
        go_wp2_with fail
        refine (unhide hLog _).mono ?_
        rintro e w3 ⟨rfl, hw3⟩
        obtain rfl : wn = w3 := hw3.symm
        clear hLog
        go_wp2_with fail
        clear d0 d1 dq
        have k0 := fun X : UpdT wn => (((unhide hcc).1.updT X).2 0 _ rfl)
        have k1 := fun X : UpdT wn => (((unhide hcc).1.updT X).2 1 _ rfl)
        have kq := fun X : UpdT wn => ((((unhide hod1).keep X.upd).cell q hq).trans (unhide hcell))
        refine wq_region_tail 12 (by kernel_rfl) (by kernel_rfl) ?_
        simp only [List.take_succ_cons, List.take_zero, List.drop_succ_cons, List.drop_zero]
        iterate 10
          refine WQ.step (fun K hK => ?_)
          go_simp
          refine hK _ ?_
          clear hK K
        refine WQ.step (fun K hK => ?_)
        go_simp
        refine ⟨_, fun X => Calls.updT_same X (unhide hLn X.to), hK _ ?_⟩
        clear hK K
        refine WQ.step (fun K hK => ?_)
        go_simp
        refine hK _ ?_
        clear hK K
        refine WQ.nil ?_
        rintro _ ⟨X, rfl⟩
        clear k0 k1 kq
        have hX := X.upd
        generalize X.to = wt at hX ⊢
        have hod4 := (unhide hod1).keep hX
        have dq := (hod4.cell q hq).trans (unhide hcell)
        have fq := hod4.frozen q
        have hod5 := hide (unhide hput _ hod4)
        have hB5 := hide (below_upd (below_upd (unhide hB1) hX (Nat.le_refl _) (.inr (Nat.le_refl _))) (upd_setCellG wt g q (.int .i64 o2)) (Nat.le_refl _) (.inl hgw))
        clear hX hod1 hod4 hB1 hcc hput hLn
        go_wp2_with fail
        go_roundw
        case rel => exact ⟨k + 1, by rw [unhide hs2], by go_num, by omega, hod5, hB5⟩
        case measure => simp [intOf]; omega
    · obtain rfl : k = cs.length := by omega
      have hfin := hide (Upd.of_below (unhide hB) 0 0)
      have kI : decide ((cs.length : Int) < (cs.length : Int)) = false := decide_eq_false (by omega)
      clear hB hod
      go_wp2
      go_ret
      exact ⟨by rw [unhide hE]; rfl, unhide hfin⟩
end Go.Proofs.Ytocoeodoihdkgaa

/- Odds: the specification's OddsPack. -/
namespace Go.Proofs.Ytocoeodoihdkgaa
open Go.RowKit

theorem HeldF.belowB {B g : Nat} {cs : List Value} {w w' : World} (h : HeldF w g cs) (hb : Below B w w') (hg : g < B) : HeldF w' g cs := by
  have e := hb.block g hg
  exact ⟨⟨Nat.lt_of_lt_of_le h.1.1 hb.size, fun j u hj => (World.cell?_of_block (a := ⟨g, j, none⟩) e).trans (h.1.2 j u hj)⟩, fun j => (World.frozen?_of_block (a := ⟨g, j, none⟩) e).trans (h.2 j)⟩
/-- What stands between two choices of the specification's pack. -/
structure SpSt (w wr : World) (g : Nat) (P : Nat) (cs : List Ch) (k : Nat) (v : Value) : Prop where
  out : OutAt wr g (g + 2) v (rgK cs k)
  row : RowI wr (g + 1) P (oddsI P (oddsK cs k))
  bel : Below w.heap.size w wr
  sz : g + 2 ≤ wr.heap.size
theorem SpSt.upd {w wr wx : World} {g P k : Nat} {cs : List Ch} {v : Value} (h : SpSt w wr g P cs k v) (u : Upd 0 0 wr wx) : SpSt w wx g P cs k v :=
  ⟨⟨h.out.1.keep u, h.out.2.upd u⟩, h.row.keep u, below_upd h.bel u (Nat.le_refl _) (.inr (Nat.le_refl _)), by have := u.size; have := h.sz; omega⟩
set_option maxHeartbeats 16000000 in
set_option maxRecDepth 1000000 in
theorem specL12Pack (P : Nat) (ad : Option Addr) (cap : Nat) (cs : List Ch) (w : World) (hP : P ≤ 512) (hlen : cs.length ≤ 20000) (hch : ChsOk (P : Int) cs) (hA : ArgCh w ad cs) :
    Calls Try.prog 63 #[.int .i64 (P : Int), .slice ad cs.length cap] w fun e w' => ∃ v, e = .returned v ∧ OwnY w' w.heap.size w'.heap.size v (packL cs) ∧ Upd 0 0 w w' := by
  have hB0 := (Below.refl w.heap.size w).alloc (Nat.le_refl _) (.cells #[.slice none 0 0, .int .u64 0, .int .u64 4294967295] 132)
  have hh0 := heldF_new w [.slice none 0 0, .int .u64 0, .int .u64 4294967295] 132
  have hs0 : (w.alloc (.cells #[.slice none 0 0, .int .u64 0, .int .u64 4294967295] 132)).heap.size = w.heap.size + 1 := by simp
  have hS := hide (fun X => specL12Odds P X hP)
  replace hch := hide hch
  replace hA := hide hA
  replace hB0 := hide hB0
  replace hh0 := hide hh0
  go_enter Try.func63, Try.ntmps63
  go_wp2_with fail
  simp only [List.toArray] at hh0
  generalize w.alloc (.cells #[.slice none 0 0, .int .u64 0, .int .u64 4294967295] 132) = w1 at hB0 hh0 hs0 ⊢
  refine (unhide hS _).mono ?_
  rintro e w2 ⟨rfl, hrow, hb2⟩
  rw [hs0] at hrow hb2 ⊢
  have hlt2 := hrow.lt
  have hs2 : w.heap.size + 2 ≤ w2.heap.size := by omega
  have hh2 := (unhide hh0).belowB hb2 (by omega)
  have hB2 := (unhide hB0).trans (hb2.mono (by omega))
  clear hb2 hB0 hh0 hS hs0
  generalize hg : w.heap.size = g at hs2 hrow hh2 hlt2 ⊢
  have hSp := hide (show SpSt w w2 g P cs 0 (.slice none 0 0) from ⟨⟨hh2, TRow.empty _ _⟩, hrow, hB2, hs2⟩)
  clear hB2 hrow hh2 hs2 hlt2
  go_wp2_with fail
  go_loopw [16, 8] (fun i _ wr => ∃ (k : Nat) (v : Value), i = .int .i64 (k : Int) ∧ k ≤ cs.length ∧ Hid (SpSt w wr g P cs k v)) (fun i _ _ => cs.length - (intOf i).toNat)
  case atStart => exact ⟨0, _, rfl, by omega, hSp⟩
  case round =>
    clear hSp
    obtain ⟨k, v, rfl, hk, hSp⟩ := hrel
    by_cases hkl : k < cs.length
    · obtain ⟨bb, off, rfl, hbl, hcl⟩ := (unhide hA) (ne_of_lt_length hkl)
      obtain ⟨c0, c1⟩ := hcl k hkl
      replace c0 := ((unhide hSp).bel.cell (by simpa using hbl)).trans c0
      replace c1 := ((unhide hSp).bel.cell (by simpa using hbl)).trans c1
      have hck := unhide hch k hkl
      have hso := oddsK_succ cs k
      have hrg := rgK_succ cs k
      have hrok := rgK_ok cs k
      have hlnk := rgK_len cs k
      have hSk : ∀ q, 31 ≤ oddsK cs k q ∧ oddsK cs k q ≤ 4065 := oddsK_bd cs k
      rw [show cs.getD k Ch0 = cs.getD k (0, 0) from rfl] at c0 c1
      generalize cs.getD k (0, 0) = c at c0 c1 hck hso hrg
      obtain ⟨x, y⟩ := c
      obtain ⟨⟨x0, x1⟩, y0, y1⟩ := hck
      obtain ⟨q, rfl⟩ := Int.eq_ofNat_of_zero_le x0
      have hq : q < P := by simp at x1; omega
      have hqI : (q : Int) < (P : Int) := by omega
      replace c0 : wr.cell? ⟨bb, off + k * 2, none⟩ = some (.int .i64 (q : Int)) := c0
      replace c1 : wr.cell? ⟨bb, off + k * 2 + 1, none⟩ = some (.int .i64 y) := c1
      replace hrg : rgK cs (k + 1) = putF (rgK cs k) (oddsK cs k (q : Int)) y := hrg
      have hLn := hide (fun X => specL12Learn (oddsK cs k (q : Int)) y (hSk _) X)
      have hBt := hide (fun X (hs : g + 2 ≤ X.heap.size) (h : OutAt X g (g + 2) v (rgK cs k)) => specBitOut g (g + 2) v (rgK cs k) (oddsK cs k (q : Int)) y X (by omega) hs h hrok (hSk _) (by omega))
      rw [← hrg] at hBt
      have hal := Upd.of_below ((Below.refl wr.heap.size wr).alloc (Nat.le_refl _) (.cells #[.int .i64 (q : Int), .int .i64 y] 38)) 0 0
      have hSp1 := (unhide hSp).upd hal
      have hcc := heldF_new wr [.int .i64 (q : Int), .int .i64 y] 38
      have hput := hide (fun X (hX : RowI X (g + 1) P (oddsI P (oddsK cs k))) => hX.learn ((q : Int), y) q rfl)
      rw [← hso] at hput
      have hob := hSk (q : Int)
      have hcell := oddsI_at P (oddsK cs k) q hq
      generalize hov : oddsK cs k (q : Int) = o at hob hcell hLn hput hBt
      have hlb := learnF_bd o y hob
      generalize hlv : learnF o y = o2 at hlb hLn hput
      obtain ⟨o0, o1⟩ := hob
      obtain ⟨l0, l1⟩ := hlb
      have hgl := (unhide hSp).sz
      have hvb := hide ((unhide hSp).out.2.block)
      replace hcell := hide hcell
      replace hSp1 := hide hSp1
      replace hcc := hide hcc
      replace hov := hide hov
      replace hlv := hide hlv
      clear hal hSp hcl x1 hSk hso hrg hrok hlnk
      have kI : decide ((k : Int) < (cs.length : Int)) = true := decide_eq_true (by omega)
      go_upto_region 6 with fail
      simp only [List.toArray] at hcc
      generalize wr.alloc (.cells #[.int .i64 (q : Int), .int .i64 y] 38) = wn at hcc hSp1 ⊢
      generalize wr.heap.size = cb at hcc hgl hvb ⊢
      clear c0 c1
      have k0 := fun X : UpdT wn => (((unhide hcc).1.updT X).2 0 _ rfl)
      have k1 := fun X : UpdT wn => (((unhide hcc).1.updT X).2 1 _ rfl)
      have kq := fun X : UpdT wn => ((((unhide hSp1).row.keep X.upd).cell q hq).trans (unhide hcell))
      refine wq_region_tail 8 (by kernel_rfl) (by kernel_rfl) ?_
      simp only [List.take_succ_cons, List.take_zero, List.drop_succ_cons, List.drop_zero]
      iterate 8
        refine WQ.step (fun K hK => ?_)
        go_simp
        refine hK _ ?_
        clear hK K
      refine WQ.nil ?_
      rintro _ ⟨X, rfl⟩
      clear k0 k1 kq
      have hX := X.upd
      generalize X.to = wt at hX ⊢
      have hSp2 := (unhide hSp1).upd hX
      have hcc2 := (unhide hcc).keep hX
      clear hX hSp1 hcc
      go_wp2_with fail
      refine (unhide hBt wt hSp2.sz hSp2.out).mono ?_
      rintro e w3 ⟨rfl, v3, hO3, hkp3, hfr3⟩
      have hgs : w.heap.size ≤ g := by omega
      have hsz3 := hkp3.size
      have hsz2 := hSp2.sz
      have hn1 : some (g + 1) ≠ v.ownBlock := fun e => by have := (unhide hvb _ e.symm).1; omega
      have hn2 : some cb ≠ v.ownBlock := fun e => by have := (unhide hvb _ e.symm).2; omega
      have hrow3 := hide (hSp2.row.kpO hkp3 (by omega) hn1)
      have hcc3 := hide (hcc2.kpO hkp3 (by omega) hn2)
      have hB3 := hide (hkp3.below hSp2.bel (Nat.le_refl _) hgs (fun b hb => by have := (unhide hvb _ hb).1; omega))
      have hs3 : g + 2 ≤ w3.heap.size := by omega
      replace hO3 := hide hO3
      clear hkp3 hfr3 hSp2 hcc2 hn1 hn2 hvb hBt hsz3 hsz2
      go_wp2_with fail
      have k0 := fun X : UpdT w3 => (((unhide hcc3).1.updT X).2 0 _ rfl)
      have k1 := fun X : UpdT w3 => (((unhide hcc3).1.updT X).2 1 _ rfl)
      have kq := fun X : UpdT w3 => ((((unhide hrow3).keep X.upd).cell q hq).trans (unhide hcell))
      refine wq_region_tail 12 (by kernel_rfl) (by kernel_rfl) ?_
      simp only [List.take_succ_cons, List.take_zero, List.drop_succ_cons, List.drop_zero]
      iterate 10
        refine WQ.step (fun K hK => ?_)
        go_simp
        refine hK _ ?_
        clear hK K
      refine WQ.step (fun K hK => ?_)
      go_simp
      refine ⟨_, fun X => Calls.updT_same X (unhide hLn X.to), hK _ ?_⟩
      clear hK K
      refine WQ.step (fun K hK => ?_)
      go_simp
      refine hK _ ?_
      clear hK K
      refine WQ.nil ?_
      rintro _ ⟨X, rfl⟩
      clear k0 k1 kq
      have hX := X.upd
      generalize X.to = wx at hX ⊢
      have hrow4 := (unhide hrow3).keep hX
      have dq := (hrow4.cell q hq).trans (unhide hcell)
      have fq := hrow4.frozen q
      have hfin : Hid (SpSt w (wx.setCell ⟨g + 1, q, none⟩ (.int .i64 o2)) g P cs (k + 1) v3) := hide
        ⟨⟨((unhide hO3).1.keep hX).other (by omega) q (.int .i64 o2), ((unhide hO3).2.upd hX).head (by omega)⟩, unhide hput _ hrow4,
          below_upd (below_upd (unhide hB3) hX (Nat.le_refl _) (.inr (Nat.le_refl _))) (upd_setCellG wx (g + 1) q (.int .i64 o2)) (Nat.le_refl _) (.inl (by omega)), by have := hX.size; simp; omega⟩
      clear hX hrow3 hrow4 hO3 hB3 hcc3 hput hLn
      go_wp2_with fail
      go_roundw
      case rel => exact ⟨k + 1, v3, by go_num, by omega, hfin⟩
      case measure => simp [intOf]; omega
    · obtain rfl : k = cs.length := by omega
      have kI : decide ((cs.length : Int) < (cs.length : Int)) = false := decide_eq_false (by omega)
      have hrok := rgK_ok cs cs.length
      have hlnk := rgK_len cs cs.length
      have hlo := hide (shiftsF_low (rgK cs cs.length) hrok.low0 (by have := hrok.rng0; have := hrok.sum; omega))
      have hpl : Hid ((shiftsF (rgK cs cs.length) 4).out = packL cs) := hide rfl
      have hsl := hide (shiftsF_len (rgK cs cs.length))
      have hO0 := hide (show OutAt wr g (g + 2) v (shiftsF (rgK cs cs.length) 0) from (unhide hSp).out)
      have hB0 := hide (unhide hSp).bel
      have hs0 := (unhide hSp).sz
      generalize rgK cs cs.length = r at hlo hpl hsl hO0 hlnk
      clear hSp hrok hkl
      go_wp2_with fail
      rename_i wq
      go_loopw [9] (fun i wx => ∃ (m : Nat) (v : Value), i = .int .i64 (m : Int) ∧ m ≤ 4 ∧ Hid (OutAt wx g (g + 2) v (shiftsF r m)) ∧ Hid (Below w.heap.size w wx) ∧ g + 2 ≤ wx.heap.size) (fun i _ => 4 - (intOf i).toNat)
      case atStart => exact ⟨0, v, rfl, by omega, hO0, hB0, hs0⟩
      case round =>
        clear hO0 hB0 hs0
        obtain ⟨m, u, rfl, hm, hO, hB, hs⟩ := hrel
        by_cases hm4 : m < 4
        · have t4 : decide ((m : Int) < 4) = true := decide_eq_true (by omega)
          have hl := unhide hlo m
          have hln := unhide hsl m
          go_wp2_with fail
          refine (specShiftA g (g + 2) u (shiftsF r m) wr (by omega) hs (unhide hO) hl.1 hl.2 (by omega)).mono ?_
          rintro e w4 ⟨rfl, v4, hO4, hkp4, _⟩
          have hB4 := hide (hkp4.below (unhide hB) (Nat.le_refl _) (by omega) (fun b hb => by have := ((unhide hO).2.block b hb).1; omega))
          have hs4 : g + 2 ≤ w4.heap.size := by have := hkp4.size; omega
          rw [← shiftsF_succ] at hO4
          replace hO4 := hide hO4
          clear hkp4 hO hB hl hln
          go_wp2_with fail
          go_roundw
          case rel => exact ⟨m + 1, v4, by go_num, by omega, hO4, hB4, hs4⟩
          case measure => simp [intOf]; omega
        · obtain rfl : m = 4 := by omega
          have c0 := (unhide hO).1.1.2 0 _ rfl
          have ho : Hid (OwnY wr w.heap.size wr.heap.size u (packL cs)) := hide (by
            have h := (unhide hO).2
            unfold TRow at h
            rw [unhide hpl] at h
            exact own_mono (Own.of h) (by omega) (Nat.le_refl _))
          have hfin := hide (Upd.of_below (unhide hB) 0 0)
          clear hO hB
          go_wp2
          go_ret
          exact ⟨_, rfl, unhide ho, unhide hfin⟩
set_option maxHeartbeats 4000000 in
theorem specOddsPack (p : Int) (v : Value) (cs : List Ch) (w : World) (hp0 : -9223372036854775808 ≤ p) (hp1 : p ≤ 9223372036854775807) (hn : cs.length ≤ 1048576) (_hR : InCh cs) (hv : RdCh w v cs) :
    Calls Try.prog 19 #[.int .i64 p, v] w fun e w' => ∃ u, e = .returned u ∧ OwnY w' w.heap.size w'.heap.size u (oddsPack p cs) ∧ Upd 0 0 w w' := by
  have hG := hide (specL12Ok p v cs w hn hv)
  obtain ⟨ad, cap, rfl, hA⟩ := hv
  by_cases hok : oddsB p cs = true
  case neg =>
    have hok : oddsB p cs = false := by simpa using hok
    have hE := hide (show oddsPack p cs = [] by unfold oddsPack; rw [hok]; rfl)
    rw [hok] at hG
    clear hok hA
    go_enter Try.func19, Try.ntmps19
    go_wp2_with fail
    refine (unhide hG).mono ?_
    rintro e w1 ⟨rfl, hu⟩
    replace hu := hide hu
    clear hG
    go_wp2
    go_ret
    exact ⟨_, rfl, by rw [unhide hE]; exact ⟨World.ownsRow_nil _ _ _ _, fun k hk => by simp [Value.ownBlock] at hk⟩, unhide hu⟩
  have hE := hide (show oddsPack p cs = packL cs by unfold oddsPack; rw [hok]; rfl)
  rw [hok] at hG
  obtain ⟨⟨hp1', hp512⟩, hlen, hch⟩ := (oddsB_iff _ _).1 hok
  obtain ⟨P, rfl⟩ := Int.eq_ofNat_of_zero_le (show 0 ≤ p by omega)
  have hC := hide (fun X (h : ArgCh X ad cs) => specL12Pack P ad cap cs X (by omega) hlen hch h)
  replace hA := hide hA
  clear hok hch
  go_enter Try.func19, Try.ntmps19
  go_wp2_with fail
  refine (unhide hG).mono ?_
  rintro e w1 ⟨rfl, hu1⟩
  have hA1 := (unhide hA).below hu1.none
  replace hu1 := hide hu1
  clear hG
  go_wp2_with fail
  refine (unhide hC _ hA1).mono ?_
  rintro e w2 ⟨u, rfl, ho, hu2⟩
  have ho2 := hide (own_mono ho (unhide hu1).size (Nat.le_refl _))
  have hu3 := hide ((unhide hu1).trans hu2)
  clear ho hu2 hu1 hC hA1
  go_wp2
  go_ret
  exact ⟨_, rfl, by rw [unhide hE]; exact unhide ho2, unhide hu3⟩
end Go.Proofs.Ytocoeodoihdkgaa

/- Odds: the program's rows of 512 odds: how they begin, learn, what a choice costs by them. -/
namespace Go.Proofs.Ytocoeodoihdkgaa
open Go.RowKit

def oddsV (s : Int → Int) : List Value := (List.range 512).map fun p : Nat => .int .u16 (s (p : Int))
@[simp] theorem oddsV_length (s : Int → Int) : (oddsV s).length = 512 := by simp [oddsV]
theorem oddsV_at (s : Int → Int) (p : Nat) (h : p < 512) : (oddsV s)[p]? = some (.int .u16 (s p)) := by
  unfold oddsV; rw [List.getElem?_map, List.getElem?_range h]; rfl
theorem oddsV_put (s : Int → Int) (c : Int × Int) (p : Nat) (hp : c.1 = (p : Int)) : (oddsV s).set p (.int .u16 (learnF (s c.1) c.2)) = oddsV (oddsSet s c) := by
  apply List.ext_getElem?
  intro j
  by_cases hj : j < 512
  · by_cases e : p = j
    · subst e
      rw [List.getElem?_set_self (by simpa using hj), oddsV_at _ _ hj]
      unfold oddsSet; rw [if_pos hp.symm, hp]
    · rw [List.getElem?_set_ne e, oddsV_at _ _ hj, oddsV_at _ _ hj]
      unfold oddsSet; rw [if_neg (by omega)]
  · rw [List.getElem?_eq_none (by simp; omega), List.getElem?_eq_none (by simp; omega)]
/-- A row of odds at the head of a block, other cells behind them. -/
def OdAt (w : World) (g : Nat) (s : Int → Int) (rest : List Value) : Prop := HeldF w g (oddsV s ++ rest)
theorem OdAt.odds {w : World} {g : Nat} {s : Int → Int} {rest : List Value} (h : OdAt w g s rest) (p : Nat) (hp : p < 512) : w.cell? ⟨g, p, none⟩ = some (.int .u16 (s p)) :=
  h.1.2 p _ (by rw [List.getElem?_append_left (by simpa using hp)]; exact oddsV_at s p hp)
theorem OdAt.back {w : World} {g : Nat} {s : Int → Int} {rest : List Value} (h : OdAt w g s rest) (i : Nat) (v : Value) (hv : rest[i]? = some v) : w.cell? ⟨g, 512 + i, none⟩ = some v :=
  h.1.2 (512 + i) v (by rw [List.getElem?_append_right (by simp)]; simpa using hv)
theorem OdAt.frozen {w : World} {g : Nat} {s : Int → Int} {rest : List Value} (h : OdAt w g s rest) (j : Nat) : w.frozen? ⟨g, j, none⟩ = false := h.2 j
theorem OdAt.lt {w : World} {g : Nat} {s : Int → Int} {rest : List Value} (h : OdAt w g s rest) : g < w.heap.size := h.1.1
theorem OdAt.upd {w w' : World} {g a b : Nat} {s : Int → Int} {rest : List Value} (h : OdAt w g s rest) (u : Upd a b w w') (hd : g + 1 ≤ a ∨ b ≤ g) : OdAt w' g s rest := HeldF.upd h u hd
theorem OdAt.learn {w : World} {g : Nat} {s : Int → Int} {rest : List Value} (h : OdAt w g s rest) (c : Int × Int) (p : Nat) (hp : c.1 = (p : Int)) (hl : p < 512) : OdAt (w.setCell ⟨g, p, none⟩ (.int .u16 (learnF (s c.1) c.2))) g (oddsSet s c) rest := by
  have h1 := HeldF.set h p (.int .u16 (learnF (s c.1) c.2)) (by simp; omega)
  rw [List.set_append_left _ _ (by simpa using hl), oddsV_put s c p hp] at h1
  exact h1
theorem OdAt.setBack {w : World} {g : Nat} {s : Int → Int} {rest : List Value} (h : OdAt w g s rest) (i : Nat) (hi : i < rest.length) (v : Value) : OdAt (w.setCell ⟨g, 512 + i, none⟩ v) g s (rest.set i v) := by
  have h1 := HeldF.set h (512 + i) v (by simp; omega)
  rw [List.set_append_right _ _ (by simp)] at h1
  rw [show 512 + i - (oddsV s).length = i by simp] at h1
  exact h1
theorem OdAt.other {w : World} {g : Nat} {s : Int → Int} {rest : List Value} (h : OdAt w g s rest) {g' : Nat} (hne : g' ≠ g) (o : Nat) (u : Value) : OdAt (w.setCell ⟨g', o, none⟩ u) g s rest := HeldF.other h hne o u
/-- One cell of a block is written. -/
theorem upd_setCell (w : World) (g j : Nat) (v : Value) : Upd g (g + 1) w (w.setCell ⟨g, j, none⟩ v) :=
  ⟨rfl, rfl, rfl, by simp, fun k _ hk => Below.heap_setCell w ⟨g, j, none⟩ v k (by simp; omega)⟩

def SOk (s : Int → Int) : Prop := ∀ p, 31 ≤ s p ∧ s p ≤ 4065
/-- What learning leaves, behind whatever was laid besides. -/
theorem learn_fin {w w0 wt : World} {g p : Nat} {b : Int} {s : Int → Int} {rest : List Value} (h : OdAt w0 g s rest) (hp : p < 512) (u0 : Upd 0 0 w w0) (u : Upd 0 0 w0 wt) (y : Int) (hy : y = learnF (s p) b) :
    OdAt (wt.setCell ⟨g, p, none⟩ (.int .u16 y)) g (oddsSet s (p, b)) rest ∧ Upd g (g + 1) w (wt.setCell ⟨g, p, none⟩ (.int .u16 y)) := by
  have h1 : OdAt wt g s rest := h.upd u (.inr (Nat.zero_le _))
  refine ⟨by rw [hy]; exact h1.learn (p, b) p rfl hp, ?_⟩
  have h2 := u0.trans u
  exact Upd.trans ⟨h2.os, h2.tape, h2.output, h2.size, fun k hk _ => h2.block k hk (.inr (Nat.zero_le _))⟩ (upd_setCell _ g p _)
set_option maxRecDepth 100000 in
set_option maxHeartbeats 8000000 in
theorem implLearn (g : Nat) (p : Nat) (b : Int) (s : Int → Int) (rest : List Value) (w : World) (h : OdAt w g s rest) (hp : p < 512) (hs : SOk s) :
    Calls Try.prog 66 #[.pointer (some ⟨g, 0, none⟩), .agg #[.int .i64 (p : Int), .int .i64 b]] w fun e w' => e = .returned (.tuple #[]) ∧ OdAt w' g (oddsSet s (p, b)) rest ∧ Upd g (g + 1) w w' := by
  have hu0 := Upd.of_below ((Below.refl w.heap.size w).alloc (Nat.le_refl _) (.cells #[.int .i64 (p : Int), .int .i64 b] 38)) 0 0
  have h1 := h.upd hu0 (.inr (Nat.zero_le _))
  have hch := heldF_new w [.int .i64 (p : Int), .int .i64 b] 38
  have hcell : (oddsV s ++ rest)[p]? = some (.int .u16 (s p)) := by rw [List.getElem?_append_left (by simpa using hp)]; exact oddsV_at s p hp
  obtain ⟨o, ho⟩ : ∃ o, s p = o := ⟨_, rfl⟩
  have hob := hs p
  rw [ho] at hcell hob
  have hl := learnF_bd o b hob
  obtain ⟨o0, o1⟩ := hob
  have hpI : (p : Int) < 512 := by omega
  replace h1 := hide h1
  replace hu0 := hide hu0
  replace hch := hide hch
  replace hcell := hide hcell
  replace ho := hide ho
  clear h hs
  by_cases hb : b = 0
  · have t : (b == 0) = true := by simpa using hb
    subst hb
    have hE : learnF o 0 = o + (4096 - o) / 32 := by unfold learnF; rw [if_pos rfl]
    rw [hE] at hl
    replace hE := hide hE
    obtain ⟨l0, l1⟩ := hl
    go_enter Try.func66, Try.ntmps66
    go_wp2_with fail
    simp only [List.toArray] at hch
    generalize w.alloc (.cells #[.int .i64 (p : Int), .int .i64 0] 38) = w0 at h1 hch hu0 ⊢
    generalize w.heap.size = c at hch ⊢
    have k0 := fun x : UpdT w0 => (((unhide hch).1.updT x).2 0 _ rfl)
    have kc := fun x : UpdT w0 => (((unhide h1).1.updT x).2 p _ (unhide hcell))
    refine wq_region_tail 17 (by kernel_rfl) (by kernel_rfl) ?_
    simp only [List.take_succ_cons, List.take_zero, List.drop_succ_cons, List.drop_zero]
    iterate 17
      refine WQ.step (fun K hK => ?_)
      go_simp
      refine hK _ ?_
      clear hK K
    refine WQ.nil ?_
    rintro _ ⟨x, rfl⟩
    clear k0 kc
    have hx := x.upd
    generalize x.to = wt at hx ⊢
    have f0 := (unhide h1).upd hx (.inr (Nat.zero_le _)) |>.frozen p
    have c0 := ((unhide h1).upd hx (.inr (Nat.zero_le _))).1.2 p _ (unhide hcell)
    have hfin := hide (learn_fin (b := 0) (unhide h1) hp (unhide hu0) hx (o + (4096 - o) / 32) (by rw [unhide ho, unhide hE]))
    clear hx h1 hch hu0
    go_wp2
    go_end0
    exact ⟨rfl, unhide hfin⟩
  · have t : (b == 0) = false := by simpa using hb
    have hE : learnF o b = o - o / 32 := by unfold learnF; rw [if_neg hb]
    rw [hE] at hl
    replace hE := hide hE
    obtain ⟨l0, l1⟩ := hl
    clear hb
    go_enter Try.func66, Try.ntmps66
    go_wp2_with fail
    simp only [List.toArray] at hch
    generalize w.alloc (.cells #[.int .i64 (p : Int), .int .i64 b] 38) = w0 at h1 hch hu0 ⊢
    generalize w.heap.size = c at hch ⊢
    have k0 := fun x : UpdT w0 => (((unhide hch).1.updT x).2 0 _ rfl)
    have kc := fun x : UpdT w0 => (((unhide h1).1.updT x).2 p _ (unhide hcell))
    refine wq_region_tail 16 (by kernel_rfl) (by kernel_rfl) ?_
    simp only [List.take_succ_cons, List.take_zero, List.drop_succ_cons, List.drop_zero]
    iterate 16
      refine WQ.step (fun K hK => ?_)
      go_simp
      refine hK _ ?_
      clear hK K
    refine WQ.nil ?_
    rintro _ ⟨x, rfl⟩
    clear k0 kc
    have hx := x.upd
    generalize x.to = wt at hx ⊢
    have f0 := (unhide h1).upd hx (.inr (Nat.zero_le _)) |>.frozen p
    have c0 := ((unhide h1).upd hx (.inr (Nat.zero_le _))).1.2 p _ (unhide hcell)
    have hfin := hide (learn_fin (b := b) (unhide h1) hp (unhide hu0) hx (o - o / 32) (by rw [unhide ho, unhide hE]))
    clear hx h1 hch hu0
    go_wp2
    go_end0
    exact ⟨rfl, unhide hfin⟩
set_option maxRecDepth 100000 in
set_option maxHeartbeats 8000000 in
theorem implCost (g : Nat) (p : Nat) (b : Int) (s : Int → Int) (rest : List Value) (w : World) (h : OdAt w g s rest) (hp : p < 512) (hs : SOk s) :
    Calls Try.prog 65 #[.pointer (some ⟨g, 0, none⟩), .agg #[.int .i64 (p : Int), .int .i64 b]] w fun e w' => e = .returned (.int .i64 (costF (s p) b)) ∧ Upd 0 0 w w' := by
  have hu0 := Upd.of_below ((Below.refl w.heap.size w).alloc (Nat.le_refl _) (.cells #[.int .i64 (p : Int), .int .i64 b] 38)) 0 0
  have h1 := h.upd hu0 (.inr (Nat.zero_le _))
  have hch := heldF_new w [.int .i64 (p : Int), .int .i64 b] 38
  have hcell : (oddsV s ++ rest)[p]? = some (.int .u16 (s p)) := by rw [List.getElem?_append_left (by simpa using hp)]; exact oddsV_at s p hp
  have hob := hs p
  generalize s p = o at hcell hob ⊢
  have hpb := partsF_bd o b hob
  have hL := hide (fun X => implLikely (partsF o b) (by omega) (by omega) X)
  have hR := hide (fun X => implRound4 (if b = 1 then 4096 - o else o) X (by split <;> omega) (by split <;> omega))
  have hcf : costF o b = logF (partsF o b) := rfl
  have hpf : partsF o b = ((if b = 1 then 4096 - o else o) + 8) / 16 := rfl
  rw [← hpf] at hR
  rw [hcf]
  clear hcf hpf
  generalize partsF o b = q at hR hL hpb ⊢
  obtain ⟨o0, o1⟩ := hob
  obtain ⟨q0, q1⟩ := hpb
  have hpI : (p : Int) < 512 := by omega
  replace h1 := hide h1
  replace hu0 := hide hu0
  replace hch := hide hch
  replace hcell := hide hcell
  clear h hs
  go_enter Try.func65, Try.ntmps65
  go_wp2_with fail
  simp only [List.toArray] at hch
  generalize w.alloc (.cells #[.int .i64 (p : Int), .int .i64 b] 38) = w0 at h1 hch hu0 ⊢
  generalize w.heap.size = c at hch ⊢
  have k0 := fun x : UpdT w0 => (((unhide hch).1.updT x).2 0 _ rfl)
  have kc := fun x : UpdT w0 => (((unhide h1).1.updT x).2 p _ (unhide hcell))
  refine wq_region_tail 7 (by kernel_rfl) (by kernel_rfl) ?_
  simp only [List.take_succ_cons, List.take_zero, List.drop_succ_cons, List.drop_zero]
  iterate 7
    refine WQ.step (fun K hK => ?_)
    go_simp
    refine hK _ ?_
    clear hK K
  refine WQ.nil ?_
  rintro _ ⟨x, rfl⟩
  clear k0 kc
  have hx := x.upd
  generalize x.to = wt at hx ⊢
  have c1 := ((unhide hch).keep hx).1.2 1 _ rfl
  have hfin := hide ((unhide hu0).trans hx)
  clear hx h1 hch hu0
  by_cases hb : b = 1
  · have t : (b == 1) = true := by simpa using hb
    rw [if_pos hb] at hR
    clear hb
    go_wp2_with fail
    refine (unhide hR _).mono ?_
    rintro e w1 ⟨rfl, rfl⟩
    go_wp2_with fail
    refine (unhide hL _).mono ?_
    rintro e w1 ⟨rfl, rfl⟩
    go_wp2
    go_ret
    exact ⟨rfl, unhide hfin⟩
  · have t : (b == 1) = false := by simpa using hb
    rw [if_neg hb] at hR
    clear hb
    go_wp2_with fail
    refine (unhide hR _).mono ?_
    rintro e w1 ⟨rfl, rfl⟩
    go_wp2_with fail
    refine (unhide hL _).mono ?_
    rintro e w1 ⟨rfl, rfl⟩
    go_wp2
    go_ret
    exact ⟨rfl, unhide hfin⟩
end Go.Proofs.Ytocoeodoihdkgaa

/- Odds: the program's odds at first, and what choices cost. -/
namespace Go.Proofs.Ytocoeodoihdkgaa
open Go.RowKit

def odCells (k : Nat) (cs : Array Value) : Prop := cs.size = 512 ∧ cs.all (·.oneCell') = true ∧ ∀ j, j < k → cs[j]? = some (.int .u16 2048)
theorem odCells_zero : odCells 0 (Array.replicate 512 (.int .u16 0)) := ⟨by simp, by rw [Array.all_eq_true_iff_forall_mem]; intro v hv; rw [Array.mem_replicate] at hv; rw [hv.2]; rfl, fun j h => by omega⟩
theorem odCells_succ (k : Nat) (cs : Array Value) (hk : k < 512) (h : odCells k cs) : odCells (k + 1) (cs.setIfInBounds k (.int .u16 2048)) := by
  refine ⟨by simpa using h.1, ?_, ?_⟩
  · have h1 := h.2.1
    rw [Array.all_eq_true_iff_forall_mem] at h1 ⊢
    intro v hv
    rcases Array.mem_or_eq_of_mem_setIfInBounds hv with hv | rfl
    · exact h1 v hv
    · rfl
  · intro j hj
    rw [Array.getElem?_setIfInBounds]
    by_cases e : k = j
    · subst e; simp [h.1, hk]
    · rw [if_neg e]; exact h.2.2 j (by omega)
def odds0 : Int → Int := fun _ => 2048
theorem odCells_all (cs : Array Value) (h : odCells 512 cs) : cs = (oddsV odds0).toArray := by
  apply Array.ext_getElem?
  intro j
  by_cases hj : j < 512
  · rw [h.2.2 j hj, List.getElem?_toArray, oddsV_at _ _ hj]; rfl
  · rw [Array.getElem?_eq_none (by rw [h.1]; omega), List.getElem?_toArray, List.getElem?_eq_none (by simp; omega)]
theorem infoOd : (Try.prog.info? 86).map (fun i => (i.zero, i.size)) = some (some (.agg (Array.replicate 512 (.int .u16 0))), 512) := by kernel_rfl
theorem zeroOd : ∃ z, odCells 0 z ∧ ∀ w, (zeroValue 86).run Try.prog w = .ok (.agg z) w := ⟨_, odCells_zero, (zero_of_info infoOd).1⟩
theorem sizeOd : (Try.prog.info? 86).map (·.size) = some 512 := (zero_of_info infoOd).2
set_option maxHeartbeats 4000000 in
set_option maxRecDepth 1000000 in
theorem implStartOdds (w : World) :
    Calls Try.prog 64 #[] w fun e w' => e = .returned (.agg (oddsV odds0).toArray) ∧ Upd 0 0 w w' := by
  obtain ⟨z, hz0, hz⟩ := zeroOd
  go_enter Try.func64, Try.ntmps64
  go_wp2
  go_loopw [2, 3] (fun _ i wr => ∃ k : Nat, ∃ cs, k ≤ 512 ∧ i = .int .i64 k ∧ odCells k cs ∧ wr.heap[w.heap.size + 1]? = some (.cells cs 86 (0, 0)) ∧ wr.heap[w.heap.size]? = some (.cells z 86 (0, 0)) ∧ Below w.heap.size w wr) (fun _ i _ => 512 - (intOf i).toNat)
  case atStart =>
    refine ⟨0, z, by omega, rfl, hz0, ?_, ?_, ((Below.refl _ _).alloc (Nat.le_refl _) _).alloc (by simp) _⟩
    · have := heap_alloc_new (w.alloc (.cells z 86)) (.cells z 86); simpa using this
    · rw [Below.heap_alloc _ _ _ (by simp)]; exact heap_alloc_new _ _
  case round =>
    obtain ⟨k, cs, hk, rfl, hcs, hrow, hrow0, hbel⟩ := hrel
    by_cases hlt : k < 512
    · have hd : decide ((k : Int) < 512) = true := by simp; omega
      have hcell : wr.cell? ⟨w.heap.size + 1, k, none⟩ = some (cs.getD k undef) := by
        rw [cell_of_row _ _ _ _ _ _ hrow, Array.getElem?_eq_getElem (by rw [hcs.1]; exact hlt)]; simp [hcs.1, hlt]
      have hfree : wr.frozen? ⟨w.heap.size + 1, k, none⟩ = false := by simp [World.frozen?, hrow]
      have hnew := odCells_succ k cs hlt hcs
      have hnr := heap_setCell_same wr (w.heap.size + 1) k cs 86 (.int .u16 2048) hrow
      have hg0 : (wr.setCell ⟨w.heap.size + 1, k, none⟩ (.int .u16 2048)).heap[w.heap.size]? = some (.cells z 86 (0, 0)) := by
        rw [Below.heap_setCell _ _ _ _ (by simp)]; exact hrow0
      have hbel' := hbel.setCell (p := ⟨w.heap.size + 1, k, none⟩) (by simp) (.int .u16 2048)
      replace hnr := hide hnr
      replace hg0 := hide hg0
      replace hrow := hide hrow
      replace hrow0 := hide hrow0
      clear hz
      go_wp2
      go_roundw
      case rel => exact ⟨k + 1, _, by omega, by go_num, hnew, unhide hnr, unhide hg0, hbel'⟩
      case measure => simp [intOf]; omega
    · have hkl : k = 512 := by omega
      subst hkl
      replace hrow0 := hide hrow0
      replace hrow := hide hrow
      have hE := hide (odCells_all cs hcs)
      go_wp2_with fail
      refine wp_load_row 86 (.tmp 1) rfl (w.heap.size + 1) rfl 86 cs (0, 0) _ (unhide hrow) Try.underlying86 rfl (by rw [hcs.1]; exact sizeOd) ?_
      rename_i aK
      refine aK _ _ ?_
      refine wpList_store_row rfl 86 (.tmp 0) (.tmp 9) rfl w.heap.size cs rfl rfl 86 z (unhide hrow0) (by rw [hcs.1]; exact sizeOd) (by rw [hcs.1, hz0.1]) hcs.2.1 ?_
      have hres : (wr.setRow w.heap.size cs).heap[w.heap.size]? = some (.cells cs 86 (0, 0)) := setRow_heap wr _ z cs _ _ (unhide hrow0)
      replace hres := hide hres
      have hb2 : Below w.heap.size w (wr.setRow w.heap.size cs) := below_setRow hbel (Nat.le_refl _) cs
      go_wp2_with fail
      refine bodyPost_ret (v := .agg cs) (results_cell_row rfl _ _ w.heap.size 86 cs (0, 0) _ rfl (unhide hres) Try.underlying86 rfl (by rw [hcs.1]; exact sizeOd)) rfl ⟨by rw [unhide hE], Upd.of_below hb2 0 0⟩
end Go.Proofs.Ytocoeodoihdkgaa

/- Odds: the program's range: split, narrowed, widened. -/
namespace Go.Proofs.Ytocoeodoihdkgaa
open Go.RowKit

theorem OdAt.keep {w w' : World} {g : Nat} {s : Int → Int} {rest : List Value} (h : OdAt w g s rest) (u : Upd 0 0 w w') : OdAt w' g s rest := h.upd u (.inr (Nat.zero_le _))
theorem odds_get (s : Int → Int) (rest : List Value) (p : Nat) (hp : p < 512) : (oddsV s ++ rest)[p]? = some (.int .u16 (s p)) := by rw [List.getElem?_append_left (by simpa using hp)]; exact oddsV_at s p hp
theorem odds_back (s : Int → Int) (rest : List Value) (i : Nat) (v : Value) (h : rest[i]? = some v) : (oddsV s ++ rest)[512 + i]? = some v := by rw [List.getElem?_append_right (by simp)]; simpa using h
set_option maxRecDepth 100000 in
set_option maxHeartbeats 8000000 in
theorem implSplit (g p : Nat) (s : Int → Int) (rng : Int) (tl : List Value) (w : World) (h : OdAt w g s (.int .u32 rng :: tl)) (hp : p < 512) (hs : SOk s) (r0 : 16777216 ≤ rng) (r1 : rng ≤ 4294967295) :
    Calls Try.prog 100 #[.pointer (some ⟨g, 0, none⟩), .int .i64 (p : Int)] w fun e w' => e = .returned (.int .u32 (splitF rng (s p))) ∧ Upd 0 0 w w' := by
  have hsp := split_bd rng (s p) (hs p) r0
  have hcell := odds_get s (.int .u32 rng :: tl) p hp
  have hcw := odds_back s (.int .u32 rng :: tl) 0 _ rfl
  have hob := hs p
  have hsv : splitF rng (s p) = rng / 4096 * s p := rfl
  generalize splitF rng (s p) = sv at hsp hsv ⊢
  generalize s p = o at hcell hob hsv
  obtain ⟨o0, o1⟩ := hob
  have hwm : IntKind.u32.wrap (rng / 4096 * o) = sv := by rw [← hsv]; simp [IntKind.wrap, IntKind.bits, IntKind.signed]; omega
  have hwo : IntKind.u32.wrap o = o := by simp [IntKind.wrap, IntKind.bits, IntKind.signed]; omega
  have hpI : (p : Int) < 512 := by omega
  have hof : g < w.heap.size := h.lt
  replace h := hide h
  replace hcell := hide hcell
  replace hcw := hide hcw
  clear hs hsv
  go_enter Try.func100, Try.ntmps100
  go_wp2_with fail
  have kc := fun x : UpdT w => (((unhide h).1.updT x).2 p _ (unhide hcell))
  have kw := fun x : UpdT w => (((unhide h).1.updT x).2 512 _ (unhide hcw))
  refine wq_region_tail 13 (by kernel_rfl) (by kernel_rfl) ?_
  simp only [List.take_succ_cons, List.take_zero, List.drop_succ_cons, List.drop_zero]
  iterate 13
    refine WQ.step (fun K hK => ?_)
    go_simp
    refine hK _ ?_
    clear hK K
  refine WQ.nil ?_
  rintro _ ⟨x, rfl⟩
  clear kc kw
  have hx := hide x.upd
  generalize x.to = wt at hx ⊢
  replace hwo := hide hwo
  replace hwm := hide hwm
  go_wp2
  go_ret
  exact ⟨ret_int (by first | rfl | rw [unhide hwo, unhide hwm]), unhide hx⟩
def rngF (rng sv b : Int) : Int := if b = 0 then sv else rng - sv
set_option maxRecDepth 100000 in
set_option maxHeartbeats 8000000 in
theorem implNarrow (g p : Nat) (b : Int) (s : Int → Int) (rng sv : Int) (tl : List Value) (w : World) (h : OdAt w g s (.int .u32 rng :: tl)) (hp : p < 512) (hs : SOk s) (r1 : rng ≤ 4294967295) (s0 : 0 ≤ sv) (s1 : sv ≤ rng) :
    Calls Try.prog 102 #[.pointer (some ⟨g, 0, none⟩), .agg #[.int .i64 (p : Int), .int .i64 b], .int .u32 sv] w fun e w' => e = .returned (.tuple #[]) ∧ OdAt w' g (oddsSet s (p, b)) (.int .u32 (rngF rng sv b) :: tl) ∧ Upd g (g + 1) w w' := by
  have hu0 := Upd.of_below ((Below.refl w.heap.size w).alloc (Nat.le_refl _) (.cells #[.int .i64 (p : Int), .int .i64 b] 38)) 0 0
  have h1 := h.keep hu0
  have hch := heldF_new w [.int .i64 (p : Int), .int .i64 b] 38
  have hgl := h.lt
  have hL := hide (fun X tl (hX : OdAt X g s tl) => implLearn g p b s tl X hX hp hs)
  have hof := hgl
  replace hu0 := hide hu0
  replace h1 := hide h1
  replace hch := hide hch
  clear h hs
  obtain ⟨nr, hnr⟩ : ∃ nr, rngF rng sv b = nr := ⟨_, rfl⟩
  have hnr2 := hnr
  unfold rngF at hnr2
  rw [hnr]
  clear hnr
  by_cases hb : b = 0
  · have t : (b == 0) = true := by simpa using hb
    rw [if_pos hb] at hnr2
    subst hnr2
    clear hb
    go_enter Try.func102, Try.ntmps102
    go_upto_region 1 with fail
    simp only [List.toArray] at hch
    generalize hw0 : w.alloc (.cells #[.int .i64 (p : Int), .int .i64 b] 38) = w0 at h1 hch hu0 ⊢
    clear hw0
    have hcg : w.heap.size ≠ g := by omega
    generalize w.heap.size = c at hch hcg ⊢
    have d1 := (unhide hch).1.2 1 _ rfl
    have f512 := (unhide h1).frozen 512
    have c512 := (unhide h1).back 0 _ rfl
    simp only [Nat.add_zero] at c512
    go_upto_region 4 with fail
    clear d1 f512 c512
    have h2 := hide (show OdAt (w0.setCell ⟨g, 512, none⟩ (.int .u32 sv)) g s (.int .u32 sv :: tl) from (unhide h1).setBack 0 (by simp) (.int .u32 sv))
    have hch2 := hide ((unhide hch).other (g' := g) (by omega) 512 (.int .u32 sv))
    have hu2 : Hid (Upd g (g + 1) w (w0.setCell ⟨g, 512, none⟩ (.int .u32 sv))) := hide (Upd.trans ⟨(unhide hu0).os, (unhide hu0).tape, (unhide hu0).output, (unhide hu0).size, fun k hk _ => (unhide hu0).block k hk (.inr (Nat.zero_le _))⟩ (upd_setCell w0 g 512 _))
    clear h1 hch hu0
    generalize w0.setCell ⟨g, 512, none⟩ (.int .u32 sv) = w2 at h2 hch2 hu2 ⊢
    have k0 := fun X : UpdT w2 => (((unhide hch2).1.updT X).2 0 _ rfl)
    have k1 := fun X : UpdT w2 => (((unhide hch2).1.updT X).2 1 _ rfl)
    refine wq_region_tail 4 (by kernel_rfl) (by kernel_rfl) ?_
    simp only [List.take_succ_cons, List.take_zero, List.drop_succ_cons, List.drop_zero]
    iterate 4
      refine WQ.step (fun K hK => ?_)
      go_simp
      refine hK _ ?_
      clear hK K
    refine WQ.nil ?_
    rintro _ ⟨X, rfl⟩
    clear k0 k1
    have hX := X.upd
    generalize X.to = wt at hX ⊢
    have h3 := (unhide h2).keep hX
    have hu3 : Hid (Upd g (g + 1) w wt) := hide (Upd.trans (unhide hu2) ⟨hX.os, hX.tape, hX.output, hX.size, fun k hk _ => hX.block k hk (.inr (Nat.zero_le _))⟩)
    clear hX h2 hch2 hu2
    go_wp2_with fail
    refine (unhide hL wt _ h3).mono ?_
    rintro e w4 ⟨rfl, h4, hu4⟩
    have hu5 := hide ((unhide hu3).trans hu4)
    replace h4 := hide h4
    clear hu3 hu4 h3 hL
    go_wp2
    go_end0
    exact ⟨rfl, unhide h4, unhide hu5⟩
  · have t : (b == 0) = false := by simpa using hb
    rw [if_neg hb] at hnr2
    have hwr : IntKind.u32.wrap (rng - sv) = nr := by rw [hnr2]; simp [IntKind.wrap, IntKind.bits, IntKind.signed]; omega
    clear hb
    replace hnr2 := hide hnr2
    go_enter Try.func102, Try.ntmps102
    go_upto_region 1 with fail
    simp only [List.toArray] at hch
    generalize hw0 : w.alloc (.cells #[.int .i64 (p : Int), .int .i64 b] 38) = w0 at h1 hch hu0 ⊢
    clear hw0
    have hcg : w.heap.size ≠ g := by omega
    generalize w.heap.size = c at hch hcg ⊢
    have d1 := (unhide hch).1.2 1 _ rfl
    have f512 := (unhide h1).frozen 512
    have c512 := (unhide h1).back 0 _ rfl
    simp only [Nat.add_zero] at c512
    go_upto_region 4 with fail
    clear d1 f512 c512
    have h2 := hide (show OdAt (w0.setCell ⟨g, 512, none⟩ (.int .u32 nr)) g s (.int .u32 nr :: tl) from (unhide h1).setBack 0 (by simp) (.int .u32 nr))
    have hch2 := hide ((unhide hch).other (g' := g) (by omega) 512 (.int .u32 nr))
    have hu2 : Hid (Upd g (g + 1) w (w0.setCell ⟨g, 512, none⟩ (.int .u32 nr))) := hide (Upd.trans ⟨(unhide hu0).os, (unhide hu0).tape, (unhide hu0).output, (unhide hu0).size, fun k hk _ => (unhide hu0).block k hk (.inr (Nat.zero_le _))⟩ (upd_setCell w0 g 512 _))
    clear h1 hch hu0
    generalize w0.setCell ⟨g, 512, none⟩ (.int .u32 nr) = w2 at h2 hch2 hu2 ⊢
    have k0 := fun X : UpdT w2 => (((unhide hch2).1.updT X).2 0 _ rfl)
    have k1 := fun X : UpdT w2 => (((unhide hch2).1.updT X).2 1 _ rfl)
    refine wq_region_tail 4 (by kernel_rfl) (by kernel_rfl) ?_
    simp only [List.take_succ_cons, List.take_zero, List.drop_succ_cons, List.drop_zero]
    iterate 4
      refine WQ.step (fun K hK => ?_)
      go_simp
      refine hK _ ?_
      clear hK K
    refine WQ.nil ?_
    rintro _ ⟨X, rfl⟩
    clear k0 k1
    have hX := X.upd
    generalize X.to = wt at hX ⊢
    have h3 := (unhide h2).keep hX
    have hu3 : Hid (Upd g (g + 1) w wt) := hide (Upd.trans (unhide hu2) ⟨hX.os, hX.tape, hX.output, hX.size, fun k hk _ => hX.block k hk (.inr (Nat.zero_le _))⟩)
    clear hX h2 hch2 hu2
    go_wp2_with fail
    refine (unhide hL wt _ h3).mono ?_
    rintro e w4 ⟨rfl, h4, hu4⟩
    have hu5 := hide ((unhide hu3).trans hu4)
    replace h4 := hide h4
    clear hu3 hu4 h3 hL
    go_wp2
    go_end0
    exact ⟨rfl, unhide h4, unhide hu5⟩
set_option maxHeartbeats 4000000 in
theorem implWidenNo (g : Nat) (s : Int → Int) (rng : Int) (tl : List Value) (w : World) (h : OdAt w g s (.int .u32 rng :: tl)) (r0 : 16777216 ≤ rng) :
    Calls Try.prog 103 #[.pointer (some ⟨g, 0, none⟩)] w fun e w' => e = .returned (.bool false) ∧ w' = w := by
  have c := h.back 0 _ rfl
  simp only [Nat.add_zero] at c
  have t : decide (16777216 ≤ rng) = true := decide_eq_true r0
  clear h
  go_enter Try.func103, Try.ntmps103
  go_wp2
  go_ret
  exact ⟨rfl, rfl⟩
set_option maxHeartbeats 4000000 in
theorem implWidenYes (g : Nat) (s : Int → Int) (rng : Int) (tl : List Value) (w : World) (h : OdAt w g s (.int .u32 rng :: tl)) (r0 : 0 ≤ rng) (r1 : rng < 16777216) :
    Calls Try.prog 103 #[.pointer (some ⟨g, 0, none⟩)] w fun e w' => e = .returned (.bool true) ∧ OdAt w' g s (.int .u32 (rng * 256) :: tl) ∧ Upd g (g + 1) w w' := by
  have c := h.back 0 _ rfl
  have f := h.frozen 512
  simp only [Nat.add_zero] at c
  have t : decide (16777216 ≤ rng) = false := decide_eq_false (by omega)
  have hw : IntKind.u32.wrap (rng * 256) = rng * 256 := by simp [IntKind.wrap, IntKind.bits, IntKind.signed]; omega
  have hfin := hide (show OdAt (w.setCell ⟨g, 512, none⟩ (.int .u32 (rng * 256))) g s (.int .u32 (rng * 256) :: tl) from h.setBack 0 (by simp) (.int .u32 (rng * 256)))
  have hu := hide (upd_setCell w g 512 (.int .u32 (rng * 256)))
  clear h
  go_enter Try.func103, Try.ntmps103
  go_wp2
  go_ret
  exact ⟨rfl, unhide hfin, unhide hu⟩
end Go.Proofs.Ytocoeodoihdkgaa

/- Odds: the program's writer: a carry, a byte told. -/
namespace Go.Proofs.Ytocoeodoihdkgaa
open Go.RowKit

theorem carryTo_stepI (xs : List Int) (k : Nat) (y : Int) (hy : y = (xs.getD k 0 + 1) % 256) : carryTo xs (k + 1) = if y ≠ 0 then xs.set k y else carryTo (xs.set k y) k := by
  subst hy; rfl
theorem wrap_u8I (n : Int) : IntKind.u8.wrap n = n % 256 := by simp [IntKind.wrap, IntKind.bits, IntKind.signed]
theorem OdAt.kpO {w w' : World} {g c : Nat} {v : Value} {s : Int → Int} {rest : List Value} (h : OdAt w c s rest) (k : KpO g v w w') (hc : c ≠ g) (hv : some c ≠ v.ownBlock) : OdAt w' c s rest := HeldF.kpO h k hc hv
theorem KpO.updG {g : Nat} {v : Value} {w w' : World} (u : Upd g (g + 1) w w') : KpO g v w w' := ⟨u.os, u.tape, u.output, u.size, fun k hk hg _ => u.block k hk (by omega)⟩
/-- The program's writer. -/
def WrAt (W : World) (g base : Nat) (s : Int → Int) (rng low : Int) (v : Value) (xs : List Int) : Prop := OdAt W g s [.int .u32 rng, .int .u32 low, v] ∧ TRow W base v xs
theorem TRow.updG {w w' : World} {g base : Nat} {v : Value} {xs : List Int} (h : TRow w base v xs) (u : Upd g (g + 1) w w') (hg : g < base) : TRow w' base v xs := h.kept fun b hb => u.block b (h.block b hb).2 (by have := (h.block b hb).1; omega)
set_option maxHeartbeats 16000000 in
set_option maxRecDepth 100000 in
theorem implCarry (g base : Nat) (s : Int → Int) (rng low : Int) (v : Value) (out : List Int) (W : World) (hg : g < base) (h : WrAt W g base s rng low v out) (hn : out.length ≤ 30000) :
    Calls Try.prog 101 #[.pointer (some ⟨g, 0, none⟩)] W fun e w' => e = .returned (.tuple #[]) ∧ WrAt w' g base s rng low v (carryF out) ∧ KpO g v W w' := by
  obtain ⟨hh, hrow⟩ := h
  have c0 : W.cell? ⟨g, 514, none⟩ = some v := hh.back 2 _ rfl
  replace hh := hide hh
  replace hrow := hide hrow
  have hci : Hid (carryF out = carryTo out out.length) := hide rfl
  obtain ⟨ad, cp, rfl⟩ : ∃ ad cp, v = .slice ad out.length cp := by
    rcases (unhide hrow).2 with ⟨rfl, hz⟩ | ⟨b, cap, cur, rfl, _⟩
    · exact ⟨none, 0, by rw [hz]⟩
    · exact ⟨_, cap, rfl⟩
  go_enter Try.func101, Try.ntmps101
  go_wp2_with fail
  clear c0
  go_loopw [2] (fun i wr => ∃ (k : Nat) (xs : List Int), i = .int .i64 ((k : Int) - 1) ∧ k ≤ out.length ∧ xs.length = out.length ∧ Hid (carryTo xs k = carryTo out out.length) ∧ Hid (OdAt wr g s [.int .u32 rng, .int .u32 low, .slice ad out.length cp]) ∧ Hid (TRow wr base (.slice ad out.length cp) xs) ∧ Hid (KpO g (.slice ad out.length cp) W wr)) (fun i _ => (intOf i + 1).toNat)
  case atStart => exact ⟨out.length, out, rfl, Nat.le_refl _, rfl, hide rfl, hh, hrow, hide (KpO.refl _ _ _)⟩
  case round =>
    clear hh hrow
    obtain ⟨k, xs, rfl, hk, hxl, hca, hh, hrow, hkp⟩ := hrel
    cases k with
    | zero =>
      have tz : decide ((0 : Int) ≤ ((0 : Nat) : Int) - 1) = false := by decide
      have hcx := hide ((unhide hca).trans (unhide hci).symm)
      clear hca
      go_wp2
      go_end0
      exact ⟨rfl, ⟨unhide hh, by rw [← unhide hcx]; exact unhide hrow⟩, unhide hkp⟩
    | succ k =>
      have e1 : ((k + 1 : Nat) : Int) - 1 = (k : Int) := by omega
      rw [e1]
      clear e1
      have hxne : xs ≠ [] := ne_of_lt_length (show k < xs.length by omega)
      obtain ⟨b, cap, hv, hbb, hbl, hcells, hfz, hset⟩ := (unhide hrow).at hxne
      have hck := hcells k (by omega)
      have hfk := hfz k
      obtain ⟨y, hy⟩ : ∃ y, y = (xs.getD k 0 + 1) % 256 := ⟨_, rfl⟩
      have hwy : IntKind.u8.wrap (xs.getD k 0 + 1) = y := by rw [wrap_u8I, hy]
      have hst := hide (carryTo_stepI xs k y hy)
      have hs := hset k y
      have hbg : b ≠ g := by omega
      obtain ⟨rfl, rfl⟩ : ad = some ⟨b, 0, none⟩ ∧ cp = cap := by
        simp only [Value.slice.injEq] at hv; exact ⟨hv.1, hv.2.2⟩
      have hrow2 := hide hs.1
      have hkp2 := hide ((unhide hkp).trans (FreshV.refl _ _) (KpO.grown (g := g) hs.2))
      have hh2 := hide ((unhide hh).other (g' := b) hbg k (.int .u8 y))
      have c0 : wr.cell? ⟨g, 514, none⟩ = some _ := (unhide hh).back 2 _ rfl
      have kI : (k : Int) < (out.length : Int) := by omega
      have kD : decide ((0 : Int) ≤ (k : Int)) = true := decide_eq_true (by omega)
      generalize xs.getD k 0 = x at hck hwy hy
      clear hy hv hs hset hcells hfz
      go_upto_region 4 with fail
      have ck2 : (wr.setCell ⟨b, k, none⟩ (.int .u8 y)).cell? ⟨b, k, none⟩ = some (.int .u8 y) := World.cell?_setCell_same _ _ _ hck
      have c02 : (wr.setCell ⟨b, k, none⟩ (.int .u8 y)).cell? ⟨g, 514, none⟩ = some _ := (unhide hh2).back 2 _ rfl
      have hxl2 : (xs.set k y).length = out.length := by rw [List.length_set]; exact hxl
      generalize xs.set k y = ys at hrow2 hst hxl2
      generalize wr.setCell ⟨b, k, none⟩ (.int .u8 y) = w2 at hrow2 hkp2 hh2 ck2 c02 ⊢
      clear c0 hck hfk hwy hrow hkp hh
      by_cases hy0 : y = 0
      · have ty : (y == 0) = true := by simpa using hy0
        have hca2 := hide (show carryTo ys k = carryTo out out.length by rw [← unhide hca, unhide hst, if_neg (by simpa using hy0)])
        clear hy0 hst hca
        go_wp2_with fail
        go_roundw
        case rel => exact ⟨k, ys, by go_num, by omega, hxl2, hca2, hh2, hrow2, hkp2⟩
        case measure => first | (simp [intOf]; done) | (simp [intOf]; omega)
      · have ty : (y == 0) = false := by simpa using hy0
        have hcx := hide (show ys = carryF out by rw [unhide hci, ← unhide hca, unhide hst, if_pos hy0])
        clear hy0 hst hca
        go_wp2
        (try simp only [Exit.inBlock, Exit.then])
        refine bodyPost_ret (results_none rfl _ _ _) rfl ?_
        exact ⟨rfl, ⟨unhide hh2, by rw [← unhide hcx]; exact unhide hrow2⟩, unhide hkp2⟩
set_option maxHeartbeats 16000000 in
set_option maxRecDepth 100000 in
theorem implWShift (g base : Nat) (s : Int → Int) (rng low : Int) (v : Value) (xs : List Int) (wc : World) (hg : g < base) (hbb : base ≤ wc.heap.size) (h : WrAt wc g base s rng low v xs) (l0 : 0 ≤ low) (l1 : low ≤ 4294967295) (hn : xs.length ≤ 30000) :
    Calls Try.prog 104 #[.pointer (some ⟨g, 0, none⟩)] wc fun e w' => e = .returned (.tuple #[]) ∧ ∃ v', WrAt w' g base s rng (low * 256 % 4294967296) v' (xs ++ [low / 16777216]) ∧ KpO g v wc w' ∧ FreshV wc v v' := by
  obtain ⟨hh, hrow⟩ := h
  obtain ⟨bt, hbt⟩ : ∃ bt, low / 16777216 = bt := ⟨_, rfl⟩
  have hwb : IntKind.u8.wrap bt = bt := by rw [wrap_u8I]; omega
  obtain ⟨nl, hnl⟩ : ∃ nl, low * 256 % 4294967296 = nl := ⟨_, rfl⟩
  have hwr : IntKind.u32.wrap (low * 256) = nl := by rw [← hnl]; simp [IntKind.wrap, IntKind.bits, IntKind.signed]
  rw [hbt, hnl]
  replace hnl := hide hnl
  have q2 : wc.cell? ⟨g, 514, none⟩ = some v := hh.back 2 _ rfl
  have q1 : wc.cell? ⟨g, 513, none⟩ = some (.int .u32 low) := hh.back 1 _ rfl
  have hgw : g < wc.heap.size := hh.lt
  replace hh := hide hh
  replace hrow := hide hrow
  go_enter Try.func104, Try.ntmps104
  go_wp2_with fail
  go_region_law (refine step_appT rfl (.tmp 6) (.tmp 13) rfl g base v xs (oddsV s ++ [.int .u32 rng, .int .u32 low, v]) bt (unhide hh) (unhide hrow) hg (by omega) hbb (Upd.of_below (by repeat (first | exact Below.refl _ _ | refine Below.alloc ?_ (by simp) _ | refine Below.drew ?_)) 0 0) rfl _ _ rfl (by simp) ?_; intro ad6 cp6 w6 hrow6 hh6 hkp6 hfr6; have c60 : w6.cell? ⟨g, 514, none⟩ = some v := OdAt.back (rest := [.int .u32 rng, .int .u32 low, v]) hh6 2 _ rfl; have f60 := hh6.2 514; replace hrow6 := hide hrow6; replace hkp6 := hide hkp6; replace hfr6 := hide hfr6; replace hh6 := hide (show OdAt w6 g s [.int .u32 rng, .int .u32 low, v] from hh6))
  all_goals
    have hh7 := hide (show OdAt (w6.setCell ⟨g, 514, none⟩ (.slice ad6 (xs.length + 1) cp6)) g s [.int .u32 rng, .int .u32 low, .slice ad6 (xs.length + 1) cp6] from (unhide hh6).setBack 2 (by simp) (.slice ad6 (xs.length + 1) cp6))
    have hrow7 := hide ((unhide hrow6).head (j := 514) (u := .slice ad6 (xs.length + 1) cp6) hg)
    have hkp7 := hide ((unhide hkp6).trans (unhide hfr6) (KpO.head g 514 _ (.slice ad6 (xs.length + 1) cp6) w6))
    clear hh6 hrow6 hkp6 c60 f60 q1 q2 hh hrow
    go_upto_region 1 with fail
    generalize w6.setCell ⟨g, 514, none⟩ (.slice ad6 (xs.length + 1) cp6) = w7 at hh7 hrow7 hkp7 ⊢
    have q1 : w7.cell? ⟨g, 513, none⟩ = some (.int .u32 low) := (unhide hh7).back 1 _ rfl
    have f1 := (unhide hh7).frozen 513
    have hh8 := hide (show OdAt (w7.setCell ⟨g, 513, none⟩ (.int .u32 nl)) g s [.int .u32 rng, .int .u32 nl, .slice ad6 (xs.length + 1) cp6] from (unhide hh7).setBack 1 (by simp) (.int .u32 nl))
    have hrow8 := hide ((unhide hrow7).head (j := 513) (u := .int .u32 nl) hg)
    have hkp8 := hide ((unhide hkp7).trans (unhide hfr6) (KpO.head g 513 _ (.int .u32 nl) w7))
    clear hh7 hrow7 hkp7
    replace hrow8 := hide (show TRow (w7.setCell ⟨g, 513, none⟩ (.int .u32 nl)) base (.slice ad6 (xs.length + 1) cp6) (xs ++ [bt]) from unhide hrow8)
    go_wp2
    go_end0
    exact ⟨rfl, .slice ad6 (xs.length + 1) cp6, ⟨unhide hh8, unhide hrow8⟩, unhide hkp8, unhide hfr6⟩
end Go.Proofs.Ytocoeodoihdkgaa

/- Odds: the program's writer: a choice put. -/
namespace Go.Proofs.Ytocoeodoihdkgaa
open Go.RowKit

/-- Is a round of widening to come? -/
def rngLeftW (wr : World) (g : Nat) : Nat := match wr.cell? ⟨g, 512, none⟩ with | some (.int _ n) => if n < 16777216 then 1 else 0 | _ => 0
theorem rngLeftW_of {wr : World} {g : Nat} {s : Int → Int} {rng : Int} {tl : List Value} (h : OdAt wr g s (.int .u32 rng :: tl)) : rngLeftW wr g = if rng < 16777216 then 1 else 0 := by
  have c : wr.cell? ⟨g, 512, none⟩ = some (.int .u32 rng) := h.back 0 _ rfl
  unfold rngLeftW; rw [c]
/-- The writer stands at a range. -/
def WrR (W : World) (g base : Nat) (s : Int → Int) (v : Value) (r : Rg) : Prop := WrAt W g base s r.rng (lowF r) v (toldF r)
theorem toldF_len (r : Rg) : (toldF r).length = r.out.length := carryIf_len _ _
theorem WrR.keep {W W' : World} {g base : Nat} {s : Int → Int} {v : Value} {r : Rg} (h : WrR W g base s v r) (u : Upd 0 0 W W') : WrR W' g base s v r := ⟨h.1.keep u, h.2.upd u⟩
theorem lowF_bd (r : Rg) : 0 ≤ lowF r ∧ lowF r ≤ 4294967295 := by unfold lowF; omega
theorem implShiftR (g base : Nat) (s : Int → Int) (v : Value) (r : Rg) (W : World) (hg : g < base) (hbb : base ≤ W.heap.size) (h : WrR W g base s v r) (hn : r.out.length ≤ 30000) :
    Calls Try.prog 104 #[.pointer (some ⟨g, 0, none⟩)] W fun e w' => e = .returned (.tuple #[]) ∧ ∃ v', WrR w' g base s v' (shiftF r) ∧ KpO g v W w' ∧ FreshV W v v' := by
  have hb := lowF_bd r
  refine (implWShift g base s r.rng (lowF r) v (toldF r) W hg hbb h hb.1 hb.2 (by rw [toldF_len]; exact hn)).mono ?_
  rintro e w' ⟨rfl, v', hw, hk, hf⟩
  have ht := shiftF_told r
  refine ⟨rfl, v', ?_, hk, hf⟩
  unfold WrR
  rw [ht.1, ht.2]
  exact hw
set_option maxHeartbeats 32000000 in
set_option maxRecDepth 100000 in
/-- What follows the choice's own part: the range is narrowed, then widened. -/
theorem implPut (g base p : Nat) (b : Int) (s : Int → Int) (v : Value) (r : Rg) (W : World) (hg : g < base) (hbb : base ≤ W.heap.size) (h : WrR W g base s v r) (hr : RgOk r) (hs : SOk s) (hp : p < 512) (hb0 : 0 ≤ b) (hb1 : b ≤ 1) (hn : r.out.length ≤ 29999) :
    Calls Try.prog 60 #[.pointer (some ⟨g, 0, none⟩), .agg #[.int .i64 (p : Int), .int .i64 b]] W fun e w' => e = .returned (.tuple #[]) ∧ ∃ v', WrR w' g base (oddsSet s ((p : Int), b)) v' (putF r (s p) b) ∧ KpO g v W w' ∧ FreshV W v v' := by
  have hbd := bitF_bd r (s p) b hr (hs p)
  have hsp := split_bd r.rng (s p) (hs p) hr.rng0
  have htold := bitF_told r (s p) b hr (hs p)
  have hr0 := hr.rng0
  have hr1 := hr.rng1
  have hout := bitF_out r (s p) b
  have hpf : putF r (s p) b = widenF (bitF r (s p) b) := rfl
  have hSpl := hide (fun X (hX : OdAt X g s [.int .u32 r.rng, .int .u32 (lowF r), v]) => implSplit g p s r.rng [.int .u32 (lowF r), v] X hX hp hs hr0 hr1)
  have hNar := hide (fun X low u (hX : OdAt X g s [.int .u32 r.rng, .int .u32 low, u]) => implNarrow g p b s r.rng (splitF r.rng (s p)) [.int .u32 low, u] X hX hp hs hr1 (by omega) (by omega))
  have hrb : rngF r.rng (splitF r.rng (s p)) b = (bitF r (s p) b).rng := by unfold rngF bitF; split <;> rfl
  rw [hrb] at hNar
  rw [hpf]
  clear hpf hrb
  generalize splitF r.rng (s p) = sv at hsp htold hSpl hNar
  generalize hR1 : bitF r (s p) b = r1 at hbd htold hout hNar ⊢
  have hvb := hide (h.2.block)
  have hlow := lowF_bd r
  have hu0 := Upd.of_below ((Below.refl W.heap.size W).alloc (Nat.le_refl _) (.cells #[.int .i64 (p : Int), .int .i64 b] 38)) 0 0
  have hch := heldF_new W [.int .i64 (p : Int), .int .i64 b] 38
  have hw1 := h.keep hu0
  have hgW := h.1.lt
  have hol : r1.out.length ≤ 29999 := by rw [hout]; exact hn
  have htl : (toldF r).length ≤ 29999 := by rw [toldF_len]; exact hn
  obtain ⟨q0, q1, q2, q3⟩ := hbd
  replace hR1 := hide hR1
  replace hout := hide hout
  replace hu0 := hide hu0
  replace hch := hide hch
  replace hw1 := hide hw1
  have hkp1 := hide (KpO.upd (g := g) (v := v) (unhide hu0))
  clear h hr hs
  by_cases hb : b = 0
  · obtain ⟨ht1, ht2⟩ := htold.1 hb
    subst hb
    have t : ((0 : Int) == 1) = false := by decide
    replace ht1 := hide ht1
    replace ht2 := hide ht2
    clear htold
    go_enter Try.func60, Try.ntmps60
    go_wp2_with fail
    simp only [List.toArray] at hch
    generalize hW0 : W.alloc (.cells #[.int .i64 (p : Int), .int .i64 0] 38) = w0 at hch hw1 hu0 hkp1 ⊢
    have hs0 : W.heap.size < w0.heap.size := by rw [← hW0]; simp
    clear hW0 hu0
    obtain ⟨c, hc⟩ : ∃ c, W.heap.size = c := ⟨_, rfl⟩
    rw [hc] at hch hs0 hbb hgW hvb ⊢
    have hn2 : Hid (some c ≠ v.ownBlock) := hide (fun e => by have := (unhide hvb _ e.symm).2; omega)
    have k0 := fun X : UpdT w0 => (((unhide hch).1.updT X).2 0 _ rfl)
    refine wq_region_tail 6 (by kernel_rfl) (by kernel_rfl) ?_
    simp only [List.take_succ_cons, List.take_zero, List.drop_succ_cons, List.drop_zero]
    iterate 5
      refine WQ.step (fun K hK => ?_)
      go_simp
      refine hK _ ?_
      clear hK K
    refine WQ.step (fun K hK => ?_)
    go_simp
    refine ⟨_, fun X => Calls.updT X (unhide hSpl X.to ((unhide hw1).1.keep X.upd)), hK _ ?_⟩
    clear hK K
    refine WQ.nil ?_
    rintro _ ⟨X, rfl⟩
    clear k0
    have hX := X.upd
    generalize X.to = w2 at hX ⊢
    have hw2 := hide ((unhide hw1).keep hX)
    have hch2 := hide ((unhide hch).keep hX)
    have hkp2 := hide ((unhide hkp1).trans (FreshV.refl _ _) (KpO.upd (g := g) hX))
    have hs2 : c < w2.heap.size := by have := hX.size; omega
    clear hX hw1 hch hkp1 hSpl hs0
    have d1 := (unhide hch2).1.2 1 _ rfl
    go_upto_region 6 with fail
    clear d1
    have hw3 : Hid (WrAt w2 g base s r.rng (lowF r1) v (toldF r1)) := hide (by rw [unhide ht1, unhide ht2]; exact unhide hw2)
    generalize w2 = w3 at hw3 hch2 hkp2 hs2 ⊢
    have hch3 := hch2
    have hkp3 := hkp2
    clear hw2 hch2 hkp2
    have k0 := fun X : UpdT w3 => (((unhide hch3).1.updT X).2 0 _ rfl)
    have k1 := fun X : UpdT w3 => (((unhide hch3).1.updT X).2 1 _ rfl)
    refine wq_region_tail 5 (by kernel_rfl) (by kernel_rfl) ?_
    simp only [List.take_succ_cons, List.take_zero, List.drop_succ_cons, List.drop_zero]
    iterate 5
      refine WQ.step (fun K hK => ?_)
      go_simp
      refine hK _ ?_
      clear hK K
    refine WQ.nil ?_
    rintro _ ⟨X, rfl⟩
    clear k0 k1
    have hX := X.upd
    generalize X.to = w4 at hX ⊢
    have ho4 := (unhide hw3).1.keep hX
    have hr4 := (unhide hw3).2.upd hX
    have hkp4 := hide ((unhide hkp3).trans (FreshV.refl _ _) (KpO.upd (g := g) hX))
    clear hX hw3 hkp3 hch3
    go_wp2_with fail
    refine (unhide hNar w4 _ _ ho4).mono ?_
    rintro e w5 ⟨rfl, ho5, hu5⟩
    have hw5 : Hid (WrR w5 g base (oddsSet s ((p : Int), 0)) v r1) := hide ⟨ho5, hr4.updG hu5 hg⟩
    have hkp5 := hide ((unhide hkp4).trans (FreshV.refl _ _) (KpO.updG hu5))
    clear ho5 hu5 hr4 ho4 hkp4 hNar hvb hn2
    obtain ⟨s2, hs2e⟩ : ∃ s2, oddsSet s ((p : Int), 0) = s2 := ⟨_, rfl⟩
    rw [hs2e] at hw5
    replace hs2e := hide hs2e
    go_wp2_with fail
    go_loopw [36] (fun _ wr => ∃ (rr : Rg) (v' : Value), (rr = r1 ∨ (r1.rng < 16777216 ∧ rr = widenF r1)) ∧ Hid (WrR wr g base s2 v' rr) ∧ Hid (KpO g v W wr) ∧ Hid (FreshV W v v')) (fun _ wr => rngLeftW wr g)
    case atStart => exact ⟨r1, v, .inl rfl, hw5, hkp5, hide (FreshV.refl _ _)⟩
    case round =>
      clear hw5 hkp5
      obtain ⟨rr, v', hrr, hO, hkp, hfr⟩ := hrel
      have hsz := (unhide hkp).size
      have hm0 := hide (rngLeftW_of (unhide hO).1)
      by_cases hlt : r1.rng < 16777216
      · rcases hrr with rfl | ⟨_, rfl⟩
        · have hwd : Hid (shiftF ⟨rr.low, rr.rng * 256, rr.out⟩ = widenF rr) := hide (by unfold widenF; rw [if_pos hlt])
          have hwl : Hid (rngLeftW wr g = 1) := hide (by rw [unhide hm0, if_pos hlt])
          have hw2' : Hid (16777216 ≤ (widenF rr).rng) := hide (by unfold widenF; rw [if_pos hlt]; unfold shiftF; simp only; omega)
          have hWy := hide (implWidenYes g s2 rr.rng _ wr (unhide hO).1 (by omega) hlt)
          have hltH := hide hlt
          have hout1 : rr.out.length ≤ 30000 := by omega
          clear hm0 hlt
          go_wp2_with fail
          refine (unhide hWy).mono ?_
          rintro e w6 ⟨rfl, ho6, hu6⟩
          have hw6 : Hid (WrR w6 g base s2 v' ⟨rr.low, rr.rng * 256, rr.out⟩) := hide ⟨ho6, (unhide hO).2.updG hu6 hg⟩
          have hkp6 := hide ((unhide hkp).trans (unhide hfr) (KpO.updG hu6))
          have hs6 : wr.heap.size ≤ w6.heap.size := hu6.size
          clear ho6 hu6 hO hkp hWy
          go_wp2_with fail
          refine (implShiftR g base s2 v' _ w6 hg (by omega) (unhide hw6) hout1).mono ?_
          rintro e w7 ⟨rfl, v7, hO7, hkp7, hfr7⟩
          rw [unhide hwd] at hO7
          have hkp8 := hide ((unhide hkp6).trans (unhide hfr) hkp7)
          have hfr8 := hide ((unhide hfr).trans hfr7 (by omega))
          have hmm : Hid (rngLeftW w7 g = 0) := hide (by rw [rngLeftW_of hO7.1, if_neg (Int.not_lt.2 (unhide hw2'))])
          replace hO7 := hide hO7
          clear hkp7 hfr7 hkp6 hfr hw6 hwd hw2'
          go_wp2_with fail
          go_roundw
          case rel => exact ⟨widenF rr, v7, .inr ⟨unhide hltH, rfl⟩, hO7, hkp8, hfr8⟩
          case measure => rw [unhide hmm, unhide hwl]; omega
        · have hw2' : 16777216 ≤ (widenF r1).rng := by unfold widenF; rw [if_pos hlt]; unfold shiftF; simp only; omega
          have hWn := hide (implWidenNo g s2 _ _ wr (unhide hO).1 hw2')
          clear hm0 hlt hw2'
          go_wp2_with fail
          refine (unhide hWn).mono ?_
          rintro e w6 ⟨rfl, hw6⟩
          obtain rfl : wr = w6 := hw6.symm
          clear hWn
          go_wp2
          go_end0
          exact ⟨rfl, v', by rw [unhide hs2e]; exact unhide hO, unhide hkp, unhide hfr⟩
      · have hrr2 : rr = r1 := by
          rcases hrr with h | ⟨h, _⟩
          · exact h
          · exact absurd h hlt
        subst hrr2
        have hwd : Hid (widenF rr = rr) := hide (by unfold widenF; rw [if_neg hlt])
        have hWn := hide (implWidenNo g s2 _ _ wr (unhide hO).1 (by omega))
        clear hm0 hlt hrr
        go_wp2_with fail
        refine (unhide hWn).mono ?_
        rintro e w6 ⟨rfl, hw6⟩
        obtain rfl : wr = w6 := hw6.symm
        clear hWn
        go_wp2
        go_end0
        exact ⟨rfl, v', by rw [unhide hwd, unhide hs2e]; exact unhide hO, unhide hkp, unhide hfr⟩
  · have hb2 : b = 1 := by omega
    obtain ⟨ht2, ht1⟩ := htold.2 hb
    subst hb2
    have t : ((1 : Int) == 1) = true := by decide
    clear htold hb
    obtain ⟨nl, hnl⟩ : ∃ nl, (lowF r + sv) % 4294967296 = nl := ⟨_, rfl⟩
    have hwr : IntKind.u32.wrap (lowF r + sv) = nl := by rw [← hnl]; simp [IntKind.wrap, IntKind.bits, IntKind.signed]
    rw [hnl] at ht1 ht2
    replace hnl := hide hnl
    replace ht2 := hide ht2
    by_cases hcy : nl < sv
    · have t2 : decide (nl < sv) = true := decide_eq_true hcy
      rw [if_pos hcy] at ht1
      replace ht1 := hide ht1
      clear hcy
      go_enter Try.func60, Try.ntmps60
      go_wp2_with fail
      simp only [List.toArray] at hch
      generalize hW0 : W.alloc (.cells #[.int .i64 (p : Int), .int .i64 1] 38) = w0 at hch hw1 hu0 hkp1 ⊢
      have hs0 : W.heap.size < w0.heap.size := by rw [← hW0]; simp
      clear hW0 hu0
      obtain ⟨c, hc⟩ : ∃ c, W.heap.size = c := ⟨_, rfl⟩
      rw [hc] at hch hs0 hbb hgW hvb ⊢
      have hn2 : Hid (some c ≠ v.ownBlock) := hide (fun e => by have := (unhide hvb _ e.symm).2; omega)
      have k0 := fun X : UpdT w0 => (((unhide hch).1.updT X).2 0 _ rfl)
      refine wq_region_tail 6 (by kernel_rfl) (by kernel_rfl) ?_
      simp only [List.take_succ_cons, List.take_zero, List.drop_succ_cons, List.drop_zero]
      iterate 5
        refine WQ.step (fun K hK => ?_)
        go_simp
        refine hK _ ?_
        clear hK K
      refine WQ.step (fun K hK => ?_)
      go_simp
      refine ⟨_, fun X => Calls.updT X (unhide hSpl X.to ((unhide hw1).1.keep X.upd)), hK _ ?_⟩
      clear hK K
      refine WQ.nil ?_
      rintro _ ⟨X, rfl⟩
      clear k0
      have hX := X.upd
      generalize X.to = w2 at hX ⊢
      have hw2 := hide ((unhide hw1).keep hX)
      have hch2 := hide ((unhide hch).keep hX)
      have hkp2 := hide ((unhide hkp1).trans (FreshV.refl _ _) (KpO.upd (g := g) hX))
      have hs2 : c < w2.heap.size := by have := hX.size; omega
      clear hX hw1 hch hkp1 hSpl hs0
      have d1 := (unhide hch2).1.2 1 _ rfl
      replace hw2 := hide (show WrAt w2 g base s r.rng (lowF r) v (toldF r) from unhide hw2)
      replace hNar := hNar
      generalize lowF r = lw at hw2 hwr hnl hlow ⊢
      have q1 : w2.cell? ⟨g, 513, none⟩ = some (.int .u32 lw) := (unhide hw2).1.back 1 _ rfl
      have f1 := (unhide hw2).1.frozen 513
      go_upto_region 4 with fail
      have hw2b : Hid (WrAt (w2.setCell ⟨g, 513, none⟩ (.int .u32 nl)) g base s r.rng nl v (toldF r)) := hide ⟨(unhide hw2).1.setBack 1 (by simp) (.int .u32 nl), (unhide hw2).2.head hg⟩
      have hch2b := hide ((unhide hch2).other (g' := g) (by omega) 513 (.int .u32 nl))
      have hkp2b := hide ((unhide hkp2).trans (FreshV.refl _ _) (KpO.head g 513 v (.int .u32 nl) w2))
      have hs2b : c < (w2.setCell ⟨g, 513, none⟩ (.int .u32 nl)).heap.size := by simpa using hs2
      clear q1 f1 d1 hw2 hch2 hkp2 hs2
      generalize w2.setCell ⟨g, 513, none⟩ (.int .u32 nl) = w2b at hw2b hch2b hkp2b hs2b ⊢
      have q1 : w2b.cell? ⟨g, 513, none⟩ = some (.int .u32 nl) := (unhide hw2b).1.back 1 _ rfl
      have hCy := hide (implCarry g base s r.rng nl v (toldF r) w2b hg (unhide hw2b) (by omega))
      go_wp2_with fail
      refine (unhide hCy).mono ?_
      rintro e w3 ⟨rfl, hwc, hkc⟩
      have hw3 : Hid (WrAt w3 g base s r.rng (lowF r1) v (toldF r1)) := hide (by rw [unhide ht1, unhide ht2]; exact hwc)
      have hch3 := hide ((unhide hch2b).kpO hkc (by omega) (unhide hn2))
      have hkp3 := hide ((unhide hkp2b).trans (FreshV.refl _ _) hkc)
      have hs2 : c < w3.heap.size := by have := hkc.size; omega
      clear hwc hkc hCy hw2b hch2b hkp2b hs2b q1
      go_upto_region 6 with fail
      have k0 := fun X : UpdT w3 => (((unhide hch3).1.updT X).2 0 _ rfl)
      have k1 := fun X : UpdT w3 => (((unhide hch3).1.updT X).2 1 _ rfl)
      refine wq_region_tail 5 (by kernel_rfl) (by kernel_rfl) ?_
      simp only [List.take_succ_cons, List.take_zero, List.drop_succ_cons, List.drop_zero]
      iterate 5
        refine WQ.step (fun K hK => ?_)
        go_simp
        refine hK _ ?_
        clear hK K
      refine WQ.nil ?_
      rintro _ ⟨X, rfl⟩
      clear k0 k1
      have hX := X.upd
      generalize X.to = w4 at hX ⊢
      have ho4 := (unhide hw3).1.keep hX
      have hr4 := (unhide hw3).2.upd hX
      have hkp4 := hide ((unhide hkp3).trans (FreshV.refl _ _) (KpO.upd (g := g) hX))
      clear hX hw3 hkp3 hch3
      go_wp2_with fail
      refine (unhide hNar w4 _ _ ho4).mono ?_
      rintro e w5 ⟨rfl, ho5, hu5⟩
      have hw5 : Hid (WrR w5 g base (oddsSet s ((p : Int), 1)) v r1) := hide ⟨ho5, hr4.updG hu5 hg⟩
      have hkp5 := hide ((unhide hkp4).trans (FreshV.refl _ _) (KpO.updG hu5))
      clear ho5 hu5 hr4 ho4 hkp4 hNar hvb hn2
      obtain ⟨s2, hs2e⟩ : ∃ s2, oddsSet s ((p : Int), 1) = s2 := ⟨_, rfl⟩
      rw [hs2e] at hw5
      replace hs2e := hide hs2e
      go_wp2_with fail
      go_loopw [36] (fun _ wr => ∃ (rr : Rg) (v' : Value), (rr = r1 ∨ (r1.rng < 16777216 ∧ rr = widenF r1)) ∧ Hid (WrR wr g base s2 v' rr) ∧ Hid (KpO g v W wr) ∧ Hid (FreshV W v v')) (fun _ wr => rngLeftW wr g)
      case atStart => exact ⟨r1, v, .inl rfl, hw5, hkp5, hide (FreshV.refl _ _)⟩
      case round =>
        clear hw5 hkp5
        obtain ⟨rr, v', hrr, hO, hkp, hfr⟩ := hrel
        have hsz := (unhide hkp).size
        have hm0 := hide (rngLeftW_of (unhide hO).1)
        by_cases hlt : r1.rng < 16777216
        · rcases hrr with rfl | ⟨_, rfl⟩
          · have hwd : Hid (shiftF ⟨rr.low, rr.rng * 256, rr.out⟩ = widenF rr) := hide (by unfold widenF; rw [if_pos hlt])
            have hwl : Hid (rngLeftW wr g = 1) := hide (by rw [unhide hm0, if_pos hlt])
            have hw2' : Hid (16777216 ≤ (widenF rr).rng) := hide (by unfold widenF; rw [if_pos hlt]; unfold shiftF; simp only; omega)
            have hWy := hide (implWidenYes g s2 rr.rng _ wr (unhide hO).1 (by omega) hlt)
            have hltH := hide hlt
            have hout1 : rr.out.length ≤ 30000 := by omega
            clear hm0 hlt
            go_wp2_with fail
            refine (unhide hWy).mono ?_
            rintro e w6 ⟨rfl, ho6, hu6⟩
            have hw6 : Hid (WrR w6 g base s2 v' ⟨rr.low, rr.rng * 256, rr.out⟩) := hide ⟨ho6, (unhide hO).2.updG hu6 hg⟩
            have hkp6 := hide ((unhide hkp).trans (unhide hfr) (KpO.updG hu6))
            have hs6 : wr.heap.size ≤ w6.heap.size := hu6.size
            clear ho6 hu6 hO hkp hWy
            go_wp2_with fail
            refine (implShiftR g base s2 v' _ w6 hg (by omega) (unhide hw6) hout1).mono ?_
            rintro e w7 ⟨rfl, v7, hO7, hkp7, hfr7⟩
            rw [unhide hwd] at hO7
            have hkp8 := hide ((unhide hkp6).trans (unhide hfr) hkp7)
            have hfr8 := hide ((unhide hfr).trans hfr7 (by omega))
            have hmm : Hid (rngLeftW w7 g = 0) := hide (by rw [rngLeftW_of hO7.1, if_neg (Int.not_lt.2 (unhide hw2'))])
            replace hO7 := hide hO7
            clear hkp7 hfr7 hkp6 hfr hw6 hwd hw2'
            go_wp2_with fail
            go_roundw
            case rel => exact ⟨widenF rr, v7, .inr ⟨unhide hltH, rfl⟩, hO7, hkp8, hfr8⟩
            case measure => rw [unhide hmm, unhide hwl]; omega
          · have hw2' : 16777216 ≤ (widenF r1).rng := by unfold widenF; rw [if_pos hlt]; unfold shiftF; simp only; omega
            have hWn := hide (implWidenNo g s2 _ _ wr (unhide hO).1 hw2')
            clear hm0 hlt hw2'
            go_wp2_with fail
            refine (unhide hWn).mono ?_
            rintro e w6 ⟨rfl, hw6⟩
            obtain rfl : wr = w6 := hw6.symm
            clear hWn
            go_wp2
            go_end0
            exact ⟨rfl, v', by rw [unhide hs2e]; exact unhide hO, unhide hkp, unhide hfr⟩
        · have hrr2 : rr = r1 := by
            rcases hrr with h | ⟨h, _⟩
            · exact h
            · exact absurd h hlt
          subst hrr2
          have hwd : Hid (widenF rr = rr) := hide (by unfold widenF; rw [if_neg hlt])
          have hWn := hide (implWidenNo g s2 _ _ wr (unhide hO).1 (by omega))
          clear hm0 hlt hrr
          go_wp2_with fail
          refine (unhide hWn).mono ?_
          rintro e w6 ⟨rfl, hw6⟩
          obtain rfl : wr = w6 := hw6.symm
          clear hWn
          go_wp2
          go_end0
          exact ⟨rfl, v', by rw [unhide hwd, unhide hs2e]; exact unhide hO, unhide hkp, unhide hfr⟩
    · have t2 : decide (nl < sv) = false := decide_eq_false hcy
      rw [if_neg hcy] at ht1
      replace ht1 := hide ht1
      clear hcy
      go_enter Try.func60, Try.ntmps60
      go_wp2_with fail
      simp only [List.toArray] at hch
      generalize hW0 : W.alloc (.cells #[.int .i64 (p : Int), .int .i64 1] 38) = w0 at hch hw1 hu0 hkp1 ⊢
      have hs0 : W.heap.size < w0.heap.size := by rw [← hW0]; simp
      clear hW0 hu0
      obtain ⟨c, hc⟩ : ∃ c, W.heap.size = c := ⟨_, rfl⟩
      rw [hc] at hch hs0 hbb hgW hvb ⊢
      have hn2 : Hid (some c ≠ v.ownBlock) := hide (fun e => by have := (unhide hvb _ e.symm).2; omega)
      have k0 := fun X : UpdT w0 => (((unhide hch).1.updT X).2 0 _ rfl)
      refine wq_region_tail 6 (by kernel_rfl) (by kernel_rfl) ?_
      simp only [List.take_succ_cons, List.take_zero, List.drop_succ_cons, List.drop_zero]
      iterate 5
        refine WQ.step (fun K hK => ?_)
        go_simp
        refine hK _ ?_
        clear hK K
      refine WQ.step (fun K hK => ?_)
      go_simp
      refine ⟨_, fun X => Calls.updT X (unhide hSpl X.to ((unhide hw1).1.keep X.upd)), hK _ ?_⟩
      clear hK K
      refine WQ.nil ?_
      rintro _ ⟨X, rfl⟩
      clear k0
      have hX := X.upd
      generalize X.to = w2 at hX ⊢
      have hw2 := hide ((unhide hw1).keep hX)
      have hch2 := hide ((unhide hch).keep hX)
      have hkp2 := hide ((unhide hkp1).trans (FreshV.refl _ _) (KpO.upd (g := g) hX))
      have hs2 : c < w2.heap.size := by have := hX.size; omega
      clear hX hw1 hch hkp1 hSpl hs0
      have d1 := (unhide hch2).1.2 1 _ rfl
      replace hw2 := hide (show WrAt w2 g base s r.rng (lowF r) v (toldF r) from unhide hw2)
      replace hNar := hNar
      generalize lowF r = lw at hw2 hwr hnl hlow ⊢
      have q1 : w2.cell? ⟨g, 513, none⟩ = some (.int .u32 lw) := (unhide hw2).1.back 1 _ rfl
      have f1 := (unhide hw2).1.frozen 513
      go_upto_region 4 with fail
      have hw2b : Hid (WrAt (w2.setCell ⟨g, 513, none⟩ (.int .u32 nl)) g base s r.rng nl v (toldF r)) := hide ⟨(unhide hw2).1.setBack 1 (by simp) (.int .u32 nl), (unhide hw2).2.head hg⟩
      have hch2b := hide ((unhide hch2).other (g' := g) (by omega) 513 (.int .u32 nl))
      have hkp2b := hide ((unhide hkp2).trans (FreshV.refl _ _) (KpO.head g 513 v (.int .u32 nl) w2))
      have hs2b : c < (w2.setCell ⟨g, 513, none⟩ (.int .u32 nl)).heap.size := by simpa using hs2
      clear q1 f1 d1 hw2 hch2 hkp2 hs2
      generalize w2.setCell ⟨g, 513, none⟩ (.int .u32 nl) = w2b at hw2b hch2b hkp2b hs2b ⊢
      have q1 : w2b.cell? ⟨g, 513, none⟩ = some (.int .u32 nl) := (unhide hw2b).1.back 1 _ rfl
      go_upto_region 6 with fail
      clear q1
      have hw3 : Hid (WrAt w2b g base s r.rng (lowF r1) v (toldF r1)) := hide (by rw [unhide ht1, unhide ht2]; exact unhide hw2b)
      generalize w2b = w3 at hw3 hch2b hkp2b hs2b ⊢
      have hch3 := hch2b
      have hkp3 := hkp2b
      have hs2 := hs2b
      clear hw2b hch2b hkp2b hs2b
      have k0 := fun X : UpdT w3 => (((unhide hch3).1.updT X).2 0 _ rfl)
      have k1 := fun X : UpdT w3 => (((unhide hch3).1.updT X).2 1 _ rfl)
      refine wq_region_tail 5 (by kernel_rfl) (by kernel_rfl) ?_
      simp only [List.take_succ_cons, List.take_zero, List.drop_succ_cons, List.drop_zero]
      iterate 5
        refine WQ.step (fun K hK => ?_)
        go_simp
        refine hK _ ?_
        clear hK K
      refine WQ.nil ?_
      rintro _ ⟨X, rfl⟩
      clear k0 k1
      have hX := X.upd
      generalize X.to = w4 at hX ⊢
      have ho4 := (unhide hw3).1.keep hX
      have hr4 := (unhide hw3).2.upd hX
      have hkp4 := hide ((unhide hkp3).trans (FreshV.refl _ _) (KpO.upd (g := g) hX))
      clear hX hw3 hkp3 hch3
      go_wp2_with fail
      refine (unhide hNar w4 _ _ ho4).mono ?_
      rintro e w5 ⟨rfl, ho5, hu5⟩
      have hw5 : Hid (WrR w5 g base (oddsSet s ((p : Int), 1)) v r1) := hide ⟨ho5, hr4.updG hu5 hg⟩
      have hkp5 := hide ((unhide hkp4).trans (FreshV.refl _ _) (KpO.updG hu5))
      clear ho5 hu5 hr4 ho4 hkp4 hNar hvb hn2
      obtain ⟨s2, hs2e⟩ : ∃ s2, oddsSet s ((p : Int), 1) = s2 := ⟨_, rfl⟩
      rw [hs2e] at hw5
      replace hs2e := hide hs2e
      go_wp2_with fail
      go_loopw [36] (fun _ wr => ∃ (rr : Rg) (v' : Value), (rr = r1 ∨ (r1.rng < 16777216 ∧ rr = widenF r1)) ∧ Hid (WrR wr g base s2 v' rr) ∧ Hid (KpO g v W wr) ∧ Hid (FreshV W v v')) (fun _ wr => rngLeftW wr g)
      case atStart => exact ⟨r1, v, .inl rfl, hw5, hkp5, hide (FreshV.refl _ _)⟩
      case round =>
        clear hw5 hkp5
        obtain ⟨rr, v', hrr, hO, hkp, hfr⟩ := hrel
        have hsz := (unhide hkp).size
        have hm0 := hide (rngLeftW_of (unhide hO).1)
        by_cases hlt : r1.rng < 16777216
        · rcases hrr with rfl | ⟨_, rfl⟩
          · have hwd : Hid (shiftF ⟨rr.low, rr.rng * 256, rr.out⟩ = widenF rr) := hide (by unfold widenF; rw [if_pos hlt])
            have hwl : Hid (rngLeftW wr g = 1) := hide (by rw [unhide hm0, if_pos hlt])
            have hw2' : Hid (16777216 ≤ (widenF rr).rng) := hide (by unfold widenF; rw [if_pos hlt]; unfold shiftF; simp only; omega)
            have hWy := hide (implWidenYes g s2 rr.rng _ wr (unhide hO).1 (by omega) hlt)
            have hltH := hide hlt
            have hout1 : rr.out.length ≤ 30000 := by omega
            clear hm0 hlt
            go_wp2_with fail
            refine (unhide hWy).mono ?_
            rintro e w6 ⟨rfl, ho6, hu6⟩
            have hw6 : Hid (WrR w6 g base s2 v' ⟨rr.low, rr.rng * 256, rr.out⟩) := hide ⟨ho6, (unhide hO).2.updG hu6 hg⟩
            have hkp6 := hide ((unhide hkp).trans (unhide hfr) (KpO.updG hu6))
            have hs6 : wr.heap.size ≤ w6.heap.size := hu6.size
            clear ho6 hu6 hO hkp hWy
            go_wp2_with fail
            refine (implShiftR g base s2 v' _ w6 hg (by omega) (unhide hw6) hout1).mono ?_
            rintro e w7 ⟨rfl, v7, hO7, hkp7, hfr7⟩
            rw [unhide hwd] at hO7
            have hkp8 := hide ((unhide hkp6).trans (unhide hfr) hkp7)
            have hfr8 := hide ((unhide hfr).trans hfr7 (by omega))
            have hmm : Hid (rngLeftW w7 g = 0) := hide (by rw [rngLeftW_of hO7.1, if_neg (Int.not_lt.2 (unhide hw2'))])
            replace hO7 := hide hO7
            clear hkp7 hfr7 hkp6 hfr hw6 hwd hw2'
            go_wp2_with fail
            go_roundw
            case rel => exact ⟨widenF rr, v7, .inr ⟨unhide hltH, rfl⟩, hO7, hkp8, hfr8⟩
            case measure => rw [unhide hmm, unhide hwl]; omega
          · have hw2' : 16777216 ≤ (widenF r1).rng := by unfold widenF; rw [if_pos hlt]; unfold shiftF; simp only; omega
            have hWn := hide (implWidenNo g s2 _ _ wr (unhide hO).1 hw2')
            clear hm0 hlt hw2'
            go_wp2_with fail
            refine (unhide hWn).mono ?_
            rintro e w6 ⟨rfl, hw6⟩
            obtain rfl : wr = w6 := hw6.symm
            clear hWn
            go_wp2
            go_end0
            exact ⟨rfl, v', by rw [unhide hs2e]; exact unhide hO, unhide hkp, unhide hfr⟩
        · have hrr2 : rr = r1 := by
            rcases hrr with h | ⟨h, _⟩
            · exact h
            · exact absurd h hlt
          subst hrr2
          have hwd : Hid (widenF rr = rr) := hide (by unfold widenF; rw [if_neg hlt])
          have hWn := hide (implWidenNo g s2 _ _ wr (unhide hO).1 (by omega))
          clear hm0 hlt hrr
          go_wp2_with fail
          refine (unhide hWn).mono ?_
          rintro e w6 ⟨rfl, hw6⟩
          obtain rfl : wr = w6 := hw6.symm
          clear hWn
          go_wp2
          go_end0
          exact ⟨rfl, v', by rw [unhide hwd, unhide hs2e]; exact unhide hO, unhide hkp, unhide hfr⟩
end Go.Proofs.Ytocoeodoihdkgaa
