/- The specification's marks. -/
import Derived.Test.YtocoeodoihdkgaaPlainMk
import Derived.Test.YtocoeodoihdkgaaWRCh
import Derived.Maps.AppendAt
import Derived.RangeFuncBox
namespace Go.Proofs.Ytocoeodoihdkgaa
open Go.RowKit

theorem i64_and_1m (n : Int) : bits .and .i64 n 1 = n % 2 := by
  have h1 : (BitVec.ofInt 64 1).toNat = 2 ^ 1 - 1 := by decide
  have key : (BitVec.ofInt 64 n &&& BitVec.ofInt 64 1).toNat = (n % ((2 ^ 64 : Nat) : Int)).toNat % 2 ^ 1 := by
    rw [BitVec.toNat_and, BitVec.toNat_ofInt, h1, Nat.and_two_pow_sub_one_eq_mod]
  show IntKind.i64.wrap ((BitVec.ofInt 64 n &&& BitVec.ofInt 64 1).toNat : Nat) = _
  rw [key, IntKind.wrap_i64]
  omega
theorem shr_pos (m b : Nat) (h : 2 ^ (b + 1) ≤ m) : (0 : Int) < (m : Int) / 2 ^ (b + 1) := by
  have hp : 0 < 2 ^ (b + 1) := Nat.two_pow_pos _
  rw [show ((m : Int) / 2 ^ (b + 1)) = ((m / 2 ^ (b + 1) : Nat) : Int) by simp]
  have : 1 ≤ m / 2 ^ (b + 1) := (Nat.le_div_iff_mul_le hp).2 (by omega)
  omega
theorem shr_zero (m b : Nat) (h : ¬ 2 ^ (b + 1) ≤ m) : ¬ (0 : Int) < (m : Int) / 2 ^ (b + 1) := by
  rw [show ((m : Int) / 2 ^ (b + 1)) = ((m / 2 ^ (b + 1) : Nat) : Int) by simp, Nat.div_eq_of_lt (by omega)]
  simp
theorem shr_16 (m b : Nat) (h : 2 ^ (b + 1) ≤ m) (hm : m ≤ 65536) : b < 16 := by
  rcases Nat.lt_or_ge b 16 with h1 | h1
  · exact h1
  · have : 2 ^ 17 ≤ 2 ^ (b + 1) := Nat.pow_le_pow_right (by omega) (by omega)
    omega
theorem twoNewM (w : World) (u u' : Value) (t : TypeId) : ∀ j v, [u, u'][j]? = some v → (w.alloc (.cells #[u, u'] t)).cell? ((⟨w.heap.size, 0, none⟩ : Addr).add j) = some v := by
  intro j v hj
  match j, hj with
  | 0, hj => simp at hj; subst hj; simp [Addr.add]
  | 1, hj => simp at hj; subst hj; simp [Addr.add]
theorem twoOneM (q q' : IntKind) (a b : Int) : ∀ u ∈ [Value.int q a, Value.int q' b], u.oneCell' = true := by
  intro u hu; simp at hu; rcases hu with rfl | rfl <;> rfl
set_option maxRecDepth 100000 in
set_option maxHeartbeats 4000000 in
theorem specL12Marks (n f : Int) (w : World) (h0 : 0 ≤ n) (h1 : n ≤ 65535) (h2 : 0 ≤ f) (h3 : f ≤ 472) :
    Calls Try.prog 74 #[.int .i64 n, .int .i64 f] w fun e w' => ∃ v, e = .returned v ∧ OwnCh w' w.heap.size w'.heap.size v (marksL n f) ∧ Upd 0 0 w w' := by
  obtain ⟨m, hm⟩ : ∃ m : Nat, n + 1 = (m : Int) := ⟨(n + 1).toNat, by omega⟩
  have hm1 : 1 ≤ m ∧ m ≤ 65536 := by omega
  have hw : IntKind.i64.wrap (n + 1) = (m : Int) := by rw [hm]; simp [IntKind.wrap, IntKind.bits, IntKind.signed]; omega
  go_enter Try.func74, Try.ntmps74
  go_wp2_with fail
  go_loopw [6] (fun r wr => ∃ (b : Nat), r = .int .i64 (b : Int) ∧ b ≤ 16 ∧ 2 ^ b ≤ m ∧ w = wr) (fun r _ => 64 - (intOf r).toNat)
  case atStart => exact ⟨0, rfl, by omega, by simpa using hm1.1, rfl⟩
  case round =>
    obtain ⟨b, rfl, hb, hbm, rfl⟩ := hrel
    have hb0 : (0 : Int) ≤ (b : Int) + 1 := by omega
    have hb1 : (b : Int) + 1 ≤ 64 := by omega
    replace hbm := hide hbm
    replace hm := hide hm
    clear hw
    by_cases hq : 2 ^ (b + 1) ≤ m
    · have hd : (0 : Int) < (m : Int) / 2 ^ (b + 1) := shr_pos m b hq
      have hgt : decide ((0 : Int) < (m : Int) / 2 ^ (b + 1)) = true := decide_eq_true hd
      have hb16 := shr_16 m b hq hm1.2
      replace hd := hide hd
      replace hq := hide hq
      go_wp2_with fail
      go_roundw
      case rel => exact ⟨b + 1, by simp, by omega, unhide hq, trivial⟩
      case measure => simp [intOf]; omega
    · have hd : ¬ ((0 : Int) < (m : Int) / 2 ^ (b + 1)) := shr_zero m b hq
      have hgt : decide ((0 : Int) < (m : Int) / 2 ^ (b + 1)) = false := decide_eq_false hd
      replace hd := hide hd
      have hbb := hide (markBits_of n b ⟨h0, h1⟩ (by have := unhide hm; have := unhide hbm; omega) (by have := unhide hm; omega))
      clear hq
      go_wp2_with fail
      go_loopw [7, 8] (fun r i wr => ∃ (j : Nat) (ad2 : Option Addr) (cp : Nat) (L : List Ch), r = .slice ad2 L.length cp ∧ i = .int .i64 (j : Int) ∧ j ≤ b ∧ L.length = j ∧ Hid (marksTo n f b j = L) ∧ Hid (wr.ownsRow w.heap.size 38 2 (.slice ad2 L.length cp) L.length (cellsCh L)) ∧ Hid (Below w.heap.size w wr)) (fun _ i _ => b - (intOf i).toNat)
      case atStart => exact ⟨0, none, 0, [], rfl, rfl, by omega, rfl, hide rfl, hide (World.ownsRow_nil _ _ _ _), hide (Below.refl _ _)⟩
      case round =>
        obtain ⟨j, ad2, cp, L, rfl, rfl, hj, hLj, hst, hrow, hbel⟩ := hrel
        by_cases hjb : j < b
        · have hjt : decide ((j : Int) < (b : Int)) = true := decide_eq_true (by omega)
          have hnx := hide (show marksTo n f b (j + 1) = L ++ [(f + (j : Int), 1)] by rw [marksTo_succ, unhide hst, mkAt_lt n f b j hjb])
          clear hst
          replace hLj := hide hLj
          have hLl : L.length ≤ 16 := by have := unhide hLj; omega
          have hrow1 := unhide hrow
          have hbel1 := unhide hbel
          have hsz := hbel1.size
          obtain ⟨i0, hi, hz0, hz1, hz2⟩ := info_parts infoCh
          have hb1 : L.length + 1 ≤ maxLen := by unfold maxLen; omega
          have hb2 : (L.length + 1) * 16 ≤ 140737488355328 := by omega
          have hb3 : w.heap.size ≤ (wr.alloc (.cells #[.int .i64 (f + (j : Int)), .int .i64 1] 38)).heap.size := by simp; omega
          go_wp2_with (at_builtin; refine wpList_append_own_at _ rfl (.tmp 25) (.tmp 30) 32 rfl w.heap.size 38 i0 (.agg #[.int .i64 0, .int .i64 0]) 2 16 Try.underlying32 hi hz0 hz1 hz2 rfl (by decide) (.slice ad2 L.length cp) L.length (cellsCh L) rfl (hrow1.alloc _) ⟨wr.heap.size, 0, none⟩ 1 1 [.int .i64 (f + (j : Int)), .int .i64 1] rfl rfl (twoNewM _ _ _ _) (twoOneM _ _ _ _) hb1 hb2 hb3 ?_)
          intro v' w2 hown' hgrow _ _
          have hbel2 := hide ((hbel1.alloc hsz (.cells #[.int .i64 (f + (j : Int)), .int .i64 1] 38)).grown hgrow (by simp; omega) (fun k hk => (hrow1.lt k hk).1))
          obtain ⟨ad3, cp3, rfl⟩ : ∃ ad3 cp3, v' = .slice ad3 (L.length + 1) cp3 := by
            obtain ⟨g, c, e⟩ := ownsRow_succ hown'
            exact ⟨_, _, e⟩
          have hrow2 : Hid (w2.ownsRow w.heap.size 38 2 (.slice ad3 (L ++ [((f + (j : Int)), 1)]).length cp3) (L ++ [((f + (j : Int)), 1)]).length (cellsCh (L ++ [((f + (j : Int)), 1)]))) := hide (by
            rw [cellsCh_snoc, List.length_append]; exact hown')
          rw [show L.length + 1 = (L ++ [((f + (j : Int)), 1)]).length by simp]
          generalize hLn : L ++ [((f + (j : Int)), 1)] = L2 at hrow2 ⊢
          clear hown' hgrow hrow1 hbel1 hsz hb1 hb2 hb3
          rw [hLn] at hnx
          have hl2 : L2.length = j + 1 := by rw [← hLn, List.length_append, unhide hLj]; rfl
          go_wp2_with fail
          go_roundw
          case rel => exact ⟨j + 1, _, _, L2, rfl, by go_num, by omega, hl2, hnx, hrow2, hbel2⟩
          case measure => simp [intOf]; omega
        · have hjt : decide ((j : Int) < (b : Int)) = false := decide_eq_false (by omega)
          obtain rfl : j = b := by omega
          have hnx := hide (show marksTo n f j (j + 1 + 0) = L ++ [(f + (j : Int), 0)] by rw [Nat.add_zero, marksTo_succ, unhide hst, mkAt_eq n f j])
          clear hst hjb
          replace hLj := hide hLj
          have hLl : L.length ≤ 16 := by have := unhide hLj; omega
          have hrow1 := unhide hrow
          have hbel1 := unhide hbel
          have hsz := hbel1.size
          obtain ⟨i0, hi, hz0, hz1, hz2⟩ := info_parts infoCh
          have hb1 : L.length + 1 ≤ maxLen := by unfold maxLen; omega
          have hb2 : (L.length + 1) * 16 ≤ 140737488355328 := by omega
          have hb3 : w.heap.size ≤ (wr.alloc (.cells #[.int .i64 (f + (j : Int)), .int .i64 0] 38)).heap.size := by simp; omega
          go_wp2_with (at_builtin; refine wpList_append_own_at _ rfl (.tmp 32) (.tmp 37) 32 rfl w.heap.size 38 i0 (.agg #[.int .i64 0, .int .i64 0]) 2 16 Try.underlying32 hi hz0 hz1 hz2 rfl (by decide) (.slice ad2 L.length cp) L.length (cellsCh L) rfl (hrow1.alloc _) ⟨wr.heap.size, 0, none⟩ 1 1 [.int .i64 (f + (j : Int)), .int .i64 0] rfl rfl (twoNewM _ _ _ _) (twoOneM _ _ _ _) hb1 hb2 hb3 ?_)
          intro v' w2 hown' hgrow _ _
          have hbel2 := hide ((hbel1.alloc hsz (.cells #[.int .i64 (f + (j : Int)), .int .i64 0] 38)).grown hgrow (by simp; omega) (fun k hk => (hrow1.lt k hk).1))
          obtain ⟨ad3, cp3, rfl⟩ : ∃ ad3 cp3, v' = .slice ad3 (L.length + 1) cp3 := by
            obtain ⟨g, c, e⟩ := ownsRow_succ hown'
            exact ⟨_, _, e⟩
          have hrow2 : Hid (w2.ownsRow w.heap.size 38 2 (.slice ad3 (L ++ [((f + (j : Int)), 0)]).length cp3) (L ++ [((f + (j : Int)), 0)]).length (cellsCh (L ++ [((f + (j : Int)), 0)]))) := hide (by
            rw [cellsCh_snoc, List.length_append]; exact hown')
          rw [show L.length + 1 = (L ++ [((f + (j : Int)), 0)]).length by simp]
          generalize hLn : L ++ [((f + (j : Int)), 0)] = L2 at hrow2 ⊢
          clear hown' hgrow hrow1 hbel1 hsz hb1 hb2 hb3
          rw [hLn] at hnx
          have hl2 : L2.length = j + 1 + 0 := by rw [← hLn, List.length_append, unhide hLj]; rfl
          clear hLj hLn hLl hrow hbel hjt
          go_wp2_with fail
          rename_i wq
          go_loopw [7, 9] (fun r i wr => ∃ (k : Nat) (ad2 : Option Addr) (cp : Nat) (L : List Ch), r = .slice ad2 L.length cp ∧ i = .int .i64 ((j : Int) - 1 - (k : Int)) ∧ k ≤ j ∧ L.length = j + 1 + k ∧ Hid (marksTo n f j (j + 1 + k) = L) ∧ Hid (wr.ownsRow w.heap.size 38 2 (.slice ad2 L.length cp) L.length (cellsCh L)) ∧ Hid (Below w.heap.size w wr)) (fun _ i _ => (intOf i + 1).toNat)
          case atStart => exact ⟨0, _, _, L2, rfl, by go_num, by omega, hl2, hnx, hrow2, hbel2⟩
          case round =>
            clear hnx hrow2 hbel2 hl2
            obtain ⟨k, ad2, cp, L, rfl, rfl, hk, hLj, hst, hrow, hbel⟩ := hrel
            by_cases hkb : k < j
            · obtain ⟨i, hij⟩ : ∃ i : Nat, j = i + 1 + k := ⟨j - 1 - k, by omega⟩
              have e1 : (j : Int) - 1 - (k : Int) = (i : Int) := by omega
              rw [e1]
              have hjt : decide ((0 : Int) ≤ (i : Int)) = true := decide_eq_true (by omega)
              have hjt2 : decide ((i : Int) < 0) = false := decide_eq_false (by omega)
              have hbit : bits .and .i64 ((m : Int) / 2 ^ i) 1 = (m : Int) / 2 ^ i % 2 := i64_and_1m _
              have hnx := hide (show marksTo n f j (j + 1 + (k + 1)) = L ++ [(f + 20 + (i : Int), (m : Int) / 2 ^ i % 2)] by
                rw [show j + 1 + (k + 1) = j + 1 + k + 1 by omega, marksTo_succ, unhide hst, show j + 1 + k = 2 * j - i by omega, mkAt_gt n f j i (by omega), unhide hm])
              have hi16 : (i : Int) ≤ 16 := by omega
              have hi0 : (0 : Int) ≤ (i : Int) := by omega
              replace hij := hide hij
              have hy : 0 ≤ (m : Int) / 2 ^ i % 2 ∧ (m : Int) / 2 ^ i % 2 ≤ 1 := by
                generalize (m : Int) / 2 ^ i = z
                omega
              generalize (m : Int) / 2 ^ i % 2 = y at hbit hnx hy
              clear hst e1
              replace hLj := hide hLj
              have hLl : L.length ≤ 33 := by have := unhide hLj; omega
              have hrow1 := unhide hrow
              have hbel1 := unhide hbel
              have hsz := hbel1.size
              obtain ⟨i0, hi, hz0, hz1, hz2⟩ := info_parts infoCh
              have hb1 : L.length + 1 ≤ maxLen := by unfold maxLen; omega
              have hb2 : (L.length + 1) * 16 ≤ 140737488355328 := by omega
              have hb3 : w.heap.size ≤ (wr.alloc (.cells #[.int .i64 (f + 20 + (i : Int)), .int .i64 y] 38)).heap.size := by simp; omega
              go_wp2_with (at_builtin; refine wpList_append_own_at _ rfl (.tmp 45) (.tmp 56) 32 rfl w.heap.size 38 i0 (.agg #[.int .i64 0, .int .i64 0]) 2 16 Try.underlying32 hi hz0 hz1 hz2 rfl (by decide) (.slice ad2 L.length cp) L.length (cellsCh L) rfl (hrow1.alloc _) ⟨wr.heap.size, 0, none⟩ 1 1 [.int .i64 (f + 20 + (i : Int)), .int .i64 y] rfl rfl (twoNewM _ _ _ _) (twoOneM _ _ _ _) hb1 hb2 hb3 ?_)
              intro v' w2 hown' hgrow _ _
              have hbel2 := hide ((hbel1.alloc hsz (.cells #[.int .i64 (f + 20 + (i : Int)), .int .i64 y] 38)).grown hgrow (by simp; omega) (fun k hk => (hrow1.lt k hk).1))
              obtain ⟨ad3, cp3, rfl⟩ : ∃ ad3 cp3, v' = .slice ad3 (L.length + 1) cp3 := by
                obtain ⟨g, c, e⟩ := ownsRow_succ hown'
                exact ⟨_, _, e⟩
              have hrow2 : Hid (w2.ownsRow w.heap.size 38 2 (.slice ad3 (L ++ [((f + 20 + (i : Int)), y)]).length cp3) (L ++ [((f + 20 + (i : Int)), y)]).length (cellsCh (L ++ [((f + 20 + (i : Int)), y)]))) := hide (by
                rw [cellsCh_snoc, List.length_append]; exact hown')
              rw [show L.length + 1 = (L ++ [((f + 20 + (i : Int)), y)]).length by simp]
              generalize hLn : L ++ [((f + 20 + (i : Int)), y)] = L2 at hrow2 ⊢
              clear hown' hgrow hrow1 hbel1 hsz hb1 hb2 hb3
              rw [hLn] at hnx
              have hl2 : L2.length = j + 1 + (k + 1) := by rw [← hLn, List.length_append, unhide hLj]; rfl
              replace hij := unhide hij
              go_wp2_with fail
              go_roundw
              case rel => exact ⟨k + 1, _, _, L2, rfl, by first | (congr 1; omega) | go_num, by omega, hl2, hnx, hrow2, hbel2⟩
              case measure => first | (simp [intOf]; done) | (simp [intOf]; omega)
            · obtain rfl : k = j := by omega
              have hjt : decide ((0 : Int) ≤ (k : Int) - 1 - (k : Int)) = false := decide_eq_false (by omega)
              have hF := hide (show marksL n f = L by unfold marksL; rw [unhide hbb, ← unhide hst]; congr 1; omega)
              clear hst hkb
              have hlj := hide hLj
              clear hLj
              go_wp2
              go_ret
              exact ⟨_, rfl, by rw [unhide hF]; exact Own.of (unhide hrow), Upd.of_below (unhide hbel) 0 0⟩
set_option maxRecDepth 100000 in
set_option maxHeartbeats 4000000 in
theorem specMarks (n f : Int) (w : World) (hn0 : -9223372036854775808 ≤ n) (hn1 : n ≤ 9223372036854775807) (hf0 : -9223372036854775808 ≤ f) (hf1 : f ≤ 9223372036854775807) :
    Calls Try.prog 24 #[.int .i64 n, .int .i64 f] w fun e w' => ∃ v, e = .returned v ∧ OwnCh w' w.heap.size w'.heap.size v (marksF n f) ∧ Upd 0 0 w w' := by
  by_cases h1 : MkOk n f
  · obtain ⟨a0, a1, a2, a3⟩ := h1
    have hE : Hid (marksF n f = marksL n f) := hide (by unfold marksF; rw [if_pos ⟨a0, a1, a2, a3⟩])
    have hC := hide (fun X => specL12Marks n f X a0 a1 a2 a3)
    go_enter Try.func24, Try.ntmps24
    go_wp2_with fail
    refine (unhide hC _).mono ?_
    rintro e w1 ⟨v, rfl, ho, hu⟩
    have ho2 := hide ho
    have hu2 := hide hu
    clear ho hu
    go_wp2
    go_ret
    exact ⟨_, rfl, by rw [unhide hE]; exact unhide ho2, unhide hu2⟩
  · have hE : Hid (marksF n f = []) := hide (by unfold marksF; rw [if_neg h1])
    rcases (show n < 0 ∨ (0 ≤ n ∧ 65535 < n) ∨ (0 ≤ n ∧ n ≤ 65535 ∧ f < 0) ∨ (0 ≤ n ∧ n ≤ 65535 ∧ 0 ≤ f ∧ 472 < f) by unfold MkOk at h1; omega) with h | ⟨h, h'⟩ | ⟨h, h', h''⟩ | ⟨h, h', h'', h3⟩
    all_goals
      clear h1
      go_enter Try.func24, Try.ntmps24
      go_wp2
      go_ret
      exact ⟨_, rfl, by rw [unhide hE]; exact own_nilCh _ _ _, Upd.refl _ _ _⟩
end Go.Proofs.Ytocoeodoihdkgaa
