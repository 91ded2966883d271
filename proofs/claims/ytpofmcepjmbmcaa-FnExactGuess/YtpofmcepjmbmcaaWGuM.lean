/- Guesses: a square filled by a function of its places: the program. -/
import Derived.Test.YtpofmcepjmbmcaaWGuL
import Derived.Test.YtpofmcepjmbmcaaWSbA
namespace Go.Proofs.Ytpofmcepjmbmcaa
open Go.RowKit

def cellsTo (cell : Nat → Int) (k : Nat) : List Int := (List.range k).map cell
theorem cellsTo_succ (cell : Nat → Int) (k : Nat) : cellsTo cell (k + 1) = cellsTo cell k ++ [cell k] := by unfold cellsTo; rw [List.range_succ, List.map_append]; rfl
theorem cellsTo_length (cell : Nat → Int) (k : Nat) : (cellsTo cell k).length = k := by simp [cellsTo]
theorem HeldF.grownG {w w' : World} {g : Nat} {cs : List Value} {r : Option Nat} (h : HeldF w g cs) (hg : w.grownBy w' r) (hne : some g ≠ r) : HeldF w' g cs := by
  cases r with
  | none => exact h.keep ⟨hg.os, hg.tape, hg.output, hg.size, fun k hk _ => hg.block k hk (by simp)⟩
  | some gv => exact h.upd (c := gv) (e := gv + 1) ⟨hg.os, hg.tape, hg.output, hg.size, fun k hk hn => hg.block k hk (by intro e; cases e; omega)⟩ (by have : g ≠ gv := fun e => hne (by rw [e]); omega)
set_option maxHeartbeats 16000000 in
set_option maxRecDepth 100000 in
theorem implFilled (S G : Nat) (c : Int) (v1 v2 p : Value) (cell : Nat → Int) (w : World) (hS : S = 4 ∨ S = 8)
    (hG : ∀ (a b : Int) (W : World), (callFunc G #[.int .i64 a, .int .i64 b, p]).run Try.prog W = .ok (.enter G #[.int .i64 a, .int .i64 b, p]) W)
    (hF : ∀ (W : World) (i j : Nat), Below w.heap.size w W → i < S → j < S → Calls Try.prog G #[.int .i64 (i : Int), .int .i64 (j : Int), p] W fun e w' => e = .returned (.int .i64 (cell (i * S + j))) ∧ Upd 0 0 W w') :
    Calls Try.prog 105 #[.agg #[.int .i64 (S : Int), v1, v2, .int .i64 c], .func (.func G) #[] #[p]] w fun e w' => ∃ v, e = .returned v ∧ OwnI w' w.heap.size w'.heap.size v (cellsTo cell (S * S)) ∧ Upd 0 0 w w' := by
  obtain ⟨i0, hi, hz0, hz1, hz2⟩ := info_parts infoI
  replace hF := hide hF
  have hB0 := hide ((Below.refl w.heap.size w).alloc (Nat.le_refl _) (.cells #[.int .i64 (S : Int), v1, v2, .int .i64 c] 94))
  have hcs := hide (heldF_new w [.int .i64 (S : Int), v1, v2, .int .i64 c] 94)
  obtain ⟨M, hM⟩ : ∃ M : Nat, S * S = M := ⟨_, rfl⟩
  have hMM : (S : Int) * (S : Int) = (M : Int) := by rw [← hM]; simp
  have hM64 : M ≤ 64 := by rcases hS with rfl | rfl <;> omega
  have wM : IntKind.i64.wrap (M : Int) = (M : Int) := by simp [IntKind.wrap, IntKind.bits, IntKind.signed]; omega
  rw [hM]
  replace hM := hide hM
  go_enter Try.func105, Try.ntmps105
  go_upto_region 1 with fail
  change Hid (HeldF (w.alloc (.cells #[.int .i64 (S : Int), v1, v2, .int .i64 c] 94)) w.heap.size _) at hcs
  generalize w.alloc (.cells #[.int .i64 (S : Int), v1, v2, .int .i64 c] 94) = w0 at hB0 hcs ⊢
  generalize hgf : w.heap.size = gf at hcs ⊢
  have c0 := (unhide hcs).1.2 0 _ rfl
  have cl := (unhide hcs).1.1
  replace hgf := hide hgf
  have hgw : gf < w0.heap.size := cl
  go_upto_region 2 with (at_make; go_loud (refine wpList_make_own _ rfl _ _ 29 rfl w0.heap.size 3 i0 (.int .i64 0) 1 Try.underlying29 hi hz0 hz1 .i64 .i64 (M : Int) M rfl rfl rfl (by rw [hz2]; omega) (by unfold maxLen; omega) (Nat.le_refl _) ?_; intro w1 hown hgrow; have hb01 := (Below.refl w0.heap.size w0).grown hgrow (Nat.le_refl _) (by simp); have hcs1 := hide ((unhide hcs).keep (Upd.of_below hb01 0 0)); have hB1 := hide ((unhide hB0).trans (hb01.mono (unhide hB0).size)); have hrow0 := hide hown; clear hown hgrow hb01 hcs hB0 c0 cl))
  have hgw0 := hide hgw
  generalize w0.heap.size = g at hrow0 hgw hgw0 ⊢
  clear hgw
  have c0 := (unhide hcs1).1.2 0 _ rfl
  have cl := (unhide hcs1).1.1
  clear hMM wM
  go_wp2_with fail
  have hLt : Hid (∀ k j : Nat, k < S → j < S → k * S + j + 1 ≤ M) := hide (fun k j hk hj => by
    have h1 : (k + 1) * S ≤ S * S := Nat.mul_le_mul hk (Nat.le_refl _)
    rw [Nat.add_mul, Nat.one_mul] at h1
    have := unhide hM
    omega)
  clear c0 cl
  go_loopw [5, 16] (fun s i wr => ∃ k n : Nat, k ≤ S ∧ Hid (n = k * S) ∧ s = .slice (some ⟨g, 0, none⟩) n M ∧ i = .int .i64 (k : Int) ∧ Hid (wr.ownsRow g 3 1 (.slice (some ⟨g, 0, none⟩) n M) n (ints (cellsTo cell n))) ∧ Hid (HeldF wr gf [.int .i64 (S : Int), v1, v2, .int .i64 c]) ∧ Hid (Below w.heap.size w wr)) (fun _ i _ => S - (intOf i).toNat)
  case atStart => exact ⟨0, 0, by omega, hide (by simp), rfl, rfl, hrow0, hcs1, hB1⟩
  case round =>
    clear hrow0 hcs1 hB1
    obtain ⟨k, n, hk, hn, rfl, rfl, hrow, hcs, hB⟩ := hrel
    have c0 := (unhide hcs).1.2 0 _ rfl
    have cl := (unhide hcs).1.1
    by_cases hlt : k < S
    · go_wp2_with fail
      clear c0 cl
      go_loopw [5, 21] (fun s i wr => ∃ j m : Nat, j ≤ S ∧ Hid (m = k * S + j) ∧ s = .slice (some ⟨g, 0, none⟩) m M ∧ i = .int .i64 (j : Int) ∧ Hid (wr.ownsRow g 3 1 (.slice (some ⟨g, 0, none⟩) m M) m (ints (cellsTo cell m))) ∧ Hid (HeldF wr gf [.int .i64 (S : Int), v1, v2, .int .i64 c]) ∧ Hid (Below w.heap.size w wr)) (fun _ i _ => S - (intOf i).toNat)
      case atStart => exact ⟨0, n, by omega, hide (unhide hn), rfl, rfl, hrow, hcs, hB⟩
      case round =>
        clear hrow hcs hB hn
        obtain ⟨j, m, hj, hm, rfl, rfl, hrow, hcs, hB⟩ := hrel
        by_cases hjl : j < S
        · have hFc := hide (unhide hF wr k j (unhide hB) hlt hjl)
          have hmM : m + 1 ≤ M := by rw [unhide hm]; exact unhide hLt k j hlt hjl
          rw [← unhide hm] at hFc
          go_wp2_with fail
          refine (unhide hFc).mono ?_
          rintro e w5 ⟨rfl, hu5⟩
          clear hFc
          have hrow5 := hide ((Own.of (unhide hrow)).keep hu5).1
          have hcs5 := hide ((unhide hcs).keep hu5)
          have hB5 := hide (below_upd (unhide hB) hu5 (Nat.le_refl _) (.inr (Nat.zero_le _)))
          clear hrow hcs hB hu5
          generalize hx : cell m = x
          replace hx := hide hx
          have hu6 := Upd.of_below ((Below.refl w5.heap.size w5).alloc (Nat.le_refl _) (.cells #[.int .i64 x] 3)) 0 0
          have hrow6 := hide ((Own.of (unhide hrow5)).keep hu6).1
          have hcs6 := hide ((unhide hcs5).keep hu6)
          have hB6 := hide (below_upd (unhide hB5) hu6 (Nat.le_refl _) (.inr (Nat.zero_le _)))
          have hnk := hide (heldF_new w5 [.int .i64 x] 3)
          clear hrow5 hcs5 hB5 hu6
          go_wp2_with (at_builtin; go_loud (refine wpList_append_fits _ rfl (.tmp 24) (.tmp 29) 29 rfl g 3 i0 1 Try.underlying29 hi hz1 g m M (ints (cellsTo cell m)) rfl (unhide hrow6) ⟨w5.heap.size, 0, none⟩ 1 1 (ints [x]) rfl rfl (fun j u hj => by rw [add_cell, Nat.zero_add]; exact (unhide hnk).1.2 j u hj) (ints_one _) (by omega) ?_; intro w6 ho6 hg6; have hb6 := hide ((unhide hB6).grown hg6 (unhide hB6).size (fun j e => by cases e; rw [unhide hgf]; exact Nat.le_of_lt (unhide hgw0))); have hc6 := hide ((unhide hcs6).grownG hg6 (by intro e; cases e; exact absurd (unhide hgw0) (Nat.lt_irrefl _))); have ho7 : Hid (w6.ownsRow g 3 1 (.slice (some ⟨g, 0, none⟩) (m + 1) M) (m + 1) (ints (cellsTo cell (m + 1)))) := hide (by rw [cellsTo_succ, unhide hx, ints_append]; exact ho6); clear ho6 hg6))
          go_roundw
          case rel => exact ⟨j + 1, m + 1, by omega, hide (by rw [unhide hm]; omega), rfl, by go_num, ho7, hc6, hb6⟩
          case measure => simp [intOf]; omega
        · have hjS : j = S := by omega
          have hmS : Hid (m = (k + 1) * S) := hide (by rw [unhide hm, hjS, Nat.add_mul, Nat.one_mul])
          have hlt2 : ¬ ((j : Int) < (S : Int)) := by omega
          clear hm
          go_wp2_with fail
          go_roundw
          case rel => exact ⟨k + 1, m, by omega, hmS, rfl, by go_num, hrow, hcs, hB⟩
          case measure => simp [intOf]; omega
    · have hkS : k = S := by omega
      have hnM : n = M := by rw [unhide hn, hkS]; exact unhide hM
      have ho : Hid (OwnI wr gf wr.heap.size (.slice (some ⟨g, 0, none⟩) n M) (cellsTo cell n)) := hide (by
        have h := unhide hrow
        unfold OwnI
        rw [cellsTo_length]
        exact own_mono (Own.of h) (Nat.le_of_lt (unhide hgw0)) (Nat.le_refl _))
      have hg0 := unhide hgf
      subst hg0
      clear hrow hn
      subst hnM
      replace hkS := hide hkS
      go_wp2_with fail
      go_ret
      exact ⟨_, rfl, unhide ho, Upd.of_below (unhide hB) 0 0⟩
end Go.Proofs.Ytpofmcepjmbmcaa
