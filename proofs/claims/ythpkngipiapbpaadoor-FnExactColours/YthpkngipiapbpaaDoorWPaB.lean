/- The walk of Passes: the specification's whole, the program's count. -/
import Derived.Test.YthpkngipiapbpaaDoorWPaA
import Derived.Test.YthpkngipiapbpaaDoorWSdB
import Derived.Test.YthpkngipiapbpaaDoorWRow
namespace Go.Proofs.YthpkngipiapbpaaDoor
open Go.RowKit

set_option maxHeartbeats 1000000 in
theorem implCountSteps (n f s : Int) (w : World) (hn0 : 1 ≤ n) (hn : n ≤ 512) (hf : 0 ≤ f ∧ f < s) (hs : 1 ≤ s ∧ s ≤ 8) :
    Calls Tryd.prog 84 #[.int .i64 n, .int .i64 f, .int .i64 s] w fun e w' => e = .returned (.int .i64 (cntF n f s)) ∧ w' = w := by
  have hE := hide (cntF_steps hn0 hf hs)
  obtain ⟨f1, f2⟩ := hf
  obtain ⟨s1, s2⟩ := hs
  go_enter Tryd.func84, Tryd.ntmps84
  go_wp2
  go_ret
  exact ⟨ret_int (unhide hE), rfl⟩

/-- The program's table of passes, as it lies in its variable. -/
def passCells : List Value := [.int .i64 0, .int .i64 0, .int .i64 8, .int .i64 8, .int .i64 0, .int .i64 0, .int .i64 4, .int .i64 0, .int .i64 8, .int .i64 8, .int .i64 0, .int .i64 0, .int .i64 0, .int .i64 4, .int .i64 4, .int .i64 8, .int .i64 0, .int .i64 0, .int .i64 2, .int .i64 0, .int .i64 4, .int .i64 4, .int .i64 0, .int .i64 0, .int .i64 0, .int .i64 2, .int .i64 2, .int .i64 4, .int .i64 0, .int .i64 0, .int .i64 1, .int .i64 0, .int .i64 2, .int .i64 2, .int .i64 0, .int .i64 0, .int .i64 0, .int .i64 1, .int .i64 1, .int .i64 2, .int .i64 0, .int .i64 0]
theorem passSize : (Tryd.prog.info? 122).map (·.size) = some passCells.length := by kernel_rfl
theorem passIdx (k : Nat) (h : k < 7) (w : World) : (Instr.index 122 (.agg passCells.toArray) (.int .i64 k)).run Tryd.prog w = .ok (.agg #[.int .i64 (passAt k).1, .int .i64 (passAt k).2.1, .int .i64 (passAt k).2.2.1, .int .i64 (passAt k).2.2.2, .int .i64 0, .int .i64 0]) w := by
  rcases (show k = 0 ∨ k = 1 ∨ k = 2 ∨ k = 3 ∨ k = 4 ∨ k = 5 ∨ k = 6 by omega) with e | e | e | e | e | e | e <;> subst e <;> kernel_rfl

set_option maxHeartbeats 8000000 in
set_option maxRecDepth 1000000 in
theorem implPasses (a b : Int) (w : World) (hT : Held w 1 passCells) (_hl : -9223372036854775808 ≤ a) (_hh : a ≤ 9223372036854775807) (_hl2 : -9223372036854775808 ≤ b) (_hh2 : b ≤ 9223372036854775807) :
    Calls Tryd.prog 79 #[.int .i64 a, .int .i64 b] w fun e w' => ∃ v, e = .returned v ∧ OwnPs w' w.heap.size w'.heap.size v (passesF a b) ∧ Upd 0 0 w w' := by
  have hS := hide (implGoodSide a w)
  have hS2 := hide (implGoodSide b w)
  by_cases ha : 1 ≤ a ∧ a ≤ 512
  case neg =>
    rw [sideB_no ha] at hS
    rw [passesF_no (fun h => ha h.1)]
    clear ha
    go_enter Tryd.func79, Tryd.ntmps79
    go_wp2_with fail
    refine (unhide hS).mono ?_
    rintro e w1 ⟨rfl, rfl⟩
    go_wp2
    go_ret
    exact ⟨_, rfl, own_nilPs _ _ _, Upd.refl _ _ _⟩
  rw [sideB_yes ha] at hS
  by_cases hb : 1 ≤ b ∧ b ≤ 512
  case neg =>
    rw [sideB_no hb] at hS2
    rw [passesF_no (fun h => hb h.2)]
    clear ha hb
    go_enter Tryd.func79, Tryd.ntmps79
    go_wp2_with fail
    refine (unhide hS).mono ?_
    rintro e w1 ⟨rfl, rfl⟩
    go_wp2_with fail
    refine (unhide hS2).mono ?_
    rintro e w1 ⟨rfl, rfl⟩
    go_wp2
    go_ret
    exact ⟨_, rfl, own_nilPs _ _ _, Upd.refl _ _ _⟩
  rw [sideB_yes hb] at hS2
  rw [passesF_yes ha hb]
  obtain ⟨i0, hi, hz0, hz1, hz2⟩ := info_parts infoPs
  obtain ⟨a1, a2⟩ := ha
  obtain ⟨b1, b2⟩ := hb
  have hidx := hide passIdx
  have htl : ∀ j v, passCells[j]? = some v → w.cell? ((⟨1, 0, none⟩ : Addr).add j) = some v := fun j v h => by
    have := hT.2 j v h
    have e : ((⟨1, 0, none⟩ : Addr).add j) = ⟨1, j, none⟩ := by by_cases h0 : j = 0 <;> simp [Addr.add, h0]
    rw [e]; exact this
  have hp0 := hT.1
  clear hT
  replace htl := hide htl
  go_enter Tryd.func79, Tryd.ntmps79
  go_wp2_with fail
  refine (unhide hS).mono ?_
  rintro e w1 ⟨rfl, rfl⟩
  go_wp2_with fail
  refine (unhide hS2).mono ?_
  rintro e w1 ⟨rfl, rfl⟩
  clear hS hS2
  have hpsz := hide passSize
  generalize passCells = L at htl hidx hpsz
  go_wp2_with (first | (refine wpList_load_list rfl 122 (.global 1) rfl ⟨1, 0, none⟩ rfl L (unhide htl) _ Tryd.underlying122 rfl (unhide hpsz) ?_))
  have hln0 := passTo_len
  go_loopw [5, 17] (fun out i wr => ∃ k : Nat, k ≤ 7 ∧ i = .int .i64 k ∧ wr.ownsRow w1.heap.size 101 6 out (passTo a b k).length (cellsPs (passTo a b k)) ∧ Below w1.heap.size w1 wr) (fun _ i _ => 7 - (intOf i).toNat)
  case atStart => exact ⟨0, by omega, rfl, World.ownsRow_nil _ _ _ _, Below.refl _ _⟩
  case round =>
    obtain ⟨k, hk, rfl, hown, hbel⟩ := hrel
    by_cases hlt : k < 7
    · have hbd := passAt_bd k hlt
      have hix := unhide hidx k hlt wr
      have hadd := hide (show passTo a b (k + 1) = passTo a b k ++ passAdd a b k from rfl)
      have hAdd := hide (show passAdd a b k = if 0 < cntF a (passAt k).1 (passAt k).2.2.1 ∧ 0 < cntF b (passAt k).2.1 (passAt k).2.2.2 then [passOne a b k] else [] from rfl)
      have hOne := hide (show passOne a b k = ((passAt k).1, (passAt k).2.1, (passAt k).2.2.1, (passAt k).2.2.2, cntF a (passAt k).1 (passAt k).2.2.1, cntF b (passAt k).2.1 (passAt k).2.2.2) from rfl)
      have hln := hln0 a b k
      generalize passOne a b k = one at hOne hAdd
      generalize passAdd a b k = add at hAdd hadd
      generalize passAt k = q at hbd hAdd hOne hix
      obtain ⟨x, y, sx, sy⟩ := q
      simp only at hbd hAdd hOne hix
      obtain ⟨hx, hy, hsx, hsy, hxs, hys⟩ := hbd
      have hC1 := hide (fun W => implCountSteps a x sx W a1 a2 ⟨hx.1, hxs⟩ hsx)
      have hC2 := hide (fun W => implCountSteps b y sy W b1 b2 ⟨hy.1, hys⟩ hsy)
      have hb1 := cntF_bd (n := a) (f := x) (s := sx) (by omega) hx.1 hsx
      have hb2 := cntF_bd (n := b) (f := y) (s := sy) (by omega) hy.1 hsy
      generalize cntF a x sx = c1 at hC1 hb1 hAdd hOne
      generalize cntF b y sy = c2 at hC2 hb2 hAdd hOne
      have hszw := hbel.size
      go_wp2_with fail
      refine (unhide hC1 _).mono ?_
      rintro e w2 ⟨rfl, hw2⟩
      subst hw2
      go_wp2_with fail
      refine (unhide hC2 _).mono ?_
      rintro e w2 ⟨rfl, hw2⟩
      subst hw2
      clear hC1 hC2 hix
      by_cases hc : 0 < c1 ∧ 0 < c2
      · have hA1 := hide (show passTo a b (k + 1) = passTo a b k ++ [(x, y, sx, sy, c1, c2)] by rw [unhide hadd, unhide hAdd, if_pos hc, unhide hOne])
        have q1 : decide (0 < c1) = true := by simp; omega
        have q2 : decide (0 < c2) = true := by simp; omega
        clear hc
        have hnew : ∀ j u, [Value.int .i64 x, .int .i64 y, .int .i64 sx, .int .i64 sy, .int .i64 c1, .int .i64 c2][j]? = some u → ((wr.alloc (.cells #[.int .i64 x, .int .i64 y, .int .i64 sx, .int .i64 sy, .int .i64 c1, .int .i64 c2] 101)).alloc (.cells #[.int .i64 x, .int .i64 y, .int .i64 sx, .int .i64 sy, .int .i64 c1, .int .i64 c2] 101)).cell? ((⟨wr.heap.size + 1, 0, none⟩ : Addr).add j) = some u := by
          have := six_new (wr.alloc (.cells #[.int .i64 x, .int .i64 y, .int .i64 sx, .int .i64 sy, .int .i64 c1, .int .i64 c2] 101)) (.int .i64 x) (.int .i64 y) (.int .i64 sx) (.int .i64 sy) (.int .i64 c1) (.int .i64 c2) 101
          simp only [World.size_alloc] at this
          exact this
        go_wp2_with (at_builtin; refine wpList_append_own _ rfl (.tmp 42) (.tmp 44) 98 rfl w1.heap.size 101 i0 (.agg #[.int .i64 0, .int .i64 0, .int .i64 0, .int .i64 0, .int .i64 0, .int .i64 0]) 6 48 Tryd.underlying98 hi hz0 hz1 hz2 rfl (by decide) _ _ _ rfl ((hown.alloc _).alloc _) ⟨wr.heap.size + 1, 0, none⟩ 1 1 [.int .i64 x, .int .i64 y, .int .i64 sx, .int .i64 sy, .int .i64 c1, .int .i64 c2] rfl rfl hnew (six_one _ _ _ _ _ _) (by unfold maxLen; omega) (by omega) (by simp; omega) ?_)
        intro v' w2 hown' hgrow _
        have hbel2 := hide ((((hbel.alloc (by omega) (.cells #[.int .i64 x, .int .i64 y, .int .i64 sx, .int .i64 sy, .int .i64 c1, .int .i64 c2] 101)).alloc (by simp; omega) (.cells #[.int .i64 x, .int .i64 y, .int .i64 sx, .int .i64 sy, .int .i64 c1, .int .i64 c2] 101))).grown hgrow (by simp; omega) (fun j hj => (hown.lt j hj).1))
        rw [← cellsPs_snoc (passTo a b k) (x, y, sx, sy, c1, c2), ← unhide hA1] at hown'
        have hln2 : (passTo a b k).length + 1 = (passTo a b (k + 1)).length := by rw [unhide hA1]; simp
        rw [hln2] at hown'
        replace hown' := hide hown'
        clear hgrow hnew hown hbel hln2
        go_wp2
        go_roundw
        case rel => exact ⟨k + 1, by omega, by go_num, unhide hown', unhide hbel2⟩
        case measure => simp [intOf]; omega
      · have hA1 := hide (show passTo a b (k + 1) = passTo a b k by rw [unhide hadd, unhide hAdd, if_neg hc, List.append_nil])
        have hbel2 := hide (hbel.alloc (by omega) (.cells #[.int .i64 x, .int .i64 y, .int .i64 sx, .int .i64 sy, .int .i64 c1, .int .i64 c2] 101))
        have hown2 := hide (hown.alloc (.cells #[.int .i64 x, .int .i64 y, .int .i64 sx, .int .i64 sy, .int .i64 c1, .int .i64 c2] 101))
        by_cases h1 : 0 < c1
        · have q1 : decide (0 < c1) = true := by simp; omega
          have q2 : decide (0 < c2) = false := by simp; omega
          clear hc hown hbel
          go_wp2
          go_roundw
          case rel => exact ⟨k + 1, by omega, by go_num, by rw [unhide hA1]; exact unhide hown2, unhide hbel2⟩
          case measure => simp [intOf]; omega
        · have q1 : decide (0 < c1) = false := by simp; omega
          clear hc hown hbel
          go_wp2
          go_roundw
          case rel => exact ⟨k + 1, by omega, by go_num, by rw [unhide hA1]; exact unhide hown2, unhide hbel2⟩
          case measure => simp [intOf]; omega
    · have hk7 : k = 7 := by omega
      subst hk7
      have ho := hide (Own.of hown)
      clear hown
      go_wp2
      go_ret
      exact ⟨_, rfl, unhide ho, Upd.of_below hbel 0 0⟩
end Go.Proofs.YthpkngipiapbpaaDoor
