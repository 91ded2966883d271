/- The walk of Passes: the specification's. -/
import Derived.Test.YthpkngipiapbpaaDoorPlainQs
import Derived.Test.YthpkngipiapbpaaDoorWSdA
import Derived.Deep.RegionHeld3
namespace Go.Proofs.YthpkngipiapbpaaDoor
open Go.RowKit

set_option maxHeartbeats 1000000 in
theorem specL4Count (n f s : Int) (w : World) (hn0 : 1 ≤ n) (hn : n ≤ 512) (hf : 0 ≤ f ∧ f ≤ 4) (hs : 1 ≤ s ∧ s ≤ 8) :
    Calls Tryd.prog 82 #[.int .i64 n, .int .i64 f, .int .i64 s] w fun e w' => e = .returned (.int .i64 (cntF n f s)) ∧ w' = w := by
  obtain ⟨f1, f2⟩ := hf
  obtain ⟨s1, s2⟩ := hs
  by_cases h : n ≤ f
  · have hE := hide (show cntF n f s = 0 from if_pos h)
    go_enter Tryd.func82, Tryd.ntmps82
    go_wp2
    go_ret
    exact ⟨ret_int (unhide hE).symm, rfl⟩
  · have hE := hide (show cntF n f s = (n - f + s - 1) / s from if_neg h)
    have hdb := cntF_bd (n := n) (f := f) (s := s) (by omega) f1 ⟨s1, s2⟩
    rw [unhide hE] at hdb
    have h' : f < n := by omega
    go_enter Tryd.func82, Tryd.ntmps82
    go_wp2
    go_ret
    exact ⟨ret_int (unhide hE).symm, rfl⟩

def tabCells : List Value := [.int .i64 0, .int .i64 0, .int .i64 8, .int .i64 8, .int .i64 4, .int .i64 0, .int .i64 8, .int .i64 8, .int .i64 0, .int .i64 4, .int .i64 4, .int .i64 8, .int .i64 2, .int .i64 0, .int .i64 4, .int .i64 4, .int .i64 0, .int .i64 2, .int .i64 2, .int .i64 4, .int .i64 1, .int .i64 0, .int .i64 2, .int .i64 2, .int .i64 0, .int .i64 1, .int .i64 1, .int .i64 2]
theorem tabCells_at (k : Nat) (h : k < 7) : tabCells[4 * k]? = some (.int .i64 (passAt k).1) ∧ tabCells[4 * k + 1]? = some (.int .i64 (passAt k).2.1) ∧ tabCells[4 * k + 2]? = some (.int .i64 (passAt k).2.2.1) ∧ tabCells[4 * k + 3]? = some (.int .i64 (passAt k).2.2.2) := by
  rcases (show k = 0 ∨ k = 1 ∨ k = 2 ∨ k = 3 ∨ k = 4 ∨ k = 5 ∨ k = 6 by omega) with e | e | e | e | e | e | e <;> subst e <;> exact ⟨rfl, rfl, rfl, rfl⟩

set_option maxHeartbeats 8000000 in
set_option maxRecDepth 1000000 in
theorem specL4Passes (a b : Int) (w : World) (ha : 1 ≤ a ∧ a ≤ 512) (hb : 1 ≤ b ∧ b ≤ 512) :
    Calls Tryd.prog 75 #[.int .i64 a, .int .i64 b] w fun e w' => ∃ v, e = .returned v ∧ OwnPs w' w.heap.size w'.heap.size v (passTo a b 7) ∧ Upd 0 0 w w' := by
  have hH := held_new w tabCells 3
  obtain ⟨i0, hi, hz0, hz1, hz2⟩ := info_parts infoPs
  obtain ⟨a1, a2⟩ := ha
  obtain ⟨b1, b2⟩ := hb
  go_enter Tryd.func75, Tryd.ntmps75
  go_wp2_with fail
  have hB0 := (Below.refl w.heap.size w).alloc (Nat.le_refl _) (.cells tabCells.toArray 3)
  have hs0 : (w.alloc (.cells tabCells.toArray 3)).heap.size = w.heap.size + 1 := by simp
  change Code.wp _ _ _ _ (w.alloc (.cells tabCells.toArray 3))
  generalize w.alloc (.cells tabCells.toArray 3) = W0 at hH hB0 hs0 ⊢
  go_loopw [6, 7] (fun out i wr => ∃ k I : Nat, k ≤ 7 ∧ Hid (I = 4 * k) ∧ i = .int .i64 I ∧ wr.ownsRow (w.heap.size + 1) 101 6 out (passTo a b k).length (cellsPs (passTo a b k)) ∧ Below (w.heap.size + 1) W0 wr) (fun _ i _ => 28 - (intOf i).toNat)
  case atStart => exact ⟨0, 0, by omega, hide rfl, rfl, World.ownsRow_nil _ _ _ _, Below.refl _ _⟩
  case round =>
    obtain ⟨k, I, hk, hI, rfl, hown, hbel⟩ := hrel
    by_cases hlt : k < 7
    · obtain ⟨t0, t1, t2, t3⟩ := tabCells_at k hlt
      rw [← unhide hI] at t0 t1 t2 t3
      have hI28 : I ≤ 24 := by have := unhide hI; omega
      have hbd := passAt_bd k hlt
      have hadd := hide (show passTo a b (k + 1) = passTo a b k ++ passAdd a b k from rfl)
      have hAdd := hide (show passAdd a b k = if 0 < cntF a (passAt k).1 (passAt k).2.2.1 ∧ 0 < cntF b (passAt k).2.1 (passAt k).2.2.2 then [passOne a b k] else [] from rfl)
      have hOne := hide (show passOne a b k = ((passAt k).1, (passAt k).2.1, (passAt k).2.2.1, (passAt k).2.2.2, cntF a (passAt k).1 (passAt k).2.2.1, cntF b (passAt k).2.1 (passAt k).2.2.2) from rfl)
      have hln := passTo_len a b k
      generalize passOne a b k = one at hOne hAdd
      generalize passAdd a b k = add at hAdd hadd
      generalize passAt k = q at t0 t1 t2 t3 hbd hAdd hOne
      obtain ⟨x, y, sx, sy⟩ := q
      simp only at t0 t1 t2 t3 hbd hAdd hOne
      obtain ⟨hx, hy, hsx, hsy, _, _⟩ := hbd
      have hC1 := hide (fun W => specL4Count a x sx W a1 a2 hx hsx)
      have hC2 := hide (fun W => specL4Count b y sy W b1 b2 hy hsy)
      have hb1 := cntF_bd (n := a) (f := x) (s := sx) (by omega) hx.1 hsx
      have hb2 := cntF_bd (n := b) (f := y) (s := sy) (by omega) hy.1 hsy
      generalize cntF a x sx = c1 at hC1 hb1 hAdd hOne
      generalize cntF b y sy = c2 at hC2 hb2 hAdd hOne
      have hc0 := (hbel.cell (p := ⟨w.heap.size, I, none⟩) (by simp)).trans (hH.2 _ _ t0)
      have hc1 := (hbel.cell (p := ⟨w.heap.size, I + 1, none⟩) (by simp)).trans (hH.2 _ _ t1)
      have hc2 := (hbel.cell (p := ⟨w.heap.size, I + 2, none⟩) (by simp)).trans (hH.2 _ _ t2)
      have hc3 := (hbel.cell (p := ⟨w.heap.size, I + 3, none⟩) (by simp)).trans (hH.2 _ _ t3)
      have i0' : (0 : Int) ≤ (I : Int) := by omega
      have n2' : ((I : Int) + 2).toNat = I + 2 := by omega
      have n3' : ((I : Int) + 3).toNat = I + 3 := by omega
      have j1' : (0 : Int) ≤ (I : Int) + 1 := by omega
      have j2' : (0 : Int) ≤ (I : Int) + 2 := by omega
      have j3' : (0 : Int) ≤ (I : Int) + 3 := by omega
      have i1' : (I : Int) < 28 := by omega
      have i2' : (I : Int) + 1 < 28 := by omega
      have i3' : (I : Int) + 2 < 28 := by omega
      have i4' : (I : Int) + 3 < 28 := by omega
      have hw1 : IntKind.i64.wrap ((I : Int) + 1) = (I : Int) + 1 := by simp [IntKind.wrap, IntKind.bits, IntKind.signed]; omega
      have hw2 : IntKind.i64.wrap ((I : Int) + 2) = (I : Int) + 2 := by simp [IntKind.wrap, IntKind.bits, IntKind.signed]; omega
      have hw3 : IntKind.i64.wrap ((I : Int) + 3) = (I : Int) + 3 := by simp [IntKind.wrap, IntKind.bits, IntKind.signed]; omega
      clear t0 t1 t2 t3
      have hszw := hbel.size
      go_wp2_with fail
      go_region_held3 (fun w' => w'.cell? ⟨w.heap.size, I, none⟩ = some (.int .i64 x) ∧ w'.cell? ⟨w.heap.size, I + 1, none⟩ = some (.int .i64 y) ∧ w'.cell? ⟨w.heap.size, I + 2, none⟩ = some (.int .i64 sx) ∧ w'.cell? ⟨w.heap.size, I + 3, none⟩ = some (.int .i64 sy)) (go_keep) (fail)
      go_wp2_with fail
      refine (unhide hC1 _).mono ?_
      rintro e w1 ⟨rfl, hw1⟩
      subst hw1
      go_wp2_with fail
      refine (unhide hC2 _).mono ?_
      rintro e w1 ⟨rfl, hw1⟩
      subst hw1
      clear hC1 hC2
      by_cases hc : 0 < c1 ∧ 0 < c2
      · have hA1 := hide (show passTo a b (k + 1) = passTo a b k ++ [(x, y, sx, sy, c1, c2)] by rw [unhide hadd, unhide hAdd, if_pos hc, unhide hOne])
        have q1 : decide (0 < c1) = true := by simp; omega
        have q2 : decide (0 < c2) = true := by simp; omega
        clear hc
        have hnew : ∀ j u, [Value.int .i64 x, .int .i64 y, .int .i64 sx, .int .i64 sy, .int .i64 c1, .int .i64 c2][j]? = some u → (((wr.alloc (.cells #[.int .i64 x, .int .i64 y, .int .i64 sx, .int .i64 sy, .int .i64 c1, .int .i64 c2] 101)).alloc (.cells #[.int .i64 x, .int .i64 y, .int .i64 sx, .int .i64 sy, .int .i64 c1, .int .i64 c2] 101)).drew).cell? ((⟨wr.heap.size + 1, 0, none⟩ : Addr).add j) = some u := by
          have := six_new (wr.alloc (.cells #[.int .i64 x, .int .i64 y, .int .i64 sx, .int .i64 sy, .int .i64 c1, .int .i64 c2] 101)) (.int .i64 x) (.int .i64 y) (.int .i64 sx) (.int .i64 sy) (.int .i64 c1) (.int .i64 c2) 101
          simp only [World.size_alloc] at this
          exact this
        go_wp2_with (at_builtin; refine wpList_append_own _ rfl (.tmp 58) (.tmp 60) 98 rfl (w.heap.size + 1) 101 i0 (.agg #[.int .i64 0, .int .i64 0, .int .i64 0, .int .i64 0, .int .i64 0, .int .i64 0]) 6 48 Tryd.underlying98 hi hz0 hz1 hz2 rfl (by decide) _ _ _ rfl (((hown.alloc _).alloc _).drew) ⟨wr.heap.size + 1, 0, none⟩ 1 1 [.int .i64 x, .int .i64 y, .int .i64 sx, .int .i64 sy, .int .i64 c1, .int .i64 c2] rfl rfl hnew (six_one _ _ _ _ _ _) (by unfold maxLen; omega) (by omega) (by simp; omega) ?_)
        intro v' w2 hown' hgrow _
        have hbel2 := hide (((below_drewN ((hbel.alloc (by omega) (.cells #[.int .i64 x, .int .i64 y, .int .i64 sx, .int .i64 sy, .int .i64 c1, .int .i64 c2] 101)).alloc (by simp; omega) (.cells #[.int .i64 x, .int .i64 y, .int .i64 sx, .int .i64 sy, .int .i64 c1, .int .i64 c2] 101)) 1)).grown hgrow (by simp; omega) (fun j hj => (hown.lt j hj).1))
        rw [← cellsPs_snoc (passTo a b k) (x, y, sx, sy, c1, c2), ← unhide hA1] at hown'
        have hln2 : (passTo a b k).length + 1 = (passTo a b (k + 1)).length := by rw [unhide hA1]; simp
        rw [hln2] at hown'
        replace hown' := hide hown'
        have hI2 : Hid (I + 4 = 4 * (k + 1)) := hide (by have := unhide hI; omega)
        clear hgrow hnew hown hbel hln2
        go_wp2
        go_roundw
        case rel => exact ⟨k + 1, I + 4, by omega, hI2, by go_num, unhide hown', unhide hbel2⟩
        case measure => simp [intOf]; omega
      · have hA1 := hide (show passTo a b (k + 1) = passTo a b k by rw [unhide hadd, unhide hAdd, if_neg hc, List.append_nil])
        have hI2 : Hid (I + 4 = 4 * (k + 1)) := hide (by have := unhide hI; omega)
        have hbel2 := hide (below_drewN (hbel.alloc (by omega) (.cells #[.int .i64 x, .int .i64 y, .int .i64 sx, .int .i64 sy, .int .i64 c1, .int .i64 c2] 101)) 1)
        have hown2 := hide (hown.alloc (.cells #[.int .i64 x, .int .i64 y, .int .i64 sx, .int .i64 sy, .int .i64 c1, .int .i64 c2] 101)).drew
        by_cases h1 : 0 < c1
        · have q1 : decide (0 < c1) = true := by simp; omega
          have q2 : decide (0 < c2) = false := by simp; omega
          clear hc hown hbel
          go_wp2
          go_roundw
          case rel => exact ⟨k + 1, I + 4, by omega, hI2, by go_num, by rw [unhide hA1]; exact unhide hown2, unhide hbel2⟩
          case measure => simp [intOf]; omega
        · have q1 : decide (0 < c1) = false := by simp; omega
          clear hc hown hbel
          go_wp2
          go_roundw
          case rel => exact ⟨k + 1, I + 4, by omega, hI2, by go_num, by rw [unhide hA1]; exact unhide hown2, unhide hbel2⟩
          case measure => simp [intOf]; omega
    · have hk7 : k = 7 := by omega
      subst hk7
      have hI28 : I = 28 := unhide hI
      subst hI28
      have ho := hide (own_mono (Own.of hown) (show w.heap.size ≤ w.heap.size + 1 by omega) (Nat.le_refl _))
      have hbf := hide (Upd.of_below (hB0.trans (hbel.mono (by omega))) 0 0)
      clear hown
      go_wp2
      go_ret
      exact ⟨_, rfl, unhide ho, unhide hbf⟩
end Go.Proofs.YthpkngipiapbpaaDoor
