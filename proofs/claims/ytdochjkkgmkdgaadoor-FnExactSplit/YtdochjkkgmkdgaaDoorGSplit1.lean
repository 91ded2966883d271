/- The texts behind FnExactSplit, part 1: what each of them says stands at its head. -/
import Derived.Test.YtdochjkkgmkdgaaDoorGSplit0
import Derived.Deep.RegionHeld3
import Derived.Deep.WholeRow
import Derived.Laws.ResultCell
import Derived.Laws.CopyOwn
import Derived.Deep.RegionWith
import Derived.Deep.LoopGhost
import Derived.Deep.DeepCutAuto
import Derived.Deep.QuietTactic
import Derived.BigQuiet
import Derived.Maps.AppendAt
import Derived.Deep.RegionHeldLaw
import Derived.Deep.RegionLaw
import Derived.ProofKit
/- Plain: an image in passes. -/
namespace Go.Proofs.YtdochjkkgmkdgaaDoor
open Go.RowKit

theorem cntF_fit {n f s : Int} (hs : 1 ≤ s ∧ s ≤ 8) (x : Nat) (h : (x : Int) < cntF n f s) : f + (x : Int) * s < n := by
  unfold cntF at h
  split at h
  · omega
  · obtain ⟨S, rfl⟩ := Int.eq_ofNat_of_zero_le (show 0 ≤ s by omega)
    rcases (show S = 1 ∨ S = 2 ∨ S = 3 ∨ S = 4 ∨ S = 5 ∨ S = 6 ∨ S = 7 ∨ S = 8 by omega) with e | e | e | e | e | e | e | e <;> subst e <;> omega
/-- A pass lies within the picture. -/
def Fits (W H : Nat) (q : Ps) : Prop := ∃ X Y SX SY Pw Ph : Nat, q = ((X : Int), (Y : Int), (SX : Int), (SY : Int), (Pw : Int), (Ph : Int)) ∧ (∀ x, x < Pw → X + x * SX < W) ∧ (∀ y, y < Ph → Y + y * SY < H) ∧ (1 ≤ Pw ∧ Pw ≤ 512) ∧ (1 ≤ Ph ∧ Ph ≤ 512) ∧ X ≤ 4 ∧ Y ≤ 4 ∧ SX ≤ 8 ∧ SY ≤ 8 ∧ 1 ≤ SX ∧ 1 ≤ SY
theorem passTo_fits {W H : Nat} (hW : 1 ≤ W ∧ W ≤ 512) (hH : 1 ≤ H ∧ H ≤ 512) (k : Nat) (hk : k ≤ 7) : ∀ q ∈ passTo (W : Int) (H : Int) k, Fits W H q := by
  induction k with
  | zero => intro q hq; simp [passTo] at hq
  | succ k ih =>
    intro q hq
    rw [passTo, List.mem_append] at hq
    rcases hq with hq | hq
    · exact ih (by omega) q hq
    · unfold passAdd at hq
      split at hq
      · rename_i h
        have h1 := (cntK_bd (n := (W : Int)) (by omega) k (by omega)).1
        have h2 := (cntK_bd (n := (H : Int)) (by omega) k (by omega)).2
        obtain ⟨b1, b2, b3, b4, _⟩ := passAt_bd k (by omega)
        simp [passOne] at hq
        subst hq
        have f1 := cntF_fit (n := (W : Int)) (f := (passAt k).1) b3
        have f2 := cntF_fit (n := (H : Int)) (f := (passAt k).2.1) b4
        generalize cntF (W : Int) (passAt k).1 (passAt k).2.2.1 = c1 at h h1 f1 ⊢
        generalize cntF (H : Int) (passAt k).2.1 (passAt k).2.2.2 = c2 at h h2 f2 ⊢
        generalize passAt k = p at b1 b2 b3 b4 f1 f2 ⊢
        obtain ⟨X, Y, SX, SY⟩ := p
        simp only at b1 b2 b3 b4 f1 f2 ⊢
        obtain ⟨X, rfl⟩ := Int.eq_ofNat_of_zero_le (show 0 ≤ X by omega)
        obtain ⟨Y, rfl⟩ := Int.eq_ofNat_of_zero_le (show 0 ≤ Y by omega)
        obtain ⟨SX, rfl⟩ := Int.eq_ofNat_of_zero_le (show 0 ≤ SX by omega)
        obtain ⟨SY, rfl⟩ := Int.eq_ofNat_of_zero_le (show 0 ≤ SY by omega)
        obtain ⟨c1, rfl⟩ := Int.eq_ofNat_of_zero_le (show 0 ≤ c1 by omega)
        obtain ⟨c2, rfl⟩ := Int.eq_ofNat_of_zero_le (show 0 ≤ c2 by omega)
        refine ⟨X, Y, SX, SY, c1, c2, rfl, fun x hx => ?_, fun y hy => ?_, by omega, by omega, by omega, by omega, by omega, by omega, by omega, by omega⟩
        · have := f1 x (by omega)
          have e : ((X + x * SX : Nat) : Int) = (X : Int) + (x : Int) * (SX : Int) := by simp
          omega
        · have := f2 y (by omega)
          have e : ((Y + y * SY : Nat) : Int) = (Y : Int) + (y : Int) * (SY : Int) := by simp
          omega
      · simp at hq
/-- A pass's picture. -/
def splitOne (d : Im) (q : Ps) : Im := (q.2.2.2.2.1, q.2.2.2.2.2, d.2.2.1, d.2.2.2.1, pixInts d.2.2.2.2 (d.1.toNat * d.2.2.1.toNat) d.2.2.1.toNat q.1.toNat q.2.1.toNat q.2.2.1.toNat q.2.2.2.1.toNat q.2.2.2.2.1.toNat q.2.2.2.2.2.toNat)
noncomputable def splitF (d : Im) : Is := if goodImB d = true then (passesF d.1 d.2.1).map (splitOne d) else []
end Go.Proofs.YtdochjkkgmkdgaaDoor

/- The walk of the specification's test of sides. -/
namespace Go.Proofs.YtdochjkkgmkdgaaDoor
open Go.RowKit

set_option maxHeartbeats 1000000 in
theorem specL4Sides (a b : Int) (w : World) : Calls Tryd.prog 28 #[.int .i64 a, .int .i64 b] w fun e w' => e = .returned (.bool (sidesB a b)) ∧ w' = w := by
  by_cases ha : 1 ≤ a ∧ a ≤ 512
  · have hE : sidesB a b = sideB b := by unfold sidesB; rw [sideB_yes ha]; rfl
    rw [hE]
    obtain ⟨a1, a2⟩ := ha
    by_cases hb : 1 ≤ b ∧ b ≤ 512
    · rw [sideB_yes hb]
      obtain ⟨b1, b2⟩ := hb
      clear hE
      go_enter Tryd.func28, Tryd.ntmps28
      go_wp2
      go_ret
      exact ⟨rfl, rfl⟩
    · rw [sideB_no hb]
      clear hE
      by_cases h1 : b < 1
      · have q1 : decide (1 ≤ b) = false := by simp; omega
        clear hb
        go_enter Tryd.func28, Tryd.ntmps28
        go_wp2
        go_ret
        exact ⟨rfl, rfl⟩
      · have q1 : decide (1 ≤ b) = true := by simp; omega
        have q2 : decide (b ≤ 512) = false := by simp; omega
        clear hb
        go_enter Tryd.func28, Tryd.ntmps28
        go_wp2
        go_ret
        exact ⟨rfl, rfl⟩
  · have hE : sidesB a b = false := by unfold sidesB; rw [sideB_no ha]; rfl
    rw [hE]
    clear hE
    by_cases h1 : a < 1
    · have q1 : decide (1 ≤ a) = false := by simp; omega
      clear ha
      go_enter Tryd.func28, Tryd.ntmps28
      go_wp2
      go_ret
      exact ⟨rfl, rfl⟩
    · have q1 : decide (1 ≤ a) = true := by simp; omega
      have q2 : decide (a ≤ 512) = false := by simp; omega
      clear ha
      go_enter Tryd.func28, Tryd.ntmps28
      go_wp2
      go_ret
      exact ⟨rfl, rfl⟩

end Go.Proofs.YtdochjkkgmkdgaaDoor

/- The walk of Passes: the specification's. -/
namespace Go.Proofs.YtdochjkkgmkdgaaDoor
open Go.RowKit

set_option maxHeartbeats 1000000 in
theorem specL4Count (n f s : Int) (w : World) (hn0 : 1 ≤ n) (hn : n ≤ 512) (hf : 0 ≤ f ∧ f ≤ 4) (hs : 1 ≤ s ∧ s ≤ 8) :
    Calls Tryd.prog 53 #[.int .i64 n, .int .i64 f, .int .i64 s] w fun e w' => e = .returned (.int .i64 (cntF n f s)) ∧ w' = w := by
  obtain ⟨f1, f2⟩ := hf
  obtain ⟨s1, s2⟩ := hs
  by_cases h : n ≤ f
  · have hE := hide (show cntF n f s = 0 from if_pos h)
    go_enter Tryd.func53, Tryd.ntmps53
    go_wp2
    go_ret
    exact ⟨ret_int (unhide hE).symm, rfl⟩
  · have hE := hide (show cntF n f s = (n - f + s - 1) / s from if_neg h)
    have hdb := cntF_bd (n := n) (f := f) (s := s) (by omega) f1 ⟨s1, s2⟩
    rw [unhide hE] at hdb
    have h' : f < n := by omega
    go_enter Tryd.func53, Tryd.ntmps53
    go_wp2
    go_ret
    exact ⟨ret_int (unhide hE).symm, rfl⟩

def tabCells : List Value := [.int .i64 0, .int .i64 0, .int .i64 8, .int .i64 8, .int .i64 4, .int .i64 0, .int .i64 8, .int .i64 8, .int .i64 0, .int .i64 4, .int .i64 4, .int .i64 8, .int .i64 2, .int .i64 0, .int .i64 4, .int .i64 4, .int .i64 0, .int .i64 2, .int .i64 2, .int .i64 4, .int .i64 1, .int .i64 0, .int .i64 2, .int .i64 2, .int .i64 0, .int .i64 1, .int .i64 1, .int .i64 2]
theorem tabCells_at (k : Nat) (h : k < 7) : tabCells[4 * k]? = some (.int .i64 (passAt k).1) ∧ tabCells[4 * k + 1]? = some (.int .i64 (passAt k).2.1) ∧ tabCells[4 * k + 2]? = some (.int .i64 (passAt k).2.2.1) ∧ tabCells[4 * k + 3]? = some (.int .i64 (passAt k).2.2.2) := by
  rcases (show k = 0 ∨ k = 1 ∨ k = 2 ∨ k = 3 ∨ k = 4 ∨ k = 5 ∨ k = 6 by omega) with e | e | e | e | e | e | e <;> subst e <;> exact ⟨rfl, rfl, rfl, rfl⟩

set_option maxHeartbeats 8000000 in
set_option maxRecDepth 1000000 in
theorem specL4Passes (a b : Int) (w : World) (ha : 1 ≤ a ∧ a ≤ 512) (hb : 1 ≤ b ∧ b ≤ 512) :
    Calls Tryd.prog 42 #[.int .i64 a, .int .i64 b] w fun e w' => ∃ v, e = .returned v ∧ OwnPs w' w.heap.size w'.heap.size v (passTo a b 7) ∧ Upd 0 0 w w' := by
  have hH := held_new w tabCells 3
  obtain ⟨i0, hi, hz0, hz1, hz2⟩ := info_parts infoPs
  obtain ⟨a1, a2⟩ := ha
  obtain ⟨b1, b2⟩ := hb
  go_enter Tryd.func42, Tryd.ntmps42
  go_wp2_with fail
  have hB0 := (Below.refl w.heap.size w).alloc (Nat.le_refl _) (.cells tabCells.toArray 3)
  have hs0 : (w.alloc (.cells tabCells.toArray 3)).heap.size = w.heap.size + 1 := by simp
  change Code.wp _ _ _ _ (w.alloc (.cells tabCells.toArray 3))
  generalize w.alloc (.cells tabCells.toArray 3) = W0 at hH hB0 hs0 ⊢
  go_loopw [6, 7] (fun out i wr => ∃ k I : Nat, k ≤ 7 ∧ Hid (I = 4 * k) ∧ i = .int .i64 I ∧ wr.ownsRow (w.heap.size + 1) 33 6 out (passTo a b k).length (cellsPs (passTo a b k)) ∧ Below (w.heap.size + 1) W0 wr) (fun _ i _ => 28 - (intOf i).toNat)
  case atStart => exact ⟨0, 0, by omega, hide rfl, rfl, World.ownsRow_nil _ _ _ _, Below.refl _ _⟩
  case round =>
    obtain ⟨k, I, hk, hI, rfl, hown, hbel⟩ := hrel
    by_cases hlt : k < 7
    · obtain ⟨t0, t1, t2, t3⟩ := tabCells_at k hlt
      rw [← unhide hI] at t0 t1 t2 t3
      have hI28 : I ≤ 24 := by have := unhide hI; omega
      have hbd := passAt_bd k hlt
      have hadd := hide (show passTo a b (k + 1) = passTo a b k ++ passAdd a b k from rfl)
      have hAdd := hide (show passAdd a b k = if 0 < cntF a (passAt k).1 (passAt k).2.2.1 ∧ 0 < cntF b (passAt k).2.1 (passAt k).2.2.2 then [passOne a b k] else [] from rfl)
      have hOne := hide (show passOne a b k = ((passAt k).1, (passAt k).2.1, (passAt k).2.2.1, (passAt k).2.2.2, cntF a (passAt k).1 (passAt k).2.2.1, cntF b (passAt k).2.1 (passAt k).2.2.2) from rfl)
      have hln := passTo_len a b k
      generalize passOne a b k = one at hOne hAdd
      generalize passAdd a b k = add at hAdd hadd
      generalize passAt k = q at t0 t1 t2 t3 hbd hAdd hOne
      obtain ⟨x, y, sx, sy⟩ := q
      simp only at t0 t1 t2 t3 hbd hAdd hOne
      obtain ⟨hx, hy, hsx, hsy, _, _⟩ := hbd
      have hC1 := hide (fun W => specL4Count a x sx W a1 a2 hx hsx)
      have hC2 := hide (fun W => specL4Count b y sy W b1 b2 hy hsy)
      have hb1 := cntF_bd (n := a) (f := x) (s := sx) (by omega) hx.1 hsx
      have hb2 := cntF_bd (n := b) (f := y) (s := sy) (by omega) hy.1 hsy
      generalize cntF a x sx = c1 at hC1 hb1 hAdd hOne
      generalize cntF b y sy = c2 at hC2 hb2 hAdd hOne
      have hc0 := (hbel.cell (p := ⟨w.heap.size, I, none⟩) (by simp)).trans (hH.2 _ _ t0)
      have hc1 := (hbel.cell (p := ⟨w.heap.size, I + 1, none⟩) (by simp)).trans (hH.2 _ _ t1)
      have hc2 := (hbel.cell (p := ⟨w.heap.size, I + 2, none⟩) (by simp)).trans (hH.2 _ _ t2)
      have hc3 := (hbel.cell (p := ⟨w.heap.size, I + 3, none⟩) (by simp)).trans (hH.2 _ _ t3)
      have i0' : (0 : Int) ≤ (I : Int) := by omega
      have n2' : ((I : Int) + 2).toNat = I + 2 := by omega
      have n3' : ((I : Int) + 3).toNat = I + 3 := by omega
      have j1' : (0 : Int) ≤ (I : Int) + 1 := by omega
      have j2' : (0 : Int) ≤ (I : Int) + 2 := by omega
      have j3' : (0 : Int) ≤ (I : Int) + 3 := by omega
      have i1' : (I : Int) < 28 := by omega
      have i2' : (I : Int) + 1 < 28 := by omega
      have i3' : (I : Int) + 2 < 28 := by omega
      have i4' : (I : Int) + 3 < 28 := by omega
      have hw1 : IntKind.i64.wrap ((I : Int) + 1) = (I : Int) + 1 := by simp [IntKind.wrap, IntKind.bits, IntKind.signed]; omega
      have hw2 : IntKind.i64.wrap ((I : Int) + 2) = (I : Int) + 2 := by simp [IntKind.wrap, IntKind.bits, IntKind.signed]; omega
      have hw3 : IntKind.i64.wrap ((I : Int) + 3) = (I : Int) + 3 := by simp [IntKind.wrap, IntKind.bits, IntKind.signed]; omega
      clear t0 t1 t2 t3
      have hszw := hbel.size
      go_wp2_with fail
      go_region_held3 (fun w' => w'.cell? ⟨w.heap.size, I, none⟩ = some (.int .i64 x) ∧ w'.cell? ⟨w.heap.size, I + 1, none⟩ = some (.int .i64 y) ∧ w'.cell? ⟨w.heap.size, I + 2, none⟩ = some (.int .i64 sx) ∧ w'.cell? ⟨w.heap.size, I + 3, none⟩ = some (.int .i64 sy)) (go_keep) (fail)
      go_wp2_with fail
      refine (unhide hC1 _).mono ?_
      rintro e w1 ⟨rfl, hw1⟩
      subst hw1
      go_wp2_with fail
      refine (unhide hC2 _).mono ?_
      rintro e w1 ⟨rfl, hw1⟩
      subst hw1
      clear hC1 hC2
      by_cases hc : 0 < c1 ∧ 0 < c2
      · have hA1 := hide (show passTo a b (k + 1) = passTo a b k ++ [(x, y, sx, sy, c1, c2)] by rw [unhide hadd, unhide hAdd, if_pos hc, unhide hOne])
        have q1 : decide (0 < c1) = true := by simp; omega
        have q2 : decide (0 < c2) = true := by simp; omega
        clear hc
        have hnew : ∀ j u, [Value.int .i64 x, .int .i64 y, .int .i64 sx, .int .i64 sy, .int .i64 c1, .int .i64 c2][j]? = some u → (((wr.alloc (.cells #[.int .i64 x, .int .i64 y, .int .i64 sx, .int .i64 sy, .int .i64 c1, .int .i64 c2] 33)).alloc (.cells #[.int .i64 x, .int .i64 y, .int .i64 sx, .int .i64 sy, .int .i64 c1, .int .i64 c2] 33)).drew).cell? ((⟨wr.heap.size + 1, 0, none⟩ : Addr).add j) = some u := by
          have := six_new (wr.alloc (.cells #[.int .i64 x, .int .i64 y, .int .i64 sx, .int .i64 sy, .int .i64 c1, .int .i64 c2] 33)) (.int .i64 x) (.int .i64 y) (.int .i64 sx) (.int .i64 sy) (.int .i64 c1) (.int .i64 c2) 33
          simp only [World.size_alloc] at this
          exact this
        go_wp2_with (at_builtin; refine wpList_append_own _ rfl (.tmp 58) (.tmp 60) 30 rfl (w.heap.size + 1) 33 i0 (.agg #[.int .i64 0, .int .i64 0, .int .i64 0, .int .i64 0, .int .i64 0, .int .i64 0]) 6 48 Tryd.underlying30 hi hz0 hz1 hz2 rfl (by decide) _ _ _ rfl (((hown.alloc _).alloc _).drew) ⟨wr.heap.size + 1, 0, none⟩ 1 1 [.int .i64 x, .int .i64 y, .int .i64 sx, .int .i64 sy, .int .i64 c1, .int .i64 c2] rfl rfl hnew (six_one _ _ _ _ _ _) (by unfold maxLen; omega) (by omega) (by simp; omega) ?_)
        intro v' w2 hown' hgrow _
        have hbel2 := hide (((below_drewN ((hbel.alloc (by omega) (.cells #[.int .i64 x, .int .i64 y, .int .i64 sx, .int .i64 sy, .int .i64 c1, .int .i64 c2] 33)).alloc (by simp; omega) (.cells #[.int .i64 x, .int .i64 y, .int .i64 sx, .int .i64 sy, .int .i64 c1, .int .i64 c2] 33)) 1)).grown hgrow (by simp; omega) (fun j hj => (hown.lt j hj).1))
        rw [← cellsPs_snoc (passTo a b k) (x, y, sx, sy, c1, c2), ← unhide hA1] at hown'
        have hln2 : (passTo a b k).length + 1 = (passTo a b (k + 1)).length := by rw [unhide hA1]; simp
        rw [hln2] at hown'
        replace hown' := hide hown'
        have hI2 : Hid (I + 4 = 4 * (k + 1)) := hide (by have := unhide hI; omega)
        clear hgrow hnew hown hbel hln2
        go_wp2
        go_roundw
        case rel => exact ⟨k + 1, I + 4, by omega, hI2, by go_num, unhide hown', unhide hbel2⟩
        case measure => simp [intOf]; omega
      · have hA1 := hide (show passTo a b (k + 1) = passTo a b k by rw [unhide hadd, unhide hAdd, if_neg hc, List.append_nil])
        have hI2 : Hid (I + 4 = 4 * (k + 1)) := hide (by have := unhide hI; omega)
        have hbel2 := hide (below_drewN (hbel.alloc (by omega) (.cells #[.int .i64 x, .int .i64 y, .int .i64 sx, .int .i64 sy, .int .i64 c1, .int .i64 c2] 33)) 1)
        have hown2 := hide (hown.alloc (.cells #[.int .i64 x, .int .i64 y, .int .i64 sx, .int .i64 sy, .int .i64 c1, .int .i64 c2] 33)).drew
        by_cases h1 : 0 < c1
        · have q1 : decide (0 < c1) = true := by simp; omega
          have q2 : decide (0 < c2) = false := by simp; omega
          clear hc hown hbel
          go_wp2
          go_roundw
          case rel => exact ⟨k + 1, I + 4, by omega, hI2, by go_num, by rw [unhide hA1]; exact unhide hown2, unhide hbel2⟩
          case measure => simp [intOf]; omega
        · have q1 : decide (0 < c1) = false := by simp; omega
          clear hc hown hbel
          go_wp2
          go_roundw
          case rel => exact ⟨k + 1, I + 4, by omega, hI2, by go_num, by rw [unhide hA1]; exact unhide hown2, unhide hbel2⟩
          case measure => simp [intOf]; omega
    · have hk7 : k = 7 := by omega
      subst hk7
      have hI28 : I = 28 := unhide hI
      subst hI28
      have ho := hide (own_mono (Own.of hown) (show w.heap.size ≤ w.heap.size + 1 by omega) (Nat.le_refl _))
      have hbf := hide (Upd.of_below (hB0.trans (hbel.mono (by omega))) 0 0)
      clear hown
      go_wp2
      go_ret
      exact ⟨_, rfl, unhide ho, unhide hbf⟩
end Go.Proofs.YtdochjkkgmkdgaaDoor

/- The walk of the program's test of a side. -/
namespace Go.Proofs.YtdochjkkgmkdgaaDoor
open Go.RowKit

set_option maxHeartbeats 1000000 in
theorem implGoodSide (a : Int) (w : World) : Calls Tryd.prog 30 #[.int .i64 a] w fun e w' => e = .returned (.bool (sideB a)) ∧ w' = w := by
  by_cases ha : 1 ≤ a ∧ a ≤ 512
  · rw [sideB_yes ha]
    obtain ⟨a1, a2⟩ := ha
    go_enter Tryd.func30, Tryd.ntmps30
    go_wp2
    go_ret
    exact ⟨rfl, rfl⟩
  · rw [sideB_no ha]
    by_cases h1 : a < 1
    · have q1 : decide (1 ≤ a) = false := by simp; omega
      clear ha
      go_enter Tryd.func30, Tryd.ntmps30
      go_wp2
      go_ret
      exact ⟨rfl, rfl⟩
    · have q1 : decide (1 ≤ a) = true := by simp; omega
      have q2 : decide (a ≤ 512) = false := by simp; omega
      clear ha
      go_enter Tryd.func30, Tryd.ntmps30
      go_wp2
      go_ret
      exact ⟨rfl, rfl⟩

end Go.Proofs.YtdochjkkgmkdgaaDoor

/- Laws of the walk that the guide's texts lack: a part of a row read as a whole; and rows of numbers told by a function. -/
namespace Go.Proofs.YtdochjkkgmkdgaaDoor
open Go.RowKit

theorem wpList_load_list {P : Program} {ops : Array Oper} {rest : List Oper} {o : Oper} {a : Act} {w : World} {Q : Exit → Act → World → Prop} (hgd : o.guard = none) (ty : TypeId) (x : Operand) (ho : o.op = .load ty x)
    (p : Addr) (hx : a.eval x = .pointer (some p)) (l : List Value) (hl : ∀ j v, l[j]? = some v → w.cell? (p.add j) = some v) (d : TypeDesc)
    (hu : P.underlying ty = some d) (hd : (match d with | .struct _ | .array _ _ => true | _ => false) = true) (hi : (P.info? ty).map (·.size) = some l.length)
    (h : wpList P ops Q rest (a.put o.dst (.agg l.toArray)) w) : wpList P ops Q (o :: rest) a w := by
  have hL : (loadVar ty p).run P w = .ok (.agg l.toArray) w := by
    cases hq : P.info? ty with
    | none => simp [hq] at hi
    | some i =>
      have hs : i.size = l.length := by simpa [hq] using hi
      have hagg : (isAgg ty).run P w = .ok true w := by
        unfold isAgg
        rw [Sem.run_bind, run_underlying hu w]
        cases d <;> simp_all
      have hll := run_loadCells_list (P := P) w p l hl
      simp [loadVar, Sem.run_bind, hagg, sizeOf, typeInfo, hq, hs, hll]
  refine wpList_plain hgd fun K hK => ?_
  unfold Oper.wp execOp
  simp only [ho, hx, Instr.loadAt, Instr.sureAddr, Sem.run_bind, Sem.run_pure, Result.andThen_ok, hL]
  exact hK _ _ h

/-- A row of numbers, told by a function, within an array of cells: n of them from o on. -/
def NumsAt (cs : Array Value) (o n : Nat) (f : Nat → Nat) : Prop := ∀ j, j < n → cs[o + j]? = some (.int .i64 (f j : Nat))
theorem NumsAt.set {cs : Array Value} {o n : Nat} {f : Nat → Nat} (h : NumsAt cs o n f) (i x : Nat) (hi : i < n) (f' : Nat → Nat) (hx : f' i = x) (hf : ∀ j, j ≠ i → f' j = f j) :
    NumsAt (cs.setIfInBounds (o + i) (.int .i64 (x : Nat))) o n f' := by
  intro j hj
  have hs : o + i < cs.size := by
    have := h i hi
    exact (Array.getElem?_eq_some_iff.1 this).1
  rw [Array.getElem?_setIfInBounds]
  by_cases e : i = j
  · subst e; rw [if_pos rfl, if_pos hs, hx]
  · rw [if_neg (by omega), hf j (by omega)]; exact h j hj
theorem NumsAt.other {cs : Array Value} {o n : Nat} {f : Nat → Nat} (h : NumsAt cs o n f) (i : Nat) (u : Value) (hi : i < o ∨ o + n ≤ i) : NumsAt (cs.setIfInBounds i u) o n f := by
  intro j hj
  rw [Array.getElem?_setIfInBounds, if_neg (by omega)]; exact h j hj
theorem getElem?_set_other {cs : Array Value} {i k : Nat} {u v : Value} (h : cs[k]? = some v) (hne : i ≠ k) : (cs.setIfInBounds i u)[k]? = some v := by
  rw [Array.getElem?_setIfInBounds, if_neg hne]; exact h
theorem getElem?_set_same {cs : Array Value} {i : Nat} {u : Value} (h : i < cs.size) : (cs.setIfInBounds i u)[i]? = some u := by
  rw [Array.getElem?_setIfInBounds, if_pos rfl, if_pos h]
def OneCells (cs : Array Value) : Prop := cs.all (·.oneCell') = true
theorem OneCells.set {cs : Array Value} (h : OneCells cs) (i : Nat) (u : Value) (hu : u.oneCell' = true) : OneCells (cs.setIfInBounds i u) := by
  unfold OneCells at *
  rw [Array.all_eq_true_iff_forall_mem] at h ⊢
  intro v hv
  rcases Array.mem_or_eq_of_mem_setIfInBounds hv with hv | rfl
  · exact h v hv
  · exact hu
theorem add_cell (g o j : Nat) : (⟨g, o, none⟩ : Addr).add j = ⟨g, o + j, none⟩ := by unfold Addr.add; split <;> simp_all
theorem list_of_nums {cs : Array Value} {o n : Nat} {f : Nat → Nat} (h : NumsAt cs o n f) {w : World} {g : Nat} {t : TypeId} {fr : Nat × Nat} (hg : w.heap[g]? = some (.cells cs t fr)) :
    ∀ j v, ((List.range n).map fun j => Value.int .i64 (f j : Nat))[j]? = some v → w.cell? ((⟨g, o, none⟩ : Addr).add j) = some v := by
  intro j v hv
  rw [add_cell, cell_of_row w g _ cs t fr hg]
  rw [List.getElem?_map] at hv
  by_cases hj : j < n
  · rw [List.getElem?_range hj] at hv
    simp at hv; rw [h j hj, ← hv]
  · rw [List.getElem?_eq_none (by simp; omega)] at hv; simp at hv
theorem numsAt_list (n : Nat) (f : Nat → Nat) : NumsAt ((List.range n).map fun j => Value.int .i64 (f j : Nat)).toArray 0 n f := by
  intro j hj
  simp [hj]
theorem oneCells_list (n : Nat) (f : Nat → Nat) : OneCells ((List.range n).map fun j => Value.int .i64 (f j : Nat)).toArray := by
  unfold OneCells
  rw [Array.all_eq_true_iff_forall_mem]
  intro v hv
  simp at hv
  obtain ⟨j, _, rfl⟩ := hv
  rfl
end Go.Proofs.YtdochjkkgmkdgaaDoor

/- The walk of Passes: the specification's whole, the program's count. -/
namespace Go.Proofs.YtdochjkkgmkdgaaDoor
open Go.RowKit

set_option maxHeartbeats 1000000 in
theorem implCountSteps (n f s : Int) (w : World) (hn0 : 1 ≤ n) (hn : n ≤ 512) (hf : 0 ≤ f ∧ f < s) (hs : 1 ≤ s ∧ s ≤ 8) :
    Calls Tryd.prog 31 #[.int .i64 n, .int .i64 f, .int .i64 s] w fun e w' => e = .returned (.int .i64 (cntF n f s)) ∧ w' = w := by
  have hE := hide (cntF_steps hn0 hf hs)
  obtain ⟨f1, f2⟩ := hf
  obtain ⟨s1, s2⟩ := hs
  go_enter Tryd.func31, Tryd.ntmps31
  go_wp2
  go_ret
  exact ⟨ret_int (unhide hE), rfl⟩

/-- The program's table of passes, as it lies in its variable. -/
def passCells : List Value := [.int .i64 0, .int .i64 0, .int .i64 8, .int .i64 8, .int .i64 0, .int .i64 0, .int .i64 4, .int .i64 0, .int .i64 8, .int .i64 8, .int .i64 0, .int .i64 0, .int .i64 0, .int .i64 4, .int .i64 4, .int .i64 8, .int .i64 0, .int .i64 0, .int .i64 2, .int .i64 0, .int .i64 4, .int .i64 4, .int .i64 0, .int .i64 0, .int .i64 0, .int .i64 2, .int .i64 2, .int .i64 4, .int .i64 0, .int .i64 0, .int .i64 1, .int .i64 0, .int .i64 2, .int .i64 2, .int .i64 0, .int .i64 0, .int .i64 0, .int .i64 1, .int .i64 1, .int .i64 2, .int .i64 0, .int .i64 0]
theorem passSize : (Tryd.prog.info? 54).map (·.size) = some passCells.length := by kernel_rfl
theorem passIdx (k : Nat) (h : k < 7) (w : World) : (Instr.index 54 (.agg passCells.toArray) (.int .i64 k)).run Tryd.prog w = .ok (.agg #[.int .i64 (passAt k).1, .int .i64 (passAt k).2.1, .int .i64 (passAt k).2.2.1, .int .i64 (passAt k).2.2.2, .int .i64 0, .int .i64 0]) w := by
  rcases (show k = 0 ∨ k = 1 ∨ k = 2 ∨ k = 3 ∨ k = 4 ∨ k = 5 ∨ k = 6 by omega) with e | e | e | e | e | e | e <;> subst e <;> kernel_rfl

set_option maxHeartbeats 8000000 in
set_option maxRecDepth 1000000 in
theorem implPasses (a b : Int) (w : World) (hT : Held w 0 passCells) (_hl : -9223372036854775808 ≤ a) (_hh : a ≤ 9223372036854775807) (_hl2 : -9223372036854775808 ≤ b) (_hh2 : b ≤ 9223372036854775807) :
    Calls Tryd.prog 9 #[.int .i64 a, .int .i64 b] w fun e w' => ∃ v, e = .returned v ∧ OwnPs w' w.heap.size w'.heap.size v (passesF a b) ∧ Upd 0 0 w w' := by
  have hS := hide (implGoodSide a w)
  have hS2 := hide (implGoodSide b w)
  by_cases ha : 1 ≤ a ∧ a ≤ 512
  case neg =>
    rw [sideB_no ha] at hS
    rw [passesF_no (fun h => ha h.1)]
    clear ha
    go_enter Tryd.func9, Tryd.ntmps9
    go_wp2_with fail
    refine (unhide hS).mono ?_
    rintro e w1 ⟨rfl, rfl⟩
    go_wp2
    go_ret
    exact ⟨_, rfl, own_nilPs _ _ _, Upd.refl _ _ _⟩
  rw [sideB_yes ha] at hS
  by_cases hb : 1 ≤ b ∧ b ≤ 512
  case neg =>
    rw [sideB_no hb] at hS2
    rw [passesF_no (fun h => hb h.2)]
    clear ha hb
    go_enter Tryd.func9, Tryd.ntmps9
    go_wp2_with fail
    refine (unhide hS).mono ?_
    rintro e w1 ⟨rfl, rfl⟩
    go_wp2_with fail
    refine (unhide hS2).mono ?_
    rintro e w1 ⟨rfl, rfl⟩
    go_wp2
    go_ret
    exact ⟨_, rfl, own_nilPs _ _ _, Upd.refl _ _ _⟩
  rw [sideB_yes hb] at hS2
  rw [passesF_yes ha hb]
  obtain ⟨i0, hi, hz0, hz1, hz2⟩ := info_parts infoPs
  obtain ⟨a1, a2⟩ := ha
  obtain ⟨b1, b2⟩ := hb
  have hidx := hide passIdx
  have htl : ∀ j v, passCells[j]? = some v → w.cell? ((⟨0, 0, none⟩ : Addr).add j) = some v := fun j v h => by
    have := hT.2 j v h
    have e : ((⟨0, 0, none⟩ : Addr).add j) = ⟨0, j, none⟩ := by by_cases h0 : j = 0 <;> simp [Addr.add, h0]
    rw [e]; exact this
  have hp0 := hT.1
  clear hT
  replace htl := hide htl
  go_enter Tryd.func9, Tryd.ntmps9
  go_wp2_with fail
  refine (unhide hS).mono ?_
  rintro e w1 ⟨rfl, rfl⟩
  go_wp2_with fail
  refine (unhide hS2).mono ?_
  rintro e w1 ⟨rfl, rfl⟩
  clear hS hS2
  have hpsz := hide passSize
  generalize passCells = L at htl hidx hpsz
  go_wp2_with (first | (refine wpList_load_list rfl 54 (.global 0) rfl ⟨0, 0, none⟩ rfl L (unhide htl) _ Tryd.underlying54 rfl (unhide hpsz) ?_))
  have hln0 := passTo_len
  go_loopw [5, 17] (fun out i wr => ∃ k : Nat, k ≤ 7 ∧ i = .int .i64 k ∧ wr.ownsRow w1.heap.size 33 6 out (passTo a b k).length (cellsPs (passTo a b k)) ∧ Below w1.heap.size w1 wr) (fun _ i _ => 7 - (intOf i).toNat)
  case atStart => exact ⟨0, by omega, rfl, World.ownsRow_nil _ _ _ _, Below.refl _ _⟩
  case round =>
    obtain ⟨k, hk, rfl, hown, hbel⟩ := hrel
    by_cases hlt : k < 7
    · have hbd := passAt_bd k hlt
      have hix := unhide hidx k hlt wr
      have hadd := hide (show passTo a b (k + 1) = passTo a b k ++ passAdd a b k from rfl)
      have hAdd := hide (show passAdd a b k = if 0 < cntF a (passAt k).1 (passAt k).2.2.1 ∧ 0 < cntF b (passAt k).2.1 (passAt k).2.2.2 then [passOne a b k] else [] from rfl)
      have hOne := hide (show passOne a b k = ((passAt k).1, (passAt k).2.1, (passAt k).2.2.1, (passAt k).2.2.2, cntF a (passAt k).1 (passAt k).2.2.1, cntF b (passAt k).2.1 (passAt k).2.2.2) from rfl)
      have hln := hln0 a b k
      generalize passOne a b k = one at hOne hAdd
      generalize passAdd a b k = add at hAdd hadd
      generalize passAt k = q at hbd hAdd hOne hix
      obtain ⟨x, y, sx, sy⟩ := q
      simp only at hbd hAdd hOne hix
      obtain ⟨hx, hy, hsx, hsy, hxs, hys⟩ := hbd
      have hC1 := hide (fun W => implCountSteps a x sx W a1 a2 ⟨hx.1, hxs⟩ hsx)
      have hC2 := hide (fun W => implCountSteps b y sy W b1 b2 ⟨hy.1, hys⟩ hsy)
      have hb1 := cntF_bd (n := a) (f := x) (s := sx) (by omega) hx.1 hsx
      have hb2 := cntF_bd (n := b) (f := y) (s := sy) (by omega) hy.1 hsy
      generalize cntF a x sx = c1 at hC1 hb1 hAdd hOne
      generalize cntF b y sy = c2 at hC2 hb2 hAdd hOne
      have hszw := hbel.size
      go_wp2_with fail
      refine (unhide hC1 _).mono ?_
      rintro e w2 ⟨rfl, hw2⟩
      subst hw2
      go_wp2_with fail
      refine (unhide hC2 _).mono ?_
      rintro e w2 ⟨rfl, hw2⟩
      subst hw2
      clear hC1 hC2 hix
      by_cases hc : 0 < c1 ∧ 0 < c2
      · have hA1 := hide (show passTo a b (k + 1) = passTo a b k ++ [(x, y, sx, sy, c1, c2)] by rw [unhide hadd, unhide hAdd, if_pos hc, unhide hOne])
        have q1 : decide (0 < c1) = true := by simp; omega
        have q2 : decide (0 < c2) = true := by simp; omega
        clear hc
        have hnew : ∀ j u, [Value.int .i64 x, .int .i64 y, .int .i64 sx, .int .i64 sy, .int .i64 c1, .int .i64 c2][j]? = some u → ((wr.alloc (.cells #[.int .i64 x, .int .i64 y, .int .i64 sx, .int .i64 sy, .int .i64 c1, .int .i64 c2] 33)).alloc (.cells #[.int .i64 x, .int .i64 y, .int .i64 sx, .int .i64 sy, .int .i64 c1, .int .i64 c2] 33)).cell? ((⟨wr.heap.size + 1, 0, none⟩ : Addr).add j) = some u := by
          have := six_new (wr.alloc (.cells #[.int .i64 x, .int .i64 y, .int .i64 sx, .int .i64 sy, .int .i64 c1, .int .i64 c2] 33)) (.int .i64 x) (.int .i64 y) (.int .i64 sx) (.int .i64 sy) (.int .i64 c1) (.int .i64 c2) 33
          simp only [World.size_alloc] at this
          exact this
        go_wp2_with (at_builtin; refine wpList_append_own _ rfl (.tmp 42) (.tmp 44) 30 rfl w1.heap.size 33 i0 (.agg #[.int .i64 0, .int .i64 0, .int .i64 0, .int .i64 0, .int .i64 0, .int .i64 0]) 6 48 Tryd.underlying30 hi hz0 hz1 hz2 rfl (by decide) _ _ _ rfl ((hown.alloc _).alloc _) ⟨wr.heap.size + 1, 0, none⟩ 1 1 [.int .i64 x, .int .i64 y, .int .i64 sx, .int .i64 sy, .int .i64 c1, .int .i64 c2] rfl rfl hnew (six_one _ _ _ _ _ _) (by unfold maxLen; omega) (by omega) (by simp; omega) ?_)
        intro v' w2 hown' hgrow _
        have hbel2 := hide ((((hbel.alloc (by omega) (.cells #[.int .i64 x, .int .i64 y, .int .i64 sx, .int .i64 sy, .int .i64 c1, .int .i64 c2] 33)).alloc (by simp; omega) (.cells #[.int .i64 x, .int .i64 y, .int .i64 sx, .int .i64 sy, .int .i64 c1, .int .i64 c2] 33))).grown hgrow (by simp; omega) (fun j hj => (hown.lt j hj).1))
        rw [← cellsPs_snoc (passTo a b k) (x, y, sx, sy, c1, c2), ← unhide hA1] at hown'
        have hln2 : (passTo a b k).length + 1 = (passTo a b (k + 1)).length := by rw [unhide hA1]; simp
        rw [hln2] at hown'
        replace hown' := hide hown'
        clear hgrow hnew hown hbel hln2
        go_wp2
        go_roundw
        case rel => exact ⟨k + 1, by omega, by go_num, unhide hown', unhide hbel2⟩
        case measure => simp [intOf]; omega
      · have hA1 := hide (show passTo a b (k + 1) = passTo a b k by rw [unhide hadd, unhide hAdd, if_neg hc, List.append_nil])
        have hbel2 := hide (hbel.alloc (by omega) (.cells #[.int .i64 x, .int .i64 y, .int .i64 sx, .int .i64 sy, .int .i64 c1, .int .i64 c2] 33))
        have hown2 := hide (hown.alloc (.cells #[.int .i64 x, .int .i64 y, .int .i64 sx, .int .i64 sy, .int .i64 c1, .int .i64 c2] 33))
        by_cases h1 : 0 < c1
        · have q1 : decide (0 < c1) = true := by simp; omega
          have q2 : decide (0 < c2) = false := by simp; omega
          clear hc hown hbel
          go_wp2
          go_roundw
          case rel => exact ⟨k + 1, by omega, by go_num, by rw [unhide hA1]; exact unhide hown2, unhide hbel2⟩
          case measure => simp [intOf]; omega
        · have q1 : decide (0 < c1) = false := by simp; omega
          clear hc hown hbel
          go_wp2
          go_roundw
          case rel => exact ⟨k + 1, by omega, by go_num, by rw [unhide hA1]; exact unhide hown2, unhide hbel2⟩
          case measure => simp [intOf]; omega
    · have hk7 : k = 7 := by omega
      subst hk7
      have ho := hide (Own.of hown)
      clear hown
      go_wp2
      go_ret
      exact ⟨_, rfl, unhide ho, Upd.of_below hbel 0 0⟩
end Go.Proofs.YtdochjkkgmkdgaaDoor

/- The program's tests of sides. -/
namespace Go.Proofs.YtdochjkkgmkdgaaDoor
open Go.RowKit

theorem sides_prod {w h : Int} (hw : 1 ≤ w ∧ w ≤ 512) (hh : 1 ≤ h ∧ h ≤ 512) : ∃ P : Int, w * h = P ∧ 1 ≤ P ∧ P ≤ 262144 := by
  obtain ⟨W, rfl⟩ := Int.eq_ofNat_of_zero_le (show 0 ≤ w by omega)
  obtain ⟨H, rfl⟩ := Int.eq_ofNat_of_zero_le (show 0 ≤ h by omega)
  have h1 : W * H ≤ 512 * 512 := Nat.mul_le_mul (by omega) (by omega)
  have h2 : 1 * 1 ≤ W * H := Nat.mul_le_mul (by omega) (by omega)
  exact ⟨((W * H : Nat) : Int), by simp, by omega, by omega⟩
set_option maxHeartbeats 2000000 in
theorem implGoodSidesP (a b : Int) (w : World) : Calls Tryd.prog 51 #[.int .i64 a, .int .i64 b] w fun e w' => e = .returned (.bool (decide ((1 ≤ a ∧ a ≤ 512) ∧ (1 ≤ b ∧ b ≤ 512) ∧ a * b ≤ 4096))) ∧ w' = w := by
  have hA := hide (fun W => implGoodSide a W)
  have hB := hide (fun W => implGoodSide b W)
  by_cases ha : 1 ≤ a ∧ a ≤ 512
  case neg =>
    rw [decide_eq_false (fun h => ha h.1)]
    rw [sideB_no ha] at hA
    clear ha
    go_enter Tryd.func51, Tryd.ntmps51
    go_wp2_with fail
    refine (unhide hA _).mono ?_
    rintro e w1 ⟨rfl, rfl⟩
    go_wp2
    go_ret
    exact ⟨rfl, rfl⟩
  by_cases hb : 1 ≤ b ∧ b ≤ 512
  case neg =>
    rw [decide_eq_false (fun h => hb h.2.1)]
    rw [sideB_yes ha] at hA
    rw [sideB_no hb] at hB
    clear ha hb
    go_enter Tryd.func51, Tryd.ntmps51
    go_wp2_with fail
    refine (unhide hA _).mono ?_
    rintro e w1 ⟨rfl, rfl⟩
    go_wp2_with fail
    refine (unhide hB _).mono ?_
    rintro e w1 ⟨rfl, rfl⟩
    go_wp2
    go_ret
    exact ⟨rfl, rfl⟩
  obtain ⟨P, hP, P1, P2⟩ := sides_prod ha hb
  have hR : decide ((1 ≤ a ∧ a ≤ 512) ∧ (1 ≤ b ∧ b ≤ 512) ∧ a * b ≤ 4096) = decide (P ≤ 4096) := by
    by_cases h : P ≤ 4096
    · rw [decide_eq_true h]; exact decide_eq_true ⟨ha, hb, by omega⟩
    · rw [decide_eq_false h]; exact decide_eq_false (fun h' => h (by have := h'.2.2; omega))
  rw [hR]
  rw [sideB_yes ha] at hA
  rw [sideB_yes hb] at hB
  clear ha hb hR
  go_enter Tryd.func51, Tryd.ntmps51
  go_wp2_with fail
  refine (unhide hA _).mono ?_
  rintro e w1 ⟨rfl, rfl⟩
  go_wp2_with fail
  refine (unhide hB _).mono ?_
  rintro e w1 ⟨rfl, rfl⟩
  go_wp2
  go_ret
  exact ⟨rfl, rfl⟩
end Go.Proofs.YtdochjkkgmkdgaaDoor

/- The walks of TakeLow and TakeHigh: the program's reader in high order. -/
namespace Go.Proofs.YtdochjkkgmkdgaaDoor
open Go.RowKit

theorem wrap_i64_in (n : Int) (h : -9223372036854775808 ≤ n ∧ n ≤ 9223372036854775807) : IntKind.i64.wrap n = n := by
  simp [IntKind.wrap, IntKind.bits, IntKind.signed]; omega
theorem div_bd (x : Nat) (hx : x < 256) (k : Nat) : 0 ≤ (x : Int) / 2 ^ k ∧ (x : Int) / 2 ^ k < 18446744073709551616 := by
  have h := Nat.div_le_self x (2 ^ k)
  rw [show ((x : Int) / 2 ^ k) = ((x / 2 ^ k : Nat) : Int) by simp]
  generalize x / 2 ^ k = y at h ⊢
  omega
end Go.Proofs.YtdochjkkgmkdgaaDoor

/- Plain facts behind the writer of bits. -/
namespace Go.Proofs.YtdochjkkgmkdgaaDoor
open Go.RowKit

def roomI (L : Nat) : Int := (((8 - L % 8) % 8 : Nat) : Int)
theorem div_bdv (v : Nat) (hv : v < 18446744073709551616) (k : Nat) : 0 ≤ (v : Int) / 2 ^ k ∧ (v : Int) / 2 ^ k < 18446744073709551616 := by
  have h := Nat.div_le_self v (2 ^ k)
  rw [show ((v : Int) / 2 ^ k) = ((v / 2 ^ k : Nat) : Int) by simp]
  generalize v / 2 ^ k = y at h ⊢
  omega

theorem or8 (h : Bool) (x r m ch : Nat) (hx : x < 256) (hm : r + m ≤ 8) (hf : if h then x % 2 ^ (8 - r) = 0 else x < 2 ^ r) (hc : ch < 2 ^ m) : bits .or .u8 (x : Int) (IntKind.u8.wrap (IntKind.u64.wrap ((ch : Int) * 2 ^ cex h r m))) = ((x + ch * 2 ^ cex h r m : Nat) : Int) := by
  have ho := or_into h x r m ch hm hf hc
  have hl : ch * 2 ^ cex h r m < 256 := by
    have h1 : (ch + 1) * 2 ^ cex h r m ≤ 2 ^ m * 2 ^ cex h r m := Nat.mul_le_mul_right _ hc
    rw [← Nat.pow_add] at h1
    have h2 : 2 ^ (m + cex h r m) ≤ 2 ^ 8 := Nat.pow_le_pow_right (by omega) (by unfold cex; split <;> omega)
    have h3 : 0 < 2 ^ cex h r m := Nat.pow_pos (by omega)
    rw [Nat.add_mul, Nat.one_mul] at h1
    omega
  have e : IntKind.u8.wrap (IntKind.u64.wrap ((ch : Int) * 2 ^ cex h r m)) = ((ch * 2 ^ cex h r m : Nat) : Int) := by
    rw [IntKind.wrap_u64, IntKind.wrap_u8', show ((ch : Int) * 2 ^ cex h r m) = ((ch * 2 ^ cex h r m : Nat) : Int) by simp]; omega
  rw [e, u8_or_nat _ _ hx hl, ho]
end Go.Proofs.YtdochjkkgmkdgaaDoor

/- The walk of the writer of bits in high order: the program's. -/
namespace Go.Proofs.YtdochjkkgmkdgaaDoor
open Go.RowKit


end Go.Proofs.YtdochjkkgmkdgaaDoor

/- The walks of PackRow: the program's. -/
namespace Go.Proofs.YtdochjkkgmkdgaaDoor
open Go.RowKit

theorem own_nilYS (w : World) (a b : Nat) : OwnY w a b (.slice none 0 0) [] := ⟨World.ownsRow_nil _ _ _ _, fun k hk => by simp [Value.ownBlock] at hk⟩

set_option maxHeartbeats 1000000 in
theorem implGoodDepth (d : Int) (w : World) : Calls Tryd.prog 52 #[.int .i64 d] w fun e w' => e = .returned (.bool (depthOk d)) ∧ w' = w := by
  by_cases h : depthOk d = true
  · rw [h]
    rcases depthOk_cases h with e | e | e | e | e <;> subst e <;>
    · clear h
      go_enter Tryd.func52, Tryd.ntmps52
      go_wp2
      go_ret
      exact ⟨rfl, rfl⟩
  · have h' : depthOk d = false := by simpa using h
    rw [h']
    have h1 : (d == 1) = false := by unfold depthOk at h'; simp at h' ⊢; omega
    have h2 : (d == 2) = false := by unfold depthOk at h'; simp at h' ⊢; omega
    have h3 : (d == 4) = false := by unfold depthOk at h'; simp at h' ⊢; omega
    have h4 : (d == 8) = false := by unfold depthOk at h'; simp at h' ⊢; omega
    have h5 : (d == 16) = false := by unfold depthOk at h'; simp at h' ⊢; omega
    clear h h'
    go_enter Tryd.func52, Tryd.ntmps52
    go_wp2
    go_ret
    exact ⟨rfl, rfl⟩

noncomputable def smpB (zs : List Int) (d : Int) : Bool := open Classical in decide (SmpOk zs d)
theorem smpB_yes {zs : List Int} {d : Int} (h : SmpOk zs d) : smpB zs d = true := by unfold smpB; simpa using h
theorem smpB_no {zs : List Int} {d : Int} (h : ¬ SmpOk zs d) : smpB zs d = false := by unfold smpB; simpa using h
theorem smpB_iff {zs : List Int} {d : Int} : smpB zs d = true ↔ SmpOk zs d := by unfold smpB; simp

set_option maxHeartbeats 2000000 in
theorem implGoodSamples (v : Value) (zs : List Int) (D : Nat) (w : World) (hD : D ≤ 16) (hn : zs.length ≤ 1048576) (hv : RdI w v zs) :
    Calls Tryd.prog 48 #[v, .int .i64 D] w fun e w' => e = .returned (.bool (smpB zs D)) ∧ w' = w := by
  obtain ⟨ad, cap, rfl, hA⟩ := hv
  replace hA := hide hA
  have hBad : Hid (∀ k, k < zs.length → ¬ (0 ≤ zs.getD k 0 ∧ zs.getD k 0 < 2 ^ D) → smpB zs D = false) := hide (fun k hk' hb => smpB_no (fun h => hb (by have := h k hk'; simpa using this)))
  have hGood : Hid ((∀ k, k < zs.length → (0 ≤ zs.getD k 0 ∧ zs.getD k 0 < 2 ^ D)) → smpB zs D = true) := hide (fun h => smpB_yes (fun j hj => by have := h j hj; simpa using this))
  have hp := two_pow_16 hD
  go_enter Tryd.func48, Tryd.ntmps48
  go_wp2
  go_loop [9] (fun i => ∃ k : Nat, k ≤ zs.length ∧ i = .int .i64 k ∧ Hid (∀ j, j < k → (0 ≤ zs.getD j 0 ∧ zs.getD j 0 < 2 ^ D))) (fun i => zs.length - (intOf i).toNat)
  case atStart => exact ⟨0, Nat.zero_le _, rfl, fun j hj => by omega⟩
  case round =>
    obtain ⟨k, hk', rfl, hok⟩ := hrel
    by_cases hlt : k < zs.length
    · obtain ⟨b, off, rfl, hbl, hcl⟩ := (unhide hA) (ne_of_lt_length hlt)
      have hck := hcl k hlt
      have hbad := hide (unhide hBad k hlt)
      have hOk : Hid ((0 ≤ zs.getD k 0 ∧ zs.getD k 0 < 2 ^ D) → ∀ j, j < k + 1 → (0 ≤ zs.getD j 0 ∧ zs.getD j 0 < 2 ^ D)) := hide (fun h j hj => by
        rcases Nat.lt_or_eq_of_le (Nat.le_of_lt_succ hj) with h' | h'
        · exact unhide hok j h'
        · subst h'; exact h)
      clear hcl hbl
      generalize zs.getD k 0 = x at hck hbad hOk
      by_cases h1 : x < 0
      · have hB := hide (unhide hbad (fun h => by have := h.1; omega))
        clear hbad hOk
        go_wp2
        go_ret
        exact ⟨by rw [unhide hB]; rfl, rfl⟩
      · by_cases h2 : x < 2 ^ D
        · have hok2 := hide (unhide hOk ⟨by omega, h2⟩)
          clear hbad hOk
          go_wp2
          all_goals
            go_round
            case rel => exact ⟨k + 1, by omega, by go_num, unhide hok2⟩
            case measure => simp [intOf]; omega
        · have hB := hide (unhide hbad (fun h => h2 h.2))
          clear hbad hOk
          go_wp2
          go_ret
          exact ⟨by rw [unhide hB]; rfl, rfl⟩
    · have hkl : k = zs.length := by omega
      subst hkl
      have hs := hide (unhide hGood (unhide hok))
      go_wp2
      go_ret
      exact ⟨by rw [unhide hs]; rfl, rfl⟩

end Go.Proofs.YtdochjkkgmkdgaaDoor

/- The walk of GoodImage: the program's parts. -/
namespace Go.Proofs.YtdochjkkgmkdgaaDoor
open Go.RowKit

set_option maxHeartbeats 4000000 in
set_option maxRecDepth 1000000 in
theorem implGoodShape (a b p dp : Int) (vl : Value) (ad : Option Addr) (n cap : Nat) (w : World) (hvl : vl = .slice ad n cap) :
    Calls Tryd.prog 33 #[.agg #[.int .i64 a, .int .i64 b, .int .i64 p, .int .i64 dp, vl]] w fun e w' => e = .returned (.bool (shapeB a b p dp)) ∧ Upd 0 0 w w' := by
  subst hvl
  have hU := hide (Upd.of_below ((Below.refl w.heap.size w).alloc (Nat.le_refl _) (.cells #[.int .i64 a, .int .i64 b, .int .i64 p, .int .i64 dp, .slice ad n cap] 25)) 0 0)
  have hS := hide (fun W => implGoodSidesP a b W)
  have hD := hide (fun W => implGoodDepth dp W)
  by_cases hs : (1 ≤ a ∧ a ≤ 512) ∧ (1 ≤ b ∧ b ≤ 512) ∧ a * b ≤ 4096
  case neg =>
    rw [shapeB_no (fun h => hs ⟨h.1, h.2.1, h.2.2.1⟩)]
    rw [decide_eq_false hs] at hS
    clear hs
    go_enter Tryd.func33, Tryd.ntmps33
    go_wp2_with fail
    refine (unhide hS _).mono ?_
    rintro e w1 ⟨rfl, rfl⟩
    go_wp2
    go_ret
    exact ⟨rfl, unhide hU⟩
  rw [decide_eq_true hs] at hS
  obtain ⟨ha, hb, hab⟩ := hs
  by_cases hp1 : p < 1
  · rw [shapeB_no (fun h => by have := h.2.2.2.1.1; omega)]
    have q : decide (p < 1) = true := by simp; omega
    clear ha hb hab
    go_enter Tryd.func33, Tryd.ntmps33
    go_wp2_with fail
    refine (unhide hS _).mono ?_
    rintro e w1 ⟨rfl, rfl⟩
    go_wp2
    go_ret
    exact ⟨rfl, unhide hU⟩
  have q1 : decide (p < 1) = false := by simp; omega
  by_cases hp2 : 4 < p
  · rw [shapeB_no (fun h => by have := h.2.2.2.1.2; omega)]
    have q : decide (4 < p) = true := by simp; omega
    clear ha hb hab
    go_enter Tryd.func33, Tryd.ntmps33
    go_wp2_with fail
    refine (unhide hS _).mono ?_
    rintro e w1 ⟨rfl, rfl⟩
    go_wp2
    go_ret
    exact ⟨rfl, unhide hU⟩
  have q2 : decide (4 < p) = false := by simp; omega
  by_cases hd : depthOk dp = true
  case neg =>
    rw [shapeB_no (fun h => hd h.2.2.2.2.1)]
    have hd' : depthOk dp = false := by simpa using hd
    rw [hd'] at hD
    clear ha hb hab hd hd'
    go_enter Tryd.func33, Tryd.ntmps33
    go_wp2_with fail
    refine (unhide hS _).mono ?_
    rintro e w1 ⟨rfl, rfl⟩
    go_wp2_with fail
    refine (unhide hD _).mono ?_
    rintro e w1 ⟨rfl, rfl⟩
    go_wp2
    go_ret
    exact ⟨rfl, unhide hU⟩
  rw [hd] at hD
  by_cases h1 : p = 1
  · subst h1
    rw [shapeB_yes ⟨ha, hb, hab, ⟨by omega, by omega⟩, hd, .inl rfl⟩]
    replace hd := hide hd
    clear ha hb hab
    go_enter Tryd.func33, Tryd.ntmps33
    go_wp2_with fail
    refine (unhide hS _).mono ?_
    rintro e w1 ⟨rfl, rfl⟩
    go_wp2_with fail
    refine (unhide hD _).mono ?_
    rintro e w1 ⟨rfl, rfl⟩
    go_wp2
    go_ret
    exact ⟨rfl, unhide hU⟩
  have r1 : (p == 1) = false := beq_eq_false_iff_ne.2 h1
  by_cases h8 : 8 ≤ dp
  · rw [shapeB_yes ⟨ha, hb, hab, ⟨by omega, by omega⟩, hd, .inr h8⟩]
    have r2 : decide (8 ≤ dp) = true := by simp; omega
    replace hd := hide hd
    clear ha hb hab h1
    go_enter Tryd.func33, Tryd.ntmps33
    go_wp2_with fail
    refine (unhide hS _).mono ?_
    rintro e w1 ⟨rfl, rfl⟩
    go_wp2_with fail
    refine (unhide hD _).mono ?_
    rintro e w1 ⟨rfl, rfl⟩
    go_wp2
    go_ret
    exact ⟨rfl, unhide hU⟩
  · rw [shapeB_no (fun h => by have := h.2.2.2.2.2; omega)]
    have r2 : decide (8 ≤ dp) = false := by simp; omega
    replace hd := hide hd
    clear ha hb hab h1
    go_enter Tryd.func33, Tryd.ntmps33
    go_wp2_with fail
    refine (unhide hS _).mono ?_
    rintro e w1 ⟨rfl, rfl⟩
    go_wp2_with fail
    refine (unhide hD _).mono ?_
    rintro e w1 ⟨rfl, rfl⟩
    go_wp2
    go_ret
    exact ⟨rfl, unhide hU⟩

set_option maxHeartbeats 1000000 in
theorem implCountSamples (a b p dp P Q : Int) (vl : Value) (ad : Option Addr) (n cap : Nat) (w : World) (hvl : vl = .slice ad n cap) (hP : a * b = P) (hQ : P * p = Q) (P1 : 0 ≤ P) (P2 : P ≤ 1099511627776) (Q1 : 0 ≤ Q) (Q2 : Q ≤ 1099511627776) :
    Calls Tryd.prog 34 #[.agg #[.int .i64 a, .int .i64 b, .int .i64 p, .int .i64 dp, vl]] w fun e w' => e = .returned (.int .i64 Q) ∧ Upd 0 0 w w' := by
  subst hvl
  have hU := hide (Upd.of_below ((Below.refl w.heap.size w).alloc (Nat.le_refl _) (.cells #[.int .i64 a, .int .i64 b, .int .i64 p, .int .i64 dp, .slice ad n cap] 25)) 0 0)
  go_enter Tryd.func34, Tryd.ntmps34
  go_wp2
  go_ret
  exact ⟨rfl, unhide hU⟩
end Go.Proofs.YtdochjkkgmkdgaaDoor

/- A region that draws its order, whose operations read old memory and whose calls only lay new blocks: one walk of the text's order serves. -/
namespace Go.Proofs.YtdochjkkgmkdgaaDoor
open Go.RowKit

/-- The worlds in which all that was there is as it was. -/
def UpdT (w : World) : Type := { w' : World // Upd 0 0 w w' }
def UpdT.to {w : World} (x : UpdT w) : World := x.1
instance (w : World) : Nonempty (UpdT w) := ⟨⟨w, Upd.refl _ _ _⟩⟩
theorem UpdT.upd {w : World} (x : UpdT w) : Upd 0 0 w x.to := x.2
theorem wp_region_upd {P : Program} {id : Nat} {Q : Exit → Act → World → Prop} {a : Act} {w : World} {l : List Oper} (hm : P.follows .mixedOrders = true) (hB : Region.lexB .any l.toArray = true)
    (h : wpQuiet P l.toArray (fun w' => ∃ x : UpdT w, w' = x.to) (fun a' => ∀ w', (∃ x : UpdT w, w' = x.to) → Q .normal a' w') l a) : (Code.region id l.toArray true).wp P Q a w :=
  wp_region_quiet (C := fun w' => ∃ x : UpdT w, w' = x.to) hm hB ⟨⟨{ w with drawn := w.drawn + 1 }, ⟨rfl, rfl, rfl, Nat.le_refl _, fun _ _ _ => rfl⟩⟩, rfl⟩ (by simpa using h)
/-- A call that only lays new blocks, in such a world. -/
theorem Calls.updT {P : Program} {f : FuncId} {args : Array Value} {w : World} {v : Value} (x : UpdT w) (h : Calls P f args x.to fun e w' => e = .returned v ∧ Upd 0 0 x.to w') :
    Calls P f args x.to fun e w' => e = .returned v ∧ ∃ y : UpdT w, w' = y.to :=
  h.mono fun _ w' ⟨he, hu⟩ => ⟨he, ⟨w', x.upd.trans hu⟩, rfl⟩
theorem Calls.updT_same {P : Program} {f : FuncId} {args : Array Value} {w : World} {v : Value} (x : UpdT w) (h : Calls P f args x.to fun e w' => e = .returned v ∧ w' = x.to) :
    Calls P f args x.to fun e w' => e = .returned v ∧ ∃ y : UpdT w, w' = y.to :=
  h.mono fun _ _ ⟨he, hw⟩ => ⟨he, x, hw⟩
theorem Held.updT {w : World} {g : Nat} {cs : List Value} (h : Held w g cs) (x : UpdT w) : Held x.to g cs := h.keep x.upd
end Go.Proofs.YtdochjkkgmkdgaaDoor

/- The walk of GoodImage: the program's. -/
namespace Go.Proofs.YtdochjkkgmkdgaaDoor
open Go.RowKit

set_option maxHeartbeats 8000000 in
set_option maxRecDepth 1000000 in
theorem implGoodImage (v : Value) (d : Im) (w : World) (hn : d.2.2.2.2.length ≤ 1048576) (hR : InIm d) (hv : RdIm w v d) :
    Calls Tryd.prog 25 #[v] w fun e w' => e = .returned (.bool (goodImB d)) ∧ Upd 0 0 w w' := by
  obtain ⟨vl, rfl, h⟩ := hv
  obtain ⟨ad, cap, rfl, hA⟩ := h
  obtain ⟨a, b, p, dp, zs⟩ := d
  simp only [ims, imv] at hn hA ⊢
  have hB := (Below.refl w.heap.size w).alloc (Nat.le_refl _) (.cells #[.int .i64 a, .int .i64 b, .int .i64 p, .int .i64 dp, .slice ad zs.length cap] 25)
  have hU := Upd.of_below hB 0 0
  have hA1 := hA.below hB
  have hH := held_new w [.int .i64 a, .int .i64 b, .int .i64 p, .int .i64 dp, .slice ad zs.length cap] 25
  have hS := hide (fun W => implGoodShape a b p dp _ ad zs.length cap W rfl)
  clear hR hA
  by_cases hsh : ShapeOk a b p dp
  case neg =>
    rw [goodImB_no (fun h => hsh h.1)]
    rw [shapeB_no hsh] at hS
    clear hsh hB hA1
    go_enter Tryd.func25, Tryd.ntmps25
    go_wp2_with fail
    generalize w.alloc (.cells #[.int .i64 a, .int .i64 b, .int .i64 p, .int .i64 dp, .slice ad zs.length cap] 25) = W at hU hH ⊢
    have c0 := fun x : UpdT W => (hH.updT x).2 0 _ rfl
    have c1 := fun x : UpdT W => (hH.updT x).2 1 _ rfl
    have c2 := fun x : UpdT W => (hH.updT x).2 2 _ rfl
    have c3 := fun x : UpdT W => (hH.updT x).2 3 _ rfl
    have c4 := fun x : UpdT W => (hH.updT x).2 4 _ rfl
    refine wp_region_upd (by kernel_rfl) (by kernel_rfl) ?_
    repeat (quiet_step ((go_at_call 33; exact Calls.updT _ (unhide hS _))))
    refine wpQuiet_nil ?_
    rintro _ ⟨x, rfl⟩
    have hx := hide (hU.trans x.upd)
    generalize x.to = W2 at hx ⊢
    go_wp2
    go_ret
    exact ⟨rfl, unhide hx⟩
  rw [shapeB_yes hsh] at hS
  obtain ⟨ha, hb, hab, hp, hdp, hpd⟩ := hsh
  obtain ⟨P, hP, P1, P2⟩ := prod_bd ha hb
  obtain ⟨Q, hQ, Q1, Q2⟩ := prod3_bd (P := P) (p := p) ⟨P1, by omega⟩ hp
  have hC := hide (fun W => implCountSamples a b p dp P Q _ ad zs.length cap W rfl hP hQ (by omega) (by omega) (by omega) (by omega))
  obtain ⟨D, rfl, hD1, hD16⟩ := depthOk_nat hdp
  have hG := hide (fun W => implGoodSamples (.slice ad zs.length cap) zs D W hD16 hn)
  have hlq : (zs.length : Int) = a * b * p ↔ (zs.length : Int) = Q := by rw [hP, hQ]
  by_cases hl : (zs.length : Int) = Q
  case neg =>
    rw [goodImB_no (fun h => hl (hlq.1 h.2.1))]
    have q1 : ((zs.length : Int) == Q) = false := beq_eq_false_iff_ne.2 hl
    clear ha hb hab hp hdp hpd hP hQ hl hlq hB hA1 hG
    go_enter Tryd.func25, Tryd.ntmps25
    go_wp2_with fail
    generalize w.alloc (.cells #[.int .i64 a, .int .i64 b, .int .i64 p, .int .i64 (D : Int), .slice ad zs.length cap] 25) = W at hU hH ⊢
    have c0 := fun x : UpdT W => (hH.updT x).2 0 _ rfl
    have c1 := fun x : UpdT W => (hH.updT x).2 1 _ rfl
    have c2 := fun x : UpdT W => (hH.updT x).2 2 _ rfl
    have c3 := fun x : UpdT W => (hH.updT x).2 3 _ rfl
    have c4 := fun x : UpdT W => (hH.updT x).2 4 _ rfl
    refine wp_region_upd (by kernel_rfl) (by kernel_rfl) ?_
    repeat (quiet_step (first | (go_at_call 33; exact Calls.updT _ (unhide hS _)) | (go_at_call 34; exact Calls.updT _ (unhide hC _))))
    refine wpQuiet_nil ?_
    rintro _ ⟨x, rfl⟩
    have hx := hide (hU.trans x.upd)
    generalize x.to = W2 at hx ⊢
    go_wp2
    go_ret
    exact ⟨rfl, unhide hx⟩
  have hgs : goodImB (a, b, p, (D : Int), zs) = smpB zs D := by
    by_cases hs : SmpOk zs D
    · rw [smpB_yes hs]; exact goodImB_yes ⟨⟨ha, hb, hab, hp, hdp, hpd⟩, hlq.2 hl, hs⟩
    · rw [smpB_no hs]; exact goodImB_no (fun h => hs h.2.2)
  rw [hgs]
  have q1 : ((zs.length : Int) == Q) = true := beq_iff_eq.2 hl
  generalize smpB zs D = r at hG ⊢
  clear ha hb hab hp hdp hpd hP hQ hlq hB hgs
  replace hl := hide hl
  go_enter Tryd.func25, Tryd.ntmps25
  go_wp2_with fail
  generalize w.alloc (.cells #[.int .i64 a, .int .i64 b, .int .i64 p, .int .i64 (D : Int), .slice ad zs.length cap] 25) = W at hU hH hA1 ⊢
  have hG2 := hide (fun x : UpdT W => unhide hG x.to ⟨ad, cap, rfl, hA1.below x.upd.none⟩)
  have c0 := fun x : UpdT W => (hH.updT x).2 0 _ rfl
  have c1 := fun x : UpdT W => (hH.updT x).2 1 _ rfl
  have c2 := fun x : UpdT W => (hH.updT x).2 2 _ rfl
  have c3 := fun x : UpdT W => (hH.updT x).2 3 _ rfl
  have c4 := fun x : UpdT W => (hH.updT x).2 4 _ rfl
  clear hA1
  refine wp_region_upd (by kernel_rfl) (by kernel_rfl) ?_
  repeat (quiet_step (first | (go_at_call 33; exact Calls.updT _ (unhide hS _)) | (go_at_call 34; exact Calls.updT _ (unhide hC _)) | (go_at_call 48; exact Calls.updT_same _ (unhide hG2 _))))
  refine wpQuiet_nil ?_
  rintro _ ⟨x, rfl⟩
  have hx := hide (hU.trans x.upd)
  generalize x.to = W2 at hx ⊢
  go_wp2
  go_ret
  exact ⟨rfl, unhide hx⟩
end Go.Proofs.YtdochjkkgmkdgaaDoor

/- The program's Split. -/
namespace Go.Proofs.YtdochjkkgmkdgaaDoor
open Go.RowKit

theorem new_cells (w : World) (cs : List Value) (t : TypeId) : ∀ j v, cs[j]? = some v → (w.alloc (.cells cs.toArray t)).cell? ((⟨w.heap.size, 0, none⟩ : Addr).add j) = some v := by
  intro j v h
  have e : (⟨w.heap.size, 0, none⟩ : Addr).add j = ⟨w.heap.size, j, none⟩ := by simp [Addr.add]; intro h; exact h.symm
  rw [e]
  exact (held_new w cs t).2 j v h
theorem grown_cell {w w' : World} {row : Option Nat} (hg : w.grownBy w' row) {b : Nat} (o : Nat) (hb : b < w.heap.size) (hne : row ≠ some b) : w'.cell? ⟨b, o, none⟩ = w.cell? ⟨b, o, none⟩ :=
  World.cell?_of_block (a := ⟨b, o, none⟩) (hg.block b hb (fun e => hne e.symm))
theorem pixInts_le (zs : List Int) (n P X Y SX SY Pw Ph : Nat) : (pixInts zs n P X Y SX SY Pw Ph).length ≤ Ph * (Pw * P) := by
  unfold pixInts
  induction Ph with
  | zero => simp
  | succ k ih =>
    rw [List.range_succ, List.flatMap_append, List.length_append, Nat.add_mul, Nat.one_mul]
    refine Nat.add_le_add ih ?_
    simp only [List.flatMap_cons, List.flatMap_nil, List.append_nil]
    clear ih
    induction Pw with
    | zero => simp
    | succ m ih =>
      rw [List.range_succ, List.flatMap_append, List.length_append, Nat.add_mul, Nat.one_mul]
      refine Nat.add_le_add ih ?_
      simp only [List.flatMap_cons, List.flatMap_nil, List.append_nil, List.length_take]
      exact Nat.min_le_left _ _

theorem step_append_at {P : Program} {ops : Array Oper} {o : Oper} {a : Act} {w : World} {K : Act → World → Prop} {Q : Exit → Act → World → Prop} {E : Prop}
    (hg : o.guard = none) (s x : Operand) (t : TypeId) (hop : o.op = Op.call { callee := Callee.builtin Builtin.append, args := #[s, x], argTypes := #[t, t] })
    (base : Nat) (e : TypeId) (i : TypeInfo) (z : Value) (size bytes : Nat) (h1 : P.underlying t = some (.slice e)) (h2 : P.info? e = some i) (h3 : i.zero = some z) (h4 : i.size = size) (h5 : i.bytes = bytes) (h6 : z.cells.size = size) (h7 : 0 < size)
    (v : Value) (n : Nat) (xs : List Value) (hs : a.eval s = v) (hown : w.ownsRow base e size v n xs)
    (ad : Addr) (m c : Nat) (news : List Value) (hx : a.eval x = .slice (some ad) m c) (hn : news.length = m * size) (hc : ∀ j u, news[j]? = some u → w.cell? (ad.add j) = some u) (h1c : ∀ u ∈ news, u.oneCell' = true)
    (b1 : n + m ≤ maxLen) (b2 : (n + m) * bytes ≤ 140737488355328) (hbase : base ≤ w.heap.size)
    (hK : ∀ v' w', w'.ownsRow base e size v' (n + m) (xs ++ news) → w.grownBy w' v.ownBlock → (v'.ownBlock = v.ownBlock ∨ v'.ownBlock = some w.heap.size) → K (a.put o.dst v') w') :
    if Region.wanted o (yielded ops a.tmps) = true then Oper.wp P o a w K Q else E := by
  have hw : Region.wanted o (yielded ops a.tmps) = true := by simp [Region.wanted, hg]
  rw [if_pos hw]
  obtain ⟨v', w', hrun, r1, r2, _, r4⟩ := run_append_own_at (P := P) (w := w) base t o.type e i z size bytes h1 h2 h3 h4 h5 h6 h7 v n xs hown ad m c news hn hc h1c b1 b2 hbase
  unfold Oper.wp
  simp [execOp, hop, resolve, invoke, builtin, hs, hx, hrun, Result.andThen]
  exact hK v' w' r1 r2 r4

set_option maxHeartbeats 8000000 in
set_option maxRecDepth 100000 in
theorem implSplit (v : Value) (d : Im) (w : World) (hT : Held w 0 passCells) (hn : d.2.2.2.2.length ≤ 1048576) (hR : InIm d) (a0 b0 : Nat) (hv : OwnIm w a0 b0 v d) :
    Calls Tryd.prog 7 #[v] w fun e w' => ∃ u, e = .returned u ∧ OwnIs w' w.heap.size w'.heap.size u (splitF d) ∧ Upd 0 0 w w' := by
  have hvr := hv.rd
  obtain ⟨vl, rfl, ho⟩ := hv
  obtain ⟨W, H, P, dp, zs⟩ := d
  simp only [ims, imv] at ho hn hvr ⊢
  have hB0 := (Below.refl w.heap.size w).alloc (Nat.le_refl _) (.cells #[.int .i64 W, .int .i64 H, .int .i64 P, .int .i64 dp, vl] 25)
  have hG := hide (implGoodImage _ (W, H, P, dp, zs) _ hn hR (hvr.below hB0))
  by_cases hg : GoodIm (W, H, P, dp, zs)
  case neg =>
    have hE : splitF (W, H, P, dp, zs) = [] := by unfold splitF; rw [goodImB_no hg]; rfl
    rw [goodImB_no hg] at hG
    rw [hE]
    clear hE hg
    replace hB0 := hide hB0
    clear hvr ho hT hR
    go_enter Tryd.func7, Tryd.ntmps7
    go_wp2_with fail
    refine (unhide hG).mono ?_
    rintro e w1 ⟨rfl, hu⟩
    have hu2 := hide ((Upd.of_below (unhide hB0) 0 0).trans hu)
    clear hu hG
    go_wp2
    go_ret
    exact ⟨_, rfl, ⟨[], fun _ => undef, ⟨World.ownsRow_nil _ _ _ _, fun k hk => by simp [Value.ownBlock] at hk⟩, fun j hj => by simp at hj, fun j hj => by simp at hj, fun i j hi => by simp at hi, fun j hj => by simp at hj⟩, unhide hu2⟩
  rw [goodImB_yes hg] at hG
  have hE : splitF (W, H, P, dp, zs) = (passesF W H).map (splitOne (W, H, P, dp, zs)) := by unfold splitF; rw [goodImB_yes hg]; rfl
  rw [hE]
  obtain ⟨⟨hW, hH, _, hP, _⟩, hlen, _⟩ := hg
  simp only at hW hH hP hlen
  obtain ⟨W, rfl⟩ := Int.eq_ofNat_of_zero_le (show 0 ≤ W by omega)
  obtain ⟨H, rfl⟩ := Int.eq_ofNat_of_zero_le (show 0 ≤ H by omega)
  obtain ⟨P, rfl⟩ := Int.eq_ofNat_of_zero_le (show 0 ≤ P by omega)
  have hW' : 1 ≤ W ∧ W ≤ 512 := by omega
  have hH' : 1 ≤ H ∧ H ≤ 512 := by omega
  have hP' : 1 ≤ P ∧ P ≤ 4 := by omega
  have hL : zs.length = H * (W * P) := by
    have : ((zs.length : Nat) : Int) = ((H * (W * P) : Nat) : Int) := by rw [hlen]; simp only [Int.natCast_mul]; rw [Int.mul_comm (W : Int) (H : Int), Int.mul_assoc]
    exact_mod_cast this
  have hpos : 0 < zs.length := by rw [hL]; exact Nat.mul_pos hH'.1 (Nat.mul_pos hW'.1 hP'.1)
  obtain ⟨g, cap, rfl, hgl, hcap⟩ : ∃ g cap, vl = .slice (some ⟨g, 0, none⟩) zs.length cap ∧ g < w.heap.size ∧ zs.length ≤ cap := by
    rcases ho.1.2 with ⟨_, h0⟩ | ⟨g, cap, cur, rfl, _, _, h3, _⟩
    · omega
    · exact ⟨g, cap, rfl, (ho.1.lt g rfl).2, h3⟩
  have hk : KindAt .i64 w g 0 zs := fun j hj => by
    rw [Nat.zero_add, ho.1.cellAt j (by omega)]
    exact getD_map_int zs .i64 j hj
  have hH0 := held_new w [.int .i64 (W : Int), .int .i64 (H : Int), .int .i64 (P : Int), .int .i64 dp, .slice (some ⟨g, 0, none⟩) zs.length cap] 25
  have hT1 := hT.keep (Upd.of_below hB0 0 0)
  have hk1 : KindAt .i64 (w.alloc (.cells #[.int .i64 W, .int .i64 H, .int .i64 P, .int .i64 dp, .slice (some ⟨g, 0, none⟩) zs.length cap] 25)) g 0 zs := fun j hj => (hB0.cell (by simpa using hgl)).trans (hk j hj)
  have hPs := hide (fun (V : World) (h : Held V 0 passCells) => implPasses (W : Int) (H : Int) V h (by omega) (by omega) (by omega) (by omega))
  have hfit := hide (passTo_fits hW' hH' 7 (Nat.le_refl _))
  have hpe := hide (passesF_yes (w := (W : Int)) (h := (H : Int)) hW hH)
  clear hk ho hT hvr hR hlen hE
  replace hB0 := hide hB0
  replace hH0 := hide hH0
  replace hT1 := hide hT1
  replace hk1 := hide hk1
  replace hL := hide hL
  go_enter Tryd.func7, Tryd.ntmps7
  go_wp2_with fail
  refine (unhide hG).mono ?_
  rintro e w1 ⟨rfl, hu⟩
  have kH := (unhide hH0).keep hu
  have kT := (unhide hT1).keep hu
  have kK : Hid (KindAt .i64 w1 g 0 zs) := hide (fun j hj => (hu.none.cell (by simp; omega)).trans (unhide hk1 j hj))
  have hU1 := hide ((unhide hB0).trans (hu.below (B := w.heap.size) (by simp) (.inr (Nat.zero_le _))))
  have hws : w.heap.size + 1 ≤ w1.heap.size := by have := hu.size; simp at this; omega
  clear hu hG hB0 hH0 hT1 hk1
  have c0 := kH.2 0 _ rfl
  have c1 := kH.2 1 _ rfl
  have c2 := kH.2 2 _ rfl
  have c3 := kH.2 3 _ rfl
  have c4 := kH.2 4 _ rfl
  replace kT := hide kT
  replace kH := hide kH
  go_wp2_with fail
  refine (unhide hPs _ (unhide kT)).mono ?_
  rintro e w2 ⟨vp, rfl, hop, hu2⟩
  have kH2 := (unhide kH).keep hu2
  have kK2 : Hid (KindAt .i64 w2 g 0 zs) := hide (fun j hj => (hu2.none.cell (by simp; have := (unhide hU1).size; omega)).trans (unhide kK j hj))
  have hU2 := hide ((unhide hU1).trans (hu2.below (B := w.heap.size) (by omega) (.inr (Nat.zero_le _))))
  have hws2 : w.heap.size + 1 ≤ w2.heap.size := Nat.le_trans hws hu2.size
  obtain ⟨adp, capp, rfl, hAp⟩ := OwnPs.rd hop
  clear hop hu2 kK hU1 hws kH kT c0 c1 c2 c3 c4 hPs
  have hC := hide (And.intro (kH2.2 0 _ rfl) (And.intro (kH2.2 1 _ rfl) (And.intro (kH2.2 2 _ rfl) (And.intro (kH2.2 3 _ rfl) (kH2.2 4 _ rfl)))))
  clear kH2
  rw [unhide hpe] at hAp ⊢
  have hql := passTo_len (W : Int) (H : Int) 7
  generalize passTo (W : Int) (H : Int) 7 = qs at hAp hfit hql hpe ⊢
  clear w1
  replace hAp := hide hAp
  have hgl2 : g < w2.heap.size := by omega
  go_wp2
  go_loopw [3, 15] (fun o i wr => ∃ (k : Nat) (out : Value), out = o ∧ k ≤ qs.length ∧ i = .int .i64 k ∧ Hid (OwnIs wr w2.heap.size wr.heap.size out ((qs.take k).map (splitOne ((W : Int), (H : Int), (P : Int), dp, zs)))) ∧ Hid (Below w2.heap.size w2 wr)) (fun _ i _ => qs.length - (intOf i).toNat)
  case atStart => exact ⟨0, _, rfl, Nat.zero_le _, rfl, hide ⟨[], fun _ => undef, ⟨World.ownsRow_nil _ _ _ _, fun k hk => by simp [Value.ownBlock] at hk⟩, fun j hj => by simp at hj, fun j hj => by simp at hj, fun i j hi => by simp at hi, fun j hj => by simp at hj⟩, hide (Below.refl _ _)⟩
  case round =>
    obtain ⟨k, out, rfl, hk, rfl, hown, hbel⟩ := hrel
    by_cases hlt : k < qs.length
    · obtain ⟨b, off, rfl, hbl, hc⟩ := (unhide hAp) (ne_of_lt_length hlt)
      obtain ⟨d0, d1, d2, d3, d4, d5⟩ := hc k hlt
      have hf := unhide hfit (qs.getD k Ps0) (by rw [List.getD_eq_getElem?_getD, List.getElem?_eq_getElem hlt]; exact List.getElem_mem hlt)
      have htk := hide (take_snoc_getD qs Ps0 k hlt)
      clear hc
      generalize qs.getD k Ps0 = q at d0 d1 d2 d3 d4 d5 hf htk
      obtain ⟨X, Y, SX, SY, Pw, Ph, rfl, hX, hY, hw, hh, _⟩ := hf
      simp only at d0 d1 d2 d3 d4 d5
      replace d0 := ((unhide hbel).cell (by simpa using hbl)).trans d0
      replace d1 := ((unhide hbel).cell (by simpa using hbl)).trans d1
      replace d2 := ((unhide hbel).cell (by simpa using hbl)).trans d2
      replace d3 := ((unhide hbel).cell (by simpa using hbl)).trans d3
      replace d4 := ((unhide hbel).cell (by simpa using hbl)).trans d4
      replace d5 := ((unhide hbel).cell (by simpa using hbl)).trans d5
      have hPx := hide (fun V => implPixels X Y SX SY Pw Ph W H P g cap zs.length dp V hW' hH' hP' (unhide hL) hcap hX hY hw.2 hh.2)
      replace hX := hide hX
      replace hY := hide hY
      go_wp2_with fail
      have pA := held_new wr [.int .i64 (X : Int), .int .i64 (Y : Int), .int .i64 (SX : Int), .int .i64 (SY : Int), .int .i64 (Pw : Int), .int .i64 (Ph : Int)] 33
      have bA := (unhide hbel).alloc (by have := (unhide hbel).size; omega) (.cells #[.int .i64 (X : Int), .int .i64 (Y : Int), .int .i64 (SX : Int), .int .i64 (SY : Int), .int .i64 (Pw : Int), .int .i64 (Ph : Int)] 33)
      have hgr := (Below.refl wr.heap.size wr).alloc (Nat.le_refl _) (.cells #[.int .i64 (X : Int), .int .i64 (Y : Int), .int .i64 (SX : Int), .int .i64 (SY : Int), .int .i64 (Pw : Int), .int .i64 (Ph : Int)] 33)
      have hsA : (wr.alloc (.cells #[.int .i64 (X : Int), .int .i64 (Y : Int), .int .i64 (SX : Int), .int .i64 (SY : Int), .int .i64 (Pw : Int), .int .i64 (Ph : Int)] 33)).heap.size = wr.heap.size + 1 := by simp
      generalize wr.alloc (.cells #[.int .i64 (X : Int), .int .i64 (Y : Int), .int .i64 (SX : Int), .int .i64 (SY : Int), .int .i64 (Pw : Int), .int .i64 (Ph : Int)] 33) = wA at pA bA hgr hsA ⊢
      have hwr := (unhide hbel).size
      obtain ⟨c0, c1, c2, c3, c4⟩ := unhide hC
      have m0 := (bA.cell (p := ⟨w.heap.size, 0, none⟩) (by simp; omega)).trans c0
      have m1 := (bA.cell (p := ⟨w.heap.size, 1, none⟩) (by simp; omega)).trans c1
      have m2 := (bA.cell (p := ⟨w.heap.size, 2, none⟩) (by simp; omega)).trans c2
      have m3 := (bA.cell (p := ⟨w.heap.size, 3, none⟩) (by simp; omega)).trans c3
      have m4 := (bA.cell (p := ⟨w.heap.size, 4, none⟩) (by simp; omega)).trans c4
      have n0 := pA.2 0 _ rfl
      have n1 := pA.2 1 _ rfl
      have n2 := pA.2 2 _ rfl
      have n3 := pA.2 3 _ rfl
      have n4 := pA.2 4 _ rfl
      have n5 := pA.2 5 _ rfl
      have hAll := hide (And.intro m2 (And.intro m3 (And.intro n4 n5)))
      have kA : Hid (KindAt .i64 wA g 0 zs) := hide (fun j hj => (bA.cell (by simpa using hgl2)).trans (unhide kK2 j hj))
      replace bA := hide bA
      replace hgr := hide hgr
      clear c0 c1 c2 c3 c4 pA d0 d1 d2 d3 d4 d5
      have hCc := hide (fun (V : World) (a b : Nat) (x : Value) (h1 : g < V.heap.size) (h2 : KindAt .i64 V g 0 zs) (h3 : (pixInts zs (W * P) P X Y SX SY Pw Ph).length ≤ 1048576) => concatPix g (W * P) P X Y SX SY Pw Ph W H zs x a b V h1 h2 rfl (unhide hL) h3 (unhide hX) (unhide hY) (Nat.mul_pos hh.1 hw.1) (Nat.le_trans (Nat.mul_le_mul hh.2 hw.2) (by omega)))
      have hpl : Hid ((pixInts zs (W * P) P X Y SX SY Pw Ph).length ≤ 1048576) := hide (Nat.le_trans (pixInts_le zs (W * P) P X Y SX SY Pw Ph) (Nat.le_trans (Nat.mul_le_mul hh.2 (Nat.mul_le_mul hw.2 hP'.2)) (by omega)))
      obtain ⟨iI, hI, hI0, hI1, hI2⟩ := info_parts infoIs
      obtain ⟨ys, vs, hoY, hrY, heY, hdY, hxY⟩ := unhide hown
      have hkl : ((qs.take k).map (splitOne ((W : Int), (H : Int), (P : Int), dp, zs))).length = k := by rw [List.length_map, List.length_take]; omega
      rw [hkl] at hoY
      have hwA : wr.heap.size ≤ wA.heap.size := by omega
      have hoB : Hid (∀ x, out.ownBlock = some x → w2.heap.size ≤ x ∧ x < wr.heap.size) := hide (fun x hx => hoY.1.lt x hx)
      have hoYl : Hid (ys.length = k * 5) := hide hoY.1.1
      replace hoY := hide (hoY.keep (Upd.of_below (unhide hgr) 0 0))
      replace hrY := hide hrY
      replace heY := hide heY
      replace hdY := hide hdY
      replace hxY := hide hxY
      have hSA : Hid (wA.cell? ⟨w.heap.size, 0, none⟩ = some (.int .i64 (W : Int)) ∧ wA.cell? ⟨w.heap.size, 1, none⟩ = some (.int .i64 (H : Int)) ∧ wA.cell? ⟨w.heap.size, 2, none⟩ = some (.int .i64 (P : Int)) ∧ wA.cell? ⟨w.heap.size, 3, none⟩ = some (.int .i64 dp) ∧ wA.cell? ⟨w.heap.size, 4, none⟩ = some (.slice (some ⟨g, 0, none⟩) zs.length cap) ∧ wA.cell? ⟨wr.heap.size, 0, none⟩ = some (.int .i64 (X : Int)) ∧ wA.cell? ⟨wr.heap.size, 1, none⟩ = some (.int .i64 (Y : Int)) ∧ wA.cell? ⟨wr.heap.size, 2, none⟩ = some (.int .i64 (SX : Int)) ∧ wA.cell? ⟨wr.heap.size, 3, none⟩ = some (.int .i64 (SY : Int)) ∧ wA.cell? ⟨wr.heap.size, 4, none⟩ = some (.int .i64 (Pw : Int)) ∧ wA.cell? ⟨wr.heap.size, 5, none⟩ = some (.int .i64 (Ph : Int))) := hide ⟨m0, m1, m2, m3, m4, n0, n1, n2, n3, n4, n5⟩
      clear m0 m1 m2 m3 m4 n0 n1 n2 n3 n4 n5 hAll
      go_region_held_law? (fun w' => w'.cell? ⟨w.heap.size, 0, none⟩ = some (.int .i64 (W : Int)) ∧ w'.cell? ⟨w.heap.size, 1, none⟩ = some (.int .i64 (H : Int)) ∧ w'.cell? ⟨w.heap.size, 2, none⟩ = some (.int .i64 (P : Int)) ∧ w'.cell? ⟨w.heap.size, 3, none⟩ = some (.int .i64 dp) ∧ w'.cell? ⟨w.heap.size, 4, none⟩ = some (.slice (some ⟨g, 0, none⟩) zs.length cap) ∧ w'.cell? ⟨wr.heap.size, 0, none⟩ = some (.int .i64 (X : Int)) ∧ w'.cell? ⟨wr.heap.size, 1, none⟩ = some (.int .i64 (Y : Int)) ∧ w'.cell? ⟨wr.heap.size, 2, none⟩ = some (.int .i64 (SX : Int)) ∧ w'.cell? ⟨wr.heap.size, 3, none⟩ = some (.int .i64 (SY : Int)) ∧ w'.cell? ⟨wr.heap.size, 4, none⟩ = some (.int .i64 (Pw : Int)) ∧ w'.cell? ⟨wr.heap.size, 5, none⟩ = some (.int .i64 (Ph : Int)))
        (first | exact unhide hSA | assumption | go_keep)
        (first
          | (refine step_append_at rfl (.tmp 19) (.tmp 33) 27 rfl w2.heap.size 25 iI (.agg #[.int .i64 0, .int .i64 0, .int .i64 0, .int .i64 0, .slice none 0 0]) 5 56 Tryd.underlying27 hI hI0 hI1 hI2 rfl (by decide) _ k ys (by simp [Act.eval]) ((unhide hoY4).1.alloc _) ⟨w4.heap.size, 0, none⟩ 1 1 [.int .i64 (Pw : Int), .int .i64 (Ph : Int), .int .i64 (P : Int), .int .i64 dp, .slice ad4 (pixInts zs (W * P) P X Y SX SY Pw Ph).length cap4] (by simp [Act.eval]) rfl (new_cells w4 [.int .i64 (Pw : Int), .int .i64 (Ph : Int), .int .i64 (P : Int), .int .i64 dp, .slice ad4 (pixInts zs (W * P) P X Y SX SY Pw Ph).length cap4] 25) (by intro u hu; simp at hu; rcases hu with rfl | rfl | rfl | rfl | rfl <;> rfl) (by unfold maxLen; omega) (by omega) (by have := (unhide hb4).size; have := (unhide hu3).size; simp at *; omega) ?_
             intro v5 w5 ho5 hg5 hb5
             have hS5 : w5.cell? ⟨w.heap.size, 0, none⟩ = some (.int .i64 (W : Int)) ∧ w5.cell? ⟨w.heap.size, 1, none⟩ = some (.int .i64 (H : Int)) ∧ w5.cell? ⟨w.heap.size, 2, none⟩ = some (.int .i64 (P : Int)) ∧ w5.cell? ⟨w.heap.size, 3, none⟩ = some (.int .i64 dp) ∧ w5.cell? ⟨w.heap.size, 4, none⟩ = some (.slice (some ⟨g, 0, none⟩) zs.length cap) ∧ w5.cell? ⟨wr.heap.size, 0, none⟩ = some (.int .i64 (X : Int)) ∧ w5.cell? ⟨wr.heap.size, 1, none⟩ = some (.int .i64 (Y : Int)) ∧ w5.cell? ⟨wr.heap.size, 2, none⟩ = some (.int .i64 (SX : Int)) ∧ w5.cell? ⟨wr.heap.size, 3, none⟩ = some (.int .i64 (SY : Int)) ∧ w5.cell? ⟨wr.heap.size, 4, none⟩ = some (.int .i64 (Pw : Int)) ∧ w5.cell? ⟨wr.heap.size, 5, none⟩ = some (.int .i64 (Ph : Int)) := ⟨((grown_cell hg5 0 (by simp; omega) (fun e => by have := unhide hoB _ e; omega)).trans (((Below.refl w4.heap.size w4).alloc (Nat.le_refl _) _).cell (p := ⟨w.heap.size, 0, none⟩) (by simp; omega))).trans hS4.1, ((grown_cell hg5 1 (by simp; omega) (fun e => by have := unhide hoB _ e; omega)).trans (((Below.refl w4.heap.size w4).alloc (Nat.le_refl _) _).cell (p := ⟨w.heap.size, 1, none⟩) (by simp; omega))).trans hS4.2.1, ((grown_cell hg5 2 (by simp; omega) (fun e => by have := unhide hoB _ e; omega)).trans (((Below.refl w4.heap.size w4).alloc (Nat.le_refl _) _).cell (p := ⟨w.heap.size, 2, none⟩) (by simp; omega))).trans hS4.2.2.1, ((grown_cell hg5 3 (by simp; omega) (fun e => by have := unhide hoB _ e; omega)).trans (((Below.refl w4.heap.size w4).alloc (Nat.le_refl _) _).cell (p := ⟨w.heap.size, 3, none⟩) (by simp; omega))).trans hS4.2.2.2.1, ((grown_cell hg5 4 (by simp; omega) (fun e => by have := unhide hoB _ e; omega)).trans (((Below.refl w4.heap.size w4).alloc (Nat.le_refl _) _).cell (p := ⟨w.heap.size, 4, none⟩) (by simp; omega))).trans hS4.2.2.2.2.1, ((grown_cell hg5 0 (by simp; omega) (fun e => by have := unhide hoB _ e; omega)).trans (((Below.refl w4.heap.size w4).alloc (Nat.le_refl _) _).cell (p := ⟨wr.heap.size, 0, none⟩) (by simp; omega))).trans hS4.2.2.2.2.2.1, ((grown_cell hg5 1 (by simp; omega) (fun e => by have := unhide hoB _ e; omega)).trans (((Below.refl w4.heap.size w4).alloc (Nat.le_refl _) _).cell (p := ⟨wr.heap.size, 1, none⟩) (by simp; omega))).trans hS4.2.2.2.2.2.2.1, ((grown_cell hg5 2 (by simp; omega) (fun e => by have := unhide hoB _ e; omega)).trans (((Below.refl w4.heap.size w4).alloc (Nat.le_refl _) _).cell (p := ⟨wr.heap.size, 2, none⟩) (by simp; omega))).trans hS4.2.2.2.2.2.2.2.1, ((grown_cell hg5 3 (by simp; omega) (fun e => by have := unhide hoB _ e; omega)).trans (((Below.refl w4.heap.size w4).alloc (Nat.le_refl _) _).cell (p := ⟨wr.heap.size, 3, none⟩) (by simp; omega))).trans hS4.2.2.2.2.2.2.2.2.1, ((grown_cell hg5 4 (by simp; omega) (fun e => by have := unhide hoB _ e; omega)).trans (((Below.refl w4.heap.size w4).alloc (Nat.le_refl _) _).cell (p := ⟨wr.heap.size, 4, none⟩) (by simp; omega))).trans hS4.2.2.2.2.2.2.2.2.2.1, ((grown_cell hg5 5 (by simp; omega) (fun e => by have := unhide hoB _ e; omega)).trans (((Below.refl w4.heap.size w4).alloc (Nat.le_refl _) _).cell (p := ⟨wr.heap.size, 5, none⟩) (by simp; omega))).trans hS4.2.2.2.2.2.2.2.2.2.2⟩
             skip)
          | (go_at_call 27
             refine (unhide hPx _).mono ?_
             rintro e w3 ⟨x3, rfl, ho3, hu3⟩
             have hS3 : w3.cell? ⟨w.heap.size, 0, none⟩ = some (.int .i64 (W : Int)) ∧ w3.cell? ⟨w.heap.size, 1, none⟩ = some (.int .i64 (H : Int)) ∧ w3.cell? ⟨w.heap.size, 2, none⟩ = some (.int .i64 (P : Int)) ∧ w3.cell? ⟨w.heap.size, 3, none⟩ = some (.int .i64 dp) ∧ w3.cell? ⟨w.heap.size, 4, none⟩ = some (.slice (some ⟨g, 0, none⟩) zs.length cap) ∧ w3.cell? ⟨wr.heap.size, 0, none⟩ = some (.int .i64 (X : Int)) ∧ w3.cell? ⟨wr.heap.size, 1, none⟩ = some (.int .i64 (Y : Int)) ∧ w3.cell? ⟨wr.heap.size, 2, none⟩ = some (.int .i64 (SX : Int)) ∧ w3.cell? ⟨wr.heap.size, 3, none⟩ = some (.int .i64 (SY : Int)) ∧ w3.cell? ⟨wr.heap.size, 4, none⟩ = some (.int .i64 (Pw : Int)) ∧ w3.cell? ⟨wr.heap.size, 5, none⟩ = some (.int .i64 (Ph : Int)) := ⟨(hu3.none.cell (p := ⟨w.heap.size, 0, none⟩) (by simp; omega)).trans (unhide hSA).1, (hu3.none.cell (p := ⟨w.heap.size, 1, none⟩) (by simp; omega)).trans (unhide hSA).2.1, (hu3.none.cell (p := ⟨w.heap.size, 2, none⟩) (by simp; omega)).trans (unhide hSA).2.2.1, (hu3.none.cell (p := ⟨w.heap.size, 3, none⟩) (by simp; omega)).trans (unhide hSA).2.2.2.1, (hu3.none.cell (p := ⟨w.heap.size, 4, none⟩) (by simp; omega)).trans (unhide hSA).2.2.2.2.1, (hu3.none.cell (p := ⟨wr.heap.size, 0, none⟩) (by simp; omega)).trans (unhide hSA).2.2.2.2.2.1, (hu3.none.cell (p := ⟨wr.heap.size, 1, none⟩) (by simp; omega)).trans (unhide hSA).2.2.2.2.2.2.1, (hu3.none.cell (p := ⟨wr.heap.size, 2, none⟩) (by simp; omega)).trans (unhide hSA).2.2.2.2.2.2.2.1, (hu3.none.cell (p := ⟨wr.heap.size, 3, none⟩) (by simp; omega)).trans (unhide hSA).2.2.2.2.2.2.2.2.1, (hu3.none.cell (p := ⟨wr.heap.size, 4, none⟩) (by simp; omega)).trans (unhide hSA).2.2.2.2.2.2.2.2.2.1, (hu3.none.cell (p := ⟨wr.heap.size, 5, none⟩) (by simp; omega)).trans (unhide hSA).2.2.2.2.2.2.2.2.2.2⟩
             have hoY3 := hide (((unhide hoY).keep (Upd.drew1 wA)).keep hu3)
             have hz3 : wA.heap.size ≤ w3.heap.size := hu3.size
             have hw3 := hide (((Upd.of_below (unhide hgr) 0 0).trans (Upd.drew1 wA)).trans hu3)
             replace ho3 := hide ho3
             replace hu3 := hide hu3)
          | (go_at_call 26
             refine (unhide hCc _ _ _ _ (by have := (unhide hu3).size; simp at this; omega) (fun j hj => ((unhide hu3).none.cell (by simp; omega)).trans (unhide kA j hj)) (unhide hpl) (unhide ho3)).mono ?_
             rintro e w4 ⟨x4, rfl, ho4, hb4⟩
             obtain ⟨ad4, cap4, rfl, _⟩ := OwnI.rd (Own.of ho4)
             have hS4 : w4.cell? ⟨w.heap.size, 0, none⟩ = some (.int .i64 (W : Int)) ∧ w4.cell? ⟨w.heap.size, 1, none⟩ = some (.int .i64 (H : Int)) ∧ w4.cell? ⟨w.heap.size, 2, none⟩ = some (.int .i64 (P : Int)) ∧ w4.cell? ⟨w.heap.size, 3, none⟩ = some (.int .i64 dp) ∧ w4.cell? ⟨w.heap.size, 4, none⟩ = some (.slice (some ⟨g, 0, none⟩) zs.length cap) ∧ w4.cell? ⟨wr.heap.size, 0, none⟩ = some (.int .i64 (X : Int)) ∧ w4.cell? ⟨wr.heap.size, 1, none⟩ = some (.int .i64 (Y : Int)) ∧ w4.cell? ⟨wr.heap.size, 2, none⟩ = some (.int .i64 (SX : Int)) ∧ w4.cell? ⟨wr.heap.size, 3, none⟩ = some (.int .i64 (SY : Int)) ∧ w4.cell? ⟨wr.heap.size, 4, none⟩ = some (.int .i64 (Pw : Int)) ∧ w4.cell? ⟨wr.heap.size, 5, none⟩ = some (.int .i64 (Ph : Int)) := ⟨(hb4.cell (p := ⟨w.heap.size, 0, none⟩) (by simp; omega)).trans hS3.1, (hb4.cell (p := ⟨w.heap.size, 1, none⟩) (by simp; omega)).trans hS3.2.1, (hb4.cell (p := ⟨w.heap.size, 2, none⟩) (by simp; omega)).trans hS3.2.2.1, (hb4.cell (p := ⟨w.heap.size, 3, none⟩) (by simp; omega)).trans hS3.2.2.2.1, (hb4.cell (p := ⟨w.heap.size, 4, none⟩) (by simp; omega)).trans hS3.2.2.2.2.1, (hb4.cell (p := ⟨wr.heap.size, 0, none⟩) (by simp; omega)).trans hS3.2.2.2.2.2.1, (hb4.cell (p := ⟨wr.heap.size, 1, none⟩) (by simp; omega)).trans hS3.2.2.2.2.2.2.1, (hb4.cell (p := ⟨wr.heap.size, 2, none⟩) (by simp; omega)).trans hS3.2.2.2.2.2.2.2.1, (hb4.cell (p := ⟨wr.heap.size, 3, none⟩) (by simp; omega)).trans hS3.2.2.2.2.2.2.2.2.1, (hb4.cell (p := ⟨wr.heap.size, 4, none⟩) (by simp; omega)).trans hS3.2.2.2.2.2.2.2.2.2.1, (hb4.cell (p := ⟨wr.heap.size, 5, none⟩) (by simp; omega)).trans hS3.2.2.2.2.2.2.2.2.2.2⟩
             have hoY4 := hide ((unhide hoY3).keep (Upd.of_below hb4 0 0))
             have hz4 : wr.heap.size < w4.heap.size := by have := hb4.size; omega
             have hw4 := hide ((unhide hw3).trans (Upd.of_below hb4 0 0))
             replace ho4 := hide ho4
             replace hb4 := hide hb4))
      have hwB := hide ((unhide hw4).trans (Upd.of_below ((Below.refl w4.heap.size w4).alloc (Nat.le_refl _) (.cells #[.int .i64 (Pw : Int), .int .i64 (Ph : Int), .int .i64 (P : Int), .int .i64 dp, .slice ad4 (pixInts zs (W * P) P X Y SX SY Pw Ph).length cap4] 25)) 0 0))
      have hzB : (w4.alloc (.cells #[.int .i64 (Pw : Int), .int .i64 (Ph : Int), .int .i64 (P : Int), .int .i64 dp, .slice ad4 (pixInts zs (W * P) P X Y SX SY Pw Ph).length cap4] 25)).heap.size = w4.heap.size + 1 := by simp
      have hO4 := hide ((Own.of (unhide ho4)).keep (Upd.of_below ((Below.refl w4.heap.size w4).alloc (Nat.le_refl _) (.cells #[.int .i64 (Pw : Int), .int .i64 (Ph : Int), .int .i64 (P : Int), .int .i64 dp, .slice ad4 (pixInts zs (W * P) P X Y SX SY Pw Ph).length cap4] 25)) 0 0))
      have hlt4 := hide (unhide ho4).lt
      change World.grownBy (w4.alloc (.cells #[.int .i64 (Pw : Int), .int .i64 (Ph : Int), .int .i64 (P : Int), .int .i64 dp, .slice ad4 (pixInts zs (W * P) P X Y SX SY Pw Ph).length cap4] 25)) w5 _ at hg5
      change _ ∨ v5.ownBlock = some (w4.alloc (.cells #[.int .i64 (Pw : Int), .int .i64 (Ph : Int), .int .i64 (P : Int), .int .i64 dp, .slice ad4 (pixInts zs (W * P) P X Y SX SY Pw Ph).length cap4] 25)).heap.size at hb5
      generalize w4.alloc (.cells #[.int .i64 (Pw : Int), .int .i64 (Ph : Int), .int .i64 (P : Int), .int .i64 dp, .slice ad4 (pixInts zs (W * P) P X Y SX SY Pw Ph).length cap4] 25) = wB at hwB hzB hO4 hg5 hb5
      have hfin : OwnIs w5 w2.heap.size w5.heap.size v5 ((qs.take k).map (splitOne ((W : Int), (H : Int), (P : Int), dp, zs)) ++ [((Pw : Int), (Ph : Int), (P : Int), dp, pixInts zs (W * P) P X Y SX SY Pw Ph)]) := by
        refine ownIs_snoc (w3 := wB) (out := out) (u := .slice ad4 (pixInts zs (W * P) P X Y SX SY Pw Ph).length cap4) (ys := ys) (vs := vs) (fun j hj => own_mono ((unhide heY j hj).keep (unhide hwB)) (Nat.le_refl _) (unhide hwB).size) (unhide hrY) (unhide hdY) (unhide hxY) (by rw [hkl]; exact unhide hoYl) (own_mono (unhide hO4) (by omega) (by omega)) (fun x hx => ⟨fun e => ?_, fun j hj e => ?_⟩) (by rw [hkl]; exact ho5) hg5 hb5
        · have h1 := (unhide hlt4 x hx).1; have h2 := unhide hoB x e; omega
        · have h1 := (unhide hlt4 x hx).1; have h2 := (unhide heY j hj).2 x e; omega
      have hds : Hid ((qs.take (k + 1)).map (splitOne ((W : Int), (H : Int), (P : Int), dp, zs)) = (qs.take k).map (splitOne ((W : Int), (H : Int), (P : Int), dp, zs)) ++ [((Pw : Int), (Ph : Int), (P : Int), dp, pixInts zs (W * P) P X Y SX SY Pw Ph)]) := hide (by rw [unhide htk, List.map_append]; simp [splitOne])
      have hb6 : Below w2.heap.size w2 w5 := ((unhide hbel).trans ((unhide hwB).below hwr (.inr (Nat.zero_le _)))).grown hg5 (by have := (unhide hwB).size; omega) (fun x hx => (unhide hoB x hx).1)
      replace hfin := hide hfin
      replace hb6 := hide hb6
      clear ho5 hg5 hb5 hO4 hlt4 hwB heY hrY hdY hxY hoY hoYl hoB hw4 hw3 hS3 hS4 hS5 hSA hb4 hu3 ho3 ho4 hoY3 hoY4 htk hPx hCc hpl kA bA hgr hX hY hown hbel
      go_wp2
      go_roundw
      case rel => exact ⟨k + 1, _, rfl, by omega, by go_num, by rw [unhide hds]; exact hfin, hb6⟩
      case measure => simp [intOf]; omega
    · have hkl : k = qs.length := by omega
      subst hkl
      rw [List.take_length] at hown
      go_wp2
      go_ret
      exact ⟨_, rfl, by rw [unhide hpe]; exact (unhide hown).mono (show w.heap.size ≤ w2.heap.size by omega) (Nat.le_refl _), Upd.of_below ((unhide hU2).trans ((unhide hbel).mono (by omega))) 0 0⟩
end Go.Proofs.YtdochjkkgmkdgaaDoor

/- The walks of PackRow: the specification's. -/
namespace Go.Proofs.YtdochjkkgmkdgaaDoor
open Go.RowKit

theorem own_nilYR (w : World) (a b : Nat) : OwnY w a b (.slice none 0 0) [] := ⟨World.ownsRow_nil _ _ _ _, fun k hk => by simp [Value.ownBlock] at hk⟩

set_option maxHeartbeats 1000000 in
theorem specL4Depth (d : Int) (w : World) : Calls Tryd.prog 29 #[.int .i64 d] w fun e w' => e = .returned (.bool (depthOk d)) ∧ w' = w := by
  by_cases h : depthOk d = true
  · rw [h]
    rcases depthOk_cases h with e | e | e | e | e <;> subst e <;>
    · clear h
      go_enter Tryd.func29, Tryd.ntmps29
      go_wp2
      go_ret
      exact ⟨rfl, rfl⟩
  · have h' : depthOk d = false := by simpa using h
    rw [h']
    have h1 : (d == 1) = false := by unfold depthOk at h'; simp at h' ⊢; omega
    have h2 : (d == 2) = false := by unfold depthOk at h'; simp at h' ⊢; omega
    have h3 : (d == 4) = false := by unfold depthOk at h'; simp at h' ⊢; omega
    have h4 : (d == 8) = false := by unfold depthOk at h'; simp at h' ⊢; omega
    have h5 : (d == 16) = false := by unfold depthOk at h'; simp at h' ⊢; omega
    clear h h'
    go_enter Tryd.func29, Tryd.ntmps29
    go_wp2
    go_ret
    exact ⟨rfl, rfl⟩

end Go.Proofs.YtdochjkkgmkdgaaDoor

/- The walk of GoodImage: the specification's. -/
namespace Go.Proofs.YtdochjkkgmkdgaaDoor
open Go.RowKit

set_option maxHeartbeats 8000000 in
set_option maxRecDepth 1000000 in
theorem specGoodImage (v : Value) (d : Im) (w : World) (hn : d.2.2.2.2.length ≤ 1048576) (hR : InIm d) (hv : RdIm w v d) :
    Calls Tryd.prog 8 #[v] w fun e w' => e = .returned (.bool (goodImB d)) ∧ Upd 0 0 w w' := by
  obtain ⟨vl, rfl, h⟩ := hv
  obtain ⟨ad, cap, rfl, hA⟩ := h
  obtain ⟨a, b, p, dp, zs⟩ := d
  simp only [ims, imv] at hn hA ⊢
  have hB := (Below.refl w.heap.size w).alloc (Nat.le_refl _) (.cells #[.int .i64 a, .int .i64 b, .int .i64 p, .int .i64 dp, .slice ad zs.length cap] 25)
  have hU := hide (Upd.of_below hB 0 0)
  have hS := hide (fun W => specL4Sides a b W)
  have hD := hide (fun W => specL4Depth dp W)
  clear hR
  by_cases ha : 1 ≤ a ∧ a ≤ 512
  case neg =>
    rw [goodImB_no (fun h => ha h.1.1)]
    have e : sidesB a b = false := by unfold sidesB; rw [sideB_no ha]; rfl
    rw [e] at hS
    clear ha hB hA e
    go_enter Tryd.func8, Tryd.ntmps8
    go_wp2_with fail
    refine (unhide hS _).mono ?_
    rintro e w1 ⟨rfl, rfl⟩
    go_wp2
    go_ret
    exact ⟨rfl, unhide hU⟩
  by_cases hb : 1 ≤ b ∧ b ≤ 512
  case neg =>
    rw [goodImB_no (fun h => hb h.1.2.1)]
    have e : sidesB a b = false := by unfold sidesB; rw [sideB_no hb]; simp
    rw [e] at hS
    clear ha hb hB hA e
    go_enter Tryd.func8, Tryd.ntmps8
    go_wp2_with fail
    refine (unhide hS _).mono ?_
    rintro e w1 ⟨rfl, rfl⟩
    go_wp2
    go_ret
    exact ⟨rfl, unhide hU⟩
  have e : sidesB a b = true := by unfold sidesB; rw [sideB_yes ha, sideB_yes hb]; rfl
  rw [e] at hS
  obtain ⟨P, hP, P1, P2⟩ := prod_bd ha hb
  by_cases hP4 : 4096 < P
  · rw [goodImB_no (fun h => by have := h.1.2.2.1; simp only at this; omega)]
    clear ha hb hB hA e
    go_enter Tryd.func8, Tryd.ntmps8
    go_wp2_with fail
    refine (unhide hS _).mono ?_
    rintro e w1 ⟨rfl, rfl⟩
    go_wp2
    go_ret
    exact ⟨rfl, unhide hU⟩
  have P3 : P ≤ 4096 := by omega
  have qP : decide (4096 < P) = false := by simp; omega
  by_cases hp1 : p < 1
  · rw [goodImB_no (fun h => by have := h.1.2.2.2.1.1; simp only at this; omega)]
    have q : decide (p < 1) = true := by simp; omega
    clear ha hb hB hA e
    go_enter Tryd.func8, Tryd.ntmps8
    go_wp2_with fail
    refine (unhide hS _).mono ?_
    rintro e w1 ⟨rfl, rfl⟩
    go_wp2
    go_ret
    exact ⟨rfl, unhide hU⟩
  have q1 : decide (p < 1) = false := by simp; omega
  by_cases hp2 : 4 < p
  · rw [goodImB_no (fun h => by have := h.1.2.2.2.1.2; simp only at this; omega)]
    have q : decide (4 < p) = true := by simp; omega
    clear ha hb hB hA e
    go_enter Tryd.func8, Tryd.ntmps8
    go_wp2_with fail
    refine (unhide hS _).mono ?_
    rintro e w1 ⟨rfl, rfl⟩
    go_wp2
    go_ret
    exact ⟨rfl, unhide hU⟩
  have q2 : decide (4 < p) = false := by simp; omega
  by_cases hd : depthOk dp = true
  case neg =>
    rw [goodImB_no (fun h => hd h.1.2.2.2.2.1)]
    have hd' : depthOk dp = false := by simpa using hd
    rw [hd'] at hD
    clear ha hb hB hA e hd hd'
    go_enter Tryd.func8, Tryd.ntmps8
    go_wp2_with fail
    refine (unhide hS _).mono ?_
    rintro e w1 ⟨rfl, rfl⟩
    go_wp2_with fail
    refine (unhide hD _).mono ?_
    rintro e w1 ⟨rfl, rfl⟩
    go_wp2
    go_ret
    exact ⟨rfl, unhide hU⟩
  rw [hd] at hD
  obtain ⟨D, rfl, hD1, hD16⟩ := depthOk_nat hd
  obtain ⟨Q, hQ, Q1, Q2⟩ := prod3_bd (P := P) (p := p) ⟨P1, P3⟩ ⟨by omega, by omega⟩
  by_cases hpd : p = 1 ∨ 8 ≤ (D : Int)
  case neg =>
    rw [goodImB_no (fun h => hpd h.1.2.2.2.2.2)]
    have r1 : decide (1 < p) = true := by simp; omega
    have r2 : decide ((D : Int) < 8) = true := by simp; omega
    replace hd := hide hd
    clear ha hb hB hA e hpd
    go_enter Tryd.func8, Tryd.ntmps8
    go_wp2_with fail
    refine (unhide hS _).mono ?_
    rintro e w1 ⟨rfl, rfl⟩
    go_wp2_with fail
    refine (unhide hD _).mono ?_
    rintro e w1 ⟨rfl, rfl⟩
    go_wp2
    go_ret
    exact ⟨rfl, unhide hU⟩
  have hShape : Hid (ShapeOk a b p (D : Int)) := hide ⟨ha, hb, by omega, ⟨by omega, by omega⟩, hd, hpd⟩
  have hGood : Hid ((zs.length : Int) = Q → SmpOk zs (D : Int) → goodImB (a, b, p, (D : Int), zs) = true) := hide (fun h1 h2 => goodImB_yes ⟨unhide hShape, by show (zs.length : Int) = a * b * p; rw [hP, hQ]; exact h1, h2⟩)
  have hBad : Hid (¬ ((zs.length : Int) = Q ∧ SmpOk zs (D : Int)) → goodImB (a, b, p, (D : Int), zs) = false) := hide (fun h1 => goodImB_no (fun h => h1 ⟨by have := h.2.1; simp only at this; rw [hP, hQ] at this; exact this, h.2.2⟩))
  by_cases hl : (zs.length : Int) = Q
  case neg =>
    have r3 : ((zs.length : Int) != Q) = true := bne_iff_ne.2 hl
    have hF := hide (unhide hBad (fun h => hl h.1))
    replace hd := hide hd
    replace hl := hide hl
    rcases hpd with h1 | h1
    · subst h1
      rw [unhide hF]
      clear ha hb hB hA e
      go_enter Tryd.func8, Tryd.ntmps8
      go_wp2_with fail
      refine (unhide hS _).mono ?_
      rintro e w1 ⟨rfl, rfl⟩
      go_wp2_with fail
      refine (unhide hD _).mono ?_
      rintro e w1 ⟨rfl, rfl⟩
      go_wp2
      go_ret
      exact ⟨rfl, unhide hU⟩
    · rw [unhide hF]
      have r2 : decide ((D : Int) < 8) = false := by simp; omega
      clear ha hb hB hA e
      by_cases hp11 : 1 < p
      · have r1 : decide (1 < p) = true := by simp; omega
        go_enter Tryd.func8, Tryd.ntmps8
        go_wp2_with fail
        refine (unhide hS _).mono ?_
        rintro e w1 ⟨rfl, rfl⟩
        go_wp2_with fail
        refine (unhide hD _).mono ?_
        rintro e w1 ⟨rfl, rfl⟩
        go_wp2
        go_ret
        exact ⟨rfl, unhide hU⟩
      · have r1 : decide (1 < p) = false := by simp; omega
        go_enter Tryd.func8, Tryd.ntmps8
        go_wp2_with fail
        refine (unhide hS _).mono ?_
        rintro e w1 ⟨rfl, rfl⟩
        go_wp2_with fail
        refine (unhide hD _).mono ?_
        rintro e w1 ⟨rfl, rfl⟩
        go_wp2
        go_ret
        exact ⟨rfl, unhide hU⟩
  have r3 : ((zs.length : Int) != Q) = false := by simp [hl]
  have hG2 : Hid ((∀ k, k < zs.length → (0 ≤ zs.getD k 0 ∧ zs.getD k 0 < 2 ^ D)) → goodImB (a, b, p, (D : Int), zs) = true) := hide (fun h => unhide hGood hl (fun j hj => by have := h j hj; simpa using this))
  have hB2 : Hid (∀ k, k < zs.length → ¬ (0 ≤ zs.getD k 0 ∧ zs.getD k 0 < 2 ^ D) → goodImB (a, b, p, (D : Int), zs) = false) := hide (fun k hk h => unhide hBad (fun h' => h (by have := h'.2 k hk; simpa using this)))
  have hpw := two_pow_16 hD16
  replace hA := hide (hA.below hB)
  replace hd := hide hd
  replace hl := hide hl
  replace hpd := hide hpd
  clear hGood hBad ha hb hB e
  have hW3 : (w.alloc (.cells #[.int .i64 a, .int .i64 b, .int .i64 p, .int .i64 (D : Int), .slice ad zs.length cap] 25)).cell? ⟨w.heap.size, 3, none⟩ = some (.int .i64 (D : Int)) := by rw [World.cell?_alloc_at _ _ _ _ rfl]; rfl
  by_cases hp11 : 1 < p
  · have r1 : decide (1 < p) = true := by simp; omega
    have r2 : decide ((D : Int) < 8) = false := by have := unhide hpd; simp; omega
    go_enter Tryd.func8, Tryd.ntmps8
    go_wp2_with fail
    refine (unhide hS _).mono ?_
    rintro e w1 ⟨rfl, rfl⟩
    go_wp2_with fail
    refine (unhide hD _).mono ?_
    rintro e w1 ⟨rfl, rfl⟩
    go_wp2_with fail
    generalize w.alloc (.cells #[.int .i64 a, .int .i64 b, .int .i64 p, .int .i64 (D : Int), .slice ad zs.length cap] 25) = W1 at hU hA hW3 ⊢
    go_loop [60] (fun i => ∃ k : Nat, k ≤ zs.length ∧ i = .int .i64 k ∧ Hid (∀ j, j < k → (0 ≤ zs.getD j 0 ∧ zs.getD j 0 < 2 ^ D))) (fun i => zs.length - (intOf i).toNat)
    case atStart => exact ⟨0, Nat.zero_le _, rfl, fun j hj => by omega⟩
    case round =>
      obtain ⟨k, hk', rfl, hok⟩ := hrel
      by_cases hlt : k < zs.length
      · obtain ⟨bb, off, rfl, hbl, hcl⟩ := (unhide hA) (ne_of_lt_length hlt)
        have hck := hcl k hlt
        have hbad := hide (unhide hB2 k hlt)
        have hOk : Hid ((0 ≤ zs.getD k 0 ∧ zs.getD k 0 < 2 ^ D) → ∀ j, j < k + 1 → (0 ≤ zs.getD j 0 ∧ zs.getD j 0 < 2 ^ D)) := hide (fun h j hj => by
          rcases Nat.lt_or_eq_of_le (Nat.le_of_lt_succ hj) with h' | h'
          · exact unhide hok j h'
          · subst h'; exact h)
        clear hcl hbl
        generalize zs.getD k 0 = x at hck hbad hOk
        by_cases h1 : x < 0
        · have hB := hide (unhide hbad (fun h => by have := h.1; omega))
          clear hbad hOk
          go_wp2
          go_ret
          exact ⟨by rw [unhide hB]; rfl, unhide hU⟩
        · by_cases h2 : x < 2 ^ D
          · have hok2 := hide (unhide hOk ⟨by omega, h2⟩)
            clear hbad hOk
            go_wp2
            all_goals
              go_round
              case rel => exact ⟨k + 1, by omega, by go_num, unhide hok2⟩
              case measure => simp [intOf]; omega
          · have hB := hide (unhide hbad (fun h => h2 h.2))
            clear hbad hOk
            go_wp2
            go_ret
            exact ⟨by rw [unhide hB]; rfl, unhide hU⟩
      · have hkl : k = zs.length := by omega
        subst hkl
        have hs := hide (unhide hG2 (unhide hok))
        go_wp2
        go_ret
        exact ⟨by rw [unhide hs]; rfl, unhide hU⟩
  · have r1 : decide (1 < p) = false := by simp; omega
    go_enter Tryd.func8, Tryd.ntmps8
    go_wp2_with fail
    refine (unhide hS _).mono ?_
    rintro e w1 ⟨rfl, rfl⟩
    go_wp2_with fail
    refine (unhide hD _).mono ?_
    rintro e w1 ⟨rfl, rfl⟩
    go_wp2_with fail
    generalize w.alloc (.cells #[.int .i64 a, .int .i64 b, .int .i64 p, .int .i64 (D : Int), .slice ad zs.length cap] 25) = W1 at hU hA hW3 ⊢
    go_loop [60] (fun i => ∃ k : Nat, k ≤ zs.length ∧ i = .int .i64 k ∧ Hid (∀ j, j < k → (0 ≤ zs.getD j 0 ∧ zs.getD j 0 < 2 ^ D))) (fun i => zs.length - (intOf i).toNat)
    case atStart => exact ⟨0, Nat.zero_le _, rfl, fun j hj => by omega⟩
    case round =>
      obtain ⟨k, hk', rfl, hok⟩ := hrel
      by_cases hlt : k < zs.length
      · obtain ⟨bb, off, rfl, hbl, hcl⟩ := (unhide hA) (ne_of_lt_length hlt)
        have hck := hcl k hlt
        have hbad := hide (unhide hB2 k hlt)
        have hOk : Hid ((0 ≤ zs.getD k 0 ∧ zs.getD k 0 < 2 ^ D) → ∀ j, j < k + 1 → (0 ≤ zs.getD j 0 ∧ zs.getD j 0 < 2 ^ D)) := hide (fun h j hj => by
          rcases Nat.lt_or_eq_of_le (Nat.le_of_lt_succ hj) with h' | h'
          · exact unhide hok j h'
          · subst h'; exact h)
        clear hcl hbl
        generalize zs.getD k 0 = x at hck hbad hOk
        by_cases h1 : x < 0
        · have hB := hide (unhide hbad (fun h => by have := h.1; omega))
          clear hbad hOk
          go_wp2
          go_ret
          exact ⟨by rw [unhide hB]; rfl, unhide hU⟩
        · by_cases h2 : x < 2 ^ D
          · have hok2 := hide (unhide hOk ⟨by omega, h2⟩)
            clear hbad hOk
            go_wp2
            all_goals
              go_round
              case rel => exact ⟨k + 1, by omega, by go_num, unhide hok2⟩
              case measure => simp [intOf]; omega
          · have hB := hide (unhide hbad (fun h => h2 h.2))
            clear hbad hOk
            go_wp2
            go_ret
            exact ⟨by rw [unhide hB]; rfl, unhide hU⟩
      · have hkl : k = zs.length := by omega
        subst hkl
        have hs := hide (unhide hG2 (unhide hok))
        go_wp2
        go_ret
        exact ⟨by rw [unhide hs]; rfl, unhide hU⟩
end Go.Proofs.YtdochjkkgmkdgaaDoor

/- Split, as the specification has it. -/
namespace Go.Proofs.YtdochjkkgmkdgaaDoor
open Go.RowKit

theorem kind_sub {w : World} {g at_ P : Nat} {zs : List Int} (h : KindAt .i64 w g 0 zs) (hle : at_ + P ≤ zs.length) : KindAt .i64 w g at_ ((zs.drop at_).take P) := by
  intro j hj
  have hj' : j < P := by rw [List.length_take] at hj; omega
  have := h (at_ + j) (by omega)
  rw [Nat.zero_add] at this
  rw [this]
  simp [List.getD_eq_getElem?_getD, hj']
theorem pixInts_zero (zs : List Int) (n P X Y SX SY Pw : Nat) : pixInts zs n P X Y SX SY Pw 0 = [] := rfl
theorem pixInts_next (zs : List Int) (n P X Y SX SY Pw y : Nat) : pixInts zs n P X Y SX SY Pw (y + 1) = pixInts zs n P X Y SX SY Pw y ++ (List.range Pw).flatMap fun x => (zs.drop (pixOff n P X Y SX SY y x)).take P := by
  simp [pixInts, List.range_succ]
/-- What stands so far in a row. -/
def rowInts (zs : List Int) (n P X Y SX SY y x : Nat) : List Int := (List.range x).flatMap fun x => (zs.drop (pixOff n P X Y SX SY y x)).take P
theorem rowInts_next (zs : List Int) (n P X Y SX SY y x : Nat) : rowInts zs n P X Y SX SY y (x + 1) = rowInts zs n P X Y SX SY y x ++ (zs.drop (pixOff n P X Y SX SY y x)).take P := by
  simp [rowInts, List.range_succ]
theorem rowInts_le (zs : List Int) (n P X Y SX SY y x : Nat) : (rowInts zs n P X Y SX SY y x).length ≤ x * P := by
  induction x with
  | zero => simp [rowInts]
  | succ k ih => rw [rowInts_next, List.length_append, Nat.add_mul, Nat.one_mul]; exact Nat.add_le_add ih (by rw [List.length_take]; exact Nat.min_le_left _ _)

set_option maxHeartbeats 8000000 in
set_option maxRecDepth 100000 in
theorem specL4Split (W H P g cap : Nat) (dp : Int) (zs : List Int) (w : World) (hW' : 1 ≤ W ∧ W ≤ 512) (hH' : 1 ≤ H ∧ H ≤ 512) (hP' : 1 ≤ P ∧ P ≤ 4) (hL0 : zs.length = H * (W * P)) (hgl : g < w.heap.size) (hcap : zs.length ≤ cap) (hk0 : KindAt .i64 w g 0 zs) (hn : zs.length ≤ 1048576) :
    Calls Tryd.prog 37 #[.agg #[.int .i64 (W : Int), .int .i64 (H : Int), .int .i64 (P : Int), .int .i64 dp, .slice (some ⟨g, 0, none⟩) zs.length cap]] w fun e w' => ∃ u, e = .returned u ∧ OwnIs w' w.heap.size w'.heap.size u ((passTo (W : Int) (H : Int) 7).map (splitOne ((W : Int), (H : Int), (P : Int), dp, zs))) ∧ Upd 0 0 w w' := by
  have hB0 := (Below.refl w.heap.size w).alloc (Nat.le_refl _) (.cells #[.int .i64 (W : Int), .int .i64 (H : Int), .int .i64 (P : Int), .int .i64 dp, .slice (some ⟨g, 0, none⟩) zs.length cap] 25)
  have hH0 := held_new w [.int .i64 (W : Int), .int .i64 (H : Int), .int .i64 (P : Int), .int .i64 dp, .slice (some ⟨g, 0, none⟩) zs.length cap] 25
  have hPs := hide (fun (V : World) => specL4Passes (W : Int) (H : Int) V (by omega) (by omega))
  have hfit := hide (passTo_fits hW' hH' 7 (Nat.le_refl _))
  have hL := hide hL0
  have hk1 : Hid (KindAt .i64 (w.alloc (.cells #[.int .i64 (W : Int), .int .i64 (H : Int), .int .i64 (P : Int), .int .i64 dp, .slice (some ⟨g, 0, none⟩) zs.length cap] 25)) g 0 zs) := hide (fun j hj => (hB0.cell (by simpa using hgl)).trans (hk0 j hj))
  clear hk0 hL0
  replace hB0 := hide hB0
  replace hH0 := hide hH0
  go_enter Tryd.func37, Tryd.ntmps37
  go_wp2_with fail
  change Hid (Held (w.alloc (.cells #[.int .i64 (W : Int), .int .i64 (H : Int), .int .i64 (P : Int), .int .i64 dp, .slice (some ⟨g, 0, none⟩) zs.length cap] 25)) _ _) at hH0
  have hz1 : (w.alloc (.cells #[.int .i64 (W : Int), .int .i64 (H : Int), .int .i64 (P : Int), .int .i64 dp, .slice (some ⟨g, 0, none⟩) zs.length cap] 25)).heap.size = w.heap.size + 1 := by simp
  generalize w.alloc (.cells #[.int .i64 (W : Int), .int .i64 (H : Int), .int .i64 (P : Int), .int .i64 dp, .slice (some ⟨g, 0, none⟩) zs.length cap] 25) = w1 at hB0 hH0 hk1 hz1 ⊢
  refine (unhide hPs _).mono ?_
  rintro e w2 ⟨vp, rfl, hop, hu2⟩
  have kH2 := (unhide hH0).keep hu2
  have kK2 : Hid (KindAt .i64 w2 g 0 zs) := hide (fun j hj => (hu2.none.cell (by simp; omega)).trans (unhide hk1 j hj))
  have hU2 := hide (below_upd (unhide hB0) hu2 (Nat.le_refl _) (.inr (Nat.zero_le _)))
  have hws2 : w.heap.size + 1 ≤ w2.heap.size := by have := hu2.size; omega
  obtain ⟨adp, capp, rfl, hAp⟩ := OwnPs.rd hop
  clear hop hu2 hB0 hH0 hk1 hPs hz1 w1
  have hC := hide (And.intro (kH2.2 0 _ rfl) (And.intro (kH2.2 1 _ rfl) (And.intro (kH2.2 2 _ rfl) (And.intro (kH2.2 3 _ rfl) (kH2.2 4 _ rfl)))))
  clear kH2
  have hql := passTo_len (W : Int) (H : Int) 7
  obtain ⟨qs, hqs⟩ : ∃ qs, passTo (W : Int) (H : Int) 7 = qs := ⟨_, rfl⟩
  rw [hqs] at hAp hfit hql ⊢
  replace hqs := hide hqs
  replace hAp := hide hAp
  have hgl2 : g < w2.heap.size := by omega
  go_wp2
  go_loopw [3, 16] (fun o i wr => ∃ (k : Nat) (out : Value) (wO : World), wO = wr ∧ out = o ∧ k ≤ qs.length ∧ i = .int .i64 k ∧ Hid (OwnIs wr w2.heap.size wr.heap.size out ((qs.take k).map (splitOne ((W : Int), (H : Int), (P : Int), dp, zs)))) ∧ Hid (Below w2.heap.size w2 wr)) (fun _ i _ => qs.length - (intOf i).toNat)
  case atStart => exact ⟨0, _, _, rfl, rfl, Nat.zero_le _, rfl, hide ⟨[], fun _ => undef, ⟨World.ownsRow_nil _ _ _ _, fun k hk => by simp [Value.ownBlock] at hk⟩, fun j hj => by simp at hj, fun j hj => by simp at hj, fun i j hi => by simp at hi, fun j hj => by simp at hj⟩, hide (Below.refl _ _)⟩
  case round =>
    obtain ⟨k, out, wO, rfl, rfl, hk, rfl, hown, hbel⟩ := hrel
    by_cases hlt : k < qs.length
    · obtain ⟨b, off, rfl, hbl, hc⟩ := (unhide hAp) (ne_of_lt_length hlt)
      obtain ⟨d0, d1, d2, d3, d4, d5⟩ := hc k hlt
      have hf := unhide hfit (qs.getD k Ps0) (by rw [List.getD_eq_getElem?_getD, List.getElem?_eq_getElem hlt]; exact List.getElem_mem hlt)
      have htk := hide (take_snoc_getD qs Ps0 k hlt)
      clear hc
      generalize qs.getD k Ps0 = q at d0 d1 d2 d3 d4 d5 hf htk
      obtain ⟨X, Y, SX, SY, Pw, Ph, rfl, hX, hY, hw, hh, hX4, hY4, hS8, hT8⟩ := hf
      simp only at d0 d1 d2 d3 d4 d5
      replace d0 := ((unhide hbel).cell (by simpa using hbl)).trans d0
      replace d1 := ((unhide hbel).cell (by simpa using hbl)).trans d1
      replace d2 := ((unhide hbel).cell (by simpa using hbl)).trans d2
      replace d3 := ((unhide hbel).cell (by simpa using hbl)).trans d3
      replace d4 := ((unhide hbel).cell (by simpa using hbl)).trans d4
      replace d5 := ((unhide hbel).cell (by simpa using hbl)).trans d5
      replace hX := hide hX
      replace hY := hide hY
      have hwr := (unhide hbel).size
      have pA := held_new wO [.int .i64 (X : Int), .int .i64 (Y : Int), .int .i64 (SX : Int), .int .i64 (SY : Int), .int .i64 (Pw : Int), .int .i64 (Ph : Int)] 33
      have bA := (unhide hbel).alloc hwr (.cells #[.int .i64 (X : Int), .int .i64 (Y : Int), .int .i64 (SX : Int), .int .i64 (SY : Int), .int .i64 (Pw : Int), .int .i64 (Ph : Int)] 33)
      have hsA : (wO.alloc (.cells #[.int .i64 (X : Int), .int .i64 (Y : Int), .int .i64 (SX : Int), .int .i64 (SY : Int), .int .i64 (Pw : Int), .int .i64 (Ph : Int)] 33)).heap.size = wO.heap.size + 1 := by simp
      have gA := (Below.refl wO.heap.size wO).alloc (Nat.le_refl _) (.cells #[.int .i64 (X : Int), .int .i64 (Y : Int), .int .i64 (SX : Int), .int .i64 (SY : Int), .int .i64 (Pw : Int), .int .i64 (Ph : Int)] 33)
      obtain ⟨c0, c1, c2, c3, c4⟩ := unhide hC
      go_upto_region 5 with fail
      change Held (wO.alloc (.cells #[.int .i64 (X : Int), .int .i64 (Y : Int), .int .i64 (SX : Int), .int .i64 (SY : Int), .int .i64 (Pw : Int), .int .i64 (Ph : Int)] 33)) wO.heap.size _ at pA
      generalize wO.alloc (.cells #[.int .i64 (X : Int), .int .i64 (Y : Int), .int .i64 (SX : Int), .int .i64 (SY : Int), .int .i64 (Pw : Int), .int .i64 (Ph : Int)] 33) = wA at pA bA hsA gA ⊢
      have m2 := (bA.cell (p := ⟨w.heap.size, 2, none⟩) (by simp; omega)).trans c2
      have m3 := (bA.cell (p := ⟨w.heap.size, 3, none⟩) (by simp; omega)).trans c3
      have n4 := pA.2 4 _ rfl
      have n5 := pA.2 5 _ rfl
      have pB := heldF_new wA [.int .i64 (Pw : Int), .int .i64 (Ph : Int), .int .i64 (P : Int), .int .i64 dp, .slice none 0 0] 25
      have bB := bA.alloc (by omega) (.cells #[.int .i64 (Pw : Int), .int .i64 (Ph : Int), .int .i64 (P : Int), .int .i64 dp, .slice none 0 0] 25)
      have gB := gA.alloc (by omega) (.cells #[.int .i64 (Pw : Int), .int .i64 (Ph : Int), .int .i64 (P : Int), .int .i64 dp, .slice none 0 0] 25)
      have kP := pA.keep (Upd.of_below ((Below.refl wA.heap.size wA).alloc (Nat.le_refl _) (.cells #[.int .i64 (Pw : Int), .int .i64 (Ph : Int), .int .i64 (P : Int), .int .i64 dp, .slice none 0 0] 25)) 0 0)
      have hsB : (wA.alloc (.cells #[.int .i64 (Pw : Int), .int .i64 (Ph : Int), .int .i64 (P : Int), .int .i64 dp, .slice none 0 0] 25)).heap.size = wO.heap.size + 2 := by simp; omega
      clear d0 d1 d2 d3 d4 d5 c0 c1 c2 c3 c4
      go_upto_region 6 with fail
      change HeldF (wA.alloc (.cells #[.int .i64 (Pw : Int), .int .i64 (Ph : Int), .int .i64 (P : Int), .int .i64 dp, .slice none 0 0] 25)) wA.heap.size _ at pB
      change Held (wA.alloc (.cells #[.int .i64 (Pw : Int), .int .i64 (Ph : Int), .int .i64 (P : Int), .int .i64 dp, .slice none 0 0] 25)) _ _ at kP
      rw [hsA] at pB
      generalize wA.alloc (.cells #[.int .i64 (Pw : Int), .int .i64 (Ph : Int), .int .i64 (P : Int), .int .i64 dp, .slice none 0 0] 25) = wB at pB bB gB kP hsB ⊢
      have hacc : Hid (wB.ownsRow (wO.heap.size + 2) 3 1 (.slice none 0 0) (pixInts zs (W * P) P X Y SX SY Pw 0).length (ints (pixInts zs (W * P) P X Y SX SY Pw 0))) := hide (World.ownsRow_nil _ _ _ _)
      replace pB := hide pB
      replace bB := hide bB
      replace gB := hide gB
      replace kP := hide kP
      clear m2 m3 n4 n5 pA bA gA hsA
      go_wp2
      go_loopw [7] (fun s wy => ∃ (y : Nat) (ad : Option Addr) (cp : Nat) (wY : World), wY = wy ∧ s = .int .i64 y ∧ y ≤ Ph ∧ Hid (HeldF wy (wO.heap.size + 1) [.int .i64 (Pw : Int), .int .i64 (Ph : Int), .int .i64 (P : Int), .int .i64 dp, .slice ad (pixInts zs (W * P) P X Y SX SY Pw y).length cp]) ∧ Hid (wy.ownsRow (wO.heap.size + 2) 3 1 (.slice ad (pixInts zs (W * P) P X Y SX SY Pw y).length cp) (pixInts zs (W * P) P X Y SX SY Pw y).length (ints (pixInts zs (W * P) P X Y SX SY Pw y))) ∧ Hid (Held wy wO.heap.size [.int .i64 (X : Int), .int .i64 (Y : Int), .int .i64 (SX : Int), .int .i64 (SY : Int), .int .i64 (Pw : Int), .int .i64 (Ph : Int)]) ∧ Hid (Below w2.heap.size w2 wy) ∧ Hid (Below wO.heap.size wO wy)) (fun s _ => Ph - (intOf s).toNat)
      case atStart => exact ⟨0, none, 0, _, rfl, rfl, Nat.zero_le _, pB, hacc, kP, bB, gB⟩
      case round =>
        clear pB hacc kP bB gB hbel
        obtain ⟨y, ad, cp, wY, rfl, rfl, hyle, pB, hacc, kP, bB, gB⟩ := hrel
        by_cases hy : y < Ph
        · have n5 := (unhide kP).2 5 _ rfl
          obtain ⟨A, hA⟩ : ∃ A, pixInts zs (W * P) P X Y SX SY Pw y = A := ⟨_, rfl⟩
          have hAl : A.length ≤ 1048576 := by rw [← hA]; exact Nat.le_trans (pixInts_le zs (W * P) P X Y SX SY Pw y) (Nat.le_trans (Nat.mul_le_mul (Nat.le_trans hyle hh.2) (Nat.mul_le_mul hw.2 hP'.2)) (by omega))
          rw [hA] at pB hacc
          replace hA := hide hA
          go_wp2
          clear n5
          go_loopw [8] (fun s wx => ∃ (x : Nat) (ad : Option Addr) (cp : Nat) (wX : World), wX = wx ∧ s = .int .i64 x ∧ x ≤ Pw ∧ Hid (HeldF wx (wO.heap.size + 1) [.int .i64 (Pw : Int), .int .i64 (Ph : Int), .int .i64 (P : Int), .int .i64 dp, .slice ad (A ++ rowInts zs (W * P) P X Y SX SY y x).length cp]) ∧ Hid (wx.ownsRow (wO.heap.size + 2) 3 1 (.slice ad (A ++ rowInts zs (W * P) P X Y SX SY y x).length cp) (A ++ rowInts zs (W * P) P X Y SX SY y x).length (ints (A ++ rowInts zs (W * P) P X Y SX SY y x))) ∧ Hid (Held wx wO.heap.size [.int .i64 (X : Int), .int .i64 (Y : Int), .int .i64 (SX : Int), .int .i64 (SY : Int), .int .i64 (Pw : Int), .int .i64 (Ph : Int)]) ∧ Hid (Below w2.heap.size w2 wx) ∧ Hid (Below wO.heap.size wO wx)) (fun s _ => Pw - (intOf s).toNat)
          case atStart => exact ⟨0, ad, cp, _, rfl, rfl, Nat.zero_le _, by rw [show rowInts zs (W * P) P X Y SX SY y 0 = [] from rfl, List.append_nil]; exact pB, by rw [show rowInts zs (W * P) P X Y SX SY y 0 = [] from rfl, List.append_nil]; exact hacc, kP, bB, gB⟩
          case round =>
            clear pB hacc kP bB gB
            obtain ⟨x, ad, cp, wX, rfl, rfl, hxle, pB, hacc, kP, bB, gB⟩ := hrel
            by_cases hx : x < Pw
            · obtain ⟨m1, hm1⟩ : ∃ m, m = y * SY := ⟨_, rfl⟩
              have e1 : (y : Int) * (SY : Int) = (m1 : Int) := by rw [hm1]; simp
              have hYy := unhide hY y hy
              obtain ⟨m2, hm2⟩ : ∃ m, m = (Y + m1) * W := ⟨_, rfl⟩
              have e2 : ((Y : Int) + (m1 : Int)) * (W : Int) = (m2 : Int) := by rw [hm2]; simp
              obtain ⟨m3, hm3⟩ : ∃ m, m = x * SX := ⟨_, rfl⟩
              have e3 : (x : Int) * (SX : Int) = (m3 : Int) := by rw [hm3]; simp
              have hXx := unhide hX x hx
              obtain ⟨m4, hm4⟩ : ∃ m, m = (m2 + X + m3) * P := ⟨_, rfl⟩
              have e4 : ((m2 : Int) + (X : Int) + (m3 : Int)) * (P : Int) = (m4 : Int) := by rw [hm4]; simp
              have hat : m4 = pixOff (W * P) P X Y SX SY y x := by
                rw [hm4, hm2, hm1, hm3]; unfold pixOff
                rw [Nat.add_assoc, Nat.add_mul, Nat.mul_assoc]
              have hle : m4 + P ≤ zs.length := by rw [hat, unhide hL]; exact pixOff_le rfl hXx hYy
              rw [← hm1] at hYy
              rw [← hm3] at hXx
              have hm2l : m2 ≤ 262144 := by rw [hm2]; exact Nat.le_trans (Nat.mul_le_mul (show Y + m1 ≤ 512 by omega) hW'.2) (by omega)
              have hxl : (rowInts zs (W * P) P X Y SX SY y x).length ≤ 2048 := Nat.le_trans (rowInts_le zs (W * P) P X Y SX SY y x) (Nat.le_trans (Nat.mul_le_mul (Nat.le_trans hxle hw.2) hP'.2) (by omega))
              have hnew := rowInts_next zs (W * P) P X Y SX SY y x
              rw [← hat] at hnew
              replace hnew := hide hnew
              replace hat := hide hat
              have hc0 := unhide hC
              have hC2 := bB
              clear hm1 hm2 hm3 hm4
              have i0 := ((unhide bB).cell (p := ⟨w.heap.size, 0, none⟩) (by simp; omega)).trans hc0.1
              have i2 := ((unhide bB).cell (p := ⟨w.heap.size, 2, none⟩) (by simp; omega)).trans hc0.2.2.1
              have i4 := ((unhide bB).cell (p := ⟨w.heap.size, 4, none⟩) (by simp; omega)).trans hc0.2.2.2.2
              have kx : Hid (KindAt .i64 wX g 0 zs) := hide (fun j hj => ((unhide bB).cell (by simpa using hgl2)).trans (unhide kK2 j hj))
              clear hc0 hC2
              have n0 := (unhide kP).2 0 _ rfl
              have n1 := (unhide kP).2 1 _ rfl
              have n2 := (unhide kP).2 2 _ rfl
              have n3 := (unhide kP).2 3 _ rfl
              have n4 := (unhide kP).2 4 _ rfl
              go_upto_region 13 with fail
              clear n0 n1 n2 n3 n4 i0
              obtain ⟨C, hCe⟩ : ∃ C, A ++ rowInts zs (W * P) P X Y SX SY y x = C := ⟨_, rfl⟩
              have hCl : C.length ≤ 1100000 := by rw [← hCe, List.length_append]; omega
              rw [hCe] at pB hacc
              have hnx : Hid (A ++ rowInts zs (W * P) P X Y SX SY y (x + 1) = C ++ (zs.drop m4).take P) := hide (by rw [unhide hnew, ← List.append_assoc, hCe])
              replace hCe := hide hCe
              have hnl : ((zs.drop m4).take P).length = P := by rw [List.length_take, List.length_drop]; omega
              have hks : Hid (KindAt .i64 wX.drew g m4 ((zs.drop m4).take P)) := hide (fun j hj => kind_sub (unhide kx) hle j hj)
              generalize (zs.drop m4).take P = new at hnx hnl hks
              have p4 := (unhide pB).1.2 4 _ rfl
              have hOd := hide ((Own.of (unhide hacc)).keep (Upd.drew1 wX)).1
              have pBd := hide ((unhide pB).keep (Upd.drew1 wX))
              have bBd := hide (below_upd (unhide bB) (Upd.drew1 wX) (Nat.le_refl _) (.inr (Nat.zero_le _)))
              have gBd := hide (below_upd (unhide gB) (Upd.drew1 wX) (Nat.le_refl _) (.inr (Nat.zero_le _)))
              have kPd := hide ((unhide kP).keep (Upd.drew1 wX))
              have hsX : wO.heap.size + 2 ≤ wX.heap.size := by have := (unhide pB).1.1; omega
              obtain ⟨iI, hI, hI0, hI1, hI2⟩ := info_parts infoI
              clear pB bB gB kP hacc kx hxl hnew hat
              have q1 : IntKind.i64.wrap ((m4 : Int) + (P : Int)) = (m4 : Int) + (P : Int) := by simp [IntKind.wrap, IntKind.bits, IntKind.signed]; omega
              have q2 : (0 : Int) ≤ (m4 : Int) + (P : Int) := by omega
              have q3 : (m4 : Int) + (P : Int) ≤ (cap : Int) := by omega
              have q4 : ((m4 : Int) + (P : Int)).toNat = m4 + P := by omega
              have q5 : ¬ cap = m4 := by omega
              clear e1 e2 e3 e4
              go_region_law
                (first
                  | (refine step_append_at rfl (.tmp 63) (.tmp 71) 23 rfl (wO.heap.size + 2) 3 iI (.int .i64 0) 1 8 Tryd.underlying23 hI hI0 hI1 hI2 rfl (by decide) (.slice ad C.length cp) C.length (ints C) rfl (unhide hOd) ⟨g, m4, none⟩ P (cap - m4) (ints new) rfl (by rw [ints_lengthA]; omega) (ints_cells (unhide hks)) (ints_one _) (by unfold maxLen; omega) (by omega) (by simp; omega) ?_
                     intro v5 w5 ho5 hg5 hb5
                     have hO5 : w5.ownsRow (wO.heap.size + 2) 3 1 v5 (C ++ new).length (ints (C ++ new)) := by rw [List.length_append, hnl, ints_append]; exact ho5
                     have hu5 := upd_of_grownI hg5 (unhide hOd)
                     have pB5 := hide ((unhide pBd).upd hu5 (.inl (by omega)))
                     have bB5 := hide (below_upd (unhide bBd) hu5 (by have := (unhide bBd).size; omega) (.inl (by omega)))
                     have gB5 := hide (below_upd (unhide gBd) hu5 (Nat.le_refl _) (.inl (by omega)))
                     have kP5 := hide ((unhide kPd).upd hu5 (.inl (by omega)))
                     have p45 := (unhide pB5).1.2 4 _ rfl
                     have z45 := (unhide pB5).2 4
                     obtain ⟨ad5, cp5, rfl, _⟩ := OwnI.rd (Own.of hO5)
                     rw [List.length_append, hnl]
                     replace hO5 := hide hO5
                     clear hg5 hb5 ho5 hu5))
              all_goals
                have hst := hide ((unhide pB5).set 4 (.slice ad5 (C.length + P) cp5) (by simp))
                simp only [List.set_cons_zero, List.set_cons_succ] at hst
                have hac := hide (ownsRow_setCell_below (a := ⟨wO.heap.size + 1, 4, none⟩) (unhide hO5) (show wO.heap.size + 1 < wO.heap.size + 2 by omega) (.slice ad5 (C.length + P) cp5))
                have hus := (Upd.refl (wO.heap.size + 1) (wO.heap.size + 2) w5).setCell (r := wO.heap.size + 1) ⟨Nat.le_refl _, by omega⟩ 4 (.slice ad5 (C.length + P) cp5)
                have kst := hide ((unhide kP5).upd hus (.inl (Nat.le_refl _)))
                have bst := hide (below_upd (unhide bB5) hus (by have := (unhide bB5).size; omega) (.inl (by omega)))
                have gst := hide (below_upd (unhide gB5) hus (Nat.le_refl _) (.inl (by omega)))
                generalize w5.setCell ⟨wO.heap.size + 1, 4, none⟩ (.slice ad5 (C.length + P) cp5) = w6 at hst hac kst bst gst ⊢
                clear hus pB5 bB5 gB5 kP5 p45 z45 hO5 q1 q2 q3 q4 q5 pBd bBd gBd kPd hOd hks p4 i2 i4
                go_wp2
                go_roundw
                case rel => exact ⟨x + 1, ad5, cp5, _, rfl, by go_num, by omega, by rw [unhide hnx, List.length_append, hnl]; exact hst, by rw [unhide hnx]; exact hac, kst, bst, gst⟩
                case measure => simp [intOf]; omega
            · have hxe : x = Pw := by omega
              subst hxe
              have n4 := (unhide kP).2 4 _ rfl
              have hpn : Hid (pixInts zs (W * P) P X Y SX SY x (y + 1) = A ++ rowInts zs (W * P) P X Y SX SY y x) := hide (by rw [pixInts_next, unhide hA]; rfl)
              go_wp2
              clear n4
              go_roundw
              case rel => exact ⟨y + 1, ad, cp, _, rfl, by go_num, by omega, by rw [unhide hpn]; exact pB, by rw [unhide hpn]; exact hacc, kP, bB, gB⟩
              case measure => simp [intOf]; omega
        · have hye : y = Ph := by omega
          subst hye
          have n5 := (unhide kP).2 5 _ rfl
          obtain ⟨iI, hI, hI0, hI1, hI2⟩ := info_parts infoIs
          obtain ⟨ys, vs, hoY, hrY, heY, hdY, hxY⟩ := unhide hown
          have hkl : ((qs.take k).map (splitOne ((W : Int), (H : Int), (P : Int), dp, zs))).length = k := by rw [List.length_map, List.length_take]; omega
          rw [hkl] at hoY
          have hoB : Hid (∀ x, out.ownBlock = some x → w2.heap.size ≤ x ∧ x < wO.heap.size) := hide (fun x hx => hoY.1.lt x hx)
          have hoYl : Hid (ys.length = k * 5) := hide hoY.1.1
          have hwB := hide ((Upd.of_below (unhide gB) 0 0).trans (Upd.of_below ((Below.refl wY.heap.size wY).alloc (Nat.le_refl _) (.cells #[.int .i64 (Pw : Int), .int .i64 (y : Int), .int .i64 (P : Int), .int .i64 dp, .slice ad (pixInts zs (W * P) P X Y SX SY Pw y).length cp] 25)) 0 0))
          have hoZ := hide (hoY.keep (unhide hwB)).1
          have hO4 := hide ((Own.of (unhide hacc)).keep (Upd.of_below ((Below.refl wY.heap.size wY).alloc (Nat.le_refl _) (.cells #[.int .i64 (Pw : Int), .int .i64 (y : Int), .int .i64 (P : Int), .int .i64 dp, .slice ad (pixInts zs (W * P) P X Y SX SY Pw y).length cp] 25)) 0 0))
          have hlt4 := hide (unhide hacc).lt
          have hzY : wO.heap.size + 2 ≤ wY.heap.size := by have := (unhide pB).1.1; omega
          have r0 := (unhide pB).1.2 0 _ rfl
          have r1 := (unhide pB).1.2 1 _ rfl
          have r2 := (unhide pB).1.2 2 _ rfl
          have r3 := (unhide pB).1.2 3 _ rfl
          have r4 := (unhide pB).1.2 4 _ rfl
          have rl := (unhide pB).1.1
          replace hrY := hide hrY
          replace heY := hide heY
          replace hdY := hide hdY
          replace hxY := hide hxY
          clear hoY
          have hone : Hid (∀ u ∈ ([.int .i64 (Pw : Int), .int .i64 (y : Int), .int .i64 (P : Int), .int .i64 dp, .slice ad (pixInts zs (W * P) P X Y SX SY Pw y).length cp] : List Value), u.oneCell' = true) := hide (by intro u hu; simp at hu; rcases hu with rfl | rfl | rfl | rfl | rfl <;> rfl)
          go_wp2_with (at_builtin; go_loud (refine wpList_append_own_at _ rfl (.tmp 74) (.tmp 76) 27 rfl w2.heap.size 25 iI (.agg #[.int .i64 0, .int .i64 0, .int .i64 0, .int .i64 0, .slice none 0 0]) 5 56 Tryd.underlying27 hI hI0 hI1 hI2 rfl (by decide) out k ys rfl (unhide hoZ) ⟨wY.heap.size, 0, none⟩ 1 1 [.int .i64 (Pw : Int), .int .i64 (y : Int), .int .i64 (P : Int), .int .i64 dp, .slice ad (pixInts zs (W * P) P X Y SX SY Pw y).length cp] rfl rfl (new_cells wY [.int .i64 (Pw : Int), .int .i64 (y : Int), .int .i64 (P : Int), .int .i64 dp, .slice ad (pixInts zs (W * P) P X Y SX SY Pw y).length cp] 25) (unhide hone) (by unfold maxLen; omega) (by omega) (by simp; omega) ?_))
          intro v5 w5 ho5 hg5 _ hb5
          clear r0 r1 r2 r3 r4 rl n5
          have hbB := hide ((unhide bB).alloc (by omega) (.cells #[.int .i64 (Pw : Int), .int .i64 (y : Int), .int .i64 (P : Int), .int .i64 dp, .slice ad (pixInts zs (W * P) P X Y SX SY Pw y).length cp] 25))
          have hzB : (wY.alloc (.cells #[.int .i64 (Pw : Int), .int .i64 (y : Int), .int .i64 (P : Int), .int .i64 dp, .slice ad (pixInts zs (W * P) P X Y SX SY Pw y).length cp] 25)).heap.size = wY.heap.size + 1 := by simp
          change World.grownBy (wY.alloc (.cells #[.int .i64 (Pw : Int), .int .i64 (y : Int), .int .i64 (P : Int), .int .i64 dp, .slice ad (pixInts zs (W * P) P X Y SX SY Pw y).length cp] 25)) w5 _ at hg5
          rw [← hzB] at hb5
          generalize wY.alloc (.cells #[.int .i64 (Pw : Int), .int .i64 (y : Int), .int .i64 (P : Int), .int .i64 dp, .slice ad (pixInts zs (W * P) P X Y SX SY Pw y).length cp] 25) = wB at hwB hzB hO4 hg5 hb5 hbB
          have hfin : OwnIs w5 w2.heap.size w5.heap.size v5 ((qs.take k).map (splitOne ((W : Int), (H : Int), (P : Int), dp, zs)) ++ [((Pw : Int), (y : Int), (P : Int), dp, pixInts zs (W * P) P X Y SX SY Pw y)]) := by
            refine ownIs_snoc (w3 := wB) (out := out) (u := .slice ad (pixInts zs (W * P) P X Y SX SY Pw y).length cp) (ys := ys) (vs := vs) (fun j hj => own_mono ((unhide heY j hj).keep (unhide hwB)) (Nat.le_refl _) (unhide hwB).size) (unhide hrY) (unhide hdY) (unhide hxY) (by rw [hkl]; exact unhide hoYl) (own_mono (unhide hO4) (by omega) (by omega)) (fun x hx => ⟨fun e => ?_, fun j hj e => ?_⟩) (by rw [hkl]; exact ho5) hg5 hb5
            · have h1 := (unhide hlt4 x hx).1; have h2 := unhide hoB x e; omega
            · have h1 := (unhide hlt4 x hx).1; have h2 := (unhide heY j hj).2 x e; omega
          have hds : Hid ((qs.take (k + 1)).map (splitOne ((W : Int), (H : Int), (P : Int), dp, zs)) = (qs.take k).map (splitOne ((W : Int), (H : Int), (P : Int), dp, zs)) ++ [((Pw : Int), (y : Int), (P : Int), dp, pixInts zs (W * P) P X Y SX SY Pw y)]) := hide (by rw [unhide htk, List.map_append]; simp [splitOne])
          have hb6 : Below w2.heap.size w2 w5 := (unhide hbB).grown hg5 (by omega) (fun x hx => (unhide hoB x hx).1)
          replace hfin := hide hfin
          replace hb6 := hide hb6
          go_wp2
          go_roundw
          case rel => exact ⟨k + 1, _, _, rfl, rfl, by omega, by go_num, by rw [unhide hds]; exact hfin, hb6⟩
          case measure => simp [intOf]; omega
    · have hkl : k = qs.length := by omega
      subst hkl
      rw [List.take_length] at hown
      go_wp2
      go_ret
      exact ⟨_, rfl, by rw [unhide hqs]; exact (unhide hown).mono (show w.heap.size ≤ w2.heap.size by omega) (Nat.le_refl _), Upd.of_below ((unhide hU2).trans ((unhide hbel).mono (by omega))) 0 0⟩
end Go.Proofs.YtdochjkkgmkdgaaDoor

/- Split on both sides, out of an image of the caller's own. -/
namespace Go.Proofs.YtdochjkkgmkdgaaDoor
open Go.RowKit

def RoIm (w : World) (v : Value) (d : Im) : Prop := ∃ a b, OwnIm w a b v d
theorem OwnIm.ro {w : World} {a b : Nat} {v : Value} {d : Im} (h : OwnIm w a b v d) : RoIm w v d := ⟨a, b, h⟩

set_option maxHeartbeats 8000000 in
set_option maxRecDepth 100000 in
theorem specSplitO (v : Value) (d : Im) (w : World) (hn : d.2.2.2.2.length ≤ 1048576) (hR : InIm d) (hv0 : RoIm w v d) :
    Calls Tryd.prog 13 #[v] w fun e w' => ∃ u, e = .returned u ∧ OwnIs w' w.heap.size w'.heap.size u (splitF d) ∧ Upd 0 0 w w' := by
  obtain ⟨a0, b0, hv⟩ := hv0
  have hvr := hv.rd
  obtain ⟨vl, rfl, ho⟩ := hv
  obtain ⟨W, H, P, dp, zs⟩ := d
  simp only [ims, imv] at ho hn hvr ⊢
  obtain ⟨adv, capv, hvl, _⟩ := OwnI.rd ho
  have hB0 := (Below.refl w.heap.size w).alloc (Nat.le_refl _) (.cells #[.int .i64 W, .int .i64 H, .int .i64 P, .int .i64 dp, vl] 25)
  have hG := hide (specGoodImage _ (W, H, P, dp, zs) _ hn hR (hvr.below hB0))
  by_cases hg : GoodIm (W, H, P, dp, zs)
  case neg =>
    have hE : splitF (W, H, P, dp, zs) = [] := by unfold splitF; rw [goodImB_no hg]; rfl
    rw [goodImB_no hg] at hG
    rw [hE]
    clear hE hg
    replace hB0 := hide hB0
    clear hvr ho hR
    subst hvl
    go_enter Tryd.func13, Tryd.ntmps13
    go_wp2_with fail
    refine (unhide hG).mono ?_
    rintro e w1 ⟨rfl, hu⟩
    have hu2 := hide ((Upd.of_below (unhide hB0) 0 0).trans hu)
    clear hu hG
    go_wp2
    go_ret
    exact ⟨_, rfl, ⟨[], fun _ => undef, ⟨World.ownsRow_nil _ _ _ _, fun k hk => by simp [Value.ownBlock] at hk⟩, fun j hj => by simp at hj, fun j hj => by simp at hj, fun i j hi => by simp at hi, fun j hj => by simp at hj⟩, unhide hu2⟩
  rw [goodImB_yes hg] at hG
  have hE : splitF (W, H, P, dp, zs) = (passesF W H).map (splitOne (W, H, P, dp, zs)) := by unfold splitF; rw [goodImB_yes hg]; rfl
  rw [hE]
  obtain ⟨⟨hW, hH, _, hP, _⟩, hlen, _⟩ := hg
  simp only at hW hH hP hlen
  obtain ⟨W, rfl⟩ := Int.eq_ofNat_of_zero_le (show 0 ≤ W by omega)
  obtain ⟨H, rfl⟩ := Int.eq_ofNat_of_zero_le (show 0 ≤ H by omega)
  obtain ⟨P, rfl⟩ := Int.eq_ofNat_of_zero_le (show 0 ≤ P by omega)
  have hW' : 1 ≤ W ∧ W ≤ 512 := by omega
  have hH' : 1 ≤ H ∧ H ≤ 512 := by omega
  have hP' : 1 ≤ P ∧ P ≤ 4 := by omega
  have hL : zs.length = H * (W * P) := by
    have : ((zs.length : Nat) : Int) = ((H * (W * P) : Nat) : Int) := by rw [hlen]; simp only [Int.natCast_mul]; rw [Int.mul_comm (W : Int) (H : Int), Int.mul_assoc]
    exact_mod_cast this
  have hpos : 0 < zs.length := by rw [hL]; exact Nat.mul_pos hH'.1 (Nat.mul_pos hW'.1 hP'.1)
  obtain ⟨g, cap, rfl, hgl, hcap⟩ : ∃ g cap, vl = .slice (some ⟨g, 0, none⟩) zs.length cap ∧ g < w.heap.size ∧ zs.length ≤ cap := by
    rcases ho.1.2 with ⟨_, h0⟩ | ⟨g, cap, cur, rfl, _, _, h3, _⟩
    · omega
    · exact ⟨g, cap, rfl, (ho.1.lt g rfl).2, h3⟩
  have hk : KindAt .i64 w g 0 zs := fun j hj => by
    rw [Nat.zero_add, ho.1.cellAt j (by omega)]
    exact getD_map_int zs .i64 j hj
  have hH0 := held_new w [.int .i64 (W : Int), .int .i64 (H : Int), .int .i64 (P : Int), .int .i64 dp, .slice (some ⟨g, 0, none⟩) zs.length cap] 25
  have hk1 : KindAt .i64 (w.alloc (.cells #[.int .i64 W, .int .i64 H, .int .i64 P, .int .i64 dp, .slice (some ⟨g, 0, none⟩) zs.length cap] 25)) g 0 zs := fun j hj => (hB0.cell (by simpa using hgl)).trans (hk j hj)
  have hS := hide (fun (V : World) (h1 : g < V.heap.size) (h2 : KindAt .i64 V g 0 zs) => specL4Split W H P g cap dp zs V hW' hH' hP' hL h1 hcap h2 hn)
  have hpe := hide (passesF_yes (w := (W : Int)) (h := (H : Int)) hW hH)
  clear hk ho hvr hR hlen hE hL hvl hpos
  replace hB0 := hide hB0
  replace hH0 := hide hH0
  replace hk1 := hide hk1
  go_enter Tryd.func13, Tryd.ntmps13
  go_wp2_with fail
  refine (unhide hG).mono ?_
  rintro e w1 ⟨rfl, hu⟩
  have kH := (unhide hH0).keep hu
  have kK : Hid (KindAt .i64 w1 g 0 zs) := hide (fun j hj => (hu.none.cell (by simp; omega)).trans (unhide hk1 j hj))
  have hU1 := hide ((unhide hB0).trans (hu.below (B := w.heap.size) (by simp) (.inr (Nat.zero_le _))))
  have hws : w.heap.size + 1 ≤ w1.heap.size := by have := hu.size; simp at this; omega
  clear hu hG hB0 hH0 hk1
  have c0 := kH.2 0 _ rfl
  have c1 := kH.2 1 _ rfl
  have c2 := kH.2 2 _ rfl
  have c3 := kH.2 3 _ rfl
  have c4 := kH.2 4 _ rfl
  replace kH := hide kH
  go_wp2_with fail
  refine (unhide hS _ (by omega) (unhide kK)).mono ?_
  rintro e w2 ⟨u, rfl, hop, hu2⟩
  have hU2 := hide ((Upd.of_below (unhide hU1) 0 0).trans hu2)
  obtain ⟨adu, capu, rfl, _⟩ := hop.rd
  have hop2 := hide (hop.mono (show w.heap.size ≤ w1.heap.size by omega) (Nat.le_refl _))
  clear hop hu2 c0 c1 c2 c3 c4 kH hU1
  go_wp2
  go_ret
  exact ⟨_, rfl, by rw [unhide hpe]; simpa using unhide hop2, unhide hU2⟩
theorem implSplitO (v : Value) (d : Im) (w : World) (hT : Held w 0 passCells) (hn : d.2.2.2.2.length ≤ 1048576) (hR : InIm d) (hv0 : RoIm w v d) :
    Calls Tryd.prog 7 #[v] w fun e w' => ∃ u, e = .returned u ∧ OwnIs w' w.heap.size w'.heap.size u (splitF d) ∧ Upd 0 0 w w' := by
  obtain ⟨a0, b0, hv⟩ := hv0
  exact implSplit v d w hT hn hR a0 b0 hv
end Go.Proofs.YtdochjkkgmkdgaaDoor

/- Plain: how much the parts of a picture hold. -/
namespace Go.Proofs.YtdochjkkgmkdgaaDoor
open Go.RowKit

theorem szToIs_bd (ds : Is) (B k : Nat) (h : ∀ j, j < ds.length → size1Is (ds.getD j Im0) ≤ B) (hk : k ≤ ds.length) : szToIs ds k ≤ k * B := by
  induction k with
  | zero => simp [szToIs]
  | succ k ih =>
    rw [szToIs_succ ds k (by omega), Nat.add_mul, Nat.one_mul]
    exact Nat.add_le_add (ih (by omega)) (h k (by omega))
theorem step_le {X Pw SX W : Nat} (h : ∀ x, x < Pw → X + x * SX < W) (hs : 1 ≤ SX) (hp : 1 ≤ Pw) : Pw ≤ W := by
  have h1 := h (Pw - 1) (by omega)
  have h2 : (Pw - 1) * 1 ≤ (Pw - 1) * SX := Nat.mul_le_mul (Nat.le_refl _) hs
  omega
theorem splitF_size (d : Im) : sizeIs (splitF d) ≤ 1048576 := by
  by_cases hg : GoodIm d
  · obtain ⟨W, H, P, dp, zs⟩ := d
    have hE : splitF (W, H, P, dp, zs) = (passesF W H).map (splitOne (W, H, P, dp, zs)) := by unfold splitF; rw [goodImB_yes hg]; rfl
    rw [hE]
    obtain ⟨⟨hW, hH, hWH, hP, _⟩, _, _⟩ := hg
    simp only at hW hH hP hWH
    rw [passesF_yes hW hH]
    obtain ⟨W, rfl⟩ := Int.eq_ofNat_of_zero_le (show 0 ≤ W by omega)
    obtain ⟨H, rfl⟩ := Int.eq_ofNat_of_zero_le (show 0 ≤ H by omega)
    obtain ⟨P, rfl⟩ := Int.eq_ofNat_of_zero_le (show 0 ≤ P by omega)
    have hfit := passTo_fits (W := W) (H := H) (by omega) (by omega) 7 (Nat.le_refl _)
    have hql := passTo_len (W : Int) (H : Int) 7
    have hWH' : W * H ≤ 4096 := by have : ((W * H : Nat) : Int) ≤ 4096 := by simpa using hWH
                                   omega
    generalize passTo (W : Int) (H : Int) 7 = qs at hfit hql ⊢
    have hb := szToIs_bd (qs.map (splitOne ((W : Int), (H : Int), (P : Int), dp, zs))) 16384 qs.length (fun j hj => ?_) (by simp)
    · unfold sizeIs; rw [List.length_map]; omega
    · rw [List.length_map] at hj
      have e : (qs.map (splitOne ((W : Int), (H : Int), (P : Int), dp, zs))).getD j Im0 = splitOne ((W : Int), (H : Int), (P : Int), dp, zs) (qs.getD j Ps0) := by
        simp [List.getD_eq_getElem?_getD, List.getElem?_eq_getElem hj]
      rw [e]
      obtain ⟨X, Y, SX, SY, Pw, Ph, hq, hX, hY, hw, hh, _, _, _, _, hs1, hs2⟩ := hfit (qs.getD j Ps0) (by rw [List.getD_eq_getElem?_getD, List.getElem?_eq_getElem hj]; exact List.getElem_mem hj)
      rw [hq]
      have h1 := step_le hX hs1 hw.1
      have h2 := step_le hY hs2 hh.1
      show (pixInts zs (((W : Int)).toNat * ((P : Int)).toNat) ((P : Int)).toNat ((X : Int)).toNat ((Y : Int)).toNat ((SX : Int)).toNat ((SY : Int)).toNat ((Pw : Int)).toNat ((Ph : Int)).toNat).length ≤ 16384
      simp only [Int.toNat_natCast]
      refine Nat.le_trans (pixInts_le zs (W * P) P X Y SX SY Pw Ph) (Nat.le_trans (Nat.mul_le_mul h2 (Nat.mul_le_mul_right P h1)) ?_)
      have h3 : H * (W * P) = (W * H) * P := by rw [← Nat.mul_assoc, Nat.mul_comm H W]
      rw [h3]
      exact Nat.le_trans (Nat.mul_le_mul hWH' (show P ≤ 4 by omega)) (by omega)
  · have hE : splitF d = [] := by unfold splitF; rw [goodImB_no hg]; rfl
    rw [hE]; simp [sizeIs, szToIs]
end Go.Proofs.YtdochjkkgmkdgaaDoor

/- Lists of Images: the walks of the laws' own marking of them. -/
namespace Go.Proofs.YtdochjkkgmkdgaaDoor
open Go.RowKit

/-- Where the numbers of the t-th begin. -/
def posIs (k : Nat) (ds : Is) (t : Nat) : Nat := k + 4 * t + szToIs ds t
def marked1Is (p : Nat) (d : Im) : Im := (((p : Nat) : Int), ((p + 1 : Nat) : Int), ((p + 2 : Nat) : Int), ((p + 3 : Nat) : Int), marks (p + 4) (Iss d).length)
def marksIs (k : Nat) (ds : Is) : Is := (List.range ds.length).map fun t => marked1Is (posIs k ds t) (ds.getD t Im0)
@[simp] theorem marksIs_length (k : Nat) (ds : Is) : (marksIs k ds).length = ds.length := by simp [marksIs]
theorem marksIs_at (k : Nat) (ds : Is) (t : Nat) (h : t < ds.length) : (marksIs k ds).getD t Im0 = marked1Is (posIs k ds t) (ds.getD t Im0) := by
  unfold marksIs; rw [List.getD_eq_getElem?_getD, List.getElem?_map, List.getElem?_range h]; rfl
theorem posIs_succ (k : Nat) (ds : Is) (t : Nat) (h : t < ds.length) : posIs k ds (t + 1) = posIs k ds t + 4 + (Iss (ds.getD t Im0)).length := by
  unfold posIs; rw [szToIs_succ ds t h]; unfold size1Is; omega
theorem posIs_le (k : Nat) (ds : Is) (t : Nat) (h : t ≤ ds.length) : posIs k ds t ≤ k + 4 * ds.length + szToIs ds ds.length := by
  unfold posIs; have := szToIs_le ds t; omega

set_option maxHeartbeats 1000000 in
theorem markImageS_none (k : Nat) (w : World) : Calls Tryd.prog 18 #[.slice none 0 0, .int .i64 k] w fun e w' => e = .returned (.int .i64 (k : Int)) ∧ w' = w := by
  go_enter Tryd.func18, Tryd.ntmps18
  go_wp2
  go_loop [1, 5] (fun a i => a = .int .i64 k ∧ i = .int .i64 0) (fun _ _ => 0)
  case atStart => exact ⟨rfl, rfl⟩
  case round =>
    obtain ⟨rfl, rfl⟩ := hrel
    go_wp2
    go_ret
    exact ⟨rfl, rfl⟩

set_option maxHeartbeats 8000000 in
set_option maxRecDepth 100000 in
theorem markImageS_some (a b g cap k : Nat) (ds : Is) (xs : List Value) (vs : Nat → Value) (w : World) (hsz : sizeIs ds ≤ 1048576) (hk : k ≤ 1000000000000)
    (ho : Own 25 5 w a b (.slice (some ⟨g, 0, none⟩) ds.length cap) ds.length xs) (hr : RowIs xs ds vs ds.length) (he : ∀ j, j < ds.length → OwnI w a b (vs j) (Iss (ds.getD j Im0))) (hd : DistIs vs ds.length) (hx : ∀ j, j < ds.length → (vs j).ownBlock ≠ some g) :
    Calls Tryd.prog 18 #[.slice (some ⟨g, 0, none⟩) ds.length cap, .int .i64 k] w fun e w' => e = .returned (.int .i64 ((posIs k ds ds.length : Nat) : Int)) ∧ OwnIs w' a b (.slice (some ⟨g, 0, none⟩) ds.length cap) (marksIs k ds) ∧ Upd a b w w' := by
  have hn : ds.length ≤ 1048576 := by unfold sizeIs at hsz; omega
  have hst : szToIs ds ds.length ≤ 1048576 := by unfold sizeIs at hsz; omega
  have hEach : Hid (∀ k, k < ds.length → (Iss (ds.getD k Im0)).length ≤ 1048576) := hide (fun k hk => by have := size1Is_le ds k hk; unfold size1Is at this; omega)
  have hgb := ho.bnd g rfl
  replace hx := hide hx
  replace hd := hide hd
  go_enter Tryd.func18, Tryd.ntmps18
  go_wp2
  go_loopw [1, 5] (fun c i wr => ∃ t : Nat, ∃ ys, t ≤ ds.length ∧ c = .int .i64 ((posIs k ds t : Nat) : Int) ∧ i = .int .i64 t ∧ Own 25 5 wr a b (.slice (some ⟨g, 0, none⟩) ds.length cap) ds.length ys ∧ Hid (RowIs ys (marksIs k ds) vs t) ∧ Hid (∀ j, t ≤ j → j < ds.length → ys[j * 5 + 4]? = some (vs j)) ∧ Hid (∀ j, j < ds.length → OwnI wr a b (vs j) (Iss (if j < t then (marksIs k ds).getD j Im0 else ds.getD j Im0))) ∧ Upd a b w wr) (fun _ i _ => ds.length - (intOf i).toNat)
  case atStart => exact ⟨0, xs, Nat.zero_le _, by simp [posIs, szToIs], rfl, ho, hide (fun j hj => by omega), hide (fun j _ hj => (hr j hj).2.2.2.2), hide (fun j hj => by rw [if_neg (by omega)]; exact he j hj), Upd.refl _ _ _⟩
  case round =>
    clear ho hr he
    obtain ⟨t, ys, ht, rfl, rfl, ho, hrow, hrest, hel, hupd⟩ := hrel
    have hlen : ys.length = ds.length * 5 := ho.1.1
    have hpl := posIs_le k ds t ht
    by_cases hlt : t < ds.length
    · have hnk := unhide hEach t hlt
      have hps := posIs_succ k ds t hlt
      have hma := marksIs_at k ds t hlt
      have hvt := unhide hel t hlt
      rw [if_neg (by omega)] at hvt
      have hrs := unhide hrest t (Nat.le_refl _) hlt
      have hgt := unhide hx t hlt
      obtain ⟨adk, capk, hvs, _⟩ := OwnI.rd hvt
      obtain ⟨p, hp⟩ : ∃ p, p = posIs k ds t := ⟨_, rfl⟩
      obtain ⟨d, hdt⟩ : ∃ d, d = ds.getD t Im0 := ⟨_, rfl⟩
      rw [← hp, ← hdt] at hma
      rw [← hp, ← hdt] at hps
      rw [← hp] at hpl ⊢
      rw [← hdt] at hvt hnk hvs
      have e0 : ∃ a, wr.cell? ⟨g, t * 5, none⟩ = some a := by rw [ho.1.cellAt _ (by omega)]; exact ⟨_, List.getElem?_eq_getElem (by omega)⟩
      have e1 : ∃ a, wr.cell? ⟨g, t * 5 + 1, none⟩ = some a := by rw [ho.1.cellAt _ (by omega)]; exact ⟨_, List.getElem?_eq_getElem (by omega)⟩
      have e2 : ∃ a, wr.cell? ⟨g, t * 5 + 2, none⟩ = some a := by rw [ho.1.cellAt _ (by omega)]; exact ⟨_, List.getElem?_eq_getElem (by omega)⟩
      have e3 : ∃ a, wr.cell? ⟨g, t * 5 + 3, none⟩ = some a := by rw [ho.1.cellAt _ (by omega)]; exact ⟨_, List.getElem?_eq_getElem (by omega)⟩
      obtain ⟨a0, e0⟩ := e0
      obtain ⟨a1, e1⟩ := e1
      obtain ⟨a2, e2⟩ := e2
      obtain ⟨a3, e3⟩ := e3
      have e4 : wr.cell? ⟨g, t * 5 + 4, none⟩ = some (vs t) := by rw [ho.1.cellAt _ (by omega)]; exact hrs
      rw [hvs] at e4
      have f0 := ho.1.frozenAt (t * 5)
      have f1 := ho.1.frozenAt (t * 5 + 1)
      have f2 := ho.1.frozenAt (t * 5 + 2)
      have f3 := ho.1.frozenAt (t * 5 + 3)
      have hM := hide (fun (p0 p1 p2 p3 : Value) => markIntS_at a b (vs t) (p + 4) (Iss d) ((((wr.setCell ⟨g, t * 5, none⟩ p0).setCell ⟨g, t * 5 + 1, none⟩ p1).setCell ⟨g, t * 5 + 2, none⟩ p2).setCell ⟨g, t * 5 + 3, none⟩ p3) hnk (by omega) (hvt.off (((((Upd.refl g (g + 1) wr).setCell (r := g) ⟨Nat.le_refl _, by omega⟩ (t * 5) p0).setCell (r := g) ⟨Nat.le_refl _, by omega⟩ (t * 5 + 1) p1).setCell (r := g) ⟨Nat.le_refl _, by omega⟩ (t * 5 + 2) p2).setCell (r := g) ⟨Nat.le_refl _, by omega⟩ (t * 5 + 3) p3) (fun x hx => by have : x ≠ g := fun e => hgt (e ▸ hx); omega)))
      have hS := hide (show ∀ p0 p1 p2 p3 : Value, Own 25 5 ((((wr.setCell ⟨g, t * 5, none⟩ p0).setCell ⟨g, t * 5 + 1, none⟩ p1).setCell ⟨g, t * 5 + 2, none⟩ p2).setCell ⟨g, t * 5 + 3, none⟩ p3) a b (.slice (some ⟨g, 0, none⟩) ds.length cap) ds.length ((((ys.set (t * 5) (p0)).set (t * 5 + 1) (p1)).set (t * 5 + 2) (p2)).set (t * 5 + 3) (p3)) from fun p0 p1 p2 p3 => ⟨((((ho.1.stored (t * 5) p0).1.stored (t * 5 + 1) p1).1.stored (t * 5 + 2) p2).1.stored (t * 5 + 3) p3).1, ho.2⟩)
      have hU := hide (show ∀ p0 p1 p2 p3 : Value, Upd g (g + 1) wr ((((wr.setCell ⟨g, t * 5, none⟩ p0).setCell ⟨g, t * 5 + 1, none⟩ p1).setCell ⟨g, t * 5 + 2, none⟩ p2).setCell ⟨g, t * 5 + 3, none⟩ p3) from fun p0 p1 p2 p3 => (((((Upd.refl g (g + 1) wr).setCell (r := g) ⟨Nat.le_refl _, by omega⟩ (t * 5) p0).setCell (r := g) ⟨Nat.le_refl _, by omega⟩ (t * 5 + 1) p1).setCell (r := g) ⟨Nat.le_refl _, by omega⟩ (t * 5 + 2) p2).setCell (r := g) ⟨Nat.le_refl _, by omega⟩ (t * 5 + 3) p3))
      have hv : (((p + 4 : Nat) : Nat) : Int) = (p : Int) + 1 + 1 + 1 + 1 := by omega
      rw [hvs, hv] at hM
      clear hv
      have hvb := hide hvt.bnd
      replace hvt := hide hvt
      replace hp := hide hp
      replace hdt := hide hdt
      replace hma := hide hma
      replace hrs := hide hrs
      replace hgt := hide hgt
      replace hlen' := hide hlen
      replace hvs := hide hvs
      replace ho := hide ho
      replace hupd := hide hupd
      replace hps := hide hps
      go_wp2_with fail
      refine (unhide hM (.int .i64 ((p : Int))) (.int .i64 ((p : Int) + 1)) (.int .i64 ((p : Int) + 1 + 1)) (.int .i64 ((p : Int) + 1 + 1 + 1))).mono ?_
      rintro e w2 ⟨rfl, hov, c', d', hu2, hcd⟩
      have hgb2 : ∀ x, x = g → x < c' ∨ d' ≤ x := fun x hx => by
        subst hx
        apply Classical.byContradiction
        intro hn
        exact unhide hgt ((unhide hvs).symm ▸ hcd x (by omega) (by omega))
      have ho5 := hide ((unhide hS (.int .i64 ((p : Int))) (.int .i64 ((p : Int) + 1)) (.int .i64 ((p : Int) + 1 + 1)) (.int .i64 ((p : Int) + 1 + 1 + 1))).off hu2 (fun x hx => hgb2 x (by simp [Value.ownBlock] at hx; exact hx.symm)))
      have hU5 := hide ((unhide hupd).trans (((unhide hU (.int .i64 ((p : Int))) (.int .i64 ((p : Int) + 1)) (.int .i64 ((p : Int) + 1 + 1)) (.int .i64 ((p : Int) + 1 + 1 + 1))).wide (a := a) (b := b) (fun x h1 h2 => by omega)).trans (hu2.wide (fun x h1 h2 => (unhide hvb) x ((unhide hvs).symm ▸ hcd x h1 h2)))))
      have hel5 : Hid (∀ j, j < ds.length → OwnI w2 a b (vs j) (Iss (if j < t + 1 then (marksIs k ds).getD j Im0 else ds.getD j Im0))) := hide (fun j hj => by
        by_cases e : j = t
        · subst e
          rw [if_pos (Nat.lt_succ_self _), unhide hma, unhide hvs]
          exact hov
        · have h0 := ((unhide hel j hj).off (unhide hU (.int .i64 ((p : Int))) (.int .i64 ((p : Int) + 1)) (.int .i64 ((p : Int) + 1 + 1)) (.int .i64 ((p : Int) + 1 + 1 + 1))) (fun x hx' => by have : x ≠ g := fun e => unhide hx j hj (e ▸ hx'); omega)).off hu2 (fun x hx' => by
            apply Classical.byContradiction
            intro hn
            exact unhide hd j t hj hlt e x hx' ((unhide hvs).symm ▸ hcd x (by omega) (by omega)))
          by_cases hjt : j < t
          · rw [if_pos hjt] at h0; rw [if_pos (by omega)]; exact h0
          · rw [if_neg hjt] at h0; rw [if_neg (by omega)]; exact h0)
      have hrow5 : Hid (RowIs ((((ys.set (t * 5) ((.int .i64 ((p : Int))))).set (t * 5 + 1) ((.int .i64 ((p : Int) + 1)))).set (t * 5 + 2) ((.int .i64 ((p : Int) + 1 + 1)))).set (t * 5 + 3) ((.int .i64 ((p : Int) + 1 + 1 + 1)))) (marksIs k ds) vs (t + 1)) := hide (fun j hj => by
        by_cases e : j = t
        · subst e
          rw [unhide hma]
          refine ⟨?_, ?_, ?_, ?_, ?_⟩
          · refine Eq.trans (b := some (.int .i64 ((p : Int)))) ?_ (congrArg (fun z => some (Value.int .i64 z)) (show (p : Int) = ((p : Nat) : Int) by omega)); rw [List.getElem?_set_ne (by omega), List.getElem?_set_ne (by omega), List.getElem?_set_ne (by omega), List.getElem?_set_self (by first | omega | (simp; omega))]
          · refine Eq.trans (b := some (.int .i64 ((p : Int) + 1))) ?_ (congrArg (fun z => some (Value.int .i64 z)) (show (p : Int) + 1 = ((p + 1 : Nat) : Int) by omega)); rw [List.getElem?_set_ne (by omega), List.getElem?_set_ne (by omega), List.getElem?_set_self (by first | omega | (simp; omega))]
          · refine Eq.trans (b := some (.int .i64 ((p : Int) + 1 + 1))) ?_ (congrArg (fun z => some (Value.int .i64 z)) (show (p : Int) + 1 + 1 = ((p + 2 : Nat) : Int) by omega)); rw [List.getElem?_set_ne (by omega), List.getElem?_set_self (by first | omega | (simp; omega))]
          · refine Eq.trans (b := some (.int .i64 ((p : Int) + 1 + 1 + 1))) ?_ (congrArg (fun z => some (Value.int .i64 z)) (show (p : Int) + 1 + 1 + 1 = ((p + 3 : Nat) : Int) by omega)); rw [List.getElem?_set_self (by first | omega | (simp; omega))]
          · rw [List.getElem?_set_ne (by omega), List.getElem?_set_ne (by omega), List.getElem?_set_ne (by omega), List.getElem?_set_ne (by omega)]; exact unhide hrs
        · have := unhide hrow j (by omega)
          refine ⟨?_, ?_, ?_, ?_, ?_⟩
          · rw [List.getElem?_set_ne (by omega), List.getElem?_set_ne (by omega), List.getElem?_set_ne (by omega), List.getElem?_set_ne (by omega)]; exact this.1
          · rw [List.getElem?_set_ne (by omega), List.getElem?_set_ne (by omega), List.getElem?_set_ne (by omega), List.getElem?_set_ne (by omega)]; exact this.2.1
          · rw [List.getElem?_set_ne (by omega), List.getElem?_set_ne (by omega), List.getElem?_set_ne (by omega), List.getElem?_set_ne (by omega)]; exact this.2.2.1
          · rw [List.getElem?_set_ne (by omega), List.getElem?_set_ne (by omega), List.getElem?_set_ne (by omega), List.getElem?_set_ne (by omega)]; exact this.2.2.2.1
          · rw [List.getElem?_set_ne (by omega), List.getElem?_set_ne (by omega), List.getElem?_set_ne (by omega), List.getElem?_set_ne (by omega)]; exact this.2.2.2.2)
      have hrest5 : Hid (∀ j, t + 1 ≤ j → j < ds.length → ((((ys.set (t * 5) ((.int .i64 ((p : Int))))).set (t * 5 + 1) ((.int .i64 ((p : Int) + 1)))).set (t * 5 + 2) ((.int .i64 ((p : Int) + 1 + 1)))).set (t * 5 + 3) ((.int .i64 ((p : Int) + 1 + 1 + 1))))[j * 5 + 4]? = some (vs j)) := hide (fun j h1 h2 => by rw [List.getElem?_set_ne (by omega), List.getElem?_set_ne (by omega), List.getElem?_set_ne (by omega), List.getElem?_set_ne (by omega)]; exact unhide hrest j (by omega) h2)
      clear hM hS hU hov hu2 hcd hel hrow hrest hvb hvt hgb2 ho hupd
      go_wp2
      go_roundw
      case rel => exact ⟨t + 1, _, by omega, by rw [unhide hps]; simp, by go_num, unhide ho5, hrow5, hrest5, hel5, unhide hU5⟩
      case measure => simp [intOf]; omega
    · have htn : t = ds.length := by omega
      subst htn
      replace ho := hide ho
      replace hupd := hide hupd
      go_wp2
      go_ret
      refine ⟨rfl, ⟨ys, vs, ?_, ?_, ?_, ?_, ?_⟩, unhide hupd⟩
      · rw [marksIs_length]; exact unhide ho
      · rw [marksIs_length]; exact unhide hrow
      · rw [marksIs_length]; exact fun j hj => by have := unhide hel j hj; rw [if_pos hj] at this; exact this
      · rw [marksIs_length]; exact unhide hd
      · rw [marksIs_length]; exact fun j hj x hx' => by
          intro e
          simp [Value.ownBlock] at e
          exact unhide hx j hj (e ▸ hx')

theorem markImageS_own (a b : Nat) (v : Value) (k : Nat) (ds : Is) (w : World) (hsz : sizeIs ds ≤ 1048576) (hk : k ≤ 1000000000000) (h : OwnIs w a b v ds) :
    Calls Tryd.prog 18 #[v, .int .i64 k] w fun e w' => e = .returned (.int .i64 ((posIs k ds ds.length : Nat) : Int)) ∧ OwnIs w' a b v (marksIs k ds) ∧ Upd a b w w' := by
  obtain ⟨ys, vs, ho, hr, he, hd, hx⟩ := h
  rcases ho.1.2 with ⟨rfl, h0⟩ | ⟨g, cap, cur, rfl, _⟩
  · have e : ds = [] := List.length_eq_zero_iff.1 h0
    subst e
    refine (markImageS_none k w).mono ?_
    rintro e w' ⟨rfl, rfl⟩
    exact ⟨by simp [posIs, szToIs], ⟨ys, vs, ho, fun j hj => by simp at hj, fun j hj => by simp at hj, fun i j hi => by simp at hi, fun j hj => by simp at hj⟩, Upd.refl _ _ _⟩
  · exact markImageS_some a b g cap k ds ys vs w hsz hk ho hr he hd (fun j hj hg => hx j hj g hg rfl)

set_option maxHeartbeats 1000000 in
theorem heldImageS_none (k : Nat) (w : World) : Calls Tryd.prog 19 #[.slice none 0 0, .int .i64 k] w fun e w' => e = .returned (.int .i64 (k : Int)) ∧ w' = w := by
  go_enter Tryd.func19, Tryd.ntmps19
  go_wp2
  go_loop [1, 5] (fun a i => a = .int .i64 k ∧ i = .int .i64 0) (fun _ _ => 0)
  case atStart => exact ⟨rfl, rfl⟩
  case round =>
    obtain ⟨rfl, rfl⟩ := hrel
    go_wp2
    go_ret
    exact ⟨rfl, rfl⟩

set_option maxHeartbeats 8000000 in
set_option maxRecDepth 100000 in
theorem heldImageS_some (a b g cap k : Nat) (ds : Is) (xs : List Value) (vs : Nat → Value) (w : World) (hsz : sizeIs ds ≤ 1048576) (hk : k ≤ 1000000000000)
    (ho : Own 25 5 w a b (.slice (some ⟨g, 0, none⟩) ds.length cap) ds.length xs) (hr : RowIs xs (marksIs k ds) vs ds.length) (he : ∀ j, j < ds.length → OwnI w a b (vs j) (Iss ((marksIs k ds).getD j Im0))) :
    Calls Tryd.prog 19 #[.slice (some ⟨g, 0, none⟩) ds.length cap, .int .i64 k] w fun e w' => e = .returned (.int .i64 ((posIs k ds ds.length : Nat) : Int)) ∧ w' = w := by
  have hn : ds.length ≤ 1048576 := by unfold sizeIs at hsz; omega
  have hst : szToIs ds ds.length ≤ 1048576 := by unfold sizeIs at hsz; omega
  have hEach : Hid (∀ k, k < ds.length → (Iss (ds.getD k Im0)).length ≤ 1048576) := hide (fun k hk => by have := size1Is_le ds k hk; unfold size1Is at this; omega)
  replace ho := hide ho
  replace hr := hide hr
  replace he := hide he
  go_enter Tryd.func19, Tryd.ntmps19
  go_wp2
  go_loop [1, 5] (fun c i => ∃ t : Nat, t ≤ ds.length ∧ c = .int .i64 ((posIs k ds t : Nat) : Int) ∧ i = .int .i64 t) (fun _ i => ds.length - (intOf i).toNat)
  case atStart => exact ⟨0, Nat.zero_le _, by simp [posIs, szToIs], rfl⟩
  case round =>
    obtain ⟨t, ht, rfl, rfl⟩ := hrel
    have hpl := posIs_le k ds t ht
    by_cases hlt : t < ds.length
    · have hnk := unhide hEach t hlt
      have hps := posIs_succ k ds t hlt
      have hvt := unhide he t hlt
      obtain ⟨d0, d1, d2, d3, d4⟩ := unhide hr t hlt
      rw [marksIs_at k ds t hlt] at hvt d0 d1 d2 d3
      obtain ⟨p, hp⟩ : ∃ p, p = posIs k ds t := ⟨_, rfl⟩
      obtain ⟨d, hdt⟩ : ∃ d, d = ds.getD t Im0 := ⟨_, rfl⟩
      rw [← hp, ← hdt] at hvt d0 d1 d2 d3
      rw [← hp, ← hdt] at hps
      rw [← hp] at hpl ⊢
      rw [← hdt] at hnk
      simp only [marked1Is, Iss] at hvt d0 d1 d2 d3
      obtain ⟨adk, capk, hvs, _⟩ := OwnI.rd hvt
      rw [marks_length] at hvs
      have hM := hide (heldIntS_own a b (vs t) (p + 4) (Iss d).length w hnk (by omega) hvt)
      have e0 : w.cell? ⟨g, t * 5, none⟩ = some (.int .i64 ((p : Nat) : Int)) := by rw [(unhide ho).1.cellAt _ (by omega)]; exact d0
      have e1 : w.cell? ⟨g, t * 5 + 1, none⟩ = some (.int .i64 ((p + 1 : Nat) : Int)) := by rw [(unhide ho).1.cellAt _ (by omega)]; exact d1
      have e2 : w.cell? ⟨g, t * 5 + 2, none⟩ = some (.int .i64 ((p + 2 : Nat) : Int)) := by rw [(unhide ho).1.cellAt _ (by omega)]; exact d2
      have e3 : w.cell? ⟨g, t * 5 + 3, none⟩ = some (.int .i64 ((p + 3 : Nat) : Int)) := by rw [(unhide ho).1.cellAt _ (by omega)]; exact d3
      have e4 : w.cell? ⟨g, t * 5 + 4, none⟩ = some (vs t) := by rw [(unhide ho).1.cellAt _ (by omega)]; exact d4
      rw [hvs] at hM e4
      clear hvt hvs d0 d1 d2 d3 d4
      rw [show ((p + 1 : Nat) : Int) = (p : Int) + 1 by omega] at e1
      rw [show ((p + 2 : Nat) : Int) = (p : Int) + 1 + 1 by omega] at e2
      rw [show ((p + 3 : Nat) : Int) = (p : Int) + 1 + 1 + 1 by omega] at e3
      rw [show ((p + 4 : Nat) : Int) = (p : Int) + 1 + 1 + 1 + 1 by omega] at hM
      replace hp := hide hp
      replace hdt := hide hdt
      replace hps := hide hps
      go_wp2_with fail
      refine (unhide hM).mono ?_
      rintro e w2 ⟨rfl, rfl⟩
      clear hM
      go_wp2
      go_round
      case rel => exact ⟨t + 1, by omega, by rw [unhide hps]; simp, by go_num⟩
      case measure => simp [intOf]; omega
    · have htn : t = ds.length := by omega
      subst htn
      go_wp2
      go_ret
      exact ⟨rfl, rfl⟩

theorem heldImageS_own (a b : Nat) (v : Value) (k : Nat) (ds : Is) (w : World) (hsz : sizeIs ds ≤ 1048576) (hk : k ≤ 1000000000000) (h : OwnIs w a b v (marksIs k ds)) :
    Calls Tryd.prog 19 #[v, .int .i64 k] w fun e w' => e = .returned (.int .i64 ((posIs k ds ds.length : Nat) : Int)) ∧ w' = w := by
  obtain ⟨ys, vs, ho, hr, he, hd, hx⟩ := h
  rw [marksIs_length] at ho hr he hd hx
  rcases ho.1.2 with ⟨rfl, h0⟩ | ⟨g, cap, cur, rfl, _⟩
  · have e : ds = [] := List.length_eq_zero_iff.1 h0
    subst e
    refine (heldImageS_none k w).mono ?_
    rintro e w' ⟨rfl, rfl⟩
    exact ⟨by simp [posIs, szToIs], rfl⟩
  · exact heldImageS_some a b g cap k ds ys vs w hsz hk ho hr he
end Go.Proofs.YtdochjkkgmkdgaaDoor

/- The law on Split, walked: what it calls is told by the walks of the specification and of the program. -/
namespace Go.Proofs.YtdochjkkgmkdgaaDoor
open Go.RowKit

set_option maxHeartbeats 1000000 in
theorem lawSplit_long0 (d0 : Im) (ad0_0 : Option Addr) (cap0_0 : Nat) (w : World) (hz0 : d0.2.2.2.2.length ≤ 9223372036854775807)  (_hn0 : 1048576 < d0.2.2.2.2.length)  :
    Calls Tryd.prog 4 #[.agg #[.int .i64 d0.1, .int .i64 d0.2.1, .int .i64 d0.2.2.1, .int .i64 d0.2.2.2.1, .slice ad0_0 d0.2.2.2.2.length cap0_0]] w fun e w' => e = .returned (.bool true) ∧ Below w.heap.size w w' := by
  have hB := hide (Below.refl w.heap.size w)
  go_enter Tryd.func4, Tryd.ntmps4
  go_wp2_with fail
  have hu := Upd.of_below ((Below.refl w.heap.size w).alloc (Nat.le_refl _) (.cells #[.int .i64 d0.1, .int .i64 d0.2.1, .int .i64 d0.2.2.1, .int .i64 d0.2.2.2.1, .slice ad0_0 d0.2.2.2.2.length cap0_0] 37)) 0 0
  replace hB := hide (below_upd (unhide hB) hu (Nat.le_refl _) (.inr (Nat.le_refl _)))
  have hs1 : Hid (w.heap.size + 1 ≤ (w.alloc (.cells #[.int .i64 d0.1, .int .i64 d0.2.1, .int .i64 d0.2.2.1, .int .i64 d0.2.2.2.1, .slice ad0_0 d0.2.2.2.2.length cap0_0] 37)).heap.size) := hide (by simp)
  have cp0 := hide (held_new w [.int .i64 d0.1, .int .i64 d0.2.1, .int .i64 d0.2.2.1, .int .i64 d0.2.2.2.1, .slice ad0_0 d0.2.2.2.2.length cap0_0] 37)
  clear hu
  generalize w.alloc (.cells #[.int .i64 d0.1, .int .i64 d0.2.1, .int .i64 d0.2.2.1, .int .i64 d0.2.2.2.1, .slice ad0_0 d0.2.2.2.2.length cap0_0] 37) = w1 at  hB hs1 cp0 ⊢
  refine (szImage_any d0.1 d0.2.1 d0.2.2.1 d0.2.2.2.1 ad0_0 d0.2.2.2.2.length cap0_0 (1048576) w1 (by omega) (by omega) hz0).mono ?_
  rintro e w2 ⟨rfl, hu⟩
  replace cp0 := hide ((unhide cp0).keep hu)
  replace hB := hide (below_upd (unhide hB) hu (Nat.le_refl _) (.inr (Nat.le_refl _)))
  have hs2 : Hid (w1.heap.size ≤ w2.heap.size) := hide hu.size
  clear hu
  rw [if_pos (by omega)]
  go_wp2
  go_ret
  exact ⟨rfl, unhide hB⟩

set_option maxHeartbeats 4000000 in
set_option maxRecDepth 100000 in
theorem lawSplit_short (d0 : Im) (ad0_0 : Option Addr) (cap0_0 : Nat) (w : World) (hT : Held w 0 passCells) (hz0 : d0.2.2.2.2.length ≤ 9223372036854775807) (hn : d0.2.2.2.2.length ≤ 1048576) (hA0_0 : ArgI w ad0_0 d0.2.2.2.2) (hR0 : InIm d0) :
    Calls Tryd.prog 4 #[.agg #[.int .i64 d0.1, .int .i64 d0.2.1, .int .i64 d0.2.2.1, .int .i64 d0.2.2.2.1, .slice ad0_0 d0.2.2.2.2.length cap0_0]] w fun e w' => e = .returned (.bool true) ∧ Below w.heap.size w w' := by
  have hT0 := hide hT.1
  replace hT := hide hT
  have hn0 : (d0.2.2.2.2.length ≤ 1048576) := by omega
  replace hA0_0 := hide hA0_0
  replace hR0 := hide hR0
  have hL := hide (splitF_size d0)
  have hB := hide (Below.refl w.heap.size w)
  go_enter Tryd.func4, Tryd.ntmps4
  have hleft0 : (0 : Int) ≤ 1048576 := by omega
  go_wp2_with fail
  have hu := Upd.of_below ((Below.refl w.heap.size w).alloc (Nat.le_refl _) (.cells #[.int .i64 d0.1, .int .i64 d0.2.1, .int .i64 d0.2.2.1, .int .i64 d0.2.2.2.1, .slice ad0_0 d0.2.2.2.2.length cap0_0] 37)) 0 0
  replace hT := hide ((unhide hT).keep hu)
  replace hB := hide (below_upd (unhide hB) hu (Nat.le_refl _) (.inr (Nat.le_refl _)))
  have hs1 : Hid (w.heap.size + 1 ≤ (w.alloc (.cells #[.int .i64 d0.1, .int .i64 d0.2.1, .int .i64 d0.2.2.1, .int .i64 d0.2.2.2.1, .slice ad0_0 d0.2.2.2.2.length cap0_0] 37)).heap.size) := hide (by simp)
  have cp0 := hide (held_new w [.int .i64 d0.1, .int .i64 d0.2.1, .int .i64 d0.2.2.1, .int .i64 d0.2.2.2.1, .slice ad0_0 d0.2.2.2.2.length cap0_0] 37)
  clear hu
  generalize w.alloc (.cells #[.int .i64 d0.1, .int .i64 d0.2.1, .int .i64 d0.2.2.1, .int .i64 d0.2.2.2.1, .slice ad0_0 d0.2.2.2.2.length cap0_0] 37) = w1 at hT hB hs1 cp0 ⊢
  refine (szImage_any d0.1 d0.2.1 d0.2.2.1 d0.2.2.2.1 ad0_0 d0.2.2.2.2.length cap0_0 (1048576) w1 (by omega) (by omega) hz0).mono ?_
  rintro e w2 ⟨rfl, hu⟩
  replace hT := hide ((unhide hT).keep hu)
  replace cp0 := hide ((unhide cp0).keep hu)
  replace hB := hide (below_upd (unhide hB) hu (Nat.le_refl _) (.inr (Nat.le_refl _)))
  have hs2 : Hid (w1.heap.size ≤ w2.heap.size) := hide hu.size
  clear hu
  rw [if_neg (by omega)]
  have hleft0 : ¬ (1048576 - (d0.2.2.2.2.length : Int) < 0) := by omega
  have kcp0_0 := (unhide cp0).2 0 _ rfl
  have kcp0_1 := (unhide cp0).2 1 _ rfl
  have kcp0_2 := (unhide cp0).2 2 _ rfl
  have kcp0_3 := (unhide cp0).2 3 _ rfl
  have kcp0_4 := (unhide cp0).2 4 _ rfl
  have kcp0_l := (unhide cp0).1
  go_wp2_with fail
  clear kcp0_0 kcp0_1 kcp0_2 kcp0_3 kcp0_4 kcp0_l
  refine (toImage_own _ d0 w2 hn0 ⟨_, rfl, ⟨ad0_0, cap0_0, rfl, (unhide hA0_0).below (unhide hB)⟩⟩).mono ?_
  rintro e w3 ⟨vy0_w0, rfl, ho, hu⟩
  replace hT := hide ((unhide hT).keep hu)
  replace cp0 := hide ((unhide cp0).keep hu)
  replace hB := hide (below_upd (unhide hB) hu (Nat.le_refl _) (.inr (Nat.le_refl _)))
  have hs3 : Hid (w2.heap.size ≤ w3.heap.size) := hide hu.size
  have y0_w0 := hide ho
  clear hu ho
  go_wp2_with fail
  refine (specSplitO _ d0 w3  hn0 (unhide hR0) (OwnIm.ro (unhide y0_w0))).mono ?_
  rintro e w4 ⟨vr0, rfl, ho, hu⟩
  replace y0_w0 := hide ((unhide y0_w0).keep hu)
  replace hT := hide ((unhide hT).keep hu)
  replace cp0 := hide ((unhide cp0).keep hu)
  replace hB := hide (below_upd (unhide hB) hu (Nat.le_refl _) (.inr (Nat.le_refl _)))
  have hs4 : Hid (w3.heap.size ≤ w4.heap.size) := hide hu.size
  have r0 := hide ho
  clear hu ho
  clear y0_w0
  have kcp0_0 := (unhide cp0).2 0 _ rfl
  have kcp0_1 := (unhide cp0).2 1 _ rfl
  have kcp0_2 := (unhide cp0).2 2 _ rfl
  have kcp0_3 := (unhide cp0).2 3 _ rfl
  have kcp0_4 := (unhide cp0).2 4 _ rfl
  have kcp0_l := (unhide cp0).1
  go_wp2_with fail
  clear kcp0_0 kcp0_1 kcp0_2 kcp0_3 kcp0_4 kcp0_l
  refine (toImage_own _ d0 w4 hn0 ⟨_, rfl, ⟨ad0_0, cap0_0, rfl, (unhide hA0_0).below (unhide hB)⟩⟩).mono ?_
  rintro e w5 ⟨vx0, rfl, ho, hu⟩
  replace r0 := hide ((unhide r0).keep hu)
  replace hT := hide ((unhide hT).keep hu)
  replace cp0 := hide ((unhide cp0).keep hu)
  replace hB := hide (below_upd (unhide hB) hu (Nat.le_refl _) (.inr (Nat.le_refl _)))
  have hs5 : Hid (w4.heap.size ≤ w5.heap.size) := hide hu.size
  have x0 := hide ho
  clear hu ho
  obtain ⟨adx0_0, capx0_0, hvx0⟩ := OwnIm.form (unhide x0)
  subst hvx0
  go_wp2_with fail
  have hu := Upd.of_below ((Below.refl w5.heap.size w5).alloc (Nat.le_refl _) (.cells #[.int .i64 d0.1, .int .i64 d0.2.1, .int .i64 d0.2.2.1, .int .i64 d0.2.2.2.1, .slice adx0_0 d0.2.2.2.2.length capx0_0] 25)) 0 0
  replace r0 := hide ((unhide r0).keep hu)
  replace x0 := hide ((unhide x0).keep hu)
  replace hT := hide ((unhide hT).keep hu)
  replace cp0 := hide ((unhide cp0).keep hu)
  replace hB := hide (below_upd (unhide hB) hu (Nat.le_refl _) (.inr (Nat.le_refl _)))
  have hs6 : Hid (w5.heap.size + 1 ≤ (w5.alloc (.cells #[.int .i64 d0.1, .int .i64 d0.2.1, .int .i64 d0.2.2.1, .int .i64 d0.2.2.2.1, .slice adx0_0 d0.2.2.2.2.length capx0_0] 25)).heap.size) := hide (by simp)
  have cx0 := hide (held_new w5 [.int .i64 d0.1, .int .i64 d0.2.1, .int .i64 d0.2.2.1, .int .i64 d0.2.2.2.1, .slice adx0_0 d0.2.2.2.2.length capx0_0] 25)
  clear hu
  generalize w5.alloc (.cells #[.int .i64 d0.1, .int .i64 d0.2.1, .int .i64 d0.2.2.1, .int .i64 d0.2.2.2.1, .slice adx0_0 d0.2.2.2.2.length capx0_0] 25) = w6 at r0 x0 hT cp0 hB hs6 cx0 ⊢
  refine (implSplitO _ d0 w6 (unhide hT) hn0 (unhide hR0) (OwnIm.ro (unhide x0))).mono ?_
  rintro e w7 ⟨vr1, rfl, ho, hu⟩
  replace r0 := hide ((unhide r0).keep hu)
  replace x0 := hide ((unhide x0).keep hu)
  replace hT := hide ((unhide hT).keep hu)
  replace cp0 := hide ((unhide cp0).keep hu)
  replace cx0 := hide ((unhide cx0).keep hu)
  replace hB := hide (below_upd (unhide hB) hu (Nat.le_refl _) (.inr (Nat.le_refl _)))
  have hs7 : Hid (w6.heap.size ≤ w7.heap.size) := hide hu.size
  have r1 := hide ho
  clear hu ho
  go_wp2_with fail
  refine (eqImageS_rd vr1 vr0 (splitF d0) w7 (unhide hL) (OwnIs.rd (unhide r1)) (OwnIs.rd (unhide r0))).mono ?_
  rintro e w8 ⟨rfl, hu⟩
  replace r0 := hide ((unhide r0).keep hu)
  replace x0 := hide ((unhide x0).keep hu)
  replace r1 := hide ((unhide r1).keep hu)
  replace hT := hide ((unhide hT).keep hu)
  replace cp0 := hide ((unhide cp0).keep hu)
  replace cx0 := hide ((unhide cx0).keep hu)
  replace hB := hide (below_upd (unhide hB) hu (Nat.le_refl _) (.inr (Nat.le_refl _)))
  have hs8 : Hid (w7.heap.size ≤ w8.heap.size) := hide hu.size
  clear hu
  have kcx0_0 := (unhide cx0).2 0 _ rfl
  have kcx0_1 := (unhide cx0).2 1 _ rfl
  have kcx0_2 := (unhide cx0).2 2 _ rfl
  have kcx0_3 := (unhide cx0).2 3 _ rfl
  have kcx0_4 := (unhide cx0).2 4 _ rfl
  have kcx0_l := (unhide cx0).1
  have kcp0_0 := (unhide cp0).2 0 _ rfl
  have kcp0_1 := (unhide cp0).2 1 _ rfl
  have kcp0_2 := (unhide cp0).2 2 _ rfl
  have kcp0_3 := (unhide cp0).2 3 _ rfl
  have kcp0_4 := (unhide cp0).2 4 _ rfl
  have kcp0_l := (unhide cp0).1
  have hTo := hide (toImage_own _ d0 w8.drew hn0 ⟨_, rfl, ⟨ad0_0, cap0_0, rfl, (unhide hA0_0).below (below_drewN (unhide hB) 1)⟩⟩)
  go_wp2_with fail
  go_region_held3 (fun w' => w'.cell? ⟨w5.heap.size, 0, none⟩ = some (.int .i64 d0.1) ∧ w'.cell? ⟨w5.heap.size, 1, none⟩ = some (.int .i64 d0.2.1) ∧ w'.cell? ⟨w5.heap.size, 2, none⟩ = some (.int .i64 d0.2.2.1) ∧ w'.cell? ⟨w5.heap.size, 3, none⟩ = some (.int .i64 d0.2.2.2.1) ∧ w'.cell? ⟨w5.heap.size, 4, none⟩ = some (.slice adx0_0 d0.2.2.2.2.length capx0_0) ∧ w'.cell? ⟨w.heap.size, 0, none⟩ = some (.int .i64 d0.1) ∧ w'.cell? ⟨w.heap.size, 1, none⟩ = some (.int .i64 d0.2.1) ∧ w'.cell? ⟨w.heap.size, 2, none⟩ = some (.int .i64 d0.2.2.1) ∧ w'.cell? ⟨w.heap.size, 3, none⟩ = some (.int .i64 d0.2.2.2.1) ∧ w'.cell? ⟨w.heap.size, 4, none⟩ = some (.slice ad0_0 d0.2.2.2.2.length cap0_0)) (first | (exact ⟨((hut.trans huf).none.cell kcx0_l).trans kcx0_0, ((hut.trans huf).none.cell kcx0_l).trans kcx0_1, ((hut.trans huf).none.cell kcx0_l).trans kcx0_2, ((hut.trans huf).none.cell kcx0_l).trans kcx0_3, ((hut.trans huf).none.cell kcx0_l).trans kcx0_4, ((hut.trans huf).none.cell kcp0_l).trans kcp0_0, ((hut.trans huf).none.cell kcp0_l).trans kcp0_1, ((hut.trans huf).none.cell kcp0_l).trans kcp0_2, ((hut.trans huf).none.cell kcp0_l).trans kcp0_3, ((hut.trans huf).none.cell kcp0_l).trans kcp0_4⟩) | (exact ⟨(hut.none.cell kcx0_l).trans kcx0_0, (hut.none.cell kcx0_l).trans kcx0_1, (hut.none.cell kcx0_l).trans kcx0_2, (hut.none.cell kcx0_l).trans kcx0_3, (hut.none.cell kcx0_l).trans kcx0_4, (hut.none.cell kcp0_l).trans kcp0_0, (hut.none.cell kcp0_l).trans kcp0_1, (hut.none.cell kcp0_l).trans kcp0_2, (hut.none.cell kcp0_l).trans kcp0_3, (hut.none.cell kcp0_l).trans kcp0_4⟩) | go_keep) (first | (go_at_call 14; refine (unhide hTo).mono ?_; rintro e wt ⟨vt, rfl, hot, hut⟩) | (go_at_call 16; refine (eqImage_rd _ _ d0 _ hn0 (OwnIm.rd (OwnIm.keep (unhide x0) (Upd.trans (Upd.drew1 _) hut))) (OwnIm.rd hot)).mono ?_; rintro e wf ⟨rfl, huf⟩))
  clear hTo kcx0_0 kcx0_1 kcx0_2 kcx0_3 kcx0_4 kcx0_l kcp0_0 kcp0_1 kcp0_2 kcp0_3 kcp0_4 kcp0_l
  have hu : Upd 0 0 w8 wf := (Upd.drew1 _).trans (hut.trans huf)
  clear hut hot huf
  replace r0 := hide ((unhide r0).keep hu)
  replace x0 := hide ((unhide x0).keep hu)
  replace r1 := hide ((unhide r1).keep hu)
  replace hT := hide ((unhide hT).keep hu)
  replace cp0 := hide ((unhide cp0).keep hu)
  replace cx0 := hide ((unhide cx0).keep hu)
  replace hB := hide (below_upd (unhide hB) hu (Nat.le_refl _) (.inr (Nat.le_refl _)))
  have hs9 : Hid (w8.heap.size ≤ wf.heap.size) := hide hu.size
  clear hu
  generalize wf = w9 at r0 x0 r1 hT cp0 cx0 hB hs9 ⊢
  have kcx0_0 := (unhide cx0).2 0 _ rfl
  have kcx0_1 := (unhide cx0).2 1 _ rfl
  have kcx0_2 := (unhide cx0).2 2 _ rfl
  have kcx0_3 := (unhide cx0).2 3 _ rfl
  have kcx0_4 := (unhide cx0).2 4 _ rfl
  have kcx0_l := (unhide cx0).1
  go_wp2_with fail
  clear kcx0_0 kcx0_1 kcx0_2 kcx0_3 kcx0_4 kcx0_l
  refine (markImage_own (1) hn0 (by omega) (unhide x0)).mono ?_
  rintro e w10 ⟨rfl, ho, hu⟩
  replace r0 := hide ((unhide r0).upd hu (by have := unhide hT0; have := unhide hs1; have := unhide hs2; have := unhide hs3; have := unhide hs4; have := unhide hs5; have := unhide hs6; have := unhide hs7; have := unhide hs8; have := unhide hs9; omega))
  replace r1 := hide ((unhide r1).upd hu (by have := unhide hT0; have := unhide hs1; have := unhide hs2; have := unhide hs3; have := unhide hs4; have := unhide hs5; have := unhide hs6; have := unhide hs7; have := unhide hs8; have := unhide hs9; omega))
  replace hT := hide ((unhide hT).upd hu (by have := unhide hT0; have := unhide hs1; have := unhide hs2; have := unhide hs3; have := unhide hs4; have := unhide hs5; have := unhide hs6; have := unhide hs7; have := unhide hs8; have := unhide hs9; omega))
  replace cp0 := hide ((unhide cp0).upd hu (by have := unhide hT0; have := unhide hs1; have := unhide hs2; have := unhide hs3; have := unhide hs4; have := unhide hs5; have := unhide hs6; have := unhide hs7; have := unhide hs8; have := unhide hs9; omega))
  replace cx0 := hide ((unhide cx0).upd hu (by have := unhide hT0; have := unhide hs1; have := unhide hs2; have := unhide hs3; have := unhide hs4; have := unhide hs5; have := unhide hs6; have := unhide hs7; have := unhide hs8; have := unhide hs9; omega))
  replace hB := hide (below_upd (unhide hB) hu (Nat.le_refl _) (by have := unhide hT0; have := unhide hs1; have := unhide hs2; have := unhide hs3; have := unhide hs4; have := unhide hs5; have := unhide hs6; have := unhide hs7; have := unhide hs8; have := unhide hs9; omega))
  replace x0 := hide ho
  have hs10 : Hid (w9.heap.size ≤ w10.heap.size) := hide hu.size
  clear hu ho
  have hk0 : ¬ (((1 + imCount d0 : Nat) : Int) < 0) := by omega
  go_wp2_with fail
  refine (eqImageS_rd vr1 vr0 (splitF d0) w10 (unhide hL) (OwnIs.rd (unhide r1)) (OwnIs.rd (unhide r0))).mono ?_
  rintro e w11 ⟨rfl, hu⟩
  replace r0 := hide ((unhide r0).keep hu)
  replace x0 := hide ((unhide x0).keep hu)
  replace r1 := hide ((unhide r1).keep hu)
  replace hT := hide ((unhide hT).keep hu)
  replace cp0 := hide ((unhide cp0).keep hu)
  replace cx0 := hide ((unhide cx0).keep hu)
  replace hB := hide (below_upd (unhide hB) hu (Nat.le_refl _) (.inr (Nat.le_refl _)))
  have hs11 : Hid (w10.heap.size ≤ w11.heap.size) := hide hu.size
  clear hu
  clear x0
  go_wp2_with fail
  refine (markImageS_own (w6.heap.size) (w7.heap.size) vr1 (1) (splitF d0) w11 (unhide hL) (by omega) (unhide r1)).mono ?_
  rintro e w12 ⟨rfl, ho, hu⟩
  replace r0 := hide ((unhide r0).upd hu (by have := unhide hT0; have := unhide hs1; have := unhide hs2; have := unhide hs3; have := unhide hs4; have := unhide hs5; have := unhide hs6; have := unhide hs7; have := unhide hs8; have := unhide hs9; have := unhide hs10; have := unhide hs11; omega))
  replace hT := hide ((unhide hT).upd hu (by have := unhide hT0; have := unhide hs1; have := unhide hs2; have := unhide hs3; have := unhide hs4; have := unhide hs5; have := unhide hs6; have := unhide hs7; have := unhide hs8; have := unhide hs9; have := unhide hs10; have := unhide hs11; omega))
  replace cp0 := hide ((unhide cp0).upd hu (by have := unhide hT0; have := unhide hs1; have := unhide hs2; have := unhide hs3; have := unhide hs4; have := unhide hs5; have := unhide hs6; have := unhide hs7; have := unhide hs8; have := unhide hs9; have := unhide hs10; have := unhide hs11; omega))
  replace cx0 := hide ((unhide cx0).upd hu (by have := unhide hT0; have := unhide hs1; have := unhide hs2; have := unhide hs3; have := unhide hs4; have := unhide hs5; have := unhide hs6; have := unhide hs7; have := unhide hs8; have := unhide hs9; have := unhide hs10; have := unhide hs11; omega))
  replace hB := hide (below_upd (unhide hB) hu (Nat.le_refl _) (by have := unhide hT0; have := unhide hs1; have := unhide hs2; have := unhide hs3; have := unhide hs4; have := unhide hs5; have := unhide hs6; have := unhide hs7; have := unhide hs8; have := unhide hs9; have := unhide hs10; have := unhide hs11; omega))
  replace r1 := hide ho
  have hs12 : Hid (w11.heap.size ≤ w12.heap.size) := hide hu.size
  clear hu ho
  go_wp2_with fail
  refine (upd_of_same (heldImageS_own (w6.heap.size) (w7.heap.size) vr1 1 (splitF d0) w12 (unhide hL) (by omega) (unhide r1))).mono ?_
  rintro e w13 ⟨rfl, hu⟩
  replace r0 := hide ((unhide r0).keep hu)
  replace r1 := hide ((unhide r1).keep hu)
  replace hT := hide ((unhide hT).keep hu)
  replace cp0 := hide ((unhide cp0).keep hu)
  replace cx0 := hide ((unhide cx0).keep hu)
  replace hB := hide (below_upd (unhide hB) hu (Nat.le_refl _) (.inr (Nat.le_refl _)))
  have hs13 : Hid (w12.heap.size ≤ w13.heap.size) := hide hu.size
  clear hu
  have hq0 : ¬ (((posIs 1 (splitF d0) (splitF d0).length : Nat) : Int) < 0) := by omega
  have kcp0_0 := (unhide cp0).2 0 _ rfl
  have kcp0_1 := (unhide cp0).2 1 _ rfl
  have kcp0_2 := (unhide cp0).2 2 _ rfl
  have kcp0_3 := (unhide cp0).2 3 _ rfl
  have kcp0_4 := (unhide cp0).2 4 _ rfl
  have kcp0_l := (unhide cp0).1
  go_wp2_with fail
  clear kcp0_0 kcp0_1 kcp0_2 kcp0_3 kcp0_4 kcp0_l
  refine (toImage_own _ d0 w13 hn0 ⟨_, rfl, ⟨ad0_0, cap0_0, rfl, (unhide hA0_0).below (unhide hB)⟩⟩).mono ?_
  rintro e w14 ⟨vy0_h0, rfl, ho, hu⟩
  replace r0 := hide ((unhide r0).keep hu)
  replace r1 := hide ((unhide r1).keep hu)
  replace hT := hide ((unhide hT).keep hu)
  replace cp0 := hide ((unhide cp0).keep hu)
  replace cx0 := hide ((unhide cx0).keep hu)
  replace hB := hide (below_upd (unhide hB) hu (Nat.le_refl _) (.inr (Nat.le_refl _)))
  have hs14 : Hid (w13.heap.size ≤ w14.heap.size) := hide hu.size
  have y0_h0 := hide ho
  clear hu ho
  go_wp2_with fail
  refine (implSplitO _ d0 w14 (unhide hT) hn0 (unhide hR0) (OwnIm.ro (unhide y0_h0))).mono ?_
  rintro e w15 ⟨vr2, rfl, ho, hu⟩
  replace r0 := hide ((unhide r0).keep hu)
  replace r1 := hide ((unhide r1).keep hu)
  replace y0_h0 := hide ((unhide y0_h0).keep hu)
  replace hT := hide ((unhide hT).keep hu)
  replace cp0 := hide ((unhide cp0).keep hu)
  replace cx0 := hide ((unhide cx0).keep hu)
  replace hB := hide (below_upd (unhide hB) hu (Nat.le_refl _) (.inr (Nat.le_refl _)))
  have hs15 : Hid (w14.heap.size ≤ w15.heap.size) := hide hu.size
  have r2 := hide ho
  clear hu ho
  clear y0_h0
  go_wp2_with fail
  refine (eqImageS_rd vr2 vr0 (splitF d0) w15 (unhide hL) (OwnIs.rd (unhide r2)) (OwnIs.rd (unhide r0))).mono ?_
  rintro e w16 ⟨rfl, hu⟩
  replace r0 := hide ((unhide r0).keep hu)
  replace r1 := hide ((unhide r1).keep hu)
  replace r2 := hide ((unhide r2).keep hu)
  replace hT := hide ((unhide hT).keep hu)
  replace cp0 := hide ((unhide cp0).keep hu)
  replace cx0 := hide ((unhide cx0).keep hu)
  replace hB := hide (below_upd (unhide hB) hu (Nat.le_refl _) (.inr (Nat.le_refl _)))
  have hs16 : Hid (w15.heap.size ≤ w16.heap.size) := hide hu.size
  clear hu
  go_wp2_with fail
  refine (upd_of_same (heldImageS_own (w6.heap.size) (w7.heap.size) vr1 1 (splitF d0) w16 (unhide hL) (by omega) (unhide r1))).mono ?_
  rintro e w17 ⟨rfl, hu⟩
  replace r0 := hide ((unhide r0).keep hu)
  replace r1 := hide ((unhide r1).keep hu)
  replace r2 := hide ((unhide r2).keep hu)
  replace hT := hide ((unhide hT).keep hu)
  replace cp0 := hide ((unhide cp0).keep hu)
  replace cx0 := hide ((unhide cx0).keep hu)
  replace hB := hide (below_upd (unhide hB) hu (Nat.le_refl _) (.inr (Nat.le_refl _)))
  have hs17 : Hid (w16.heap.size ≤ w17.heap.size) := hide hu.size
  clear hu
  go_wp2_with fail
  go_ret
  exact ⟨rfl, unhide hB⟩

theorem lawSplit (d0 : Im) (ad0_0 : Option Addr) (cap0_0 : Nat) (w : World) (hT : Held w 0 passCells) (hz0 : d0.2.2.2.2.length ≤ 9223372036854775807) (hA0_0 : ArgI w ad0_0 d0.2.2.2.2) (hR0 : InIm d0) :
    Calls Tryd.prog 4 #[.agg #[.int .i64 d0.1, .int .i64 d0.2.1, .int .i64 d0.2.2.1, .int .i64 d0.2.2.2.1, .slice ad0_0 d0.2.2.2.2.length cap0_0]] w fun e w' => e = .returned (.bool true) ∧ Below w.heap.size w w' := by
  by_cases h0 : 1048576 < d0.2.2.2.2.length
  · exact lawSplit_long0 d0 ad0_0 cap0_0 w hz0 h0 
  exact lawSplit_short d0 ad0_0 cap0_0 w hT hz0 (by omega) hA0_0 hR0
end Go.Proofs.YtdochjkkgmkdgaaDoor

/- Opening an argument that is a byte string or a list of ints: what the form's reading of it says of cells. -/
namespace Go.Proofs.YtdochjkkgmkdgaaDoor
open Go.ChangeShapes Go.WideShapes Go.ChangeAt Go.RowKit

theorem Tryd.own : ownKnob Tryd.prog.godebug = none := by kernel_rfl
theorem Tryd.laidOut : laidOutB Tryd.prog = true := by kernel_rfl
theorem cellsY : Tryd.prog.cellsOf 5 = 1 := by kernel_rfl
theorem cellsI : Tryd.prog.cellsOf 3 = 1 := by kernel_rfl
theorem i64_of_wf {x : Int} (h : (Lit.int .i64 x).wf = true) : -9223372036854775808 ≤ x ∧ x ≤ 9223372036854775807 := by
  simp [Lit.wf, IntKind.min, IntKind.max, IntKind.signed, IntKind.bits] at h
  exact ⟨by omega, by omega⟩
theorem u64_of_wf {x : Int} (h : (Lit.int .u64 x).wf = true) : 0 ≤ x ∧ x ≤ 18446744073709551615 := by
  simp [Lit.wf, IntKind.min, IntKind.max, IntKind.signed, IntKind.bits] at h
  exact ⟨by omega, by omega⟩
theorem u8_of_wf {x : Int} (h : (Lit.int .u8 x).wf = true) : 0 ≤ x ∧ x < 256 := by
  simp [Lit.wf, IntKind.min, IntKind.max, IntKind.signed, IntKind.bits] at h
  exact ⟨by omega, by omega⟩

set_option maxRecDepth 100000 in
theorem open_byts {H : Type} {enc : TypeId × Value → H} {W : World} {base : Nat} {v : Value} {d : DataW H} {p : List MemPlace}
    (hv : Value.okWide Tryd.prog W .any base 22 v) (h0 : DataW.Trod enc Tryd.prog W 0 (fun _ => true) true 22 v d p) (hlt : ∀ x ∈ p, x.block < W.heap.size) :
    ∃ ad cap zs, v = .slice ad zs.length cap ∧ ArgY W ad zs ∧ InB zs := by
  obtain ⟨a0, len, cap, rfl⟩ := okWide_slice Tryd.underlying22 hv
  obtain ⟨fuel, hf⟩ := h0
  rcases open_ints Tryd.underlying22 Tryd.underlying5 cellsY hf with ⟨hcs, hx⟩ | ⟨a, len', cap', zs, hcs, _, hl, hm, hz, hx, hcell, hwz⟩
  · simp [Value.cells] at hcs
    obtain ⟨rfl, rfl, rfl⟩ := hcs
    exact ⟨none, 0, [], rfl, fun h => absurd rfl h, fun j => by simp⟩
  · simp [Value.cells] at hcs
    obtain ⟨rfl, rfl, rfl⟩ := hcs
    simp only [Prod.mk.injEq] at hx
    obtain ⟨rfl, rfl⟩ := hx
    simp only [if_true] at hz
    have hlen : (zs.take len).length = len := by rw [List.length_take]; omega
    have hget : ∀ j, j < len → (zs.take len).getD j 0 = zs.getD j 0 := fun j hj => by
      rw [List.getD_eq_getElem?_getD, List.getD_eq_getElem?_getD, List.getElem?_take, if_pos hj]
    refine ⟨some a, cap, zs.take len, by rw [hlen], ?_, ?_⟩
    · intro hne
      have hpos : 0 < len := by
        rcases Nat.eq_zero_or_pos len with h | h
        · subst h; simp at hne
        · exact h
      obtain ⟨b, off, spot⟩ := a
      have hspot : spot = none := by simpa [Addr.add] using World.cell?_spot (hcell 0 (by omega))
      subst hspot
      refine ⟨b, off, rfl, hlt (.cell b off) (MemPlace.mem_row.2 ⟨0, by omega, by simp⟩), fun j hj => ?_⟩
      rw [hget j (by omega), ← add_plain]
      exact hcell j (by omega)
    · intro j
      by_cases hj : j < len
      · rw [hget j hj, List.getD_eq_getElem?_getD, List.getElem?_eq_getElem (by omega)]
        exact u8_of_wf (hwz _ (List.getElem_mem _))
      · rw [List.getD_eq_getElem?_getD, List.getElem?_eq_none (by omega)]; simp

set_option maxRecDepth 100000 in
theorem open_intl {H : Type} {enc : TypeId × Value → H} {W : World} {base : Nat} {v : Value} {d : DataW H} {p : List MemPlace}
    (hv : Value.okWide Tryd.prog W .any base 23 v) (h0 : DataW.Trod enc Tryd.prog W 0 (fun _ => true) true 23 v d p) (hlt : ∀ x ∈ p, x.block < W.heap.size) :
    ∃ ad cap zs, v = .slice ad zs.length cap ∧ ArgI W ad zs ∧ InI zs := by
  obtain ⟨a0, len, cap, rfl⟩ := okWide_slice Tryd.underlying23 hv
  obtain ⟨fuel, hf⟩ := h0
  rcases open_ints Tryd.underlying23 Tryd.underlying3 cellsI hf with ⟨hcs, hx⟩ | ⟨a, len', cap', zs, hcs, _, hl, hm, hz, hx, hcell, hwz⟩
  · simp [Value.cells] at hcs
    obtain ⟨rfl, rfl, rfl⟩ := hcs
    exact ⟨none, 0, [], rfl, fun h => absurd rfl h, fun j => by simp⟩
  · simp [Value.cells] at hcs
    obtain ⟨rfl, rfl, rfl⟩ := hcs
    simp only [Prod.mk.injEq] at hx
    obtain ⟨rfl, rfl⟩ := hx
    simp only [if_true] at hz
    have hlen : (zs.take len).length = len := by rw [List.length_take]; omega
    have hget : ∀ j, j < len → (zs.take len).getD j 0 = zs.getD j 0 := fun j hj => by
      rw [List.getD_eq_getElem?_getD, List.getD_eq_getElem?_getD, List.getElem?_take, if_pos hj]
    refine ⟨some a, cap, zs.take len, by rw [hlen], ?_, ?_⟩
    · intro hne
      have hpos : 0 < len := by
        rcases Nat.eq_zero_or_pos len with h | h
        · subst h; simp at hne
        · exact h
      obtain ⟨b, off, spot⟩ := a
      have hspot : spot = none := by simpa [Addr.add] using World.cell?_spot (hcell 0 (by omega))
      subst hspot
      refine ⟨b, off, rfl, hlt (.cell b off) (MemPlace.mem_row.2 ⟨0, by omega, by simp⟩), fun j hj => ?_⟩
      rw [hget j (by omega), ← add_plain]
      exact hcell j (by omega)
    · intro j
      by_cases hj : j < len
      · rw [hget j hj, List.getD_eq_getElem?_getD, List.getElem?_eq_getElem (by omega)]
        exact i64_of_wf (hwz _ (List.getElem_mem _))
      · rw [List.getD_eq_getElem?_getD, List.getElem?_eq_none (by omega)]; simp
end Go.Proofs.YtdochjkkgmkdgaaDoor

/- Opening a list of numbers of any kind that stands in a struct's field: what the form's reading of it says of cells. -/
namespace Go.Proofs.YtdochjkkgmkdgaaDoor
open Go.ChangeShapes Go.WideShapes Go.ChangeAt Go.RowKit

theorem open_row_at {H : Type} {enc : TypeId × Value → H} {W : World} {t e : TypeId} {k : IntKind} {fuel : Nat} {v : Value} {x : DataW H × List MemPlace}
    (ht : Tryd.prog.underlying t = some (.slice e)) (he : Tryd.prog.underlying e = some (.int k)) (hc : Tryd.prog.cellsOf e = 1)
    (hf : DataW.trod enc Tryd.prog W 0 (fun _ => true) true fuel t [v] = some x) (hlt : ∀ y ∈ x.2, y.block < W.heap.size) :
    ∃ ad cap zs, v = .slice ad zs.length cap ∧ ReadK k W ad zs ∧ zs.length ≤ 9223372036854775807 ∧ ∀ j, j < zs.length → (Lit.int k (zs.getD j 0)).wf = true := by
  rcases open_ints ht he hc hf with ⟨hcs, hx⟩ | ⟨a, len, cap, zs, hcs, _, hl, hm, hz, hx, hcell, hwz⟩
  · simp only [List.cons.injEq, and_true] at hcs
    subst hcs
    exact ⟨none, 0, [], rfl, fun h => absurd rfl h, by simp, fun j hj => by simp at hj⟩
  · simp only [List.cons.injEq, and_true] at hcs
    subst hcs hx
    simp only [if_true] at hz
    have hlen : (zs.take len).length = len := by rw [List.length_take]; omega
    have hget : ∀ j, j < len → (zs.take len).getD j 0 = zs.getD j 0 := fun j hj => by
      rw [List.getD_eq_getElem?_getD, List.getD_eq_getElem?_getD, List.getElem?_take, if_pos hj]
    refine ⟨some a, cap, zs.take len, by rw [hlen], ?_, by rw [hlen]; unfold maxLen at hm; omega, ?_⟩
    · intro hne
      have hpos : 0 < len := by
        rcases Nat.eq_zero_or_pos len with h | h
        · subst h; simp at hne
        · exact h
      obtain ⟨b, off, spot⟩ := a
      have hspot : spot = none := by simpa [Addr.add] using World.cell?_spot (hcell 0 (by omega))
      subst hspot
      refine ⟨b, off, rfl, hlt (.cell b off) (MemPlace.mem_row.2 ⟨0, by omega, by simp⟩), fun j hj => ?_⟩
      rw [hget j (by omega), ← add_plain]
      exact hcell j (by omega)
    · intro j hj
      rw [hlen] at hj
      rw [hget j hj, List.getD_eq_getElem?_getD, List.getElem?_eq_getElem (by omega)]
      exact hwz _ (List.getElem_mem _)
theorem inI_of_wf {zs : List Int} (h : ∀ j, j < zs.length → (Lit.int .i64 (zs.getD j 0)).wf = true) : InI zs := by
  intro j
  by_cases hj : j < zs.length
  · exact i64_of_wf (h j hj)
  · rw [List.getD_eq_getElem?_getD, List.getElem?_eq_none (by omega)]; simp
theorem inB_of_wf {zs : List Int} (h : ∀ j, j < zs.length → (Lit.int .u8 (zs.getD j 0)).wf = true) : InB zs := by
  intro j
  by_cases hj : j < zs.length
  · exact u8_of_wf (h j hj)
  · rw [List.getD_eq_getElem?_getD, List.getElem?_eq_none (by omega)]; simp
end Go.Proofs.YtdochjkkgmkdgaaDoor

/- Opening an argument that is an image: what the form's reading of it says. -/
namespace Go.Proofs.YtdochjkkgmkdgaaDoor
open Go.ChangeShapes Go.WideShapes Go.ChangeAt Go.RowKit

theorem cellsIm : Tryd.prog.cellsOf 37 = 5 := by kernel_rfl
theorem cellsLI : Tryd.prog.cellsOf 23 = 1 := by kernel_rfl

set_option maxRecDepth 100000 in
theorem open_image {H : Type} {enc : TypeId × Value → H} {W : World} {base : Nat} {v : Value} {d : DataW H} {p : List MemPlace}
    (hv : Value.okWide Tryd.prog W .any base 37 v) (h0 : DataW.Trod enc Tryd.prog W 0 (fun _ => true) true 37 v d p) (hlt : ∀ x ∈ p, x.block < W.heap.size) :
    ∃ (x : Im) (ad : Option Addr) (cap : Nat), v = .agg #[.int .i64 x.1, .int .i64 x.2.1, .int .i64 x.2.2.1, .int .i64 x.2.2.2.1, .slice ad x.2.2.2.2.length cap] ∧ ArgI W ad x.2.2.2.2 ∧ InIm x ∧ x.2.2.2.2.length ≤ 9223372036854775807 := by
  obtain ⟨cs, rfl, hsz⟩ := okWide_struct Tryd.underlying37 hv
  rw [cellsIm] at hsz
  obtain ⟨fuel, hf⟩ := h0
  obtain ⟨xs, k, _, hxy, hcl, hxl, hfl⟩ := DataW.trod_struct Tryd.underlying37 hf
  obtain ⟨cl⟩ := cs
  simp only [List.size_toArray] at hsz
  match xs, hxl, cl, hsz with
  | [y0, y1, y2, y3, y4], _, [v0, v1, v2, v3, v4], _ =>
    have g0 := hfl 0 _ rfl
    have g1 := hfl 1 _ rfl
    have g2 := hfl 2 _ rfl
    have g3 := hfl 3 _ rfl
    have g4 := hfl 4 _ rfl
    simp [cellsI, cellsLI, Value.cells] at g0 g1 g2 g3 g4
    obtain ⟨n0, q0, _, w0⟩ := DataW.trod_int Tryd.underlying3 g0
    obtain ⟨n1, q1, _, w1⟩ := DataW.trod_int Tryd.underlying3 g1
    obtain ⟨n2, q2, _, w2⟩ := DataW.trod_int Tryd.underlying3 g2
    obtain ⟨n3, q3, _, w3⟩ := DataW.trod_int Tryd.underlying3 g3
    simp only [List.cons.injEq, and_true] at q0 q1 q2 q3
    subst q0 q1 q2 q3
    have hp : p = y0.2 ++ (y1.2 ++ (y2.2 ++ (y3.2 ++ y4.2))) := by simpa using congrArg Prod.snd hxy
    obtain ⟨ad, cap, zs, e, hA, hl, hw⟩ := open_row_at Tryd.underlying23 Tryd.underlying3 cellsI g4 (fun y hy => hlt y (by rw [hp]; simp [hy]))
    subst e
    exact ⟨(n0, n1, n2, n3, zs), ad, cap, rfl, hA, ⟨i64_of_wf w0, i64_of_wf w1, i64_of_wf w2, i64_of_wf w3, inI_of_wf hw⟩, hl⟩
end Go.Proofs.YtdochjkkgmkdgaaDoor
