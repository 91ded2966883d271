/- Rows of numbers as values and in blocks; the program's small rows, forward and back. -/
import Derived.Test.YtpofmcepjmbmcaaDoorPlainSmB
import Derived.Test.YtpofmcepjmbmcaaDoorWHeld
import Derived.Test.YtpofmcepjmbmcaaDoorWIntsD
import Derived.Test.YtpofmcepjmbmcaaDoorWUpd2
import Derived.Test.YtpofmcepjmbmcaaDoorWRow
import Derived.StillTailTactics
import Derived.Deep.WholeRow
import Derived.Laws.ResultCell
import Derived.Laws.CopyOwn
import Derived.Deep.DeepCutAuto
namespace Go.Proofs.YtpofmcepjmbmcaaDoor
open Go.RowKit

def rwc (xs : List Int) : Array Value := (ints xs).toArray
theorem rwc_size {xs : List Int} : (rwc xs).size = xs.length := by simp [rwc, ints]
theorem rwc_one (xs : List Int) : (rwc xs).all (·.oneCell') = true := by
  rw [Array.all_eq_true_iff_forall_mem]
  intro v hv
  simp only [rwc, ints, List.mem_toArray, List.mem_map] at hv
  obtain ⟨x, _, rfl⟩ := hv
  rfl
theorem rwc_at {xs : List Int} {j : Nat} (h : j < xs.length) : (rwc xs)[j]? = some (.int .i64 (xs.getD j 0)) := by
  simp only [rwc, ints, List.getElem?_toArray, List.getElem?_map, List.getD_eq_getElem?_getD, List.getElem?_eq_getElem h]
  rfl
theorem rwc_set (xs : List Int) (j : Nat) (x : Int) : (rwc xs).setIfInBounds j (.int .i64 x) = rwc (xs.set j x) := by
  simp only [rwc, ints, List.setIfInBounds_toArray, List.map_set]
/-- A row of n numbers lies in a block. -/
def RAt (t : TypeId) (n : Nat) (W : World) (g : Nat) (xs : List Int) : Prop := W.heap[g]? = some (.cells (rwc xs) t (0, 0)) ∧ xs.length = n
theorem RAt.lt {t : TypeId} {n : Nat} {W : World} {g : Nat} {xs : List Int} (h : RAt t n W g xs) : g < W.heap.size := (Array.getElem?_eq_some_iff.1 h.1).1
theorem RAt.cell {t : TypeId} {n : Nat} {W : World} {g : Nat} {xs : List Int} (h : RAt t n W g xs) {j : Nat} (hj : j < n) : W.cell? ⟨g, j, none⟩ = some (.int .i64 (xs.getD j 0)) := by
  rw [cell_of_row _ _ _ _ _ _ h.1, rwc_at (by rw [h.2]; exact hj)]
theorem RAt.frozen {t : TypeId} {n : Nat} {W : World} {g : Nat} {xs : List Int} (h : RAt t n W g xs) (j : Nat) : W.frozen? ⟨g, j, none⟩ = false := frozen_of_row _ _ _ _ _ h.1
theorem RAt.upd {t : TypeId} {n : Nat} {W W' : World} {g a b : Nat} {xs : List Int} (h : RAt t n W g xs) (u : Upd a b W W') (hg : g < a ∨ b ≤ g) : RAt t n W' g xs := ⟨by rw [u.block g h.lt hg]; exact h.1, h.2⟩
theorem RAt.keep {t : TypeId} {n : Nat} {W W' : World} {g : Nat} {xs : List Int} (h : RAt t n W g xs) (u : Upd 0 0 W W') : RAt t n W' g xs := h.upd u (.inr (Nat.zero_le _))
theorem RAt.other {t : TypeId} {n : Nat} {W : World} {g : Nat} {xs : List Int} (h : RAt t n W g xs) {a : Addr} (ha : a.block ≠ g) (v : Value) : RAt t n (W.setCell a v) g xs := ⟨by rw [Below.heap_setCell _ _ _ _ (fun e => ha e.symm)]; exact h.1, h.2⟩
theorem RAt.set {t : TypeId} {n : Nat} {W : World} {g : Nat} {xs : List Int} (h : RAt t n W g xs) (j : Nat) (x : Int) : RAt t n (W.setCell ⟨g, j, none⟩ (.int .i64 x)) g (xs.set j x) := by
  refine ⟨?_, by rw [List.length_set]; exact h.2⟩
  rw [heap_setCell_same _ _ _ _ _ _ h.1, rwc_set]
theorem rAt_new (t : TypeId) (n : Nat) (W : World) (xs : List Int) (h : xs.length = n) : RAt t n (W.alloc (.cells (rwc xs) t)) W.heap.size xs := ⟨heap_alloc_new _ _, h⟩
theorem RAt.alloc {t : TypeId} {n : Nat} {W : World} {g : Nat} {xs : List Int} (h : RAt t n W g xs) (o : Obj) : RAt t n (W.alloc o) g xs :=
  h.keep (Upd.of_below ((Below.refl W.heap.size W).alloc (Nat.le_refl _) o) 0 0)
/-- Three new rows. -/
theorem rows3 (t : TypeId) (n : Nat) (w : World) (A B C : List Int) (hA : A.length = n) (hB : B.length = n) (hC : C.length = n) (w0 : World) (hw : w0 = ((w.alloc (.cells (rwc A) t)).alloc (.cells (rwc B) t)).alloc (.cells (rwc C) t)) :
    RAt t n w0 w.heap.size A ∧ RAt t n w0 (w.heap.size + 1) B ∧ RAt t n w0 (w.heap.size + 2) C ∧ Below w.heap.size w w0 := by
  subst hw
  refine ⟨((rAt_new t n w A hA).alloc _).alloc _, ?_, ?_, (((Below.refl _ w).alloc (Nat.le_refl _) _).alloc (by simp) _).alloc (by simp; omega) _⟩
  · have h := rAt_new t n (w.alloc (.cells (rwc A) t)) B hB
    rw [show (w.alloc (.cells (rwc A) t)).heap.size = w.heap.size + 1 by simp] at h
    exact h.alloc _
  · have h := rAt_new t n ((w.alloc (.cells (rwc A) t)).alloc (.cells (rwc B) t)) C hC
    rw [show ((w.alloc (.cells (rwc A) t)).alloc (.cells (rwc B) t)).heap.size = w.heap.size + 2 by simp] at h
    exact h
theorem Upd.drewB (w : World) : Upd 0 0 w w.drew := ⟨rfl, rfl, rfl, Nat.le_refl _, fun _ _ _ => rfl⟩
def z4 : List Int := List.replicate 4 0
theorem z4_len : z4.length = 4 := rfl
theorem info4 : (Tryd.prog.info? 78).map (fun i => (i.zero, i.size)) = some (some (.agg #[.int .i64 0, .int .i64 0, .int .i64 0, .int .i64 0]), 4) := by kernel_rfl
theorem zero4 : ∀ w, (zeroValue 78).run Tryd.prog w = .ok (.agg #[.int .i64 0, .int .i64 0, .int .i64 0, .int .i64 0]) w := (zero_of_info info4).1
theorem size4 : (Tryd.prog.info? 78).map (·.size) = some 4 := (zero_of_info info4).2
theorem wrapB {n : Int} (h : -9223372036854775808 ≤ n ∧ n ≤ 9223372036854775807) : IntKind.i64.wrap n = n := by
  simp [IntKind.wrap, IntKind.bits, IntKind.signed]; omega
def smW : List Int := [1, 1, 1, 1, 2, 1, -1, -2, 1, -1, -1, 1, 1, -2, 2, -1]
theorem idx_wave (a : Nat) (ha : a < 4) (W : World) : (Instr.index 79 (.agg (ints smW).toArray) (.int .i64 (a : Int))).run Tryd.prog W = .ok (.agg #[.int .i64 (smT a 0), .int .i64 (smT a 1), .int .i64 (smT a 2), .int .i64 (smT a 3)]) W := by
  rcases (show a = 0 ∨ a = 1 ∨ a = 2 ∨ a = 3 by omega) with e | e | e | e <;> subst e <;> kernel_rfl
theorem idx_four (y0 y1 y2 y3 : Int) (j : Nat) (hj : j < 4) (W : World) : (Instr.index 78 (.agg #[.int .i64 y0, .int .i64 y1, .int .i64 y2, .int .i64 y3]) (.int .i64 (j : Int))).run Tryd.prog W = .ok (.int .i64 ([y0, y1, y2, y3].getD j 0)) W := by
  rcases (show j = 0 ∨ j = 1 ∨ j = 2 ∨ j = 3 by omega) with e | e | e | e <;> subst e <;> kernel_rfl
theorem smT_four (a j : Nat) (hj : j < 4) : [smT a 0, smT a 1, smT a 2, smT a 3].getD j 0 = smT a j := by
  rcases (show j = 0 ∨ j = 1 ∨ j = 2 ∨ j = 3 by omega) with e | e | e | e <;> subst e <;> rfl
theorem sizeW : (Tryd.prog.info? 79).map (·.size) = some 16 := by kernel_rfl
/-- What the sums' walk keeps. -/
structure SmSt (w wr : World) (r xs : List Int) : Prop where
  box : RAt 78 4 wr w.heap.size r
  res : RAt 78 4 wr (w.heap.size + 1) z4
  sum : RAt 78 4 wr (w.heap.size + 2) xs
  bel : Below w.heap.size w wr
theorem SmSt.upd {w wr wx : World} {r xs : List Int} (h : SmSt w wr r xs) (u : Upd 0 0 wr wx) : SmSt w wx r xs :=
  ⟨h.box.keep u, h.res.keep u, h.sum.keep u, below_upd h.bel u (Nat.le_refl _) (.inr (Nat.zero_le _))⟩
theorem SmSt.put {w wr : World} {r xs : List Int} (h : SmSt w wr r xs) (k : Nat) (x : Int) : SmSt w (wr.setCell ⟨w.heap.size + 2, k, none⟩ (.int .i64 x)) r (xs.set k x) :=
  ⟨h.box.other (by simp) _, h.res.other (by simp) _, h.sum.set k x, h.bel.setCell (p := ⟨w.heap.size + 2, k, none⟩) (by simp) _⟩
set_option maxHeartbeats 16000000 in
set_option maxRecDepth 1000000 in
theorem implSmallSums (r : List Int) (w : World) (hr : r.length = 4) (hb : ∀ j, j < 4 → -2000000000 ≤ r.getD j 0 ∧ r.getD j 0 ≤ 2000000000) (hTb : Held w 1 (ints smW)) :
    Calls Tryd.prog 71 #[.agg (rwc r)] w fun e w' => e = .returned (.agg (rwc (tabN 4 (sumS r)))) ∧ Upd 0 0 w w' := by
  have hz := zero4
  have hsq : Hid (∀ w0, w0 = ((w.alloc (.cells (rwc r) 78)).alloc (.cells #[.int .i64 0, .int .i64 0, .int .i64 0, .int .i64 0] 78)).alloc (.cells #[.int .i64 0, .int .i64 0, .int .i64 0, .int .i64 0] 78) →
      RAt 78 4 w0 w.heap.size r ∧ RAt 78 4 w0 (w.heap.size + 1) z4 ∧ RAt 78 4 w0 (w.heap.size + 2) z4 ∧ Below w.heap.size w w0) := hide (rows3 78 4 w r z4 z4 hr z4_len z4_len)
  have hS0 := hide (fun u (n : Nat) (hn : n ≤ 4) => sumT_bd (K := 2000000000) u hb n hn)
  replace hb := hide hb
  go_enter Tryd.func71, Tryd.ntmps71
  go_upto_region 2 with fail
  obtain ⟨w0, hw0⟩ : ∃ w0, w0 = ((w.alloc (.cells (rwc r) 78)).alloc (.cells #[.int .i64 0, .int .i64 0, .int .i64 0, .int .i64 0] 78)).alloc (.cells #[.int .i64 0, .int .i64 0, .int .i64 0, .int .i64 0] 78) := ⟨_, rfl⟩
  obtain ⟨hBx, hRs, hSm, hbw⟩ := unhide hsq w0 hw0
  rw [← hw0]
  clear hw0
  have hT0 := hTb.keep (Upd.of_below hbw 0 0)
  have hN : Hid (SmSt w w0 r (tabN 4 (prt (sumS r) id 0 0))) := hide ⟨hBx, hRs, by rw [prtN_zero]; exact hSm, hbw⟩
  clear hsq hBx hRs hSm hbw
  refine wp_region_lit ?_
  refine wpList_load_list rfl 79 (.global 1) rfl ⟨1, 0, none⟩ rfl (ints smW) (fun j v hj => by rw [add_cell, Nat.zero_add]; exact hT0.2 j v hj) _ Tryd.underlying79 rfl sizeW ?_
  clear hT0
  have hI := hide idx_wave
  go_wp2_with fail
  go_loopw [9] (fun i wr => ∃ a : Nat, a ≤ 4 ∧ i = .int .i64 (a : Int) ∧ Hid (SmSt w wr r (tabN 4 (prt (sumS r) id a 0)))) (fun i _ => 4 - (intOf i).toNat)
  case atStart => exact ⟨0, by omega, rfl, hN⟩
  case round =>
    clear hN
    obtain ⟨a, ha, rfl, hN⟩ := hrel
    by_cases halt : a < 4
    · have hab : decide ((a : Int) < 4) = true := decide_eq_true (by omega)
      have hI1 := unhide hI a halt
      have hnk := hide (heldF_new wr [.int .i64 (smT a 0), .int .i64 (smT a 1), .int .i64 (smT a 2), .int .i64 (smT a 3)] 78)
      have hN1 := hide ((unhide hN).upd (Upd.of_below ((Below.refl wr.heap.size wr).alloc (Nat.le_refl _) (.cells #[.int .i64 (smT a 0), .int .i64 (smT a 1), .int .i64 (smT a 2), .int .i64 (smT a 3)] 78)) 0 0))
      have hgt : w.heap.size + 2 < wr.heap.size := (unhide hN).sum.lt
      clear hN hI
      go_upto_region 5 with fail
      generalize wr.alloc (.cells #[.int .i64 (smT a 0), .int .i64 (smT a 1), .int .i64 (smT a 2), .int .i64 (smT a 3)] 78) = w1 at hN1 hnk ⊢
      have c0 := (unhide hnk).1.2 0 _ rfl
      have c1 := (unhide hnk).1.2 1 _ rfl
      have c2 := (unhide hnk).1.2 2 _ rfl
      have c3 := (unhide hnk).1.2 3 _ rfl
      clear hnk
      go_wp2_with fail
      clear c0 c1 c2 c3 hI1 hgt
      go_loopw [14] (fun i wr => ∃ (j : Nat) (S : Int), j ≤ 4 ∧ i = .int .i64 (j : Int) ∧ Hid (S = sumT r a j) ∧ Hid (SmSt w wr r (tabN 4 (prt (sumS r) id a S)))) (fun i _ => 4 - (intOf i).toNat)
      case atStart => exact ⟨0, 0, by omega, rfl, hide rfl, hN1⟩
      case round =>
        clear hN1
        obtain ⟨j, S, hj, rfl, hS, hN⟩ := hrel
        by_cases hjlt : j < 4
        · have hjb : decide ((j : Int) < 4) = true := decide_eq_true (by omega)
          have hJ := idx_four (smT a 0) (smT a 1) (smT a 2) (smT a 3) j hjlt
          rw [smT_four a j hjlt] at hJ
          have hSb := unhide hS0 a j (by omega)
          rw [← unhide hS] at hSb
          have hSb2 : -16000000000 ≤ S ∧ S ≤ 16000000000 := by omega
          clear hSb
          obtain ⟨S0, S1⟩ := hSb2
          have hnx : Hid (sumT r a (j + 1) = S + smT a j * r.getD j 0) := hide (by rw [unhide hS]; rfl)
          have hck := (unhide hN).box.cell hjlt
          have hsm := (unhide hN).sum.cell halt
          have hfz := (unhide hN).sum.frozen a
          have hput := hide (fun x => (unhide hN).put a x)
          rw [tabN_getD 4 _ a halt, prt_at (sumS r) id a S a rfl] at hsm
          have hPb := smT_mul a j (r.getD j 0) 2000000000 (unhide hb j hjlt)
          generalize r.getD j 0 = x at hck hnx hPb
          generalize smT a j = m at hJ hnx hPb
          obtain ⟨P, hP⟩ : ∃ P, m * x = P := ⟨_, rfl⟩
          rw [hP] at hnx hPb
          obtain ⟨P0, P1⟩ := hPb
          have hput2 := hide (unhide hput (S + P))
          rw [prtN_set 4 (sumS r) id a S (S + P) a halt rfl (fun k _ e => e)] at hput2
          have w4 : IntKind.i64.wrap P = P := wrapB (by omega)
          have w5 : IntKind.i64.wrap (S + P) = S + P := wrapB (by omega)
          have i1 : (0 : Int) ≤ (j : Int) := by omega
          have i2 : (j : Int) < 4 := by omega
          have i3 : (0 : Int) ≤ (a : Int) := by omega
          have i4 : (a : Int) < 4 := by omega
          clear hput hS hN
          go_wp2_with fail
          refine wp_region_still_tail 10 (by kernel_rfl) (by kernel_rfl) ?_
          simp only [List.take_succ_cons, List.take_zero, List.drop_succ_cons, List.drop_zero]
          iterate 10 still_step
          refine wpStill_nil ?_
          go_wp2_with fail
          go_roundw
          case rel => exact ⟨j + 1, S + P, by omega, by go_num, hide (unhide hnx).symm, hide ((unhide hput2).upd (Upd.drewB _))⟩
          case measure => simp [intOf]; omega
        · obtain rfl : j = 4 := by omega
          have hN2 : Hid (SmSt w wr r (tabN 4 (prt (sumS r) id (a + 1) 0))) := hide (by
            have h := unhide hN
            rw [prtN_next 4 (sumS r) id a S (fun k hk e => by have e2 : k = a := e; subst e2; rw [unhide hS]; rfl)] at h
            exact h)
          clear hN
          go_wp2_with fail
          go_roundw
          case rel => exact ⟨a + 1, by omega, by go_num, hN2⟩
          case measure => simp [intOf]; omega
    · obtain rfl : a = 4 := by omega
      have hN2 : Hid (SmSt w wr r (tabN 4 (sumS r))) := hide (by
        have h := unhide hN
        rw [prtN_done 4 (sumS r) id 4 (fun k hk => hk)] at h
        exact h)
      clear hN hI
      go_upto_region 11 with fail
      refine wp_region_lit ?_
      refine wpList_load_row rfl 78 (.tmp 3) rfl (w.heap.size + 2) rfl 78 (rwc (tabN 4 (sumS r))) (0, 0) _ (unhide hN2).sum.1 Tryd.underlying78 rfl (by rw [rwc_size, tabN_length]; exact size4) ?_
      refine wpList_store_row rfl 78 (.tmp 2) (.tmp 30) rfl (w.heap.size + 1) (rwc (tabN 4 (sumS r))) rfl rfl 78 (rwc z4) (unhide hN2).res.1 (by rw [rwc_size, tabN_length]; exact size4) (by rw [rwc_size, rwc_size, tabN_length]; rfl) (rwc_one _) ?_
      have hres : (wr.setRow (w.heap.size + 1) (rwc (tabN 4 (sumS r)))).heap[w.heap.size + 1]? = some (.cells (rwc (tabN 4 (sumS r))) 78 (0, 0)) := setRow_heap wr _ _ _ _ _ (unhide hN2).res.1
      replace hres := hide hres
      have hb2 := hide (below_setRow (unhide hN2).bel (show w.heap.size ≤ w.heap.size + 1 by omega) (rwc (tabN 4 (sumS r))))
      clear hN2
      go_wp2_with fail
      refine bodyPost_ret (v := .agg (rwc (tabN 4 (sumS r)))) (results_cell_row rfl _ _ (w.heap.size + 1) 78 (rwc (tabN 4 (sumS r))) (0, 0) _ rfl (unhide hres) Tryd.underlying78 rfl (by rw [rwc_size, tabN_length]; exact size4)) rfl ⟨rfl, Upd.of_below (unhide hb2) 0 0⟩
end Go.Proofs.YtpofmcepjmbmcaaDoor
