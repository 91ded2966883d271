/- The program's small blocks: turned over, each row changed on the way. -/
import Derived.Test.YtpofmcepjmbmcaaDoorWSbB
namespace Go.Proofs.YtpofmcepjmbmcaaDoor
open Go.RowKit

def z16 : List Int := List.replicate 16 0
theorem z16_len : z16.length = 16 := by simp [z16]
theorem infoSb : (Tryd.prog.info? 80).map (fun i => (i.zero, i.size)) = some (some (.agg (rwc z16)), 16) := by kernel_rfl
theorem zero16 : ∀ w, (zeroValue 80).run Tryd.prog w = .ok (.agg (rwc z16)) w := (zero_of_info infoSb).1
theorem size16 : (Tryd.prog.info? 80).map (·.size) = some 16 := (zero_of_info infoSb).2
theorem idx_rwc (ys : List Int) (hy : ys.length = 4) (j : Nat) (hj : j < 4) (W : World) : (Instr.index 78 (.agg (rwc ys)) (.int .i64 (j : Int))).run Tryd.prog W = .ok (.int .i64 (ys.getD j 0)) W := by
  match ys, hy with
  | [a, b, c, d], _ => exact idx_four a b c d j hj W
/-- What a block's turn keeps. -/
structure TuSt (w wr : World) (zs ys : List Int) : Prop where
  box : RAt 80 16 wr w.heap.size zs
  res : RAt 80 16 wr (w.heap.size + 1) z16
  out : RAt 80 16 wr (w.heap.size + 2) ys
  bel : Below w.heap.size w wr
theorem TuSt.upd {w wr wx : World} {zs ys : List Int} (h : TuSt w wr zs ys) (u : Upd 0 0 wr wx) : TuSt w wx zs ys :=
  ⟨h.box.keep u, h.res.keep u, h.out.keep u, below_upd h.bel u (Nat.le_refl _) (.inr (Nat.zero_le _))⟩
theorem TuSt.put {w wr : World} {zs ys : List Int} (h : TuSt w wr zs ys) (k : Nat) (x : Int) : TuSt w (wr.setCell ⟨w.heap.size + 2, k, none⟩ (.int .i64 x)) zs (ys.set k x) :=
  ⟨h.box.other (by simp) _, h.res.other (by simp) _, h.out.set k x, h.bel.setCell (p := ⟨w.heap.size + 2, k, none⟩) (by simp) _⟩
set_option maxHeartbeats 16000000 in
set_option maxRecDepth 1000000 in
theorem implTurnedSums (zs : List Int) (w : World) (hl : zs.length = 16) (hz : InR (-2000000000) 2000000000 zs) (hTb : Held w 1 (ints smW)) :
    Calls Tryd.prog 70 #[.agg (rwc zs), .func (.func 71) #[] #[]] w fun e w' => e = .returned (.agg (rwc (turn4 sumS zs))) ∧ Upd 0 0 w w' := by
  have hz0 := zero16
  have hsq := hide (rows3 80 16 w zs z16 z16 hl z16_len z16_len)
  have hRow := hide (rowZ_bd hl hz)
  replace hTb := hide hTb
  clear hz
  show Calls Tryd.prog 70 #[.agg (rwc zs), .func (.func 71) #[] #[]] w fun e w' => e = .returned (.agg (rwc (tabN 16 (turnZ sumS zs)))) ∧ Upd 0 0 w w'
  go_enter Tryd.func70, Tryd.ntmps70
  go_upto_region 2 with fail
  obtain ⟨w0, hw0⟩ : ∃ w0, w0 = ((w.alloc (.cells (rwc zs) 80)).alloc (.cells (rwc z16) 80)).alloc (.cells (rwc z16) 80) := ⟨_, rfl⟩
  obtain ⟨hBx, hRs, hSm, hbw⟩ := unhide hsq w0 hw0
  rw [← hw0]
  clear hw0
  have hN : Hid (TuSt w w0 zs (tabN 16 (prt (turnZ sumS zs) rkS (4 * 0 + 0) 0))) := hide ⟨hBx, hRs, by rw [show 4 * 0 + 0 = 0 from rfl, prtN_zero]; exact hSm, hbw⟩
  clear hsq hBx hRs hSm hbw hz0
  replace hl := hide hl
  go_wp2_with fail
  go_loopw [9] (fun i wr => ∃ k : Nat, k ≤ 4 ∧ i = .int .i64 (k : Int) ∧ Hid (TuSt w wr zs (tabN 16 (prt (turnZ sumS zs) rkS (4 * k + 0) 0)))) (fun i _ => 4 - (intOf i).toNat)
  case atStart => exact ⟨0, by omega, rfl, hN⟩
  case round =>
    clear hN
    obtain ⟨k, hk, rfl, hN⟩ := hrel
    by_cases hklt : k < 4
    · have hkb : decide ((k : Int) < 4) = true := decide_eq_true (by omega)
      have k0 : (0 : Int) ≤ (k : Int) := by omega
      have k1 : (k : Int) < 4 := by omega
      have hrow : ∀ j v, (ints (rowZ zs k))[j]? = some v → wr.cell? ((⟨w.heap.size, k * 4, none⟩ : Addr).add j) = some v := by
        intro j v hj
        have hj4 : j < 4 := by have := (List.getElem?_eq_some_iff.1 hj).1; simpa [ints] using this
        rw [add_cell, (unhide hN).box.cell (j := k * 4 + j) (by omega)]
        have e : (ints (rowZ zs k))[j]? = some (.int .i64 ((rowZ zs k).getD j 0)) := by
          rcases (show j = 0 ∨ j = 1 ∨ j = 2 ∨ j = 3 by omega) with e | e | e | e <;> subst e <;> rfl
        rw [e, rowZ_getD zs k j hj4, Nat.mul_comm 4 k] at hj
        exact hj
      have hTk := hide ((unhide hTb).keep (Upd.of_below (unhide hN).bel 0 0))
      have hC := hide (implSmallSums (rowZ zs k) wr rfl (unhide hRow k hklt) (unhide hTk))
      clear hTk
      go_upto_region 5 with fail
      refine wp_region_lit ?_
      go_wp2_with (first | (refine wpList_load_list rfl 78 (.tmp 14) rfl ⟨w.heap.size, k * 4, none⟩ rfl (ints (rowZ zs k)) hrow _ Tryd.underlying78 rfl size4 ?_))
      refine (unhide hC).mono ?_
      rintro e w1 ⟨rfl, hu⟩
      have hN1 := hide ((unhide hN).upd hu)
      clear hN hC hu hrow
      have hI := hide (fun c (hc : c < 4) W => idx_rwc (tabN 4 (sumS (rowZ zs k))) (tabN_length _ _) c hc W)
      go_wp2_with fail
      go_loopw [17] (fun i wr => ∃ c : Nat, c ≤ 4 ∧ i = .int .i64 (c : Int) ∧ Hid (TuSt w wr zs (tabN 16 (prt (turnZ sumS zs) rkS (4 * k + c) 0)))) (fun i _ => 4 - (intOf i).toNat)
      case atStart => exact ⟨0, by omega, rfl, hN1⟩
      case round =>
        clear hN1
        obtain ⟨c, hc, rfl, hN⟩ := hrel
        by_cases hclt : c < 4
        · have hcb : decide ((c : Int) < 4) = true := decide_eq_true (by omega)
          have c0 : (0 : Int) ≤ (c : Int) := by omega
          have c1 : (c : Int) < 4 := by omega
          have hJ := unhide hI c hclt
          rw [tabN_getD 4 _ c hclt] at hJ
          have hfx : turnZ sumS zs (c * 4 + k) = sumS (rowZ zs k) c := by unfold turnZ; rw [show (c * 4 + k) % 4 = k by omega, show (c * 4 + k) / 4 = c by omega]
          have hrk : rkS (c * 4 + k) = 4 * k + c := by unfold rkS; omega
          have hin : ∀ q, q < 16 → rkS q = 4 * k + c → q = c * 4 + k := fun q hq e => by unfold rkS at e; omega
          have hp16 : c * 4 + k < 16 := by omega
          have hck := (unhide hN).out.cell hp16
          have hfz := (unhide hN).out.frozen (c * 4 + k)
          have hput := hide ((unhide hN).put (c * 4 + k) (sumS (rowZ zs k) c))
          rw [prtN_set 16 (turnZ sumS zs) rkS (4 * k + c) 0 (sumS (rowZ zs k) c) (c * 4 + k) hp16 hrk hin, prtN_next 16 (turnZ sumS zs) rkS (4 * k + c) (sumS (rowZ zs k) c) (fun q hq e => by rw [hin q hq e, hfx])] at hput
          generalize (tabN 16 (prt (turnZ sumS zs) rkS (4 * k + c) 0)).getD (c * 4 + k) 0 = old at hck
          generalize sumS (rowZ zs k) c = y at hJ hput
          clear hN hfx hrk hin
          go_wp2_with fail
          go_roundw
          case rel => exact ⟨c + 1, by omega, by go_num, hput⟩
          case measure => simp [intOf]; omega
        · obtain rfl : c = 4 := by omega
          have hN2 : Hid (TuSt w wr zs (tabN 16 (prt (turnZ sumS zs) rkS (4 * (k + 1) + 0) 0))) := hide (by have h := unhide hN; rw [show 4 * (k + 1) + 0 = 4 * k + 4 by omega]; exact h)
          clear hN hI
          go_wp2_with fail
          go_roundw
          case rel => exact ⟨k + 1, by omega, by go_num, hN2⟩
          case measure => simp [intOf]; omega
    · obtain rfl : k = 4 := by omega
      have hN2 : Hid (TuSt w wr zs (tabN 16 (turnZ sumS zs))) := hide (by
        have h := unhide hN
        rw [show 4 * 4 + 0 = 16 from rfl, prtN_done 16 (turnZ sumS zs) rkS 16 rkS_lt] at h
        exact h)
      clear hN
      go_upto_region 11 with fail
      refine wp_region_lit ?_
      refine wpList_load_row rfl 80 (.tmp 5) rfl (w.heap.size + 2) rfl 80 (rwc (tabN 16 (turnZ sumS zs))) (0, 0) _ (unhide hN2).out.1 Tryd.underlying80 rfl (by rw [rwc_size, tabN_length]; exact size16) ?_
      refine wpList_store_row rfl 80 (.tmp 4) (.tmp 28) rfl (w.heap.size + 1) (rwc (tabN 16 (turnZ sumS zs))) rfl rfl 80 (rwc z16) (unhide hN2).res.1 (by rw [rwc_size, tabN_length]; exact size16) (by rw [rwc_size, rwc_size, tabN_length]; rfl) (rwc_one _) ?_
      have hres : (wr.setRow (w.heap.size + 1) (rwc (tabN 16 (turnZ sumS zs)))).heap[w.heap.size + 1]? = some (.cells (rwc (tabN 16 (turnZ sumS zs))) 80 (0, 0)) := setRow_heap wr _ _ _ _ _ (unhide hN2).res.1
      replace hres := hide hres
      have hb2 := hide (below_setRow (unhide hN2).bel (show w.heap.size ≤ w.heap.size + 1 by omega) (rwc (tabN 16 (turnZ sumS zs))))
      clear hN2
      go_wp2_with fail
      refine bodyPost_ret (v := .agg (rwc (tabN 16 (turnZ sumS zs)))) (results_cell_row rfl _ _ (w.heap.size + 1) 80 (rwc (tabN 16 (turnZ sumS zs))) (0, 0) _ rfl (unhide hres) Tryd.underlying80 rfl (by rw [rwc_size, tabN_length]; exact size16)) rfl ⟨rfl, Upd.of_below (unhide hb2) 0 0⟩
set_option maxHeartbeats 16000000 in
set_option maxRecDepth 1000000 in
theorem implTurnedBack (zs : List Int) (w : World) (hl : zs.length = 16) (hz : InR (-2000000000) 2000000000 zs) :
    Calls Tryd.prog 70 #[.agg (rwc zs), .func (.func 76) #[] #[]] w fun e w' => e = .returned (.agg (rwc (turn4 backS zs))) ∧ Upd 0 0 w w' := by
  have hz0 := zero16
  have hsq := hide (rows3 80 16 w zs z16 z16 hl z16_len z16_len)
  have hRow := hide (rowZ_bd hl hz)
  
  clear hz
  show Calls Tryd.prog 70 #[.agg (rwc zs), .func (.func 76) #[] #[]] w fun e w' => e = .returned (.agg (rwc (tabN 16 (turnZ backS zs)))) ∧ Upd 0 0 w w'
  go_enter Tryd.func70, Tryd.ntmps70
  go_upto_region 2 with fail
  obtain ⟨w0, hw0⟩ : ∃ w0, w0 = ((w.alloc (.cells (rwc zs) 80)).alloc (.cells (rwc z16) 80)).alloc (.cells (rwc z16) 80) := ⟨_, rfl⟩
  obtain ⟨hBx, hRs, hSm, hbw⟩ := unhide hsq w0 hw0
  rw [← hw0]
  clear hw0
  have hN : Hid (TuSt w w0 zs (tabN 16 (prt (turnZ backS zs) rkS (4 * 0 + 0) 0))) := hide ⟨hBx, hRs, by rw [show 4 * 0 + 0 = 0 from rfl, prtN_zero]; exact hSm, hbw⟩
  clear hsq hBx hRs hSm hbw hz0
  replace hl := hide hl
  go_wp2_with fail
  go_loopw [9] (fun i wr => ∃ k : Nat, k ≤ 4 ∧ i = .int .i64 (k : Int) ∧ Hid (TuSt w wr zs (tabN 16 (prt (turnZ backS zs) rkS (4 * k + 0) 0)))) (fun i _ => 4 - (intOf i).toNat)
  case atStart => exact ⟨0, by omega, rfl, hN⟩
  case round =>
    clear hN
    obtain ⟨k, hk, rfl, hN⟩ := hrel
    by_cases hklt : k < 4
    · have hkb : decide ((k : Int) < 4) = true := decide_eq_true (by omega)
      have k0 : (0 : Int) ≤ (k : Int) := by omega
      have k1 : (k : Int) < 4 := by omega
      have hrow : ∀ j v, (ints (rowZ zs k))[j]? = some v → wr.cell? ((⟨w.heap.size, k * 4, none⟩ : Addr).add j) = some v := by
        intro j v hj
        have hj4 : j < 4 := by have := (List.getElem?_eq_some_iff.1 hj).1; simpa [ints] using this
        rw [add_cell, (unhide hN).box.cell (j := k * 4 + j) (by omega)]
        have e : (ints (rowZ zs k))[j]? = some (.int .i64 ((rowZ zs k).getD j 0)) := by
          rcases (show j = 0 ∨ j = 1 ∨ j = 2 ∨ j = 3 by omega) with e | e | e | e <;> subst e <;> rfl
        rw [e, rowZ_getD zs k j hj4, Nat.mul_comm 4 k] at hj
        exact hj
      
      have hC := hide (implSmallBack (rowZ zs k) wr rfl (unhide hRow k hklt))
      
      go_upto_region 5 with fail
      refine wp_region_lit ?_
      go_wp2_with (first | (refine wpList_load_list rfl 78 (.tmp 14) rfl ⟨w.heap.size, k * 4, none⟩ rfl (ints (rowZ zs k)) hrow _ Tryd.underlying78 rfl size4 ?_))
      refine (unhide hC).mono ?_
      rintro e w1 ⟨rfl, hu⟩
      have hN1 := hide ((unhide hN).upd hu)
      clear hN hC hu hrow
      have hI := hide (fun c (hc : c < 4) W => idx_rwc (tabN 4 (backS (rowZ zs k))) (tabN_length _ _) c hc W)
      go_wp2_with fail
      go_loopw [17] (fun i wr => ∃ c : Nat, c ≤ 4 ∧ i = .int .i64 (c : Int) ∧ Hid (TuSt w wr zs (tabN 16 (prt (turnZ backS zs) rkS (4 * k + c) 0)))) (fun i _ => 4 - (intOf i).toNat)
      case atStart => exact ⟨0, by omega, rfl, hN1⟩
      case round =>
        clear hN1
        obtain ⟨c, hc, rfl, hN⟩ := hrel
        by_cases hclt : c < 4
        · have hcb : decide ((c : Int) < 4) = true := decide_eq_true (by omega)
          have c0 : (0 : Int) ≤ (c : Int) := by omega
          have c1 : (c : Int) < 4 := by omega
          have hJ := unhide hI c hclt
          rw [tabN_getD 4 _ c hclt] at hJ
          have hfx : turnZ backS zs (c * 4 + k) = backS (rowZ zs k) c := by unfold turnZ; rw [show (c * 4 + k) % 4 = k by omega, show (c * 4 + k) / 4 = c by omega]
          have hrk : rkS (c * 4 + k) = 4 * k + c := by unfold rkS; omega
          have hin : ∀ q, q < 16 → rkS q = 4 * k + c → q = c * 4 + k := fun q hq e => by unfold rkS at e; omega
          have hp16 : c * 4 + k < 16 := by omega
          have hck := (unhide hN).out.cell hp16
          have hfz := (unhide hN).out.frozen (c * 4 + k)
          have hput := hide ((unhide hN).put (c * 4 + k) (backS (rowZ zs k) c))
          rw [prtN_set 16 (turnZ backS zs) rkS (4 * k + c) 0 (backS (rowZ zs k) c) (c * 4 + k) hp16 hrk hin, prtN_next 16 (turnZ backS zs) rkS (4 * k + c) (backS (rowZ zs k) c) (fun q hq e => by rw [hin q hq e, hfx])] at hput
          generalize (tabN 16 (prt (turnZ backS zs) rkS (4 * k + c) 0)).getD (c * 4 + k) 0 = old at hck
          generalize backS (rowZ zs k) c = y at hJ hput
          clear hN hfx hrk hin
          go_wp2_with fail
          go_roundw
          case rel => exact ⟨c + 1, by omega, by go_num, hput⟩
          case measure => simp [intOf]; omega
        · obtain rfl : c = 4 := by omega
          have hN2 : Hid (TuSt w wr zs (tabN 16 (prt (turnZ backS zs) rkS (4 * (k + 1) + 0) 0))) := hide (by have h := unhide hN; rw [show 4 * (k + 1) + 0 = 4 * k + 4 by omega]; exact h)
          clear hN hI
          go_wp2_with fail
          go_roundw
          case rel => exact ⟨k + 1, by omega, by go_num, hN2⟩
          case measure => simp [intOf]; omega
    · obtain rfl : k = 4 := by omega
      have hN2 : Hid (TuSt w wr zs (tabN 16 (turnZ backS zs))) := hide (by
        have h := unhide hN
        rw [show 4 * 4 + 0 = 16 from rfl, prtN_done 16 (turnZ backS zs) rkS 16 rkS_lt] at h
        exact h)
      clear hN
      go_upto_region 11 with fail
      refine wp_region_lit ?_
      refine wpList_load_row rfl 80 (.tmp 5) rfl (w.heap.size + 2) rfl 80 (rwc (tabN 16 (turnZ backS zs))) (0, 0) _ (unhide hN2).out.1 Tryd.underlying80 rfl (by rw [rwc_size, tabN_length]; exact size16) ?_
      refine wpList_store_row rfl 80 (.tmp 4) (.tmp 28) rfl (w.heap.size + 1) (rwc (tabN 16 (turnZ backS zs))) rfl rfl 80 (rwc z16) (unhide hN2).res.1 (by rw [rwc_size, tabN_length]; exact size16) (by rw [rwc_size, rwc_size, tabN_length]; rfl) (rwc_one _) ?_
      have hres : (wr.setRow (w.heap.size + 1) (rwc (tabN 16 (turnZ backS zs)))).heap[w.heap.size + 1]? = some (.cells (rwc (tabN 16 (turnZ backS zs))) 80 (0, 0)) := setRow_heap wr _ _ _ _ _ (unhide hN2).res.1
      replace hres := hide hres
      have hb2 := hide (below_setRow (unhide hN2).bel (show w.heap.size ≤ w.heap.size + 1 by omega) (rwc (tabN 16 (turnZ backS zs))))
      clear hN2
      go_wp2_with fail
      refine bodyPost_ret (v := .agg (rwc (tabN 16 (turnZ backS zs)))) (results_cell_row rfl _ _ (w.heap.size + 1) 80 (rwc (tabN 16 (turnZ backS zs))) (0, 0) _ rfl (unhide hres) Tryd.underlying80 rfl (by rw [rwc_size, tabN_length]; exact size16)) rfl ⟨rfl, Upd.of_below (unhide hb2) 0 0⟩
end Go.Proofs.YtpofmcepjmbmcaaDoor
