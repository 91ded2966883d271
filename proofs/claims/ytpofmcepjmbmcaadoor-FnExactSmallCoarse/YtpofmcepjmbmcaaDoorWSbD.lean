/- The program's small blocks: of lists, and as lists. -/
import Derived.Test.YtpofmcepjmbmcaaDoorWSbC
import Derived.Test.YtpofmcepjmbmcaaDoorWAppI
import Derived.Test.YtpofmcepjmbmcaaDoorWInts
import Derived.OwnWalk
namespace Go.Proofs.YtpofmcepjmbmcaaDoor
open Go.RowKit

/-- A list that can be read, with the room behind it. -/
def RdC (w : World) (v : Value) (zs : List Int) : Prop := ∃ ad cap, v = .slice ad zs.length cap ∧ zs.length ≤ cap ∧ cap ≤ 9223372036854775807 ∧ ArgI w ad zs
theorem OwnI.rc {w : World} {a b : Nat} {v : Value} {zs : List Int} (h : OwnI w a b v zs) : RdC w v zs := by
  obtain ⟨ad, cap, rfl, hA⟩ := readK_of_own h
  refine ⟨ad, cap, rfl, ?_, ?_, hA⟩
  · rcases h.1.2 with ⟨e, hn⟩ | ⟨g, cp, cur, e, h1, h2, h3, h4, _⟩
    · simp only [Value.slice.injEq] at e; omega
    · simp only [Value.slice.injEq] at e; omega
  · rcases h.1.2 with ⟨e, hn⟩ | ⟨g, cp, cur, e, h1, h2, h3, h4, _⟩
    · simp only [Value.slice.injEq] at e; omega
    · simp only [Value.slice.injEq] at e; unfold maxLen at h4; omega
theorem RdC.rd {w : World} {v : Value} {zs : List Int} (h : RdC w v zs) : RdI w v zs := by
  obtain ⟨ad, cap, e, _, _, hA⟩ := h
  exact ⟨ad, cap, e, hA⟩
theorem splice_ints (xs ys : List Int) (o : Nat) : splice (ints xs) o (ints ys) = ints (splice xs o ys) := by
  unfold splice ints
  simp [List.map_take, List.map_drop]
theorem FilN.splice4 {zs xs : List Int} {k : Nat} (h : FilN 16 (fun p => zs.getD p 0) (fun p => p < 4 * k) xs) (hk : k < 4) (hz : zs.length = 16) : FilN 16 (fun p => zs.getD p 0) (fun p => p < 4 * (k + 1)) (splice xs (4 * k) ((zs.drop (4 * k)).take 4)) := by
  have hl : ((zs.drop (4 * k)).take 4).length = 4 := by simp; omega
  refine ⟨by rw [length_splice _ _ _ (by rw [hl, h.len]; omega)]; exact h.len, fun p hp hP => ?_⟩
  unfold splice
  rw [List.getD_eq_getElem?_getD]
  by_cases h1 : p < 4 * k
  · rw [List.getElem?_append_left (by simp; have := h.len; omega), List.getElem?_take_of_lt h1, ← List.getD_eq_getElem?_getD]
    exact h.val p hp h1
  · have ht : (xs.take (4 * k)).length = 4 * k := by simp; have := h.len; omega
    rw [List.getElem?_append_right (by omega), ht, List.getElem?_append_left (by omega), List.getElem?_take_of_lt (by omega), List.getElem?_drop, ← List.getD_eq_getElem?_getD]
    congr 1
    omega
theorem sbs2 (w : World) (A B : List Int) (hA : A.length = 16) (hB : B.length = 16) :
    RAt 80 16 ((w.alloc (.cells (rwc A) 80)).alloc (.cells (rwc B) 80)) w.heap.size A ∧ RAt 80 16 ((w.alloc (.cells (rwc A) 80)).alloc (.cells (rwc B) 80)) (w.heap.size + 1) B :=
  ⟨(rows2 _ 16 w A B hA hB _ rfl).1, (rows2 _ 16 w A B hA hB _ rfl).2.1⟩
/-- A block under way: part of it filled. -/
structure SbSt (W wr : World) (g : Nat) (f : Nat → Int) (P : Nat → Prop) (xs : List Int) : Prop where
  row : RAt 80 16 wr g xs
  fil : FilN 16 f P xs
  bel : Below W.heap.size W wr
  gw : W.heap.size ≤ g
theorem SbSt.done {W wr : World} {g : Nat} {f : Nat → Int} {P : Nat → Prop} {xs : List Int} (h : SbSt W wr g f P xs) (hP : ∀ p, p < 16 → P p) : RAt 80 16 wr g (tabN 16 f) := by
  have e := h.fil.all hP
  have h1 := h.row
  rw [e] at h1
  exact h1
set_option maxHeartbeats 16000000 in
set_option maxRecDepth 1000000 in
theorem implSmallBlockOf (ad : Option Addr) (cap : Nat) (zs : List Int) (w : World) (hl : zs.length = 16) (hc : 16 ≤ cap) (hc2 : cap ≤ 9223372036854775807) (hA : ArgI w ad zs) :
    Calls Tryd.prog 69 #[.slice ad 16 cap] w fun e w' => e = .returned (.agg (rwc zs)) ∧ Upd 0 0 w w' := by
  have hz := zero16
  have hsq := hide (sbs2 w z16 z16 z16_len z16_len)
  have hbw : Hid (Below w.heap.size w ((w.alloc (.cells (rwc z16) 80)).alloc (.cells (rwc z16) 80))) := hide (((Below.refl _ w).alloc (Nat.le_refl _) _).alloc (by simp) _)
  have hE : zs = tabN 16 (fun p => zs.getD p 0) := (FilN.all (n := 16) (f := fun p => zs.getD p 0) (P := fun _ => True) ⟨hl, fun _ _ _ => rfl⟩ (fun _ _ => trivial))
  have hsz : (Tryd.prog.info? 3).map (·.size) = some 1 := by kernel_rfl
  obtain ⟨bb, off, rfl, hbl, hcl⟩ := hA (ne_of_lt_length (k := 0) (by omega))
  go_enter Tryd.func69, Tryd.ntmps69
  go_wp2_with fail
  generalize (w.alloc (.cells (rwc z16) 80)).alloc (.cells (rwc z16) 80) = w0 at hsq hbw ⊢
  obtain ⟨hZ, hN⟩ := unhide hsq
  have hN : Hid (SbSt w w0 (w.heap.size + 1) (fun p => zs.getD p 0) (fun p => p < 4 * 0) z16) := hide ⟨hN, ⟨z16_len, fun p hp h => by omega⟩, unhide hbw, by omega⟩
  replace hZ := hide hZ
  replace hE := hide hE
  replace hcl := hide hcl
  clear hsq hbw hz
  go_loopw [5] (fun i wr => ∃ (k : Nat) (xs : List Int), k ≤ 4 ∧ i = .int .i64 (k : Int) ∧ Hid (SbSt w wr (w.heap.size + 1) (fun p => zs.getD p 0) (fun p => p < 4 * k) xs) ∧ Hid (RAt 80 16 wr w.heap.size z16)) (fun i _ => 4 - (intOf i).toNat)
  case atStart => exact ⟨0, z16, by omega, rfl, hN, hZ⟩
  case round =>
    clear hN hZ
    obtain ⟨k, xs, hk, rfl, hN, hZ⟩ := hrel
    by_cases hlt : k < 4
    · have hk0 : (0 : Int) ≤ (k : Int) := by omega
      have hk1 : (k : Int) < 4 := by omega
      have q1 : IntKind.i64.wrap ((k : Int) * 4) = (k : Int) * 4 := wrapB (by omega)
      have q2 : (0 : Int) ≤ (k : Int) * 4 := by omega
      have q3 : (k : Int) * 4 ≤ 16 := by omega
      have q4 : ((k : Int) * 4).toNat = k * 4 := by omega
      have q5 : ¬ cap = k * 4 := by omega
      go_wp2_with fail
      refine wp_region_still_tail 7 (by kernel_rfl) (by kernel_rfl) ?_
      simp only [List.take_succ_cons, List.take_zero, List.drop_succ_cons, List.drop_zero]
      iterate 7 still_step
      refine wpStill_nil ?_
      refine wpList_copy_splice rfl (.tmp 10) (.tmp 14) 23 23 rfl 3 Tryd.underlying23 hsz (some ⟨w.heap.size + 1, k * 4, none⟩) (some ⟨bb, off + k * 4, none⟩) 4 4 (16 - k * 4) (cap - k * 4) rfl rfl (w.heap.size + 1) (k * 4) (ints xs) 80 (unhide hN).row.1 (ints ((zs.drop (4 * k)).take 4)) (by rw [ints_lengthA, List.length_take, List.length_drop, hl]; show min 4 (16 - 4 * k) = min (16 - k * 4) 4; omega)
        (fun _ => ⟨rfl, _, rfl, fun j u hj => ?_⟩) (by rw [ints_lengthA, ints_lengthA, List.length_take, List.length_drop, hl, (unhide hN).fil.len]; omega) (ints_one _) (w.heap.size + 1) wr.drew (Below.refl _ _) (by omega) ?_
      · have hj8 : j < ((zs.drop (4 * k)).take 4).length := by
          have := (List.getElem?_eq_some_iff.1 hj).1
          rw [ints_lengthA] at this
          exact this
        have hj9 : j < 4 := by rw [List.length_take] at hj8; omega
        have e : ((zs.drop (4 * k)).take 4).getD j 0 = zs.getD (k * 4 + j) 0 := by
          rw [List.getD_eq_getElem?_getD, List.getElem?_take_of_lt hj9, List.getElem?_drop, ← List.getD_eq_getElem?_getD]
          congr 1
          omega
        rw [ints, getD_map_int ((zs.drop (4 * k)).take 4) .i64 j hj8, e] at hj
        rw [← Option.some.inj hj, add_cell, Nat.add_assoc]
        exact ((unhide hN).bel.cell (by simpa using hbl)).trans ((unhide hcl) (k * 4 + j) (by omega))
      intro w6 hg6 hb6
      have hN6 : Hid (SbSt w w6 (w.heap.size + 1) (fun p => zs.getD p 0) (fun p => p < 4 * (k + 1)) (splice xs (4 * k) ((zs.drop (4 * k)).take 4))) := hide (by
        have hf := (unhide hN).fil.splice4 hlt hl
        refine ⟨⟨?_, hf.len⟩, hf, ?_, by omega⟩
        · have h := unhide hg6
          rw [splice_ints, Nat.mul_comm k 4] at h
          exact h
        · exact ((unhide hN).bel).trans (((below_drewN (Below.refl _ wr) 1)).trans (hb6.mono (by omega))))
      have hZ6 : Hid (RAt 80 16 w6 w.heap.size z16) := hide ⟨by rw [hb6.block _ (by omega)]; exact (unhide hZ).1, (unhide hZ).2⟩
      clear hg6 hb6 hN hZ
      go_wp2_with fail
      go_roundw
      case rel => exact ⟨k + 1, _, by omega, by go_num, hN6, hZ6⟩
      case measure => simp [intOf]; omega
    · have hk4 : k = 4 := by omega
      subst hk4
      have hbel := hide (unhide hN).bel
      have hdn := hide ((unhide hN).done (fun p hp => by omega))
      rw [← unhide hE] at hdn
      clear hN
      go_upto_region 7 with fail
      refine wp_region_lit ?_
      refine wpList_load_row rfl 80 (.tmp 3) rfl (w.heap.size + 1) rfl 80 (rwc zs) (0, 0) _ (unhide hdn).1 Tryd.underlying80 rfl (by rw [rwc_size, hl]; exact size16) ?_
      refine wpList_store_row rfl 80 (.tmp 2) (.tmp 17) rfl w.heap.size (rwc zs) rfl rfl 80 (rwc z16) (unhide hZ).1 (by rw [rwc_size, hl]; exact size16) (by rw [rwc_size, rwc_size, hl]; rfl) (rwc_one _) ?_
      have hres : (wr.setRow w.heap.size (rwc zs)).heap[w.heap.size]? = some (.cells (rwc zs) 80 (0, 0)) := setRow_heap wr _ _ _ _ _ (unhide hZ).1
      replace hres := hide hres
      have hb2 := hide (below_setRow (unhide hbel) (Nat.le_refl _) (rwc zs))
      clear hdn hZ hbel
      go_wp2_with fail
      refine bodyPost_ret (v := .agg (rwc zs)) (results_cell_row rfl _ _ w.heap.size 80 (rwc zs) (0, 0) _ rfl (unhide hres) Tryd.underlying80 rfl (by rw [rwc_size, hl]; exact size16)) rfl ⟨rfl, Upd.of_below (unhide hb2) 0 0⟩
set_option maxRecDepth 1000000 in
theorem idx_sbrow (f : Nat → Int) (k : Nat) (hk : k < 4) (W : World) : (Instr.index 80 (.agg (rwc (tabN 16 f))) (.int .i64 (k : Int))).run Tryd.prog W = .ok (.agg #[.int .i64 (f (4 * k)), .int .i64 (f (4 * k + 1)), .int .i64 (f (4 * k + 2)), .int .i64 (f (4 * k + 3))]) W := by
  rcases (show k = 0 ∨ k = 1 ∨ k = 2 ∨ k = 3 by omega) with e | e | e | e <;> subst e <;> kernel_rfl
theorem take_sbrows (f : Nat → Int) (k : Nat) (hk : k < 4) : (tabN 16 f).take (4 * (k + 1)) = (tabN 16 f).take (4 * k) ++ [f (4 * k), f (4 * k + 1), f (4 * k + 2), f (4 * k + 3)] := by
  rcases (show k = 0 ∨ k = 1 ∨ k = 2 ∨ k = 3 by omega) with e | e | e | e <;> subst e <;> rfl
set_option maxHeartbeats 16000000 in
set_option maxRecDepth 1000000 in
theorem implSmList (f : Nat → Int) (w : World) : Calls Tryd.prog 72 #[.agg (rwc (tabN 16 f))] w fun e w' => ∃ v, e = .returned v ∧ OwnI w' w.heap.size w'.heap.size v (tabN 16 f) ∧ Upd 0 0 w w' := by
  obtain ⟨i0, hi, hz0, hz1, hz2⟩ := info_parts infoI
  have hS : Hid (RAt 80 16 (w.alloc (.cells (rwc (tabN 16 f)) 80)) w.heap.size (tabN 16 f)) := hide (rAt_new _ 16 w _ (by simp))
  have hB0 : Hid (Below w.heap.size w (w.alloc (.cells (rwc (tabN 16 f)) 80))) := hide ((Below.refl _ w).alloc (Nat.le_refl _) _)
  have hT : Hid (∀ k, k < 4 → (tabN 16 f).take (4 * (k + 1)) = (tabN 16 f).take (4 * k) ++ [f (4 * k), f (4 * k + 1), f (4 * k + 2), f (4 * k + 3)]) := hide (fun k hk => take_sbrows f k hk)
  go_enter Tryd.func72, Tryd.ntmps72
  go_upto_region 1 with fail
  generalize w.alloc (.cells (rwc (tabN 16 f)) 80) = w0 at hS hB0 ⊢
  refine wp_region_lit ?_
  refine wpList_make_own _ rfl _ _ 23 rfl w0.heap.size 3 i0 (.int .i64 0) 1 Tryd.underlying23 hi hz0 hz1 .i64 .i64 _ 16 rfl rfl (by omega) (by rw [hz2]; omega) (by unfold maxLen; omega) (Nat.le_refl _) ?_
  intro w1 hown hgrow
  have hb01 := (Below.refl w0.heap.size w0).grown hgrow (Nat.le_refl _) (by simp)
  have hS1 : RAt 80 16 w1 w.heap.size (tabN 16 f) := (unhide hS).keep (Upd.of_below hb01 0 0)
  replace hB0 := hide ((unhide hB0).trans (hb01.mono (unhide hB0).size))
  obtain ⟨g, hg⟩ : ∃ g, w0.heap.size = g := ⟨_, rfl⟩
  have hgw : w.heap.size < g := by rw [← hg]; exact (unhide hS).lt
  rw [hg] at hown ⊢
  clear hg hgrow hb01 hS
  go_upto_region 2 with fail
  refine wp_region_lit ?_
  refine wpList_load_row rfl 80 (.tmp 1) rfl w.heap.size rfl 80 (rwc (tabN 16 f)) (0, 0) _ hS1.1 Tryd.underlying80 rfl (by rw [rwc_size, tabN_length]; exact size16) ?_
  clear hS1
  have hrow0 : Hid (w1.ownsRow g 3 1 (.slice (some ⟨g, 0, none⟩) (4 * 0) 16) (4 * 0) (ints ((tabN 16 f).take (4 * 0)))) := hide hown
  clear hown
  have hI := fun k hk => idx_sbrow f k hk
  replace hI := hide hI
  go_wp2_with fail
  go_loopw [3, 8] (fun s i wr => ∃ k : Nat, k ≤ 4 ∧ s = .slice (some ⟨g, 0, none⟩) (4 * k) 16 ∧ i = .int .i64 (k : Int) ∧ Hid (wr.ownsRow g 3 1 (.slice (some ⟨g, 0, none⟩) (4 * k) 16) (4 * k) (ints ((tabN 16 f).take (4 * k)))) ∧ Hid (Below w.heap.size w wr)) (fun _ i _ => 4 - (intOf i).toNat)
  case atStart => exact ⟨0, by omega, rfl, rfl, hrow0, hB0⟩
  case round =>
    clear hrow0 hB0
    obtain ⟨k, hk, rfl, rfl, hrow, hB0⟩ := hrel
    by_cases hlt : k < 4
    · have hkI := fun W => unhide hI k hlt W
      have hTk := hide (unhide hT k hlt)
      clear hT hI
      have hu5 := Upd.of_below ((Below.refl wr.heap.size wr).alloc (Nat.le_refl _) (.cells #[.int .i64 (f (4 * k)), .int .i64 (f (4 * k + 1)), .int .i64 (f (4 * k + 2)), .int .i64 (f (4 * k + 3))] 78)) 0 0
      have hrow5 := hide ((Own.of (unhide hrow)).keep hu5).1
      have hb5 := hide (below_upd (unhide hB0) hu5 (Nat.le_refl _) (.inr (Nat.zero_le _)))
      have hnk := hide (heldF_new wr [.int .i64 (f (4 * k)), .int .i64 (f (4 * k + 1)), .int .i64 (f (4 * k + 2)), .int .i64 (f (4 * k + 3))] 78)
      have hgr : g < wr.heap.size + 1 := by
        have := (unhide hrow).lt g rfl
        omega
      clear hrow hB0 hu5
      go_wp2_with (at_builtin; go_loud (refine wpList_append_fits _ rfl (.tmp 11) (.tmp 12) 23 rfl g 3 i0 1 Tryd.underlying23 hi hz1 g (4 * k) 16 (ints ((tabN 16 f).take (4 * k))) rfl (unhide hrow5) ⟨wr.heap.size, 0, none⟩ 4 4 (ints [f (4 * k), f (4 * k + 1), f (4 * k + 2), f (4 * k + 3)]) rfl rfl (fun j u hj => by rw [add_cell, Nat.zero_add]; exact (unhide hnk).1.2 j u hj) (ints_one _) (by omega) ?_; intro w6 ho6 hg6; have hb6 := hide ((unhide hb5).grown hg6 (unhide hb5).size (fun j e => by cases e; exact Nat.le_of_lt hgw)); have ho7 : Hid (w6.ownsRow g 3 1 (.slice (some ⟨g, 0, none⟩) (4 * (k + 1)) 16) (4 * (k + 1)) (ints ((tabN 16 f).take (4 * (k + 1))))) := hide (by rw [unhide hTk, ints_append]; exact ho6); clear ho6 hg6))
      go_roundw
      case rel => exact ⟨k + 1, by omega, rfl, by go_num, ho7, hb6⟩
      case measure => simp [intOf]; omega
    · have hk4 : k = 4 := by omega
      subst hk4
      have ht : (tabN 16 f).take (4 * 4) = tabN 16 f := List.take_of_length_le (by simp)
      have ho : Hid (OwnI wr g wr.heap.size (.slice (some ⟨g, 0, none⟩) 16 16) (tabN 16 f)) := hide (by
        have h := unhide hrow
        rw [ht] at h
        unfold OwnI
        rw [tabN_length]
        exact Own.of h)
      have ho2 := hide (own_mono (unhide ho) (Nat.le_of_lt hgw) (Nat.le_refl _))
      clear hrow ht ho
      go_wp2_with fail
      go_ret
      exact ⟨_, rfl, unhide ho2, Upd.of_below (unhide hB0) 0 0⟩
end Go.Proofs.YtpofmcepjmbmcaaDoor
