/- The program's squares: of lists. -/
import Derived.Test.YtnalmingbglgfaaDoorWSqD
import Derived.Test.YtnalmingbglgfaaDoorW8A
namespace Go.Proofs.YtnalmingbglgfaaDoor
open Go.RowKit

/-- A list that can be read, with the room behind it. -/
def RdC (w : World) (v : Value) (zs : List Int) : Prop := ∃ ad cap, v = .slice ad zs.length cap ∧ zs.length ≤ cap ∧ cap ≤ 9223372036854775807 ∧ ArgI w ad zs
theorem OwnI.rc {w : World} {a b : Nat} {v : Value} {zs : List Int} (h : OwnI w a b v zs) : RdC w v zs := by
  obtain ⟨ad, cap, rfl, hA⟩ := readK_of_own h
  refine ⟨ad, cap, rfl, ?_, ?_, hA⟩
  · rcases h.1.2 with ⟨e, hn⟩ | ⟨g, cp, cur, e, h1, h2, h3, h4, _⟩
    · simp only [Value.slice.injEq] at e; omega
    · simp only [Value.slice.injEq] at e; omega
  · rcases h.1.2 with ⟨e, hn⟩ | ⟨g, cp, cur, e, h1, h2, h3, h4, _⟩
    · simp only [Value.slice.injEq] at e; omega
    · simp only [Value.slice.injEq] at e; unfold maxLen at h4; omega
theorem RdC.rd {w : World} {v : Value} {zs : List Int} (h : RdC w v zs) : RdI w v zs := by
  obtain ⟨ad, cap, e, _, _, hA⟩ := h
  exact ⟨ad, cap, e, hA⟩
theorem splice_ints (xs ys : List Int) (o : Nat) : splice (ints xs) o (ints ys) = ints (splice xs o ys) := by
  unfold splice ints
  simp [List.map_take, List.map_drop]
theorem Fil.splice8 {zs xs : List Int} {k : Nat} (h : Fil (fun p => zs.getD p 0) (fun p => p < 8 * k) xs) (hk : k < 8) (hz : zs.length = 64) : Fil (fun p => zs.getD p 0) (fun p => p < 8 * (k + 1)) (splice xs (8 * k) ((zs.drop (8 * k)).take 8)) := by
  have hl : ((zs.drop (8 * k)).take 8).length = 8 := by simp; omega
  refine ⟨by rw [length_splice _ _ _ (by rw [hl, h.len]; omega)]; exact h.len, fun p hp hP => ?_⟩
  unfold splice
  rw [List.getD_eq_getElem?_getD]
  by_cases h1 : p < 8 * k
  · rw [List.getElem?_append_left (by simp; have := h.len; omega), List.getElem?_take_of_lt h1, ← List.getD_eq_getElem?_getD]
    exact h.val p hp h1
  · have ht : (xs.take (8 * k)).length = 8 * k := by simp; have := h.len; omega
    rw [List.getElem?_append_right (by omega), ht, List.getElem?_append_left (by omega), List.getElem?_take_of_lt (by omega), List.getElem?_drop, ← List.getD_eq_getElem?_getD]
    congr 1
    omega
set_option maxHeartbeats 16000000 in
set_option maxRecDepth 1000000 in
theorem implSquareOf (ad : Option Addr) (cap : Nat) (zs : List Int) (w : World) (hl : zs.length = 64) (hc : 64 ≤ cap) (hc2 : cap ≤ 9223372036854775807) (hA : ArgI w ad zs) :
    Calls Tryd.prog 20 #[.slice ad 64 cap] w fun e w' => e = .returned (.agg (sqc zs)) ∧ Upd 0 0 w w' := by
  have hz := zeroSq
  have hsq := hide (sqs2 w zq zq zq_len zq_len)
  have hbw : Hid (Below w.heap.size w ((w.alloc (.cells (sqc zq) 33)).alloc (.cells (sqc zq) 33))) := hide (((Below.refl _ w).alloc (Nat.le_refl _) _).alloc (by simp) _)
  have hE : zs = tab (fun p => zs.getD p 0) := (Fil.all (f := fun p => zs.getD p 0) (P := fun _ => True) ⟨hl, fun _ _ _ => rfl⟩ (fun _ _ => trivial))
  have hsz : (Tryd.prog.info? 3).map (·.size) = some 1 := by kernel_rfl
  obtain ⟨bb, off, rfl, hbl, hcl⟩ := hA (ne_of_lt_length (k := 0) (by omega))
  go_enter Tryd.func20, Tryd.ntmps20
  go_wp2_with fail
  generalize (w.alloc (.cells (sqc zq) 33)).alloc (.cells (sqc zq) 33) = w0 at hsq hbw ⊢
  obtain ⟨hZ, hN⟩ := unhide hsq
  have hN : Hid (SqSt w w0 (w.heap.size + 1) (fun p => zs.getD p 0) (fun p => p < 8 * 0) zq) := hide ⟨hN, ⟨zq_len, fun p hp h => by omega⟩, unhide hbw, by omega⟩
  replace hZ := hide hZ
  replace hE := hide hE
  replace hcl := hide hcl
  clear hsq hbw hz
  go_loopw [5] (fun i wr => ∃ (k : Nat) (xs : List Int), k ≤ 8 ∧ i = .int .i64 (k : Int) ∧ Hid (SqSt w wr (w.heap.size + 1) (fun p => zs.getD p 0) (fun p => p < 8 * k) xs) ∧ Hid (SqAt wr w.heap.size zq)) (fun i _ => 8 - (intOf i).toNat)
  case atStart => exact ⟨0, zq, by omega, rfl, hN, hZ⟩
  case round =>
    clear hN hZ
    obtain ⟨k, xs, hk, rfl, hN, hZ⟩ := hrel
    by_cases hlt : k < 8
    · have hk0 : (0 : Int) ≤ (k : Int) := by omega
      have hk1 : (k : Int) < 8 := by omega
      have q1 : IntKind.i64.wrap ((k : Int) * 8) = (k : Int) * 8 := wrapQ (by omega)
      have q2 : (0 : Int) ≤ (k : Int) * 8 := by omega
      have q3 : (k : Int) * 8 ≤ 64 := by omega
      have q4 : ((k : Int) * 8).toNat = k * 8 := by omega
      have q5 : ¬ cap = k * 8 := by omega
      go_wp2_with fail
      refine wp_region_still_tail 7 (by kernel_rfl) (by kernel_rfl) ?_
      simp only [List.take_succ_cons, List.take_zero, List.drop_succ_cons, List.drop_zero]
      iterate 7 still_step
      refine wpStill_nil ?_
      refine wpList_copy_splice rfl (.tmp 10) (.tmp 14) 23 23 rfl 3 Tryd.underlying23 hsz (some ⟨w.heap.size + 1, k * 8, none⟩) (some ⟨bb, off + k * 8, none⟩) 8 8 (64 - k * 8) (cap - k * 8) rfl rfl (w.heap.size + 1) (k * 8) (ints xs) 33 (unhide hN).row.1 (ints ((zs.drop (8 * k)).take 8)) (by rw [ints_lengthA, List.length_take, List.length_drop, hl]; show min 8 (64 - 8 * k) = min (64 - k * 8) 8; omega)
        (fun _ => ⟨rfl, _, rfl, fun j u hj => ?_⟩) (by rw [ints_lengthA, ints_lengthA, List.length_take, List.length_drop, hl, (unhide hN).fil.len]; omega) (ints_one _) (w.heap.size + 1) wr.drew (Below.refl _ _) (by omega) ?_
      · have hj8 : j < ((zs.drop (8 * k)).take 8).length := by
          have := (List.getElem?_eq_some_iff.1 hj).1
          rw [ints_lengthA] at this
          exact this
        have hj9 : j < 8 := by rw [List.length_take] at hj8; omega
        have e : ((zs.drop (8 * k)).take 8).getD j 0 = zs.getD (k * 8 + j) 0 := by
          rw [List.getD_eq_getElem?_getD, List.getElem?_take_of_lt hj9, List.getElem?_drop, ← List.getD_eq_getElem?_getD]
          congr 1
          omega
        rw [ints, getD_map_int ((zs.drop (8 * k)).take 8) .i64 j hj8, e] at hj
        rw [← Option.some.inj hj, add_cell, Nat.add_assoc]
        exact ((unhide hN).bel.cell (by simpa using hbl)).trans ((unhide hcl) (k * 8 + j) (by omega))
      intro w6 hg6 hb6
      have hN6 : Hid (SqSt w w6 (w.heap.size + 1) (fun p => zs.getD p 0) (fun p => p < 8 * (k + 1)) (splice xs (8 * k) ((zs.drop (8 * k)).take 8))) := hide (by
        have hf := (unhide hN).fil.splice8 hlt hl
        refine ⟨⟨?_, hf.len⟩, hf, ?_, by omega⟩
        · have h := unhide hg6
          rw [splice_ints, Nat.mul_comm k 8] at h
          exact h
        · exact ((unhide hN).bel).trans (((below_drewN (Below.refl _ wr) 1)).trans (hb6.mono (by omega))))
      have hZ6 : Hid (SqAt w6 w.heap.size zq) := hide ⟨by rw [hb6.block _ (by omega)]; exact (unhide hZ).1, (unhide hZ).2⟩
      clear hg6 hb6 hN hZ
      go_wp2_with fail
      go_roundw
      case rel => exact ⟨k + 1, _, by omega, by go_num, hN6, hZ6⟩
      case measure => simp [intOf]; omega
    · have hk8 : k = 8 := by omega
      subst hk8
      have hbel := hide (unhide hN).bel
      have hdn := hide ((unhide hN).done (fun p hp => by omega))
      rw [← unhide hE] at hdn
      clear hN
      go_upto_region 7 with fail
      refine wp_region_lit ?_
      refine wpList_load_row rfl 33 (.tmp 3) rfl (w.heap.size + 1) rfl 33 (sqc zs) (0, 0) _ (unhide hdn).1 Tryd.underlying33 rfl (by rw [sqc_size, hl]; exact sizeSq) ?_
      refine wpList_store_row rfl 33 (.tmp 2) (.tmp 17) rfl w.heap.size (sqc zs) rfl rfl 33 (sqc zq) (unhide hZ).1 (by rw [sqc_size, hl]; exact sizeSq) (by rw [sqc_size, sqc_size, hl]; rfl) (sqc_one _) ?_
      have hres : (wr.setRow w.heap.size (sqc zs)).heap[w.heap.size]? = some (.cells (sqc zs) 33 (0, 0)) := setRow_heap wr _ _ _ _ _ (unhide hZ).1
      replace hres := hide hres
      have hb2 := hide (below_setRow (unhide hbel) (Nat.le_refl _) (sqc zs))
      clear hdn hZ hbel
      go_wp2_with fail
      refine bodyPost_ret (v := .agg (sqc zs)) (results_cell_row rfl _ _ w.heap.size 33 (sqc zs) (0, 0) _ rfl (unhide hres) Tryd.underlying33 rfl (by rw [sqc_size, hl]; exact sizeSq)) rfl ⟨rfl, Upd.of_below (unhide hb2) 0 0⟩
end Go.Proofs.YtnalmingbglgfaaDoor
