/- The walks of CodeWords: the specification's and the program's. -/
import Derived.Test.YtcoegccnkdhpjaaWTable
namespace Go.Proofs.Ytcoegccnkdhpjaa
open Go.RowKit

theorem fieldFirst (cs : Array Value) (w : World) : (Instr.field 81 (.agg cs) 0).run Try.prog w = .ok (.agg (cs.extract 0 16)) w := by kernel_rfl
theorem numsAt_extract {cs : Array Value} {f : Nat → Nat} (h : NumsAt cs 0 16 f) (hs : cs.size = 50) : NumsAt (cs.extract 0 16) 0 16 f := by
  intro j hj
  have := h j hj
  rw [Array.getElem?_extract, if_pos (by rw [hs]; omega)]
  simpa using this
theorem oneCells_extract {cs : Array Value} (h : OneCells cs) (a b : Nat) : OneCells (cs.extract a b) := by
  unfold OneCells at *
  rw [Array.all_eq_true_iff_forall_mem] at h ⊢
  intro v hv
  apply h
  rw [Array.mem_extract_iff_getElem] at hv
  obtain ⟨k, hk, rfl⟩ := hv
  exact Array.getElem_mem _

set_option maxHeartbeats 1000000 in
theorem specCodeWords (v : Value) (zs : List Int) (w : World) (hn : zs.length ≤ 1048576) (hR : InI zs) (hv : RdI w v zs) :
    Calls Try.prog 38 #[v] w fun e w' => ∃ u, e = .returned u ∧ OwnI w' w.heap.size w'.heap.size u (wordsF zs) ∧ Upd 0 0 w w' := by
  have hK := hide (specCodeKind v zs w hn hR hv)
  by_cases hk : kindF zs = 0
  · have q0 : (kindF zs == 0) = true := by simpa using hk
    have hE := hide (wordsF_no hk)
    replace hk := hide hk
    clear hv
    go_enter Try.func38, Try.ntmps38
    go_wp2_with fail
    refine (unhide hK).mono ?_
    rintro e w1 ⟨rfl, hu⟩
    clear hK
    replace hu := hide hu
    go_wp2
    go_ret
    refine ⟨_, rfl, ?_, unhide hu⟩
    rw [unhide hE]
    exact ⟨World.ownsRow_nil _ _ _ _, fun k hk => by simp [Value.ownBlock] at hk⟩
  · have q0 : (kindF zs == 0) = false := by simpa using hk
    have hg := hide (kindF_ne hk).1
    have hE := hide (wordsF_yes hk)
    replace hk := hide hk
    replace hv := hide hv
    go_enter Try.func38, Try.ntmps38
    go_wp2_with fail
    refine (unhide hK).mono ?_
    rintro e w1 ⟨rfl, hu⟩
    clear hK
    replace hv := hide ((unhide hv).below hu.none)
    have hsz := hu.size
    replace hu := hide hu
    go_wp2_with fail
    refine (specL2Words v zs w1 (unhide hg) (unhide hv)).mono ?_
    rintro e w2 ⟨u, rfl, ho, hu2⟩
    have hO := hide (own_mono ho hsz (Nat.le_refl _))
    replace hu := hide ((unhide hu).trans hu2)
    clear ho hu2
    go_wp2
    go_ret
    refine ⟨_, rfl, ?_, unhide hu⟩
    rw [unhide hE]; exact unhide hO

def part2 (zs : List Int) (k : Nat) : List Int := (List.range zs.length).map fun j => if j < k then wordOf zs j else 0
@[simp] theorem part2_length (zs : List Int) (k : Nat) : (part2 zs k).length = zs.length := by simp [part2]
theorem part2_zero (zs : List Int) : part2 zs 0 = List.replicate zs.length 0 := by
  apply List.ext_getElem
  · simp
  · intro j h1 h2; simp [part2]
theorem part2_all (zs : List Int) : part2 zs zs.length = wordsL zs := by
  apply List.ext_getElem
  · simp
  · intro j h1 h2
    have : j < zs.length := by simpa using h1
    simp [part2, wordsL, this]
theorem part2_set (zs : List Int) (k : Nat) (_h : k < zs.length) : (part2 zs k).set k (wordOf zs k) = part2 zs (k + 1) := by
  apply List.ext_getElem
  · simp
  · intro j h1 h2
    rw [List.getElem_set]
    by_cases e : k = j
    · subst e; simp [part2]
    · rw [if_neg e]
      simp only [part2, List.getElem_map, List.getElem_range]
      by_cases h' : j < k
      · rw [if_pos h', if_pos (by omega)]
      · rw [if_neg h', if_neg (by omega)]
theorem part2_miss (zs : List Int) (k : Nat) (_h : k < zs.length) (h0 : ¬ 0 < zs.getD k 0) : part2 zs (k + 1) = part2 zs k := by
  apply List.ext_getElem
  · simp
  · intro j h1 h2
    simp only [part2, List.getElem_map, List.getElem_range]
    by_cases e : j = k
    · subst e; rw [if_pos (by omega), if_neg (by omega)]; unfold wordOf; rw [if_neg h0]
    · by_cases h' : j < k
      · rw [if_pos (by omega), if_pos h']
      · rw [if_neg (by omega), if_neg h']

set_option maxHeartbeats 4000000 in
set_option maxRecDepth 1000000 in
theorem implCodeWords (v : Value) (zs : List Int) (w : World) (hn : zs.length ≤ 1048576) (hR : InI zs) (hv : RdI w v zs) :
    Calls Try.prog 32 #[v] w fun e w' => ∃ u, e = .returned u ∧ OwnI w' w.heap.size w'.heap.size u (wordsF zs) ∧ Upd 0 0 w w' := by
  have hK := hide (implCodeKind v zs w hn hR hv)
  by_cases hk : kindF zs = 0
  · have q0 : (kindF zs == 0) = true := by simpa using hk
    have hE := hide (wordsF_no hk)
    replace hk := hide hk
    clear hv
    go_enter Try.func32, Try.ntmps32
    go_wp2_with fail
    refine (unhide hK).mono ?_
    rintro e w1 ⟨rfl, hu⟩
    clear hK
    replace hu := hide hu
    go_wp2
    go_ret
    refine ⟨_, rfl, ?_, unhide hu⟩
    rw [unhide hE]
    exact ⟨World.ownsRow_nil _ _ _ _, fun k hk => by simp [Value.ownBlock] at hk⟩
  · have q0 : (kindF zs == 0) = false := by simpa using hk
    have hg := hide (kindF_ne hk).1
    have hE := hide (wordsF_yes hk)
    obtain ⟨i0, hi, hi0, hi1, hi2⟩ := info_parts infoI
    obtain ⟨z16, hz160, hz16⟩ := zeroA16
    obtain ⟨ad, cap, rfl, hA⟩ := hv
    have hn3 := (unhide hg).1
    replace hk := hide hk
    replace hA := hide hA
    have hA0 := hA
    replace hz16 := hide hz16
    replace hz160 := hide hz160
    clear hn hR
    go_enter Try.func32, Try.ntmps32
    go_wp2_with fail
    refine (unhide hK).mono ?_
    rintro e w1 ⟨rfl, hu⟩
    clear hK
    replace hA := hide ((unhide hA).below hu.none)
    have hB := hide hu.none
    clear hu
    go_wp2_with fail
    refine (implTable _ zs w1 (unhide hg) ⟨ad, cap, rfl, unhide hA⟩).mono ?_
    rintro e w2 ⟨cs, ys, y, rfl, hT, _, _, _, hu⟩
    replace hA := hide ((unhide hA).below hu.none)
    replace hB := hide ((unhide hB).trans (hu.none.mono (unhide hB).size))
    clear hu
    have hF := hide (numsAt_extract hT.f hT.size)
    have hone := hide (oneCells_extract hT.one 0 16)
    have hfd := fieldFirst cs
    have hes : (cs.extract 0 16).size = 16 := by rw [Array.size_extract, hT.size]; rfl
    clear hT
    generalize cs.extract 0 16 = L at hF hone hfd hes
    have hl16 : Hid ((Try.prog.info? 79).map (·.size) = some L.size) := hide (by rw [hes]; exact sizeA16)
    have hl16' : Hid (z16.size = L.size) := hide (by rw [hes, (unhide hz160).1])
    clear hes
    have hz16' := unhide hz16
    go_upto_region 4 with (first | (refine wpList_store_row rfl 79 (.tmp 3) (.tmp 12) rfl w2.heap.size L rfl rfl 79 z16 (heap_alloc_new w2 _) (unhide hl16) (unhide hl16') (unhide hone) ?_))
    have hb3 : Below w2.heap.size w2 ((w2.alloc (.cells z16 79)).setRow w2.heap.size L) := below_setRow ((Below.refl w2.heap.size w2).alloc (Nat.le_refl _) _) (Nat.le_refl _) _
    have hnx := hide (setRow_heap (w2.alloc (.cells z16 79)) w2.heap.size z16 L 79 (0, 0) (heap_alloc_new w2 _))
    replace hA := hide ((unhide hA).below hb3)
    have hsz : w2.heap.size < ((w2.alloc (.cells z16 79)).setRow w2.heap.size L).heap.size := by simp
    have hBs := (unhide hB).size
    replace hB := hide ((unhide hB).trans (hb3.mono hBs))
    generalize (w2.alloc (.cells z16 79)).setRow w2.heap.size L = W3 at hnx hA hB hsz ⊢
    clear hb3 hz16' hl16 hl16' hfd hone
    obtain ⟨gn, hgne⟩ : ∃ g, g = w2.heap.size := ⟨_, rfl⟩
    rw [← hgne] at hnx hsz hBs ⊢
    clear hgne
    go_upto_region 5 with (at_make; refine wpList_make_full _ rfl _ _ 35 rfl w.heap.size 3 i0 (.int .i64 0) 1 Try.underlying35 hi hi0 hi1 .i64 .i64 _ _ zs.length rfl rfl (by omega) (by omega) (by rw [hi2]; omega) (by unfold maxLen; omega) (by omega) ?_; intro w4 hown hgrow)
    have hown0 := hide (show w4.ownsRow w.heap.size 3 1 (.slice (some ⟨W3.heap.size, 0, none⟩) zs.length zs.length) zs.length (ints (part2 zs 0)) by
      rw [part2_zero, ← zeros_ints]; simpa [toList_madeCells_one, Value.cells] using hown)
    have hb4 : Below W3.heap.size W3 w4 := (Below.refl _ _).grown hgrow (Nat.le_refl _) (by simp)
    replace hA := hide ((unhide hA).below hb4)
    replace hnx := hide ((hb4.block gn hsz).trans (unhide hnx))
    replace hB := hide ((unhide hB).trans (hb4.mono (unhide hB).size))
    have hsz4 := hb4.size
    obtain ⟨gw, hgwe⟩ : ∃ g, g = W3.heap.size := ⟨_, rfl⟩
    rw [← hgwe] at hown0 hsz ⊢
    have hgb : gn < w4.heap.size := by omega
    have hF0 : Hid (NumsAt L 0 16 (fun l => firstOf zs l + cnt1 zs l 0)) := hide (fun j hj => by
      show L[0 + j]? = some (.int .i64 ((firstOf zs j + cnt1 zs j 0 : Nat) : Int))
      rw [cnt1_zero]; exact (unhide hF) j hj)
    clear hown hgrow hb4 hgwe hsz4 hF
    go_wp2
    go_loopw [18] (fun a wx => ∃ k : Nat, ∃ cs3, k ≤ zs.length ∧ a = .int .i64 k ∧ Hid (wx.ownsRow w.heap.size 3 1 (.slice (some ⟨gw, 0, none⟩) zs.length zs.length) zs.length (ints (part2 zs k))) ∧ Hid (NumsAt cs3 0 16 (fun l => firstOf zs l + cnt1 zs l k)) ∧ Hid (wx.heap[gn]? = some (.cells cs3 79 (0, 0))) ∧ Hid (Below w.heap.size w wx) ) (fun a _ => zs.length - (intOf a).toNat)
    case atStart => exact ⟨0, L, by omega, rfl, hown0, hF0, hnx, hB⟩
    case round =>
      clear hown0 hF0 hnx hB
      obtain ⟨k, cs3, hk, rfl, hown, hnum, hnx, hbel⟩ := hrel
      by_cases hlt : k < zs.length
      · obtain ⟨b, off, rfl, hbl, hc⟩ := (unhide hA0) (ne_of_lt_length hlt)
        have hck : wr.cell? ⟨b, off + k, none⟩ = some (Value.int .i64 (zs.getD k 0)) := ((unhide hbel).cell (by simpa using hbl)).trans (hc k hlt)
        have hok := (unhide hg).2 k hlt
        obtain ⟨x, hx⟩ := Int.eq_ofNat_of_zero_le hok.1
        have hx15 : x ≤ 15 := by have := hok.2; omega
        rw [hx] at hck
        clear hc hok
        by_cases h0 : 0 < x
        · have hwo : wordOf zs k = ((firstOf zs x + cnt1 zs x k : Nat) : Int) := by unfold wordOf; rw [if_pos (by omega), hx, Int.toNat_natCast]
          have hnum' := hide ((unhide hnum).set x (firstOf zs x + cnt1 zs x k + 1) (by omega) (fun l => firstOf zs l + cnt1 zs l (k + 1)) (by rw [cnt1_hit zs k x h0 hx]; rfl) (fun j hj => by rw [cnt1_miss zs k j (by rw [hx]; omega)]))
          have hcx : wr.cell? ⟨gn, x, none⟩ = some (.int .i64 (firstOf zs x + cnt1 zs x k : Nat)) := by
            rw [cell_of_row _ _ _ _ _ _ (unhide hnx)]; simpa using (unhide hnum) x (by omega)
          have hfb := firstOf_lt zs x hn3 hx15
          have hcb := cnt1_lt_many zs k x h0 hlt hx
          have hst := ((unhide hown).stored k (.int .i64 (wordOf zs k))).1
          rw [ints_set, part2_set zs k hlt, hwo] at hst
          have hfz := (unhide hown).frozenAt k
          have hcs : wr.cell? ⟨gw, k, none⟩ = some (.int .i64 ((part2 zs k).getD k 0)) := by
            rw [(unhide hown).cellAt _ (by omega)]; exact ints_at (by simpa using hlt)
          replace hx := hide hx
          clear hwo
          have hpb : firstOf zs x + cnt1 zs x k < 100000000 := by omega
          clear hfb hcb
          generalize firstOf zs x + cnt1 zs x k = p at hnum' hcx hst hpb
          generalize (part2 zs k).getD k 0 = u at hcs
          have hgsn : gw ≠ gn := by omega
          have hst2 := hide (ownsRow_setCell_other (a := ⟨gn, x, none⟩) hst (by simpa [Value.ownBlock] using hgsn) (.int .i64 ((p + 1 : Nat) : Int)))
          have hnx1 := (Below.heap_setCell wr ⟨gw, k, none⟩ (.int .i64 (p : Nat)) gn (fun h => hgsn h.symm)).trans (unhide hnx)
          have hnx2 := hide (heap_setCell_same _ gn x cs3 79 (.int .i64 ((p + 1 : Nat) : Int)) hnx1)
          have hbel2 := hide (((unhide hbel).setCell (p := ⟨gw, k, none⟩) (by simp; omega) (.int .i64 (p : Nat))).setCell (p := ⟨gn, x, none⟩) (by simp; omega) (.int .i64 ((p + 1 : Nat) : Int)))
          have hcx2 : (wr.setCell ⟨gw, k, none⟩ (.int .i64 (p : Nat))).cell? ⟨gn, x, none⟩ = some (.int .i64 (p : Nat)) := by
            rw [World.cell?_setCell_other _ _ _ _ (by first | (simp; omega) | simp)]; exact hcx
          have hfx2 : (wr.setCell ⟨gw, k, none⟩ (.int .i64 (p : Nat))).frozen? ⟨gn, x, none⟩ = false := by simp [World.frozen?, hnx1]
          rw [show ((p + 1 : Nat) : Int) = (p : Int) + 1 by omega] at hst2 hnx2 hbel2 hnum'
          rw [show 0 + x = x by omega] at hnum'
          clear hst hnx hbel hown hnum hnx1
          go_wp2
          go_roundw
          case rel => exact ⟨k + 1, _, by omega, by go_num, hst2, hnum', hnx2, hbel2⟩
          case measure => simp [intOf]; omega
        · have hx0 : x = 0 := by omega
          subst hx0
          rw [← part2_miss zs k hlt (by omega)] at hown
          have hnum' : Hid (NumsAt cs3 0 16 (fun l => firstOf zs l + cnt1 zs l (k + 1))) := hide (fun j hj => by
            show cs3[0 + j]? = some (.int .i64 ((firstOf zs j + cnt1 zs j (k + 1) : Nat) : Int))
            have e : cnt1 zs j (k + 1) = cnt1 zs j k := by
              by_cases hj : j = 0
              · subst hj; rfl
              · exact cnt1_miss zs k j (by rw [hx]; omega)
            rw [e]; exact (unhide hnum) j hj)
          replace hx := hide hx
          clear hnum
          go_wp2
          go_roundw
          case rel => exact ⟨k + 1, _, by omega, by go_num, hown, hnum', hnx, hbel⟩
          case measure => simp [intOf]; omega
      · have hkl : k = zs.length := by omega
        subst hkl
        rw [part2_all] at hown
        have hO := hide (Own.of (unhide hown))
        clear hown
        go_wp2
        go_ret
        refine ⟨_, rfl, ?_, Upd.of_below (unhide hbel) 0 0⟩
        rw [unhide hE]
        have := unhide hO
        unfold OwnI
        rw [wordsL_length]; exact this
end Go.Proofs.Ytcoegccnkdhpjaa
