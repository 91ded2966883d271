/- The walk of WriteSymbols: the program's. -/
import Derived.Test.YtcoegccnkdhpjaaPlainY
import Derived.Test.YtcoegccnkdhpjaaWWords2
import Derived.Test.YtcoegccnkdhpjaaWPackH
import Derived.Test.YtcoegccnkdhpjaaWPutD
import Derived.Deep.RegionWith
namespace Go.Proofs.Ytcoegccnkdhpjaa
open Go.RowKit

theorem infoFld : (Try.prog.info? 29).map (fun i => (i.zero, i.size, i.bytes)) = some (some (.agg #[.int .i64 0, .int .u64 0]), 2, 16) := by kernel_rfl
/-- The first k fields of a row of values. -/
def FldRow (ys : List Value) (fs : List (Int × Int)) (k : Nat) : Prop := ∀ j, j < k → ys[j * 2]? = some (.int .i64 (fs.getD j (0, 0)).1) ∧ ys[j * 2 + 1]? = some (.int .u64 (fs.getD j (0, 0)).2)
theorem FldRow.step {ys : List Value} {fs : List (Int × Int)} {k : Nat} (h : FldRow ys fs k) (hl : k * 2 + 1 < ys.length) : FldRow ((ys.set (k * 2) (.int .i64 (fs.getD k (0, 0)).1)).set (k * 2 + 1) (.int .u64 (fs.getD k (0, 0)).2)) fs (k + 1) := by
  intro j hj
  by_cases e : j = k
  · subst e
    refine ⟨?_, ?_⟩
    · rw [List.getElem?_set_ne (by omega), List.getElem?_set_self (by omega)]
    · rw [List.getElem?_set_self (by simp; omega)]
  · have := h j (by omega)
    refine ⟨?_, ?_⟩
    · rw [List.getElem?_set_ne (by omega), List.getElem?_set_ne (by omega)]; exact this.1
    · rw [List.getElem?_set_ne (by omega), List.getElem?_set_ne (by omega)]; exact this.2
theorem own_nilYB (w : World) (a b : Nat) : OwnY w a b (.slice none 0 0) [] := ⟨World.ownsRow_nil _ _ _ _, fun k hk => by simp [Value.ownBlock] at hk⟩

set_option maxHeartbeats 4000000 in
set_option maxRecDepth 1000000 in
theorem implWriteSymbols (v : Value) (zs : List Int) (u : Value) (ls : List Int) (w : World) (hn : zs.length ≤ 1048576) (hR : InI zs) (hv : RdI w v zs) (hn1 : ls.length ≤ 1048576) (_hR1 : InI ls) (hu0 : RdI w u ls) :
    Calls Try.prog 28 #[v, u] w fun e w' => ∃ u, e = .returned u ∧ OwnY w' w.heap.size w'.heap.size u (symsF zs ls) ∧ Upd 0 0 w w' := by
  have hK := hide (implCodeKind v zs w hn hR hv)
  by_cases hk : kindF zs = 0
  · have q0 : (kindF zs == 0) = true := by simpa using hk
    have hE := hide (symsF_no (zs := zs) (ls := ls) (fun h => h.1 hk))
    replace hk := hide hk
    clear hv
    obtain ⟨ad1, cap1, rfl, hA1⟩ := hu0
    clear hA1
    go_enter Try.func28, Try.ntmps28
    go_wp2_with fail
    refine (unhide hK).mono ?_
    rintro e w1 ⟨rfl, hu⟩
    clear hK
    replace hu := hide hu
    go_wp2
    go_ret
    refine ⟨_, rfl, ?_, unhide hu⟩
    rw [unhide hE]; exact own_nilYB _ _ _
  · have q0 : (kindF zs == 0) = false := by simpa using hk
    have hg := hide (kindF_ne hk).1
    by_cases hm : 20000 < ls.length
    · have hE := hide (symsF_no (zs := zs) (ls := ls) (fun h => by have := h.2.1; omega))
      replace hk := hide hk
      obtain ⟨ad1, cap1, rfl, hA1⟩ := hu0
      clear hA1 hv
      go_enter Try.func28, Try.ntmps28
      go_wp2_with fail
      refine (unhide hK).mono ?_
      rintro e w1 ⟨rfl, hu⟩
      clear hK
      replace hu := hide hu
      go_wp2
      go_ret
      refine ⟨_, rfl, ?_, unhide hu⟩
      rw [unhide hE]; exact own_nilYB _ _ _
    · have hE : Hid ((∀ j, j < ls.length → okS zs (ls.getD j 0)) → symsB zs ls = packF true (fldsOf zs ls)) := hide (fun h => symsB_pack ⟨hk, by omega, h⟩)
      have hBad : Hid (∀ k, k < ls.length → ¬ okS zs (ls.getD k 0) → symsF zs ls = []) := hide (fun k hk' hb => symsF_no (fun h => hb (h.2.2 k hk')))
      have hWF := hide (wordsF_yes hk)
      replace hk := hide hk
      have hv2 := hide hv
      obtain ⟨ad, cap, rfl, hA⟩ := hv
      obtain ⟨ad1, cap1, rfl, hA1⟩ := hu0
      have hn3 := (unhide hg).1
      obtain ⟨i0, hi, hi0, hi1, hi2⟩ := info_parts infoFld
      replace hA := hide hA
      replace hA1 := hide hA1
      go_enter Try.func28, Try.ntmps28
      go_wp2_with fail
      refine (unhide hK).mono ?_
      rintro e w1 ⟨rfl, hu⟩
      clear hK
      replace hA := hide ((unhide hA).below hu.none)
      replace hA1 := hide ((unhide hA1).below hu.none)
      replace hv2 := hide ((unhide hv2).below hu.none)
      have hsz := hu.size
      replace hu := hide hu
      go_wp2_with fail
      refine (implCodeWords _ zs w1 hn hR (unhide hv2)).mono ?_
      rintro e w2 ⟨vw, rfl, ho, hu2⟩
      rw [unhide hWF] at ho
      obtain ⟨adw, capw, rfl, hAw⟩ := OwnI.rd ho
      replace hA := hide ((unhide hA).below hu2.none)
      replace hA1 := hide ((unhide hA1).below hu2.none)
      have hsz2 := hu2.size
      replace hu := hide ((unhide hu).trans hu2)
      replace hAw := hide hAw
      clear ho hu2 hv2
      rw [wordsL_length]
      go_wp2_with (at_make; refine wpList_make_full _ rfl _ _ 23 rfl w2.heap.size 29 i0 (.agg #[.int .i64 0, .int .u64 0]) 2 Try.underlying23 hi hi0 hi1 .i64 .i64 _ _ ls.length rfl rfl (by omega) (by omega) (by rw [hi2]; omega) (by unfold maxLen; omega) (Nat.le_refl _) ?_; intro w3 hown hgrow)
      have hbC := (Below.refl w2.heap.size w2).grown hgrow (Nat.le_refl _) (by simp)
      generalize (madeCells (Value.agg #[.int .i64 0, .int .u64 0]).cells (ls.length * 2)).toList = ys0 at hown
      have hcw : w.heap.size ≤ w2.heap.size := by omega
      clear hgrow
      go_loopw [24] (fun i wx => ∃ k : Nat, ∃ ys, k ≤ ls.length ∧ i = .int .i64 k ∧ Hid (∀ j, j < k → okS zs (ls.getD j 0)) ∧ wx.ownsRow w2.heap.size 29 2 (.slice (some ⟨w2.heap.size, 0, none⟩) ls.length ls.length) ls.length ys ∧ Hid (FldRow ys (fldsOf zs ls) k) ∧ Below w2.heap.size w2 wx) (fun i _ => ls.length - (intOf i).toNat)
      case atStart => exact ⟨0, ys0, Nat.zero_le _, rfl, fun j hj => by omega, hown, fun j hj => by omega, hbC⟩
      case round =>
        clear hbC hown
        obtain ⟨k, ys, hk', rfl, hok, hown, hrow, hbel⟩ := hrel
        by_cases hlt : k < ls.length
        · obtain ⟨b, off, rfl, hbl, hcl⟩ := (unhide hA1) (ne_of_lt_length hlt)
          have hck : wr.cell? ⟨b, off + k, none⟩ = some (Value.int .i64 (ls.getD k 0)) := (hbel.cell (by simpa using hbl)).trans (hcl k hlt)
          have hbad := hide (unhide hBad k hlt)
          have hOk : Hid (okS zs (ls.getD k 0) → ∀ j, j < k + 1 → okS zs (ls.getD j 0)) := hide (fun h j hj => by
            rcases Nat.lt_or_eq_of_le (Nat.le_of_lt_succ hj) with h' | h'
            · exact unhide hok j h'
            · subst h'; exact h)
          have hfa := hide (fldsOf_at zs ls k hlt)
          clear hcl hbl
          generalize ls.getD k 0 = x at hck hbad hOk hfa
          by_cases h1 : x < 0
          · have hB := hide (unhide hbad (fun h => by have := h.1; omega))
            clear hbad hOk hown hfa
            go_wp2
            go_ret
            refine ⟨_, rfl, ?_, (unhide hu).trans (Upd.of_below hbel 0 0)⟩
            rw [unhide hB]; exact own_nilYB _ _ _
          · by_cases h2 : x < zs.length
            · obtain ⟨X, rfl⟩ := Int.eq_ofNat_of_zero_le (show 0 ≤ x by omega)
              have hX : X < zs.length := by omega
              have hXw : X < (wordsL zs).length := by simpa using hX
              obtain ⟨bz, offz, rfl, hbz, hcz⟩ := (unhide hA) (ne_of_lt_length hX)
              have hz : wr.cell? ⟨bz, offz + X, none⟩ = some (Value.int .i64 (zs.getD X 0)) := (hbel.cell (by simpa using hbz)).trans (hcz X hX)
              obtain ⟨bw, offw, rfl, hbw, hcw'⟩ := (unhide hAw) (ne_of_lt_length hXw)
              have hw : wr.cell? ⟨bw, offw + X, none⟩ = some (Value.int .i64 (wordOf zs X)) := by
                refine (hbel.cell (by simpa using hbw)).trans ((hcw' X hXw).trans ?_)
                unfold wordsL; rw [List.getD_eq_getElem?_getD, List.getElem?_map, List.getElem?_range hX]; rfl
              have hzb := okL_all (unhide hg) X
              have hwb := wordOf_bd (unhide hg) X
              obtain ⟨n, hzn⟩ := Int.eq_ofNat_of_zero_le hzb.1
              obtain ⟨p, hwp⟩ := Int.eq_ofNat_of_zero_le hwb.1
              have hn15 : n ≤ 15 := by have := hzb.2; omega
              have hp8 : p < 100000000 := by omega
              rw [hzn] at hz
              rw [hwp] at hw
              by_cases h3 : n = 0
              · subst h3
                have hB := hide (unhide hbad (fun h => h.2.2 (by rw [Int.toNat_natCast]; exact hzn)))
                clear hbad hOk hzn hwp hzb hwb hcz hcw' hbz hbw hown hfa
                go_wp2
                go_ret
                refine ⟨_, rfl, ?_, (unhide hu).trans (Upd.of_below hbel 0 0)⟩
                rw [unhide hB]; exact own_nilYB _ _ _
              · have hok2 := hide (unhide hOk ⟨by omega, by omega, by rw [Int.toNat_natCast, hzn]; omega⟩)
                have q3 : ((n : Int) == 0) = false := by simp; omega
                have hl : ys.length = ls.length * 2 := hown.1
                have hrow2 := (unhide hrow).step (by omega)
                have hf2 : (fldsOf zs ls).getD k (0, 0) = ((n : Int), (p : Int)) := by rw [unhide hfa]; unfold symFld; rw [Int.toNat_natCast, hzn, hwp]
                rw [hf2] at hrow2
                have e0 : ∃ a, wr.cell? ⟨w2.heap.size, k * 2, none⟩ = some a := by rw [hown.cellAt _ (by omega)]; exact ⟨_, List.getElem?_eq_getElem (by omega)⟩
                have e1 : ∃ a, wr.cell? ⟨w2.heap.size, k * 2 + 1, none⟩ = some a := by rw [hown.cellAt _ (by omega)]; exact ⟨_, List.getElem?_eq_getElem (by omega)⟩
                obtain ⟨a0, e0⟩ := e0
                obtain ⟨a1, e1⟩ := e1
                have f0 := hown.frozenAt (k * 2)
                have f1 := hown.frozenAt (k * 2 + 1)
                have e0d : wr.drew.cell? ⟨w2.heap.size, k * 2, none⟩ = some a0 := e0
                have e1d : wr.drew.cell? ⟨w2.heap.size, k * 2 + 1, none⟩ = some a1 := e1
                have hst2 := hide ((hown.drew.stored (k * 2) (.int .i64 n)).1.stored (k * 2 + 1) (.int .u64 p)).1
                have hB2 := hide ((hbel.drew.setCell (p := ⟨w2.heap.size, k * 2, none⟩) (Nat.le_refl _) (.int .i64 n)).setCell (p := ⟨w2.heap.size, k * 2 + 1, none⟩) (Nat.le_refl _) (.int .u64 p))
                replace hrow2 := hide hrow2
                clear hbad hOk hzn hwp hzb hwb hcz hcw' hbz hbw hown hbel hrow hf2 hl hfa
                go_wp2_with fail
                go_region_with (fail)
                all_goals
                  go_wp2
                  go_roundw
                  case rel => exact ⟨k + 1, _, by omega, by go_num, hok2, unhide hst2, hrow2, unhide hB2⟩
                  case measure => simp [intOf]; omega
            · have hB := hide (unhide hbad (fun h => by have := h.2.1; omega))
              clear hbad hOk hown hfa
              go_wp2
              go_ret
              refine ⟨_, rfl, ?_, (unhide hu).trans (Upd.of_below hbel 0 0)⟩
              rw [unhide hB]; exact own_nilYB _ _ _
        · have hkl : k = ls.length := by omega
          subst hkl
          have hEq := hide (unhide hE (unhide hok))
          have hOF : OwnF wr w2.heap.size (fldsOf zs ls) := ⟨(hown.lt w2.heap.size rfl).2, fun j hj => by
            have hj' : j < ls.length := by simpa using hj
            have hl : ys.length = ls.length * 2 := hown.1
            have := (unhide hrow) j hj'
            rw [Nat.zero_add, hown.cellAt (j * 2) (by omega), hown.cellAt (j * 2 + 1) (by omega)]
            exact this⟩
          have hP := implPackHighAll (fun zs L v n c w hi hv hn hL hs => implPutT zs L v n c w hi hv hn hL hs) w2.heap.size ls.length (fldsOf zs ls) wr (fldsOf_in (unhide hg) ls) hOF
          rw [fldsOf_length] at hP
          replace hP := hide hP
          have hsz3 := hbel.size
          have hsz4 := (hown.lt w2.heap.size rfl).2
          replace hbel := hide hbel
          clear hown hOF
          go_wp2_with fail
          refine (unhide hP).mono ?_
          rintro e w5 ⟨vs, rfl, hown, hb2⟩
          rw [← unhide hEq] at hown
          have hown2 := hide (Own.of (ownsRow_base hown (show w.heap.size ≤ wr.heap.size by omega)))
          have hu5 := hide (((unhide hu).trans (Upd.of_below (unhide hbel) 0 0)).trans (Upd.of_below hb2 0 0))
          clear hown hP hb2
          go_wp2
          go_ret
          refine ⟨_, rfl, ?_, unhide hu5⟩
          unfold OwnY
          rw [symsF_length, symsF_byts]; exact unhide hown2
end Go.Proofs.Ytcoegccnkdhpjaa
