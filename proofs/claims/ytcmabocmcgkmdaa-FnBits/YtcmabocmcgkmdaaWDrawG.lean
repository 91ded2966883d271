/- The laws' drawing of the fields that are packed. -/
import Derived.Test.YtcmabocmcgkmdaaWDrawF
namespace Go.Proofs.Ytcmabocmcgkmdaa
open Go.RowKit

theorem l1Size6 (ad : Option Addr) (len cap : Nat) (w : World) (hl : len ≤ 1048576) :
    Calls Try.prog 62 #[.slice ad len cap, .int .i64 6, .int .i64 60] w fun e w' => ∃ k : Nat, e = .returned (.int .i64 k) ∧ k ≤ 60 ∧ w' = w := by
  obtain ⟨k, hk, hk'⟩ : ∃ k : Nat, (len : Int) / 6 = (k : Int) ∧ k ≤ 1048576 := ⟨len / 6, by omega, by omega⟩
  have hd : Int.tdiv (len : Int) 6 = (k : Int) := by rw [Int.tdiv_eq_ediv_of_nonneg (by omega)]; exact hk
  by_cases hb : 60 < k
  · have hb' : (60 : Int) < (k : Int) := by omega
    go_enter Try.func62, Try.ntmps62
    go_wp2
    go_ret
    exact ⟨60, rfl, Nat.le_refl _, rfl⟩
  · have hb' : ¬ (60 : Int) < (k : Int) := by omega
    go_enter Try.func62, Try.ntmps62
    go_wp2
    go_ret
    exact ⟨k, rfl, by omega, rfl⟩

theorem fcells_at (fs : List (Int × Int)) (j : Nat) (h : j < fs.length) : (fcells fs)[j * 2]? = some (.int .i64 (fs.getD j (0, 0)).1) ∧ (fcells fs)[j * 2 + 1]? = some (.int .u64 (fs.getD j (0, 0)).2) := by
  induction fs generalizing j with
  | nil => simp at h
  | cons f fs ih =>
    cases j with
    | zero => exact ⟨rfl, rfl⟩
    | succ j =>
      have := ih j (by simpa using h)
      show ((Value.int .i64 f.1 :: Value.int .u64 f.2 :: fcells fs)[(j + 1) * 2]? = _) ∧ ((Value.int .i64 f.1 :: Value.int .u64 f.2 :: fcells fs)[(j + 1) * 2 + 1]? = _)
      rw [show (j + 1) * 2 = j * 2 + 1 + 1 by omega]
      simpa using this
theorem fcells_set (fs : List (Int × Int)) (j : Nat) (q : Int) (h : j < fs.length) : (fcells fs).set (j * 2) (.int .i64 q) = fcells (fs.set j (q, (fs.getD j (0, 0)).2)) := by
  induction fs generalizing j with
  | nil => simp at h
  | cons f fs ih =>
    cases j with
    | zero => rfl
    | succ j =>
      have := ih j (by simpa using h)
      show (Value.int .i64 f.1 :: Value.int .u64 f.2 :: fcells fs).set ((j + 1) * 2) _ = Value.int .i64 f.1 :: Value.int .u64 f.2 :: fcells (fs.set j _)
      rw [show (j + 1) * 2 = j * 2 + 1 + 1 by omega]
      simpa using this
theorem inF_set {fs : List (Int × Int)} {j : Nat} {q : Int} (h : InF fs) (hq : -9223372036854775808 ≤ q ∧ q ≤ 9223372036854775807) (hj : j < fs.length) : InF (fs.set j (q, (fs.getD j (0, 0)).2)) := by
  intro i
  by_cases e : j = i
  · subst e
    rw [List.getD_eq_getElem?_getD (l := fs.set _ _), List.getElem?_set_self hj]
    exact ⟨hq, (h j).2⟩
  · rw [List.getD_eq_getElem?_getD (l := fs.set _ _), List.getElem?_set_ne e, ← List.getD_eq_getElem?_getD]; exact h i

theorem madeTwo (x y : Value) (n j : Nat) (h : j < n * 2) : (madeCells #[x, y] (n * 2)).toList[j]? = some (if j % 2 = 0 then x else y) := by
  unfold madeCells
  rw [Array.toList_map, List.getElem?_map, Array.toList_range, List.getElem?_range h]
  simp only [Option.map_some, Option.some.injEq]
  rcases Nat.mod_two_eq_zero_or_one j with e | e
  · rw [if_pos e]; show #[x, y][j % 2]! = x; rw [e]; rfl
  · rw [if_neg (by omega)]; show #[x, y][j % 2]! = y; rw [e]; rfl

set_option maxHeartbeats 4000000 in
theorem l1FieldsFew (ad : Option Addr) (cap : Nat) (zs : List Int) (w : World) (h : ArgB w ad zs) (hl : zs.length ≤ 1048576) :
    Calls Try.prog 49 #[.slice ad zs.length cap] w fun e w' => ∃ g cp fs, e = .returned (.slice (some ⟨g, 0, none⟩) fs.length cp) ∧ InF fs ∧ OwnF w' g fs ∧ fs.length ≤ 20001 ∧ w.heap.size ≤ g ∧ Below w.heap.size w w' := by
  have hc := hide (curIn_new w ad cap zs h)
  have hbel := hide ((Below.refl w.heap.size w).alloc (Nat.le_refl _) (.cells #[.slice ad zs.length cap, .int .i64 0, .int .u64 0] 63))
  have hbB : Hid (zs ≠ [] → ∀ b off, ad = some ⟨b, off, none⟩ → b < w.heap.size) := hide (fun hne b off e => by
    obtain ⟨b', off', e', hl', _⟩ := h.2 hne
    rw [e] at e'; cases e'; exact hl')
  clear h
  go_enter Try.func49, Try.ntmps49
  go_wp2_with fail
  refine (curOne _ ad cap zs 0 40 _ (unhide hc) (by omega) hl (by omega) (by omega)).mono ?_
  rintro e w1 ⟨b, rfl, hc1, ho1⟩
  have hb1 := hide ((unhide hbel).trans (ho1.below (Nat.le_refl _) (unhide hbel).size))
  have hs1 : w.heap.size < w1.heap.size := Nat.lt_of_lt_of_le (by simp) ho1.size
  clear hc hbel ho1
  cases b
  · replace hc1 := hide hc1
    go_wp2_with (go_at_call 62; refine (l1Size6 ad zs.length cap w1 hl).mono ?_; rintro e w2 ⟨k, rfl, hk, hw2⟩; subst hw2)
    obtain ⟨N, hN1, hNp, hNb⟩ : ∃ N : Nat, Hid (1 + (k : Int) = (N : Int)) ∧ 0 < N ∧ N ≤ 61 := ⟨1 + k, hide (by omega), by omega, by omega⟩
    have hN := curFields _ ad cap zs _ N _ (unhide hc1) (by omega) hl (by omega) hs1 (fun hne b off e => Nat.lt_trans (unhide hbB hne b off e) hs1)
    replace hN := hide hN
    clear hc1
    go_wp2_with fail
    rw [unhide hN1]
    clear hN1
    refine (unhide hN).mono ?_
    rintro e w3 ⟨v, fs, rfl, hfl, hI, hown, hC, hbl⟩
    clear hN
    have hsh : ∃ g cp, v = .slice (some ⟨g, 0, none⟩) N cp := by
      rcases hown.2 with ⟨_, h0⟩ | ⟨g, cp, cur, e, _⟩
      · omega
      · exact ⟨g, cp, e⟩
    obtain ⟨g, cp, rfl⟩ := hsh
    have hb3 := hide ((unhide hb1).trans hbl)
    have hgl := (hown.lt g rfl)
    replace hown := hide hown
    replace hI := hide hI
    replace hC := hide hC
    clear hbl hb1
    go_wp2
    go_loopw [23] (fun j wr => ∃ fs' : List (Int × Int), ∃ d : Nat, d ≤ N ∧ j = .int .i64 d ∧ fs'.length = N ∧ Hid (InF fs') ∧ Hid (wr.ownsRow w2.heap.size 29 2 (.slice (some ⟨g, 0, none⟩) N cp) N (fcells fs')) ∧ Hid (CurIn wr w.heap.size ad cap zs (100000 + d)) ∧ Hid (Below w.heap.size w wr) ∧ w.heap.size < wr.heap.size) (fun j _ => N - (intOf j).toNat)
    case atStart => exact ⟨fs, 0, by omega, rfl, hfl, hI, hown, (unhide hC).mono (by omega), hb3, by omega⟩
    case round =>
      clear hown hI hC hb3 hfl
      obtain ⟨fs', d, hd, rfl, hfl, hI, hown, hC, hbel, hws⟩ := hrel
      by_cases hlt : d < N
      · have d0 := ((unhide hown).cellAt (d * 2) (by omega)).trans (fcells_at fs' d (by omega)).1
        have f0 := (unhide hown).frozenAt (d * 2)
        have hq := (unhide hI d).1
        have hset := hide (fun q => fcells_set fs' d q (by omega))
        have hinf := hide (fun q h => inF_set (q := q) (unhide hI) h (by omega : d < fs'.length))
        replace hfl := hide hfl
        generalize (fs'.getD d (0, 0)).1 = q at d0 hq
        have hN := hide (curOne _ ad cap zs _ 4 wr (unhide hC) (by omega) hl (by omega) (by omega))
        by_cases hq0 : q < 0
        · have b0 : decide (q < 0) = true := decide_eq_true hq0
          go_wp2_with fail
          refine (unhide hN).mono ?_
          rintro e w5 ⟨y, rfl, hC5, ho5⟩
          have hown5 := owns_onlyF (unhide hown) (show w.heap.size < w2.heap.size by omega) ho5
          have e0 := (hown5.cellAt (d * 2) (by omega)).trans (fcells_at fs' d (by have := unhide hfl; omega)).1
          have f1 := hown5.frozenAt (d * 2)
          have hb5 := (unhide hbel).trans (ho5.below (Nat.le_refl _) (unhide hbel).size)
          have hws5 := Nat.lt_of_lt_of_le hws ho5.size
          have hst := (hown5.stored (d * 2) (.int .i64 3)).1
          rw [unhide hset 3] at hst
          have hC6 := hide (CurIn.mono (hC5.belowAt (B := w2.heap.size) hs1 (fun hne b off e => Nat.lt_trans (unhide hbB hne b off e) hs1) ((Below.refl _ _).setCell (p := ⟨g, d * 2, none⟩) (by simp; omega) (.int .i64 3))) (show _ ≤ 100000 + (d + 1) by omega))
          have hb6 := hide (hb5.setCell (p := ⟨g, d * 2, none⟩) (by simp; omega) (.int .i64 3))
          replace hst := hide hst
          replace hown5 := hide hown5
          replace hb5 := hide hb5
          replace hC5 := hide hC5
          generalize (fs'.getD d (0, 0)).1 = qq at e0
          clear hN ho5 hC hbel hown d0 f0
          cases y
          · go_wp2
            go_roundw
            case rel => exact ⟨_, d + 1, by omega, by go_num, by rw [List.length_set]; exact unhide hfl, unhide hinf 3 ⟨by decide, by decide⟩, hst, hC6, hb6, by simpa using hws5⟩
            case measure => simp [intOf]; omega
          · go_wp2
            go_roundw
            case rel => exact ⟨fs', d + 1, by omega, by go_num, unhide hfl, hI, hown5, (unhide hC5).mono (by omega), hb5, hws5⟩
            case measure => simp [intOf]; omega
        · have b0 : decide (q < 0) = false := decide_eq_false hq0
          by_cases hq1 : 64 < q
          · have b1 : decide ((64 : Int) < q) = true := decide_eq_true hq1
            go_wp2_with fail
            refine (unhide hN).mono ?_
            rintro e w5 ⟨y, rfl, hC5, ho5⟩
            have hown5 := owns_onlyF (unhide hown) (show w.heap.size < w2.heap.size by omega) ho5
            have e0 := (hown5.cellAt (d * 2) (by omega)).trans (fcells_at fs' d (by have := unhide hfl; omega)).1
            have f1 := hown5.frozenAt (d * 2)
            have hb5 := (unhide hbel).trans (ho5.below (Nat.le_refl _) (unhide hbel).size)
            have hws5 := Nat.lt_of_lt_of_le hws ho5.size
            have hst := (hown5.stored (d * 2) (.int .i64 3)).1
            rw [unhide hset 3] at hst
            have hC6 := hide (CurIn.mono (hC5.belowAt (B := w2.heap.size) hs1 (fun hne b off e => Nat.lt_trans (unhide hbB hne b off e) hs1) ((Below.refl _ _).setCell (p := ⟨g, d * 2, none⟩) (by simp; omega) (.int .i64 3))) (show _ ≤ 100000 + (d + 1) by omega))
            have hb6 := hide (hb5.setCell (p := ⟨g, d * 2, none⟩) (by simp; omega) (.int .i64 3))
            replace hst := hide hst
            replace hown5 := hide hown5
            replace hb5 := hide hb5
            replace hC5 := hide hC5
            generalize (fs'.getD d (0, 0)).1 = qq at e0
            clear hN ho5 hC hbel hown d0 f0
            cases y
            · go_wp2
              go_roundw
              case rel => exact ⟨_, d + 1, by omega, by go_num, by rw [List.length_set]; exact unhide hfl, unhide hinf 3 ⟨by decide, by decide⟩, hst, hC6, hb6, by simpa using hws5⟩
              case measure => simp [intOf]; omega
            · go_wp2
              go_roundw
              case rel => exact ⟨fs', d + 1, by omega, by go_num, unhide hfl, hI, hown5, (unhide hC5).mono (by omega), hb5, hws5⟩
              case measure => simp [intOf]; omega
          · have b1 : decide ((64 : Int) < q) = false := decide_eq_false hq1
            clear hN
            go_wp2
            go_roundw
            case rel => exact ⟨fs', d + 1, by omega, by go_num, unhide hfl, hI, hown, (unhide hC).mono (by omega), hbel, hws⟩
            case measure => simp [intOf]; omega
      · have hdl : d = N := by omega
        have hd1 : decide ((d : Int) < (N : Int)) = false := decide_eq_false (by omega)
        replace hfl := hide hfl
        clear hC
        go_wp2
        go_ret
        refine ⟨g, cp, fs', by rw [unhide hfl]; rfl, unhide hI, ⟨((unhide hown).lt g rfl).2, fun j hj => ?_⟩, by have := unhide hfl; omega, by omega, unhide hbel⟩
        have := fcells_at fs' j hj
        rw [unhide hfl] at hj
        exact ⟨by rw [Nat.zero_add]; exact ((unhide hown).cellAt _ (by omega)).trans this.1, by rw [Nat.zero_add]; exact ((unhide hown).cellAt _ (by omega)).trans this.2⟩
  · obtain ⟨i0, hi, hz0, hz1, hz2⟩ := info_parts infoF
    have hN := hide (curPick _ ad cap zs _ 3 w1 hc1 (by omega) hl (by omega) (by omega))
    clear hc1
    go_wp2_with fail
    refine (unhide hN).mono ?_
    rintro e w2 ⟨x, rfl, x0, x1, hC, ho⟩
    clear hN hC
    have hb2 := hide ((unhide hb1).trans (ho.below (Nat.le_refl _) (unhide hb1).size))
    have hs2 := Nat.lt_of_lt_of_le hs1 ho.size
    obtain ⟨N, hN1, hN2⟩ : ∃ N : Nat, 20000 + x - 1 = (N : Int) ∧ N ≤ 20001 := ⟨(20000 + x - 1).toNat, by omega, by omega⟩
    clear ho hb1
    go_wp2_with (at_make; refine wpList_make_full _ rfl _ _ 23 rfl w.heap.size 29 i0 (.agg #[.int .i64 0, .int .u64 0]) 2 Try.underlying23 hi hz0 hz1 .i64 .i64 _ _ N rfl rfl (by omega) (by omega) (by rw [hz2]; omega) (by unfold maxLen; omega) (by omega) ?_; intro w3 hown hgrow)
    have hb3 := (unhide hb2).trans ((Below.refl w.heap.size w2).grown hgrow (by omega) (by simp))
    go_ret
    have hg : ∀ j, (List.replicate N ((0 : Int), (0 : Int))).getD j (0, 0) = (0, 0) := fun j => by
      rw [List.getD_eq_getElem?_getD, List.getElem?_replicate]; split <;> rfl
    refine ⟨w2.heap.size, N, List.replicate N (0, 0), by simp, fun j => by rw [hg]; exact ⟨⟨by decide, by decide⟩, by decide, by decide⟩, ⟨(hown.lt _ rfl).2, fun j hj => ?_⟩, by simpa using hN2, by omega, hb3⟩
    rw [List.length_replicate] at hj
    rw [hg, Nat.zero_add]
    refine ⟨(hown.cellAt _ (by omega)).trans ?_, (hown.cellAt _ (by omega)).trans ?_⟩
    · have := madeTwo (.int .i64 0) (.int .u64 0) N (j * 2) (by omega)
      rw [if_pos (by omega)] at this; exact this
    · have := madeTwo (.int .i64 0) (.int .u64 0) N (j * 2 + 1) (by omega)
      rw [if_neg (by omega)] at this; exact this
end Go.Proofs.Ytcmabocmcgkmdaa
