/- The specification's runs of a block. -/
import Derived.Test.YtilmdbdgohfpcaaPlainRn
import Derived.Test.YtilmdbdgohfpcaaWScS
import Derived.Test.YtilmdbdgohfpcaaWRRn
import Derived.Test.YtilmdbdgohfpcaaW8A
import Derived.Maps.AppendAt
import Derived.RangeFuncBox
namespace Go.Proofs.Ytilmdbdgohfpcaa
open Go.RowKit

theorem twoNew (w : World) (u u' : Value) (t : TypeId) : ∀ j v, [u, u'][j]? = some v → (w.alloc (.cells #[u, u'] t)).cell? ((⟨w.heap.size, 0, none⟩ : Addr).add j) = some v := by
  intro j v hj
  match j, hj with
  | 0, hj => simp at hj; subst hj; simp [Addr.add]
  | 1, hj => simp at hj; subst hj; simp [Addr.add]
theorem twoOne (q q' : IntKind) (a b : Int) : ∀ u ∈ [Value.int q a, Value.int q' b], u.oneCell' = true := by
  intro u hu; simp at hu; rcases hu with rfl | rfl <;> rfl
set_option maxRecDepth 100000 in
set_option maxHeartbeats 4000000 in
theorem specL8Runs (ad : Option Addr) (cap : Nat) (zs : List Int) (w : World) (hb : BlOk zs) (hA : ArgI w ad zs) :
    Calls Try.prog 32 #[.slice ad zs.length cap] w fun e w' => ∃ v, e = .returned v ∧ OwnRn w' w.heap.size w'.heap.size v (runsL zs) ∧ Upd 0 0 w w' := by
  obtain ⟨hz64, hzr⟩ := hb
  obtain ⟨bb, off, rfl, hbl, hcl⟩ := hA (ne_of_lt_length (show 0 < zs.length by omega))
  rw [hz64]
  replace hzr := hide hzr
  replace hcl := hide hcl
  have hz64 := hide hz64
  go_enter Try.func32, Try.ntmps32
  go_wp2_with fail
  refine (specScanOrder w).mono ?_
  rintro e w1 ⟨vo, rfl, ho, hu⟩
  obtain ⟨ao, co, rfl, hoA⟩ := OwnI.rd ho
  obtain ⟨bo, offo, rfl, hbo, hco⟩ := hoA (ne_of_lt_length (show 0 < scanL.length by rw [scanL_length]; omega))
  rw [scanL_length]
  replace hco := hide hco
  clear ho hoA
  have hbu := hide hu.none
  replace hu := hide hu
  have hrow0 : Hid (w1.ownsRow w1.heap.size 54 2 (.slice none 0 0) 0 (cellsRn [])) := hide (World.ownsRow_nil _ _ _ _)
  go_wp2_with fail
  go_loopw [3, 4, 9] (fun r z k wr => ∃ (j : Nat) (ad2 : Option Addr) (cp : Nat) (L : List Rn) (m : Nat), r = .slice ad2 L.length cp ∧ z = .int .i64 (m : Int) ∧ k = .int .i64 (j : Int) ∧ j ≤ 64 ∧ Hid (runsTo zs (scanK j) = (L, m)) ∧
      Hid (wr.ownsRow w1.heap.size 54 2 (.slice ad2 L.length cp) L.length (cellsRn L)) ∧ Hid (Below w1.heap.size w1 wr)) (fun _ _ k _ => 64 - (intOf k).toNat)
  case atStart => exact ⟨0, none, 0, [], 0, rfl, rfl, rfl, by omega, hide (runsK_one zs).2, hrow0, hide (Below.refl _ _)⟩
  case round =>
    clear hrow0
    obtain ⟨j, ad2, cp, L, m, rfl, rfl, rfl, hj, hst, hrow, hbel⟩ := hrel
    have hle := runsK_le zs j
    rw [unhide hst] at hle
    obtain ⟨hL63, hm63⟩ : L.length ≤ 63 ∧ m ≤ 63 := hle
    by_cases hjl : j < 64
    · have hjb : decide ((j : Int) < 64) = true := decide_eq_true (by omega)
      obtain ⟨x, hx⟩ : ∃ x, scanL.getD j 0 = x := ⟨_, rfl⟩
      have hc1 : wr.cell? ⟨bo, offo + j, none⟩ = some (.int .i64 x) := by
        rw [← hx, (unhide hbel).cell (by simpa using hbo)]; exact unhide hco j (by rw [scanL_length]; omega)
      have hx2 := scanL_bd j hjl
      rw [hx] at hx2
      obtain ⟨p, rfl⟩ : ∃ p : Nat, x = (p : Int) := ⟨x.toNat, by omega⟩
      have hp64 : p < 64 := by omega
      have hcz : wr.cell? ⟨bb, off + p, none⟩ = some (.int .i64 (zs.getD p 0)) := by
        rw [(unhide hbel).cell (by have := (unhide hbu).size; simp; omega), (unhide hbu).cell (by simpa using hbl)]; exact unhide hcl p (by rw [unhide hz64]; omega)
      have hyb := (unhide hzr) p (by rw [unhide hz64]; omega)
      obtain ⟨y, hy⟩ : ∃ y, zs.getD p 0 = y := ⟨_, rfl⟩
      rw [hy] at hcz hyb
      by_cases hj0 : j = 0
      · have hkb : ((j : Int) == 0) = true := by simp; omega
        have hnx := hide (show runsTo zs (scanK (j + 1)) = (L, m) by rw [← unhide hst, hj0, (runsK_one zs).1, (runsK_one zs).2])
        clear hj0 hst hy hx
        go_wp2_with fail
        go_roundw
        case rel => exact ⟨j + 1, _, _, L, m, rfl, rfl, by go_num, by omega, hnx, hrow, hbel⟩
        case measure => simp [intOf]; omega
      · have hkb : ((j : Int) == 0) = false := by simp; omega
        have hnx : Hid (runsTo zs (scanK (j + 1)) = if y = 0 then (L, m + 1) else (L ++ [((m : Int), y)], 0)) := hide (by
          rw [runsK_succ zs j hjl (by omega), hx, unhide hst, runStep, Int.toNat_natCast, hy])
        clear hj0 hst hx hy
        by_cases hy0 : y = 0
        · have hyz : (y == 0) = true := by simp; omega
          replace hnx := hide (show runsTo zs (scanK (j + 1)) = (L, m + 1) by rw [unhide hnx, if_pos hy0])
          clear hy0
          go_wp2_with fail
          go_roundw
          case rel => exact ⟨j + 1, _, _, L, m + 1, rfl, by go_num, by go_num, by omega, hnx, hrow, hbel⟩
          case measure => simp [intOf]; omega
        · have hyz : (y == 0) = false := by simp; omega
          replace hnx := hide (show runsTo zs (scanK (j + 1)) = (L ++ [((m : Int), y)], 0) by rw [unhide hnx, if_neg hy0])
          clear hy0
          have hrow1 := unhide hrow
          have hbel1 := unhide hbel
          have hsz := hbel1.size
          obtain ⟨i0, hi, hz0, hz1, hz2⟩ := info_parts infoRn
          have hb1 : L.length + 1 ≤ maxLen := by unfold maxLen; omega
          have hb2 : (L.length + 1) * 16 ≤ 140737488355328 := by omega
          have hb3 : w1.heap.size ≤ (wr.alloc (.cells #[.int .i64 (m : Int), .int .i64 y] 54)).heap.size := by simp; omega
          go_wp2_with (at_builtin; refine wpList_append_own_at _ rfl (.tmp 23) (.tmp 30) 25 rfl w1.heap.size 54 i0 (.agg #[.int .i64 0, .int .i64 0]) 2 16 Try.underlying25 hi hz0 hz1 hz2 rfl (by decide) (.slice ad2 L.length cp) L.length (cellsRn L) rfl (hrow1.alloc _) ⟨wr.heap.size, 0, none⟩ 1 1 [.int .i64 (m : Int), .int .i64 y] rfl rfl (twoNew _ _ _ _) (twoOne _ _ _ _) hb1 hb2 hb3 ?_)
          intro v' w2 hown' hgrow _ _
          have hbel2 := hide ((hbel1.alloc hsz (.cells #[.int .i64 (m : Int), .int .i64 y] 54)).grown hgrow (by simp; omega) (fun k hk => (hrow1.lt k hk).1))
          obtain ⟨ad3, cp3, rfl⟩ : ∃ ad3 cp3, v' = .slice ad3 (L.length + 1) cp3 := by
            obtain ⟨g, c, e⟩ := ownsRow_succ hown'
            exact ⟨_, _, e⟩
          have hrow2 : Hid (w2.ownsRow w1.heap.size 54 2 (.slice ad3 (L ++ [((m : Int), y)]).length cp3) (L ++ [((m : Int), y)]).length (cellsRn (L ++ [((m : Int), y)]))) := hide (by
            rw [cellsRn_snoc, List.length_append]; exact hown')
          rw [show L.length + 1 = (L ++ [((m : Int), y)]).length by simp]
          clear hown' hgrow hrow1 hbel1 hsz hb1 hb2 hb3
          go_wp2_with fail
          go_roundw
          case rel => exact ⟨j + 1, _, _, _, 0, rfl, rfl, by go_num, by omega, hnx, hrow2, hbel2⟩
          case measure => simp [intOf]; omega
    · have hj64 : j = 64 := by omega
      have hjb : decide ((j : Int) < 64) = false := by simp; omega
      rw [hj64, scanK_end] at hst
      clear hj64
      have hbw : Hid (∀ X, Below w1.heap.size w1 X → Upd 0 0 w X) := hide (fun X hX => ⟨hX.os.trans (unhide hu).os, hX.tape.trans (unhide hu).tape, hX.output.trans (unhide hu).output, Nat.le_trans (unhide hu).size hX.size, fun k hk hn => (hX.block k (Nat.lt_of_lt_of_le hk (unhide hu).size)).trans ((unhide hu).block k hk hn)⟩)
      have hsu := (unhide hu).size
      by_cases hm0 : m = 0
      · have hmb : decide (0 < m) = false := decide_eq_false (by omega)
        have hrl := hide (show runsL zs = L by unfold runsL; rw [unhide hst, hm0]; rfl)
        clear hm0
        clear hst
        go_wp2
        go_ret
        exact ⟨_, rfl, by rw [unhide hrl]; exact own_mono (Own.of (unhide hrow)) hsu (Nat.le_refl _), unhide hbw _ (unhide hbel)⟩
      · have hmb : decide (0 < m) = true := decide_eq_true (by omega)
        have hrl := hide (show runsL zs = L ++ [((m : Int), 0)] by unfold runsL; rw [unhide hst]; unfold runsEnd; rw [if_pos (show 0 < m by omega)])
        clear hst hm0
        have hrow1 := unhide hrow
        have hbel1 := unhide hbel
        have hsz := hbel1.size
        obtain ⟨i0, hi, hz0, hz1, hz2⟩ := info_parts infoRn
        go_wp2_with (at_builtin; refine wpList_append_own_at _ rfl (.tmp 35) (.tmp 38) 25 rfl w1.heap.size 54 i0 (.agg #[.int .i64 0, .int .i64 0]) 2 16 Try.underlying25 hi hz0 hz1 hz2 rfl (by decide) (.slice ad2 L.length cp) L.length (cellsRn L) rfl (hrow1.alloc _) ⟨wr.heap.size, 0, none⟩ 1 1 [.int .i64 (m : Int), .int .i64 0] rfl rfl (twoNew _ _ _ _) (twoOne _ _ _ _) (by unfold maxLen; omega) (by omega) (by simp; omega) ?_)
        intro v' w2 hown' hgrow _ _
        have hbel2 := hide ((hbel1.alloc hsz (.cells #[.int .i64 (m : Int), .int .i64 0] 54)).grown hgrow (by simp; omega) (fun k hk => (hrow1.lt k hk).1))
        have ho2 : OwnRn w2 w1.heap.size w2.heap.size v' (L ++ [((m : Int), 0)]) := Own.of (by rw [cellsRn_snoc, List.length_append]; exact hown')
        clear hown' hgrow hrow1 hbel1 hsz
        go_wp2
        go_ret
        exact ⟨_, rfl, by rw [unhide hrl]; exact own_mono ho2 hsu (Nat.le_refl _), unhide hbw _ (unhide hbel2)⟩
end Go.Proofs.Ytilmdbdgohfpcaa
