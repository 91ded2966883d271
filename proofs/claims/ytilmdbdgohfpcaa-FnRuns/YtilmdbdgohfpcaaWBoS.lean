/- The specification's BlockOf. -/
import Derived.Test.YtilmdbdgohfpcaaPlainBo
import Derived.Test.YtilmdbdgohfpcaaWScS
import Derived.Test.YtilmdbdgohfpcaaWRRn
import Derived.Test.YtilmdbdgohfpcaaWHeld
import Derived.Test.YtilmdbdgohfpcaaWUpd
import Derived.StillTailTactics
namespace Go.Proofs.Ytilmdbdgohfpcaa
open Go.RowKit

theorem ints_set (zs : List Int) (k : Nat) (v : Int) : (ints zs).set k (.int .i64 v) = ints (zs.set k v) := by unfold ints; rw [List.map_set]
theorem ints_zero64 : List.replicate 64 (Value.int .i64 0) = ints zero64 := by unfold ints zero64; simp
theorem scP_cast (j : Nat) (h : j < 64) : scanL.getD j 0 = ((scP j : Nat) : Int) := by
  have := scanL_bd j h
  unfold scP; omega
theorem order_cell {w : World} {a b bo oo cap : Nat} (h : OwnI w a b (.slice (some ⟨bo, oo, none⟩) scanL.length cap) scanL) (j : Nat) (hj : j < 64) : w.cell? ⟨bo, oo + j, none⟩ = some (.int .i64 ((scP j : Nat) : Int)) := by
  obtain ⟨ad', cap', e, hA⟩ := OwnI.rd h
  cases e
  obtain ⟨b', o', e', _, hc⟩ := hA (ne_of_lt_length (k := j) (by rw [scanL_length]; exact hj))
  cases e'
  rw [← scP_cast j hj]
  exact hc j (by rw [scanL_length]; exact hj)
theorem drop_getD (rs : List (Int × Int)) (i : Nat) (h : i < rs.length) : rs.drop i = rs.getD i Rn0 :: rs.drop (i + 1) := by
  rw [List.drop_eq_getElem_cons h, List.getD_eq_getElem?_getD, List.getElem?_eq_getElem h]; rfl
theorem bo_none {rs : List (Int × Int)} (h : boGo 1 zero64 rs = none) : blockOfF rs = [] := by unfold blockOfF; rw [h]

set_option maxRecDepth 100000 in
set_option maxHeartbeats 8000000 in
theorem specBlockOf (v : Value) (rs : List Rn) (w : World) (hn : rs.length ≤ 1048576) (_hR : InRn rs) (hv : RdRn w v rs) :
    Calls Try.prog 20 #[v] w fun e w' => ∃ u, e = .returned u ∧ OwnI w' w.heap.size w'.heap.size u (blockOfF rs) ∧ Upd 0 0 w w' := by
  obtain ⟨ad, cap, rfl, hA⟩ := hv
  obtain ⟨i0, hi, hz0, hz1, hz2⟩ := info_parts infoI
  replace hA := hide hA
  go_enter Try.func20, Try.ntmps20
  go_wp2_with (at_make; refine wpList_make_full _ rfl _ _ 23 rfl w.heap.size 3 i0 (.int .i64 0) 1 Try.underlying23 hi hz0 hz1 .i64 .i64 _ _ 64 rfl rfl (by omega) (by omega) (by rw [hz2]; omega) (by unfold maxLen; omega) (Nat.le_refl _) ?_; intro w1 hown hgrow)
  have hbel := (Below.refl w.heap.size w).grown hgrow (Nat.le_refl _) (by simp)
  have hown0 : w1.ownsRow w.heap.size 3 1 (.slice (some ⟨w.heap.size, 0, none⟩) 64 64) 64 (ints zero64) := by
    rw [← ints_zero64]; simpa [toList_madeCells_one, Value.cells] using hown
  have hsz1 : w.heap.size + 1 ≤ w1.heap.size := by
    have := hown0.lt w.heap.size rfl
    omega
  clear hown hgrow
  go_wp2_with fail
  refine (specScanOrder w1).mono ?_
  rintro e w2 ⟨u, rfl, ho, hu⟩
  have hown2 := hide ((Own.of hown0).upd hu (.inr (Nat.zero_le _))).1
  have hbel2 := hide (below_upd hbel hu (Nat.le_refl _) (.inr (Nat.le_refl _)))
  obtain ⟨ado, capo, rfl, hAo⟩ := OwnI.rd ho
  obtain ⟨bo, oo, rfl, _, _⟩ := hAo (ne_of_lt_length (k := 0) (by rw [scanL_length]; omega))
  have hord := hide (own_mono ho hsz1 (Nat.le_refl _))
  rw [scanL_length]
  clear hown0 hbel ho hu hAo
  go_wp2
  go_loopw [5, 6, 7, 12] (fun k6 _ _ i wr => ∃ (k i' : Nat) (out : List Int), i' ≤ rs.length ∧ i = .int .i64 i' ∧ k6 = .int .i64 k ∧ Hid (wr.ownsRow w.heap.size 3 1 (.slice (some ⟨w.heap.size, 0, none⟩) 64 64) 64 (ints out)) ∧ out.length = 64 ∧ Hid (boGo k out (rs.drop i') = boGo 1 zero64 rs) ∧ (k ≤ 64 ∨ i' = rs.length) ∧ k ≤ 127 ∧
    Hid (OwnI wr (w.heap.size + 1) wr.heap.size (.slice (some ⟨bo, oo, none⟩) scanL.length capo) scanL) ∧ Hid (Below w.heap.size w wr)) (fun _ _ _ i _ => rs.length - (intOf i).toNat)
  case atStart => exact ⟨1, 0, zero64, Nat.zero_le _, rfl, rfl, hown2, rfl, hide rfl, .inl (by omega), by omega, by rw [scanL_length]; exact hord, hbel2⟩
  case round =>
    clear hown2 hord hbel2
    obtain ⟨k, i', out, hk, rfl, rfl, hown, hl64, hgo, hk64, hk127, hord, hbel⟩ := hrel
    by_cases hlt : i' < rs.length
    · have hk6 : k ≤ 64 := by omega
      obtain ⟨b, off, rfl, hbl, hc⟩ := (unhide hA) (ne_of_lt_length hlt)
      have d0 := ((unhide hbel).cell (p := ⟨b, off + i' * 2, none⟩) (by simpa using hbl)).trans (hc i' hlt).1
      have d1 := ((unhide hbel).cell (p := ⟨b, off + i' * 2 + 1, none⟩) (by simpa using hbl)).trans (hc i' hlt).2
      have hdr := drop_getD rs i' hlt
      have hrb := _hR i'
      generalize hf : rs.getD i' Rn0 = f at d0 d1 hdr hrb
      obtain ⟨z, v⟩ := f
      have hgo2 := unhide hgo
      rw [hdr] at hgo2
      clear hgo hdr hf hk64
      simp only at d0 d1 hrb
      replace hc := hide hc
      go_upto_region 7 with fail
      have hp0 := heldF_new wr [.int .i64 z, .int .i64 v] 54
      have hu1 : Upd 0 0 wr (wr.alloc (.cells #[.int .i64 z, .int .i64 v] 54)) := Upd.of_below ((Below.refl wr.heap.size wr).alloc (Nat.le_refl _) _) 0 0
      change HeldF (wr.alloc (.cells #[.int .i64 z, .int .i64 v] 54)) wr.heap.size [.int .i64 z, .int .i64 v] at hp0
      generalize wr.alloc (.cells #[.int .i64 z, .int .i64 v] 54) = wc at hp0 hu1 ⊢
      have hown2 := hide ((Own.of (unhide hown)).upd hu1 (.inr (Nat.zero_le _))).1
      have hord2 := hide ((unhide hord).upd hu1 (.inr (Nat.zero_le _)))
      have hbel2 := hide (below_upd (unhide hbel) hu1 (Nat.le_refl _) (.inr (Nat.le_refl _)))
      have hsw := hu1.size
      have p0 := hp0.1.2 0 _ rfl
      have p1 := hp0.1.2 1 _ rfl
      generalize wr.heap.size = c at hp0 hord2 hsw p0 p1 ⊢
      clear hown hord hbel hu1 d0 d1
      by_cases hbad : z < 0 ∨ 63 < z ∨ v < -32768 ∨ 32767 < v
      · have hN : Hid (blockOfF rs = []) := hide (bo_none (by rw [← hgo2]; unfold boGo; rw [if_pos hbad]))
        have hcase : (z < 0) ∨ (¬ z < 0 ∧ 63 < z) ∨ (¬ z < 0 ∧ ¬ 63 < z ∧ v < -32768) ∨ (¬ z < 0 ∧ ¬ 63 < z ∧ ¬ v < -32768 ∧ 32767 < v) := by omega
        clear hbad hgo2
        rcases hcase with c1 | ⟨c1, c2⟩ | ⟨c1, c2, c3⟩ | ⟨c1, c2, c3, c4⟩
        all_goals
          go_wp2
          go_ret
          exact ⟨_, rfl, by rw [unhide hN]; exact own_nilI _ _ _, Upd.of_below (unhide hbel2) 0 0⟩
      · obtain ⟨n, rfl⟩ : ∃ n : Nat, z = (n : Int) := ⟨z.toNat, by omega⟩
        have hn63 : n ≤ 63 := by omega
        have c1 : ¬ (n : Int) < 0 := by omega
        have c2 : ¬ 63 < (n : Int) := by omega
        have c3 : ¬ v < -32768 := by omega
        have c4 : ¬ 32767 < v := by omega
        have hgo3 : (if v = 0 then (if (n : Int) = 0 ∨ rs.drop (i' + 1) ≠ [] then none else some (k + n, out)) else if 63 < k + n then none else boGo (k + n + 1) (out.set (scP (k + n)) v) (rs.drop (i' + 1))) = boGo 1 zero64 rs := by
          rw [← hgo2]; conv => rhs; unfold boGo; rw [if_neg hbad, Int.toNat_natCast]
        clear hgo2 hbad hrb
        by_cases hv0 : v = 0
        · subst hv0
          rw [if_pos rfl] at hgo3
          have hvb : ((0 : Int) == 0) = true := rfl
          by_cases hz : n = 0
          · rw [if_pos (.inl (by omega))] at hgo3
            have hN : Hid (blockOfF rs = []) := hide (bo_none hgo3.symm)
            have hzb : ((n : Int) == 0) = true := by simp; omega
            subst hz
            clear hgo3 hzb
            go_wp2
            go_ret
            exact ⟨_, rfl, by rw [unhide hN]; exact own_nilI _ _ _, Upd.of_below (unhide hbel2) 0 0⟩
          · have hzb : ((n : Int) == 0) = false := by simp; omega
            by_cases hlast : i' + 1 = rs.length
            · have hdn : rs.drop (i' + 1) = [] := List.drop_eq_nil_of_le (by omega)
              rw [if_neg (by rintro (h | h); omega; exact h hdn)] at hgo3
              have hlb : (i' : Int) = (rs.length : Int) - 1 := by omega
              have hgo4 : Hid (boGo (k + n) out (rs.drop (i' + 1)) = boGo 1 zero64 rs) := hide (by rw [hdn, ← hgo3]; rfl)
              clear hgo3 hdn
              go_wp2
              go_roundw
              case rel => exact ⟨k + n, i' + 1, out, by omega, by go_num, by go_num, hown2, hl64, hgo4, .inr hlast, by omega, hide (own_mono (unhide hord2) (Nat.le_refl _) hsw), hbel2⟩
              case measure => simp [intOf]; omega
            · have hdn : rs.drop (i' + 1) ≠ [] := fun h => by have := List.drop_eq_nil_iff.1 h; omega
              rw [if_pos (.inr hdn)] at hgo3
              have hN : Hid (blockOfF rs = []) := hide (bo_none hgo3.symm)
              have hlb : ¬ (i' : Int) = (rs.length : Int) - 1 := by omega
              clear hgo3 hdn
              go_wp2
              go_ret
              exact ⟨_, rfl, by rw [unhide hN]; exact own_nilI _ _ _, Upd.of_below (unhide hbel2) 0 0⟩
        · rw [if_neg hv0] at hgo3
          have hvb : (v == 0) = false := by simpa using hv0
          by_cases hk63 : 63 < k + n
          · rw [if_pos hk63] at hgo3
            have hN : Hid (blockOfF rs = []) := hide (bo_none hgo3.symm)
            have hkb : 63 < (k : Int) + (n : Int) := by omega
            clear hgo3
            go_wp2
            go_ret
            exact ⟨_, rfl, by rw [unhide hN]; exact own_nilI _ _ _, Upd.of_below (unhide hbel2) 0 0⟩
          · rw [if_neg hk63] at hgo3
            have hkb : ¬ 63 < (k : Int) + (n : Int) := by omega
            have hgo4 := hide hgo3
            clear hgo3
            have hkl : k + n < 64 := by omega
            have hko : wc.cell? ⟨bo, oo + (k + n), none⟩ = some (.int .i64 ((scP (k + n) : Nat) : Int)) := order_cell (unhide hord2) (k + n) hkl
            have hpl := scP_lt _ hkl
            generalize scP (k + n) = p at hko hpl hgo4
            obtain ⟨K, hK⟩ : ∃ K, k + n = K := ⟨_, rfl⟩
            have hKI : (k : Int) + (n : Int) = (K : Int) := by omega
            rw [hK] at hko hgo4 hkl hk63
            have hdst : ∃ u, wc.cell? ⟨w.heap.size, p, none⟩ = some u := by
              rw [(unhide hown2).cellAt p (by omega)]; exact ⟨_, List.getElem?_eq_getElem (by have := (unhide hown2).1; omega)⟩
            obtain ⟨u, hdst⟩ := hdst
            have hfz := (unhide hown2).frozenAt p
            have hst := ((unhide hown2).stored p (.int .i64 v)).1
            rw [ints_set] at hst
            have hb3 := hide ((unhide hbel2).setCell (p := ⟨w.heap.size, p, none⟩) (Nat.le_refl _) (.int .i64 v))
            have ho3 := hide (Own.set' (unhide hord2) (Nat.lt_succ_self w.heap.size) p (.int .i64 v))
            replace hst := hide hst
            clear hown2 hbel2 hord2 hp0
            go_upto_region 15 with fail
            clear hKI hK hkb
            have kI : (0 : Int) ≤ (K : Int) := by omega
            have kL : (K : Int) < 64 := by omega
            have pI : (0 : Int) ≤ (p : Int) := by omega
            have pL : (p : Int) < 64 := by omega
            refine wp_region_still_tail 8 (by kernel_rfl) (by kernel_rfl) ?_
            simp only [List.take_succ_cons, List.take_zero, List.drop_succ_cons, List.drop_zero]
            iterate 8 still_step
            refine wpStill_nil ?_
            go_wp2
            go_roundw
            case rel => exact ⟨K + 1, i' + 1, out.set p v, by omega, by go_num, by go_num, hide (unhide hst).drew, by simpa using hl64, hgo4, .inl (by omega), by omega, hide (own_mono (show Own _ _ (World.drew _) _ _ _ _ _ from ⟨(unhide ho3).1.drew, (unhide ho3).2⟩) (Nat.le_refl _) (by simpa using hsw)), hide ((unhide hb3).trans ⟨rfl, rfl, rfl, Nat.le_refl _, fun _ _ => rfl⟩)⟩
            case measure => simp [intOf]; omega
    · have hil : i' = rs.length := by omega
      subst hil
      have hgo2 := unhide hgo
      rw [List.drop_eq_nil_of_le (Nat.le_refl _), boGo] at hgo2
      have hB : Hid (blockOfF rs = if k = 64 then out else []) := hide (by unfold blockOfF; rw [← hgo2])
      clear hgo hgo2
      have ho := hide (Own.of (unhide hown))
      by_cases h64 : k = 64
      · subst h64
        have hB2 : Hid (blockOfF rs = out) := hide (by rw [unhide hB, if_pos rfl])
        clear hB
        go_wp2
        go_ret
        exact ⟨_, rfl, by rw [unhide hB2, OwnI, hl64]; exact unhide ho, Upd.of_below (unhide hbel) 0 0⟩
      · have hB2 : Hid (blockOfF rs = []) := hide (by rw [unhide hB, if_neg h64])
        have hnb : ¬ (k : Int) = 64 := by omega
        clear hB h64
        go_wp2
        go_ret
        exact ⟨_, rfl, by rw [unhide hB2]; exact own_nilI _ _ _, Upd.of_below (unhide hbel) 0 0⟩
end Go.Proofs.Ytilmdbdgohfpcaa
