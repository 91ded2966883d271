/- The program's BlockOf. -/
import Derived.Test.YtilmdbdgohfpcaaPlainBo
import Derived.Test.YtilmdbdgohfpcaaWBoS
import Derived.Test.YtilmdbdgohfpcaaWBoE
import Derived.Test.YtilmdbdgohfpcaaWItW
import Derived.Test.YtilmdbdgohfpcaaWRnI
namespace Go.Proofs.Ytilmdbdgohfpcaa
open Go.RowKit

theorem mkZ64 : ∃ o : Obj, ∀ (X : World), (Instr.makeSlice 23 (.int .i64 64) (.int .i64 64)).run Try.prog X = .ok (.slice (some ⟨X.heap.size, 0, none⟩) 64 64) (X.alloc o) ∧
    ∀ base, base ≤ X.heap.size → (X.alloc o).ownsRow base 3 1 (.slice (some ⟨X.heap.size, 0, none⟩) 64 64) 64 (ints zero64) := by
  obtain ⟨i0, hi, hz0, hz1, hz2⟩ := info_parts infoI
  refine ⟨.cells (madeCells (Value.int .i64 0).cells ((64 : Int).toNat * i0.size)) 3, fun X => ⟨?_, fun base hb => ?_⟩⟩
  · have h := run_makeSlice (P := Try.prog) (w := X) 23 3 i0 (.int .i64 0) Try.underlying23 hi hz0 .i64 .i64 64 64 (by omega) (by omega) (by rw [hz1]; decide) (by rw [hz2]; decide) (by omega)
    exact h
  · refine ⟨rfl, .inr ⟨X.heap.size, 64, _, rfl, hb, World.alloc_heap_new X _, Nat.le_refl _, by unfold maxLen; omega, by rw [size_madeCells, hz1]; rfl, ?_⟩⟩
    rw [hz1, ← ints_zero64]
    simp [toList_madeCells_one, Value.cells]

theorem bi_none {rs : List (Int × Int)} (h : biGo 0 zero64 rs = none) : blockOfF rs = [] := by
  rcases blockOfF_cases rs with ⟨out, h1, _⟩ | h1
  · rw [(blockOf_yes h1).1] at h; cases h
  · exact h1.1
theorem bi_eq {rs : List (Int × Int)} {out : List Int} (h : biGo 0 zero64 rs = some out) (he : runsOfF out = rs) : blockOfF rs = out := by
  unfold runsOfF at he
  by_cases hb : BlOk out
  · rw [blB_yes hb] at he
    exact blockOf_no h hb he
  · rw [blB_no hb] at he
    subst he
    have : zero64 = out := by rw [if_neg (by simp)] at h; injection h
    subst this
    exact absurd ⟨rfl, zero64_inR⟩ hb
theorem bi_ne {rs : List (Int × Int)} {out : List Int} (h : biGo 0 zero64 rs = some out) (he : ¬ runsOfF out = rs) : blockOfF rs = [] := by
  rcases blockOfF_cases rs with ⟨out', h1, _⟩ | h1
  · obtain ⟨h2, h3, h4, _⟩ := blockOf_yes h1
    rw [h] at h2
    cases h2
    exact absurd (by unfold runsOfF; rw [blB_yes h3]; exact h4) he
  · exact h1.1

set_option maxRecDepth 100000 in
set_option maxHeartbeats 8000000 in
theorem implBlockOfZ (v : Value) (rs : List Rn) (w : World) (hn : rs.length ≤ 1048576) (hv : RdRn w v rs) :
    Calls Try.prog 10 #[v] w fun e w' => ∃ u, e = .returned u ∧ OwnI w' w.heap.size w'.heap.size u (blockOfF rs) ∧ Upd 0 0 w w' := by
  obtain ⟨ad, cap, rfl, hA⟩ := hv
  obtain ⟨o, hmk⟩ := mkZ64
  have hmk1 := fun X => (hmk X).1
  replace hA := hide hA
  go_enter Try.func10, Try.ntmps10
  go_wp2_with fail
  go_cut [3, 4, 8, 9] (fun s3 s4 s8 s9 wx => ∃ g bo oo capo, s3 = .slice (some ⟨g, 0, none⟩) 64 64 ∧ s4 = .slice (some ⟨bo, oo, none⟩) scanL.length capo ∧ bo ≠ g ∧ Hid (wx.ownsRow w.heap.size 3 1 (.slice (some ⟨g, 0, none⟩) 64 64) 64 (ints zero64)) ∧ Hid (OwnI wx w.heap.size wx.heap.size (.slice (some ⟨bo, oo, none⟩) scanL.length capo) scanL) ∧ Hid (Below w.heap.size w wx))
  case first =>
    go_region_with (go_at_call 11; refine (implScanOrder _).mono ?_; rintro e w7 ⟨u, rfl, ho, hu⟩)
    all_goals
      obtain ⟨ado, capo, rfl, hAo⟩ := OwnI.rd ho
      obtain ⟨bo, oo, rfl, hbo, _⟩ := hAo (ne_of_lt_length (k := 0) (by rw [scanL_length]; omega))
      have hlo := ho.1.lt bo rfl
      clear hAo
    · have hz : (w.alloc o).ownsRow w.heap.size 3 1 (.slice (some ⟨w.heap.size, 0, none⟩) 64 64) 64 (ints zero64) := (hmk w).2 w.heap.size (Nat.le_refl _)
      have hb1 := (Below.refl w.heap.size w).alloc (Nat.le_refl _) o
      clear hmk hmk1
      have r1 := hide ((Own.of hz.drew).upd hu (.inr (Nat.zero_le _))).1
      have r2 := hide (own_mono (a' := w.heap.size) ho (by simp) (Nat.le_refl _))
      have hb1d : Below w.heap.size w (w.alloc o).drew := hb1.trans ⟨rfl, rfl, rfl, Nat.le_refl _, fun _ _ => rfl⟩
      have r3 := hide (below_upd hb1d hu (Nat.le_refl _) (.inr (Nat.le_refl _)))
      clear hb1d
      have r4 : bo ≠ w.heap.size := by simp at hlo; omega
      clear hz hb1 hu ho hlo
      go_wp2_with fail
      go_meet
      exact ⟨_, bo, oo, capo, rfl, rfl, r4, r1, r2, r3⟩
    · have hz : (w7.alloc o).ownsRow w.heap.size 3 1 (.slice (some ⟨w7.heap.size, 0, none⟩) 64 64) 64 (ints zero64) := (hmk w7).2 w.heap.size hu.size
      have hu2 : Upd 0 0 w7 (w7.alloc o) := Upd.of_below ((Below.refl w7.heap.size w7).alloc (Nat.le_refl _) _) 0 0
      clear hmk hmk1
      have r1 := hide hz
      have r2 : Hid (OwnI (w7.alloc o) w.heap.size (w7.alloc o).heap.size (.slice (some ⟨bo, oo, none⟩) scanL.length capo) scanL) := hide (own_mono (ho.upd hu2 (.inr (Nat.zero_le _))) (Nat.le_refl _) hu2.size)
      have r3 : Hid (Below w.heap.size w (w7.alloc o)) := hide (below_upd (show Below w.heap.size w w7 from ⟨hu.os, hu.tape, hu.output, hu.size, fun k hk => hu.block k hk (.inr (Nat.zero_le _))⟩) hu2 (Nat.le_refl _) (.inr (Nat.le_refl _)))
      have r4 : bo ≠ w7.heap.size := by omega
      clear hz hu2 hu ho hlo
      go_wp2_with fail
      go_meet
      exact ⟨_, bo, oo, capo, rfl, rfl, r4, r1, r2, r3⟩
  case rest =>
    obtain ⟨g, bo, oo, capo, rfl, rfl, hne, hown2, hord, hbel2⟩ := hcut
    rw [scanL_length]
    go_wp2
    go_loopw [5, 7, 12] (fun k6 _ i wr => ∃ (k i' : Nat) (out : List Int), i' ≤ rs.length ∧ i = .int .i64 i' ∧ k6 = .int .i64 k ∧ Hid (wr.ownsRow w.heap.size 3 1 (.slice (some ⟨g, 0, none⟩) 64 64) 64 (ints out)) ∧ out.length = 64 ∧ Hid (biGo k out (rs.drop i') = biGo 0 zero64 rs) ∧ k ≤ 64 * i' ∧
      Hid (OwnI wr w.heap.size wr.heap.size (.slice (some ⟨bo, oo, none⟩) scanL.length capo) scanL) ∧ Hid (Below w.heap.size w wr)) (fun _ _ i _ => rs.length - (intOf i).toNat)
    case atStart => exact ⟨0, 0, zero64, Nat.zero_le _, rfl, rfl, hown2, rfl, hide rfl, Nat.zero_le _, hord, hbel2⟩
    case round =>
      clear hown2 hord hbel2
      obtain ⟨k, i', out, hk, rfl, rfl, hown, hl64, hgo, hk64, hord, hbel⟩ := hrel
      by_cases hlt : i' < rs.length
      · obtain ⟨b, off, rfl, hbl, hc⟩ := (unhide hA) (ne_of_lt_length hlt)
        have d0 := ((unhide hbel).cell (p := ⟨b, off + i' * 2, none⟩) (by simpa using hbl)).trans (hc i' hlt).1
        have d1 := ((unhide hbel).cell (p := ⟨b, off + i' * 2 + 1, none⟩) (by simpa using hbl)).trans (hc i' hlt).2
        have hdr := drop_getD rs i' hlt
        generalize hf : rs.getD i' Rn0 = f at d0 d1 hdr
        obtain ⟨z, v⟩ := f
        have hgo2 := unhide hgo
        rw [hdr] at hgo2
        clear hgo hdr hf
        simp only at d0 d1
        replace hc := hide hc
        go_upto_region 6 with fail
        have hp0 := heldF_new wr [.int .i64 z, .int .i64 v] 54
        have hu1 : Upd 0 0 wr (wr.alloc (.cells #[.int .i64 z, .int .i64 v] 54)) := Upd.of_below ((Below.refl wr.heap.size wr).alloc (Nat.le_refl _) _) 0 0
        change HeldF (wr.alloc (.cells #[.int .i64 z, .int .i64 v] 54)) wr.heap.size [.int .i64 z, .int .i64 v] at hp0
        generalize wr.alloc (.cells #[.int .i64 z, .int .i64 v] 54) = wc at hp0 hu1 ⊢
        have hown2 := hide ((Own.of (unhide hown)).upd hu1 (.inr (Nat.zero_le _))).1
        have hord2 := hide ((unhide hord).upd hu1 (.inr (Nat.zero_le _)))
        have hbel2 := hide (below_upd (unhide hbel) hu1 (Nat.le_refl _) (.inr (Nat.le_refl _)))
        have hsw := hu1.size
        have p0 := hp0.1.2 0 _ rfl
        have p1 := hp0.1.2 1 _ rfl
        generalize wr.heap.size = c at hp0 hord2 hsw p0 p1 ⊢
        clear hown hord hbel hu1 d0 d1
        by_cases hbad : z < 0 ∨ 64 ≤ z
        · have hN : Hid (blockOfF rs = []) := hide (bi_none (by rw [← hgo2]; unfold biGo; rw [if_pos hbad]))
          have hcase : (z < 0) ∨ (¬ z < 0 ∧ 64 ≤ z) := by omega
          clear hbad hgo2
          rcases hcase with c1 | ⟨c1, c2⟩
          all_goals
            go_wp2
            go_ret
            exact ⟨_, rfl, by rw [unhide hN]; exact own_nilI _ _ _, Upd.of_below (unhide hbel2) 0 0⟩
        · obtain ⟨n, rfl⟩ : ∃ n : Nat, z = (n : Int) := ⟨z.toNat, by omega⟩
          have hn63 : n ≤ 63 := by omega
          have c1 : ¬ (n : Int) < 0 := by omega
          have c2 : ¬ 64 ≤ (n : Int) := by omega
          have hgo3 : biGo (k + n + 1) (if k + n + 1 < 64 then out.set (scP (k + n + 1)) v else out) (rs.drop (i' + 1)) = biGo 0 zero64 rs := by
            rw [← hgo2]; conv => rhs; unfold biGo; rw [if_neg hbad, Int.toNat_natCast]
          clear hgo2 hbad
          obtain ⟨K, hK⟩ : ∃ K, k + n + 1 = K := ⟨_, rfl⟩
          have hKI : (k : Int) + ((n : Int) + 1) = (K : Int) := by omega
          rw [hK] at hgo3
          have hKb : K ≤ 64 * (i' + 1) := by omega
          have hK9 : (K : Int) ≤ 9223372036854775807 := by omega
          by_cases hK64 : K < 64
          · rw [if_pos hK64] at hgo3
            have hgo4 := hide hgo3
            have kL : (K : Int) < 64 := by omega
            have hko : wc.cell? ⟨bo, oo + K, none⟩ = some (.int .i64 ((scP K : Nat) : Int)) := order_cell (unhide hord2) K hK64
            have hpl := scP_lt _ hK64
            generalize scP K = p at hko hpl hgo4
            have hdst : ∃ u, wc.cell? ⟨g, p, none⟩ = some u := by
              rw [(unhide hown2).cellAt p (by omega)]; exact ⟨_, List.getElem?_eq_getElem (by have := (unhide hown2).1; omega)⟩
            obtain ⟨u, hdst⟩ := hdst
            have hfz := (unhide hown2).frozenAt p
            have hst := ((unhide hown2).stored p (.int .i64 v)).1
            rw [ints_set] at hst
            have hgb : w.heap.size ≤ g := ((unhide hown2).lt g rfl).1
            have hb3 := hide ((unhide hbel2).setCell (p := ⟨g, p, none⟩) hgb (.int .i64 v))
            have ho3 : Hid (OwnI (wc.setCell ⟨g, p, none⟩ (.int .i64 v)) w.heap.size c (.slice (some ⟨bo, oo, none⟩) scanL.length capo) scanL) :=
              hide ⟨ownsRow_turns (unhide hord2).1 (fun q hq => by
                have : bo = q := by simpa [Value.ownBlock] using hq
                subst this
                exact Below.heap_setCell _ _ _ bo hne), (unhide hord2).2⟩
            replace hst := hide hst
            have kI : (0 : Int) ≤ (K : Int) := by omega
            have pI : (0 : Int) ≤ (p : Int) := by omega
            have pL : (p : Int) < 64 := by omega
            clear hown2 hbel2 hord2 hp0 hgo3
            go_upto_region 10 with fail
            clear hKI hK
            refine wp_region_still_tail 8 (by kernel_rfl) (by kernel_rfl) ?_
            simp only [List.take_succ_cons, List.take_zero, List.drop_succ_cons, List.drop_zero]
            iterate 8 still_step
            refine wpStill_nil ?_
            go_wp2
            go_roundw
            case rel => exact ⟨K, i' + 1, out.set p v, by omega, by go_num, by go_num, hide (unhide hst).drew, by simpa using hl64, hgo4, hKb, hide (own_mono (show Own _ _ (World.drew _) _ _ _ _ _ from ⟨(unhide ho3).1.drew, (unhide ho3).2⟩) (Nat.le_refl _) (by simpa using hsw)), hide ((unhide hb3).trans ⟨rfl, rfl, rfl, Nat.le_refl _, fun _ _ => rfl⟩)⟩
            case measure => simp [intOf]; omega
          · rw [if_neg hK64] at hgo3
            have hgo4 := hide hgo3
            have kL : ¬ (K : Int) < 64 := by omega
            clear hgo3 hp0 hK
            go_wp2
            go_roundw
            case rel => exact ⟨K, i' + 1, out, by omega, by go_num, by go_num, hown2, hl64, hgo4, hKb, hide (own_mono (unhide hord2) (Nat.le_refl _) hsw), hbel2⟩
            case measure => simp [intOf]; omega
      · have hil : i' = rs.length := by omega
        subst hil
        have hgo2 := unhide hgo
        rw [List.drop_eq_nil_of_le (Nat.le_refl _), biGo] at hgo2
        replace hgo2 := hide hgo2.symm
        clear hgo hord
        have ho : OwnI wr w.heap.size wr.heap.size (.slice (some ⟨g, 0, none⟩) 64 64) out := by rw [OwnI, hl64]; exact Own.of (unhide hown)
        have hC := hide (implRunsOfZ _ out wr (by omega) (OwnI.rd ho))
        replace ho := hide ho
        have hdo := hide hgo2
        go_wp2_with fail
        refine (unhide hC).mono ?_
        rintro e w2 ⟨u, rfl, hor, hu2⟩
        have hA2 : ArgRn w2 ad rs := ((unhide hA).below (unhide hbel)).below hu2.none
        have hQ := hide (equalRuns u _ (runsOfF out) rs w2 (runsOfF_len out) (OwnRn.rd hor) ⟨ad, cap, rfl, hA2⟩)
        have ho2 := hide ((unhide ho).upd hu2 (.inr (Nat.zero_le _)))
        have hb2 := hide (below_upd (unhide hbel) hu2 (Nat.le_refl _) (.inr (Nat.le_refl _)))
        have hsz2 := hu2.size
        clear hor hu2 hA2 hC ho hown hbel
        go_wp2_with fail
        refine (unhide hQ).mono ?_
        rintro e w3 ⟨rfl, hu3⟩
        have ho3 := hide ((unhide ho2).upd hu3 (.inr (Nat.zero_le _)))
        have hb3 := hide (below_upd (unhide hb2) hu3 (Nat.le_refl _) (.inr (Nat.le_refl _)))
        have hsz3 := hu3.size
        clear hu3 hQ ho2 hb2
        by_cases he : runsOfF out = rs
        · have hF : Hid (blockOfF rs = out) := hide (bi_eq (unhide hdo) he)
          have hdt : decide (runsOfF out = rs) = true := decide_eq_true he
          clear he hdo
          go_wp2
          go_ret
          exact ⟨_, rfl, by rw [unhide hF]; exact own_mono (unhide ho3) (Nat.le_refl _) (show wr.heap.size ≤ w3.heap.size by omega), Upd.of_below (unhide hb3) 0 0⟩
        · have hF : Hid (blockOfF rs = []) := hide (bi_ne (unhide hdo) he)
          have hdt : decide (runsOfF out = rs) = false := decide_eq_false he
          clear he hdo
          go_wp2
          go_ret
          exact ⟨_, rfl, by rw [unhide hF]; exact own_nilI _ _ _, Upd.of_below (unhide hb3) 0 0⟩
theorem implBlockOf (v : Value) (rs : List Rn) (w : World) (hn : rs.length ≤ 1048576) (_hR : InRn rs) (hv : RdRn w v rs) :
    Calls Try.prog 10 #[v] w fun e w' => ∃ u, e = .returned u ∧ OwnI w' w.heap.size w'.heap.size u (blockOfF rs) ∧ Upd 0 0 w w' := implBlockOfZ v rs w hn hv
end Go.Proofs.Ytilmdbdgohfpcaa
