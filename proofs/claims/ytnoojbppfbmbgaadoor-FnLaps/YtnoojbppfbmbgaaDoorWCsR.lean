/- Laps in the law's form: the specification's side. -/
import Derived.Test.YtnoojbppfbmbgaaDoorWCsZ
namespace Go.Proofs.YtnoojbppfbmbgaaDoor
open Go.RowKit

set_option maxHeartbeats 4000000 in
theorem specSamples (ad : Option Addr) (cap : Nat) (zs : List Int) (n : Int) (w : World) (_hn : zs.length ≤ 1048576) (hA : ArgI w ad zs) :
    Calls Tryd.prog 51 #[.slice ad zs.length cap, .int .i64 n] w fun e w' => e = .returned (.bool ((decide (n < 0) || ((zs.length : Int) == n)) && inRB (-32768) 32767 zs)) ∧ Upd 0 0 w w' := by
  replace hA := hide hA
  obtain ⟨q, hq⟩ : ∃ q, (decide (n < 0) || ((zs.length : Int) == n)) = q := ⟨_, rfl⟩
  rw [hq]
  have hNo : Hid (∀ k, k < zs.length → ¬ (-32768 ≤ zs.getD k 0 ∧ zs.getD k 0 ≤ 32767) → (q && inRB (-32768) 32767 zs) = false) := hide (fun k hk h => by rw [inRB_no (fun h' => h (h' k hk)), Bool.and_false])
  have hYes : Hid ((∀ j, j < zs.length → (-32768 ≤ zs.getD j 0 ∧ zs.getD j 0 ≤ 32767)) → (q && inRB (-32768) 32767 zs) = q) := hide (fun h => by rw [inRB_yes h, Bool.and_true])
  generalize (q && inRB (-32768) 32767 zs) = R at hNo hYes ⊢
  replace hq := hide hq
  go_enter Tryd.func51, Tryd.ntmps51
  go_wp2
  go_loop [6, 9] (fun _ i => ∃ k : Nat, k ≤ zs.length ∧ i = .int .i64 k ∧ Hid (∀ j, j < k → (-32768 ≤ zs.getD j 0 ∧ zs.getD j 0 ≤ 32767))) (fun _ i => zs.length - (intOf i).toNat)
  case atStart => exact ⟨0, Nat.zero_le _, rfl, fun j hj => by omega⟩
  case round =>
    obtain ⟨k, hk', rfl, hok⟩ := hrel
    by_cases hlt : k < zs.length
    · obtain ⟨bb, off, rfl, hbl, hcl⟩ := (unhide hA) (ne_of_lt_length hlt)
      have hck := hcl k hlt
      have hbad := hide (unhide hNo k hlt)
      have hOk : Hid ((-32768 ≤ zs.getD k 0 ∧ zs.getD k 0 ≤ 32767) → ∀ j, j < k + 1 → (-32768 ≤ zs.getD j 0 ∧ zs.getD j 0 ≤ 32767)) := hide (fun h j hj => by
        rcases Nat.lt_or_eq_of_le (Nat.le_of_lt_succ hj) with h' | h'
        · exact unhide hok j h'
        · subst h'; exact h)
      clear hcl hbl
      generalize zs.getD k 0 = x at hck hbad hOk
      by_cases h1 : x < -32768
      · have hB := hide (unhide hbad (fun h => by have := h.1; omega))
        clear hbad hOk
        go_wp2
        go_ret
        exact ⟨by rw [unhide hB]; rfl, Upd.refl 0 0 _⟩
      · by_cases h2 : 32767 < x
        · have hB := hide (unhide hbad (fun h => by have := h.2; omega))
          clear hbad hOk
          go_wp2
          go_ret
          exact ⟨by rw [unhide hB]; rfl, Upd.refl 0 0 _⟩
        · have hok2 := hide (unhide hOk ⟨by omega, by omega⟩)
          clear hbad hOk
          go_wp2
          all_goals
            go_round
            case rel => exact ⟨k + 1, by omega, by go_num, unhide hok2⟩
            case measure => simp [intOf]; omega
    · have hkl : k = zs.length := by omega
      subst hkl
      have hs := hide (unhide hYes (unhide hok))
      by_cases hneg : n < 0
      · have hq1 := unhide hq
        rw [decide_eq_true hneg, Bool.true_or] at hq1
        subst hq1
        go_wp2
        go_ret
        exact ⟨by rw [unhide hs]; rfl, Upd.refl 0 0 _⟩
      · have hq1 := unhide hq
        rw [decide_eq_false hneg, Bool.false_or] at hq1
        go_wp2
        go_ret
        exact ⟨by rw [unhide hs, ← hq1]; rfl, Upd.refl 0 0 _⟩
theorem specHop (ad : Option Addr) (cap : Nat) (zs : List Int) (w : World) (hn : zs.length ≤ 1048576) (hA : ArgI w ad zs) :
    Calls Tryd.prog 51 #[.slice ad zs.length cap, .int .i64 16] w fun e w' => e = .returned (.bool (hopB zs)) ∧ Upd 0 0 w w' := by
  have h : hopB zs = ((decide ((16 : Int) < 0) || ((zs.length : Int) == 16)) && inRB (-32768) 32767 zs) := by
    unfold hopB
    congr 1
    rw [Bool.eq_iff_iff, decide_eq_true_iff, Bool.or_eq_true, decide_eq_true_iff, beq_iff_eq]
    omega
  rw [h]
  exact specSamples ad cap zs 16 w hn hA
set_option maxHeartbeats 8000000 in
set_option maxRecDepth 100000 in
theorem specLap (v : Value) (xs : List Int) (v1 : Value) (ys : List Int) (w : World) (hn : xs.length ≤ 1048576) (_hR : InI xs) (hv : RdX w v xs) (hn1 : ys.length ≤ 1048576) (_hR1 : InI ys) (hv1 : RdX w v1 ys) :
    Calls Tryd.prog 28 #[v, v1] w fun e w' => ∃ u, e = .returned u ∧ OwnI w' w.heap.size w'.heap.size u (lapF xs ys) ∧ Upd 0 0 w w' := by
  obtain ⟨ad, cap, e0, hA⟩ := argI_of_rdX hv
  obtain ⟨ad1, cap1, e1, hA1⟩ := argI_of_rdX hv1
  have hG := hide (specHop ad cap xs w hn hA)
  have hG1 := hide (fun X (hX : Upd 0 0 w X) => specHop ad1 cap1 ys X hn1 (hA1.below hX.none))
  cases hx : hopB xs
  · have hF : lapF xs ys = [] := by unfold lapF; rw [hx]; rfl
    rw [hF]
    rw [hx] at hG
    subst e0
    subst e1
    clear hx hF hA hA1 hn hn1 hv hv1 hG1
    go_enter Tryd.func28, Tryd.ntmps28
    go_wp2_with fail
    refine (unhide hG).mono ?_
    rintro e w1 ⟨rfl, hu1⟩
    have hU := hide hu1
    clear hu1
    go_wp2
    go_ret
    exact ⟨_, rfl, own_nilI _ _ _, unhide hU⟩
  rw [hx] at hG
  cases hy : hopB ys
  · have hF : lapF xs ys = [] := by unfold lapF; rw [hy, Bool.and_false]; rfl
    rw [hF]
    rw [hy] at hG1
    subst e0
    subst e1
    clear hx hy hF hA hA1 hn hn1 hv hv1
    go_enter Tryd.func28, Tryd.ntmps28
    go_wp2_with fail
    refine (unhide hG).mono ?_
    rintro e w1 ⟨rfl, hu1⟩
    have hU := hide hu1
    clear hu1
    go_wp2_with fail
    refine (unhide hG1 _ (unhide hU)).mono ?_
    rintro e w2 ⟨rfl, hu2⟩
    replace hU := hide ((unhide hU).trans hu2)
    clear hu2
    go_wp2
    go_ret
    exact ⟨_, rfl, own_nilI _ _ _, unhide hU⟩
  rw [hy] at hG1
  have hF : lapF xs ys = lapL (xs ++ ys) := by unfold lapF; rw [hx, hy]; rfl
  rw [hF]
  have hL := hide (fun (X : World) (hX : Upd 0 0 w X) => specLapW v xs v1 ys X hx hy (hv.below hX.none) (hv1.below hX.none))
  subst e0
  subst e1
  clear hx hy hF hA hA1 hv hv1
  go_enter Tryd.func28, Tryd.ntmps28
  go_wp2_with fail
  refine (unhide hG).mono ?_
  rintro e w1 ⟨rfl, hu1⟩
  have hU := hide hu1
  clear hu1
  go_wp2_with fail
  refine (unhide hG1 _ (unhide hU)).mono ?_
  rintro e w2 ⟨rfl, hu2⟩
  replace hU := hide ((unhide hU).trans hu2)
  have hs2 := (unhide hU).size
  clear hu2 hG hG1
  go_wp2_with fail
  refine (unhide hL _ (unhide hU)).mono ?_
  rintro e w4 ⟨u, rfl, how, hu4⟩
  have how2 := hide (own_mono (a' := w.heap.size) how hs2 (Nat.le_refl _))
  replace hU := hide ((unhide hU).trans hu4)
  clear how hu4 hL
  go_wp2
  go_ret
  exact ⟨_, rfl, unhide how2, unhide hU⟩
end Go.Proofs.YtnoojbppfbmbgaaDoor
