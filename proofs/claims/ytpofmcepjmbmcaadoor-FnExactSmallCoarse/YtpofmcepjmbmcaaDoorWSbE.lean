/- Which small blocks are good, and their sums: the program's walks. -/
import Derived.Test.YtpofmcepjmbmcaaDoorWSbD
import Derived.Test.YtpofmcepjmbmcaaDoorW8A
namespace Go.Proofs.YtpofmcepjmbmcaaDoor
open Go.RowKit

theorem implGoodSmall (ad : Option Addr) (cap : Nat) (zs : List Int) (w : World) (hn : zs.length ≤ 1048576) (hA : ArgI w ad zs) :
    Calls Tryd.prog 68 #[.slice ad zs.length cap] w fun e w' => e = .returned (.bool (smB zs)) ∧ Upd 0 0 w w' := by
  have hW := hide (fun W (h : ArgI W ad zs) => implWithin ad cap zs (-65536) 65535 W hn h)
  replace hA := hide hA
  by_cases hl : zs.length = 16
  case neg =>
    rw [smB_no (fun h => hl h.1)]
    have hb : ((zs.length : Int) == 16) = false := by simp; omega
    clear hW hA hl
    go_enter Tryd.func68, Tryd.ntmps68
    go_wp2
    go_ret
    exact ⟨rfl, Upd.refl 0 0 _⟩
  have hE : smB zs = inRB (-65536) 65535 zs := by
    by_cases h : InR (-65536) 65535 zs
    · rw [smB_yes ⟨hl, h⟩, inRB_yes h]
    · rw [smB_no (fun h' => h h'.2), inRB_no h]
  rw [hE]
  have hb : ((zs.length : Int) == 16) = true := by simp; omega
  clear hE
  replace hl := hide hl
  go_enter Tryd.func68, Tryd.ntmps68
  go_wp2_with fail
  refine (unhide hW _ (unhide hA)).mono ?_
  rintro e w1 ⟨rfl, hu⟩
  go_wp2
  go_ret
  exact ⟨rfl, hu⟩
theorem smFwd_yes {zs : List Int} (h : SmOk zs) : smFwd zs = turn4 sumS (turn4 sumS zs) := by unfold smFwd; rw [if_pos (smB_yes h)]
theorem smFwd_no {zs : List Int} (h : ¬ SmOk zs) : smFwd zs = [] := by unfold smFwd; rw [if_neg (by rw [smB_no h]; decide)]
theorem smInv_yes {zs : List Int} (h : SmOk zs) : smInv zs = tab16 (smInvZ zs) := by unfold smInv; rw [if_pos (smB_yes h)]
theorem smInv_no {zs : List Int} (h : ¬ SmOk zs) : smInv zs = [] := by unfold smInv; rw [if_neg (by rw [smB_no h]; decide)]
theorem inR_wide {lo hi lo' hi' : Int} {xs : List Int} (h : InR lo hi xs) (hl : lo' ≤ lo) (hh : hi ≤ hi') : InR lo' hi' xs := fun j hj => by have := h j hj; omega
set_option maxHeartbeats 4000000 in
theorem implSmallForward (v : Value) (zs : List Int) (w : World) (hTb : Held w 1 (ints smW)) (hn : zs.length ≤ 1048576) (_hR : InI zs) (hv : RdC w v zs) :
    Calls Tryd.prog 26 #[v] w fun e w' => ∃ u, e = .returned u ∧ OwnI w' w.heap.size w'.heap.size u (smFwd zs) ∧ Upd 0 0 w w' := by
  obtain ⟨ad, cap, rfl, hc, hc2, hA⟩ := hv
  have hB := hide (implGoodSmall ad cap zs w hn hA)
  by_cases h1 : SmOk zs
  case neg =>
    rw [smB_no h1] at hB
    rw [smFwd_no h1]
    clear h1 hTb
    go_enter Tryd.func26, Tryd.ntmps26
    go_wp2_with fail
    refine (unhide hB).mono ?_
    rintro e w1 ⟨rfl, hu⟩
    replace hu := hide hu
    clear hB
    go_wp2
    go_ret
    exact ⟨_, rfl, own_nilI _ _ _, unhide hu⟩
  rw [smB_yes h1] at hB
  have hE := hide (smFwd_yes h1)
  have hl := h1.1
  have hz := hide (smOk_inR h1)
  have hz2 := hide (sum_inR hl (smOk_inR h1))
  rw [hl] at hB hc ⊢
  clear h1
  go_enter Tryd.func26, Tryd.ntmps26
  go_wp2_with fail
  refine (unhide hB).mono ?_
  rintro e w1 ⟨rfl, hu⟩
  clear hB
  have hC := hide (implSmallBlockOf ad cap zs w1 hl hc hc2 (hA.below hu.none))
  replace hl := hide hl
  replace hu := hide hu
  replace hA := hide hA
  replace hTb := hide hTb
  clear hc hc2
  go_wp2_with fail
  refine (unhide hC).mono ?_
  rintro e w2 ⟨rfl, hu2⟩
  replace hu := hide ((unhide hu).trans hu2)
  clear hC hu2
  have hC := hide (implTurnedSums zs w2 (unhide hl) (inR_wide (unhide hz) (by omega) (by omega)) ((unhide hTb).keep (unhide hu)))
  go_wp2_with fail
  refine (unhide hC).mono ?_
  rintro e w3 ⟨rfl, hu2⟩
  replace hu := hide ((unhide hu).trans hu2)
  clear hC hu2
  have hC := hide (implTurnedSums (turn4 sumS zs) w3 (turn4_length _ _) (inR_wide (unhide hz2) (by omega) (by omega)) ((unhide hTb).keep (unhide hu)))
  go_wp2_with fail
  refine (unhide hC).mono ?_
  rintro e w4 ⟨rfl, hu2⟩
  replace hu := hide ((unhide hu).trans hu2)
  clear hC hu2
  have hC := hide (implSmList (turnZ sumS (turn4 sumS zs)) w4)
  go_wp2_with fail
  refine (unhide hC).mono ?_
  rintro e w5 ⟨u, rfl, ho, hu2⟩
  have hsz := (unhide hu).size
  replace hu := hide ((unhide hu).trans hu2)
  have ho' := hide (own_mono ho hsz (Nat.le_refl _))
  clear hC hu2 ho hsz
  obtain ⟨a, c, rfl, _⟩ := readK_of_own (unhide ho')
  go_wp2
  go_ret
  exact ⟨_, rfl, by rw [unhide hE]; exact unhide ho', unhide hu⟩
end Go.Proofs.YtpofmcepjmbmcaaDoor
