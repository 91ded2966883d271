/- The specification's RunsOf. -/
import Derived.Test.YtilmdbdgohfpcaaWRnS
namespace Go.Proofs.Ytilmdbdgohfpcaa
open Go.RowKit

noncomputable def runsOfF (zs : List Int) : List Rn := if blB zs = true then runsL zs else []
theorem runsOfF_len (zs : List Int) : (runsOfF zs).length ≤ 1048576 := by
  unfold runsOfF
  split
  · have := runsL_length zs; omega
  · simp

set_option maxRecDepth 100000 in
set_option maxHeartbeats 4000000 in
theorem specRunsOf (v : Value) (zs : List Int) (w : World) (hn : zs.length ≤ 1048576) (_hR : InI zs) (hv : RdI w v zs) :
    Calls Try.prog 9 #[v] w fun e w' => ∃ u, e = .returned u ∧ OwnRn w' w.heap.size w'.heap.size u (runsOfF zs) ∧ Upd 0 0 w w' := by
  obtain ⟨ad, cap, rfl, hA⟩ := hv
  have hB := hide (specL8Block ad cap zs w hn hA)
  by_cases h1 : BlOk zs
  case neg =>
    rw [blB_no h1] at hB
    have hE : runsOfF zs = [] := by unfold runsOfF; rw [blB_no h1]; rfl
    rw [hE]
    clear h1 hE
    go_enter Try.func9, Try.ntmps9
    go_wp2_with fail
    refine (unhide hB).mono ?_
    rintro e w1 ⟨rfl, hu⟩
    replace hu := hide hu
    clear hB
    go_wp2
    go_ret
    exact ⟨_, rfl, own_nilRn _ _ _, unhide hu⟩
  rw [blB_yes h1] at hB
  have hE : runsOfF zs = runsL zs := by unfold runsOfF; rw [blB_yes h1]; rfl
  rw [hE]
  have hC := hide (fun X (h : ArgI X ad zs) => specL8Runs ad cap zs X h1 h)
  clear h1 hE
  go_enter Try.func9, Try.ntmps9
  go_wp2_with fail
  refine (unhide hB).mono ?_
  rintro e w1 ⟨rfl, hu⟩
  have hA1 := hA.below hu.none
  replace hu := hide hu
  clear hB
  go_wp2_with fail
  refine (unhide hC _ hA1).mono ?_
  rintro e w2 ⟨u, rfl, ho, hu2⟩
  have hsz := (unhide hu).size
  have ho2 := hide (own_mono ho hsz (Nat.le_refl _))
  have hu3 := hide ((unhide hu).trans hu2)
  clear ho hu2 hu hC
  go_wp2
  go_ret
  exact ⟨_, rfl, unhide ho2, unhide hu3⟩
end Go.Proofs.Ytilmdbdgohfpcaa
