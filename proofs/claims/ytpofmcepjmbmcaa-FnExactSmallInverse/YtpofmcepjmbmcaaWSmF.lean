/- Small blocks back: the specification. -/
import Derived.Test.YtpofmcepjmbmcaaWSmE
import Derived.Test.YtpofmcepjmbmcaaWSbE
namespace Go.Proofs.Ytpofmcepjmbmcaa
open Go.RowKit

set_option maxHeartbeats 4000000 in
theorem specSmallInverse (v : Value) (zs : List Int) (w : World) (hn : zs.length ≤ 1048576) (_hR : InI zs) (hv : RdC w v zs) :
    Calls Try.prog 27 #[v] w fun e w' => ∃ u, e = .returned u ∧ OwnI w' w.heap.size w'.heap.size u (smInv zs) ∧ Upd 0 0 w w' := by
  obtain ⟨ad, cap, rfl, _, _, hA⟩ := hv
  have hB := hide (specL13Small ad cap zs w hn hA)
  by_cases h1 : SmOk zs
  case neg =>
    rw [smB_no h1] at hB
    rw [smInv_no h1]
    clear h1
    go_enter Try.func27, Try.ntmps27
    go_wp2_with fail
    refine (unhide hB).mono ?_
    rintro e w1 ⟨rfl, hw⟩
    subst hw
    clear hB
    go_wp2
    go_ret
    exact ⟨_, rfl, own_nilI _ _ _, Upd.refl 0 0 _⟩
  rw [smB_yes h1] at hB
  have hE := hide (smInv_yes h1)
  have hC := hide (specL13Inverse ad cap zs w h1.1 (smOk_inR h1) hA)
  rw [h1.1] at hB ⊢
  clear h1
  go_enter Try.func27, Try.ntmps27
  go_wp2_with fail
  refine (unhide hB).mono ?_
  rintro e w1 ⟨rfl, hw⟩
  subst hw
  clear hB
  go_wp2_with fail
  refine (unhide hC).mono ?_
  rintro e w3 ⟨u, rfl, ho, hu3⟩
  replace hu := hide hu3
  replace ho := hide ho
  clear hC
  obtain ⟨a, c, rfl, _⟩ := readK_of_own (unhide ho)
  go_wp2
  go_ret
  exact ⟨_, rfl, by rw [unhide hE]; exact unhide ho, unhide hu⟩
end Go.Proofs.Ytpofmcepjmbmcaa
