/- The law on CodeKind, walked: what it calls is told by the walks of the specification and of the program. -/
import Derived.Test.YtcoegccnkdhpjaaWKind2
namespace Go.Proofs.Ytcoegccnkdhpjaa
open Go.RowKit

set_option maxHeartbeats 1000000 in
theorem lawCodeKind_long0 (ad0 : Option Addr) (cap0 : Nat) (zs0 : List Int) (w : World)  (_hn0 : 1048576 < zs0.length) :
    Calls Try.prog 7 #[.slice ad0 zs0.length cap0] w fun e w' => e = .returned (.bool true) ∧ Below w.heap.size w w' := by
  go_enter Try.func7, Try.ntmps7
  go_wp2
  go_ret
  exact ⟨rfl, Below.refl _ _⟩

set_option maxHeartbeats 4000000 in
theorem lawCodeKind_short  (ad0 : Option Addr) (cap0 : Nat) (zs0 : List Int) (w : World) (hn0 : zs0.length ≤ 1048576) (hA0 : ArgI w ad0 zs0) (hR0 : InI zs0) :
    Calls Try.prog 7 #[.slice ad0 zs0.length cap0] w fun e w' => e = .returned (.bool true) ∧ Below w.heap.size w w' := by
  replace hA0 := hide hA0
  replace hR0 := hide hR0
  have hB := hide (Below.refl w.heap.size w)
  go_enter Try.func7, Try.ntmps7
  go_wp2_with fail
  refine (toIntS_own ad0 cap0 zs0 w hn0 ((unhide hA0).below (unhide hB))).mono ?_
  rintro e w1 ⟨vy0_w0, rfl, ho, hu⟩
  replace hB := hide (below_upd (unhide hB) hu (Nat.le_refl _) (.inr (Nat.le_refl _)))
  have hs1 : Hid (w.heap.size ≤ w1.heap.size) := hide hu.size
  have y0_w0 := hide ho
  clear hu ho
  go_wp2_with fail
  refine (specCodeKind vy0_w0 zs0 w1 hn0 (unhide hR0) (OwnI.rd (unhide y0_w0))).mono ?_
  rintro e w2 ⟨rfl, hu⟩
  replace y0_w0 := hide ((unhide y0_w0).keep hu)
  replace hB := hide (below_upd (unhide hB) hu (Nat.le_refl _) (.inr (Nat.le_refl _)))
  have hs2 : Hid (w1.heap.size ≤ w2.heap.size) := hide hu.size
  clear hu
  clear y0_w0
  go_wp2_with fail
  refine (toIntS_own ad0 cap0 zs0 w2 hn0 ((unhide hA0).below (unhide hB))).mono ?_
  rintro e w3 ⟨vx0, rfl, ho, hu⟩
  replace hB := hide (below_upd (unhide hB) hu (Nat.le_refl _) (.inr (Nat.le_refl _)))
  have hs3 : Hid (w2.heap.size ≤ w3.heap.size) := hide hu.size
  have x0 := hide ho
  clear hu ho
  go_wp2_with fail
  refine (implCodeKind vx0 zs0 w3 hn0 (unhide hR0) (OwnI.rd (unhide x0))).mono ?_
  rintro e w4 ⟨rfl, hu⟩
  replace x0 := hide ((unhide x0).keep hu)
  replace hB := hide (below_upd (unhide hB) hu (Nat.le_refl _) (.inr (Nat.le_refl _)))
  have hs4 : Hid (w3.heap.size ≤ w4.heap.size) := hide hu.size
  clear hu
  go_wp2_with fail
  refine (toIntS_own ad0 cap0 zs0 w4 hn0 ((unhide hA0).below (unhide hB))).mono ?_
  rintro e w5 ⟨vz0, rfl, ho, hu⟩
  replace x0 := hide ((unhide x0).keep hu)
  replace hB := hide (below_upd (unhide hB) hu (Nat.le_refl _) (.inr (Nat.le_refl _)))
  have hs5 : Hid (w4.heap.size ≤ w5.heap.size) := hide hu.size
  have z0 := hide ho
  clear hu ho
  go_wp2_with fail
  refine (eqIntS_rd vx0 vz0 zs0 w5 hn0 (OwnI.rd (unhide x0)) (OwnI.rd (unhide z0))).mono ?_
  rintro e w6 ⟨rfl, hu⟩
  replace x0 := hide ((unhide x0).keep hu)
  replace z0 := hide ((unhide z0).keep hu)
  replace hB := hide (below_upd (unhide hB) hu (Nat.le_refl _) (.inr (Nat.le_refl _)))
  have hs6 : Hid (w5.heap.size ≤ w6.heap.size) := hide hu.size
  clear hu
  clear z0
  go_wp2_with fail
  go_ret
  exact ⟨rfl, unhide hB⟩

theorem lawCodeKind  (ad0 : Option Addr) (cap0 : Nat) (zs0 : List Int) (w : World) (hA0 : ArgI w ad0 zs0) (hR0 : InI zs0) :
    Calls Try.prog 7 #[.slice ad0 zs0.length cap0] w fun e w' => e = .returned (.bool true) ∧ Below w.heap.size w w' := by
  by_cases h0 : 1048576 < zs0.length
  · exact lawCodeKind_long0 ad0 cap0 zs0 w  h0
  exact lawCodeKind_short  ad0 cap0 zs0 w (by omega) hA0 hR0
end Go.Proofs.Ytcoegccnkdhpjaa
