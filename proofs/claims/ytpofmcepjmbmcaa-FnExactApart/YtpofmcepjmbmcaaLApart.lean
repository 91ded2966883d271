/- The law on Apart, walked: what it calls is told by the walks of the specification and of the program. -/
import Derived.Test.YtpofmcepjmbmcaaWApA
import Derived.Test.YtpofmcepjmbmcaaWApB
import Derived.Test.YtpofmcepjmbmcaaWMark
namespace Go.Proofs.Ytpofmcepjmbmcaa
open Go.RowKit

set_option maxHeartbeats 1000000 in
theorem lawApart_long0 (ad0 : Option Addr) (cap0 : Nat) (zs0 : List Int) (ad1 : Option Addr) (cap1 : Nat) (zs1 : List Int) (w : World)  (_hn0 : 1048576 < zs0.length) :
    Calls Try.prog 6 #[.slice ad0 zs0.length cap0, .slice ad1 zs1.length cap1] w fun e w' => e = .returned (.bool true) ∧ Below w.heap.size w w' := by
  go_enter Try.func6, Try.ntmps6
  go_wp2
  go_ret
  exact ⟨rfl, Below.refl _ _⟩

set_option maxHeartbeats 1000000 in
theorem lawApart_long1 (ad0 : Option Addr) (cap0 : Nat) (zs0 : List Int) (ad1 : Option Addr) (cap1 : Nat) (zs1 : List Int) (w : World) (_hn0 : zs0.length ≤ 1048576) (_hn1 : 1048576 < zs1.length) :
    Calls Try.prog 6 #[.slice ad0 zs0.length cap0, .slice ad1 zs1.length cap1] w fun e w' => e = .returned (.bool true) ∧ Below w.heap.size w w' := by
  go_enter Try.func6, Try.ntmps6
  go_wp2
  go_ret
  exact ⟨rfl, Below.refl _ _⟩

set_option maxHeartbeats 4000000 in
set_option maxRecDepth 100000 in
theorem lawApart_short (ad0 : Option Addr) (cap0 : Nat) (zs0 : List Int) (ad1 : Option Addr) (cap1 : Nat) (zs1 : List Int) (w : World)   (hn0 : zs0.length ≤ 1048576) (hn1 : zs1.length ≤ 1048576) (hA0 : ArgI w ad0 zs0) (hR0 : InI zs0) (hA1 : ArgI w ad1 zs1) (hR1 : InI zs1) :
    Calls Try.prog 6 #[.slice ad0 zs0.length cap0, .slice ad1 zs1.length cap1] w fun e w' => e = .returned (.bool true) ∧ Below w.heap.size w w' := by
  replace hA0 := hide hA0
  replace hR0 := hide hR0
  replace hA1 := hide hA1
  replace hR1 := hide hR1
  have hB := hide (Below.refl w.heap.size w)
  go_enter Try.func6, Try.ntmps6
  go_wp2_with fail
  refine (toIntS_own ad0 cap0 zs0 w hn0 ((unhide hA0).below (unhide hB))).mono ?_
  rintro e w1 ⟨vy0_w0, rfl, ho, hu⟩
  replace hB := hide (below_upd (unhide hB) hu (Nat.le_refl _) (.inr (Nat.le_refl _)))
  have hs1 : Hid (w.heap.size ≤ w1.heap.size) := hide hu.size
  have y0_w0 := hide ho
  clear hu ho
  go_wp2_with fail
  refine (toIntS_own ad1 cap1 zs1 w1 hn1 ((unhide hA1).below (unhide hB))).mono ?_
  rintro e w2 ⟨vy1_w0, rfl, ho, hu⟩
  replace y0_w0 := hide ((unhide y0_w0).keep hu)
  replace hB := hide (below_upd (unhide hB) hu (Nat.le_refl _) (.inr (Nat.le_refl _)))
  have hs2 : Hid (w1.heap.size ≤ w2.heap.size) := hide hu.size
  have y1_w0 := hide ho
  clear hu ho
  go_wp2_with fail
  refine (specApart vy0_w0 zs0 vy1_w0 zs1 w2  hn0 (unhide hR0) (OwnI.rd (unhide y0_w0)) hn1 (unhide hR1) (OwnI.rd (unhide y1_w0))).mono ?_
  rintro e w3 ⟨rfl, hu⟩
  replace y0_w0 := hide ((unhide y0_w0).keep hu)
  replace y1_w0 := hide ((unhide y1_w0).keep hu)
  replace hB := hide (below_upd (unhide hB) hu (Nat.le_refl _) (.inr (Nat.le_refl _)))
  have hs3 : Hid (w2.heap.size ≤ w3.heap.size) := hide hu.size
  clear hu
  clear y0_w0 y1_w0
  go_wp2_with fail
  refine (toIntS_own ad0 cap0 zs0 w3 hn0 ((unhide hA0).below (unhide hB))).mono ?_
  rintro e w4 ⟨vx0, rfl, ho, hu⟩
  replace hB := hide (below_upd (unhide hB) hu (Nat.le_refl _) (.inr (Nat.le_refl _)))
  have hs4 : Hid (w3.heap.size ≤ w4.heap.size) := hide hu.size
  have x0 := hide ho
  clear hu ho
  go_wp2_with fail
  refine (toIntS_own ad1 cap1 zs1 w4 hn1 ((unhide hA1).below (unhide hB))).mono ?_
  rintro e w5 ⟨vx1, rfl, ho, hu⟩
  replace x0 := hide ((unhide x0).keep hu)
  replace hB := hide (below_upd (unhide hB) hu (Nat.le_refl _) (.inr (Nat.le_refl _)))
  have hs5 : Hid (w4.heap.size ≤ w5.heap.size) := hide hu.size
  have x1 := hide ho
  clear hu ho
  go_wp2_with fail
  refine (implApart vx0 zs0 vx1 zs1 w5  hn0 (unhide hR0) (OwnI.rd (unhide x0)) hn1 (unhide hR1) (OwnI.rd (unhide x1))).mono ?_
  rintro e w6 ⟨rfl, hu⟩
  replace x0 := hide ((unhide x0).keep hu)
  replace x1 := hide ((unhide x1).keep hu)
  replace hB := hide (below_upd (unhide hB) hu (Nat.le_refl _) (.inr (Nat.le_refl _)))
  have hs6 : Hid (w5.heap.size ≤ w6.heap.size) := hide hu.size
  clear hu
  go_wp2_with fail
  refine (toIntS_own ad0 cap0 zs0 w6 hn0 ((unhide hA0).below (unhide hB))).mono ?_
  rintro e w7 ⟨vz0, rfl, ho, hu⟩
  replace x0 := hide ((unhide x0).keep hu)
  replace x1 := hide ((unhide x1).keep hu)
  replace hB := hide (below_upd (unhide hB) hu (Nat.le_refl _) (.inr (Nat.le_refl _)))
  have hs7 : Hid (w6.heap.size ≤ w7.heap.size) := hide hu.size
  have z0 := hide ho
  clear hu ho
  go_wp2_with fail
  refine (eqIntS_rd vx0 vz0 zs0 w7 hn0 (OwnI.rd (unhide x0)) (OwnI.rd (unhide z0))).mono ?_
  rintro e w8 ⟨rfl, hu⟩
  replace x0 := hide ((unhide x0).keep hu)
  replace x1 := hide ((unhide x1).keep hu)
  replace z0 := hide ((unhide z0).keep hu)
  replace hB := hide (below_upd (unhide hB) hu (Nat.le_refl _) (.inr (Nat.le_refl _)))
  have hs8 : Hid (w7.heap.size ≤ w8.heap.size) := hide hu.size
  clear hu
  clear z0
  go_wp2_with fail
  refine (toIntS_own ad1 cap1 zs1 w8 hn1 ((unhide hA1).below (unhide hB))).mono ?_
  rintro e w9 ⟨vz1, rfl, ho, hu⟩
  replace x0 := hide ((unhide x0).keep hu)
  replace x1 := hide ((unhide x1).keep hu)
  replace hB := hide (below_upd (unhide hB) hu (Nat.le_refl _) (.inr (Nat.le_refl _)))
  have hs9 : Hid (w8.heap.size ≤ w9.heap.size) := hide hu.size
  have z1 := hide ho
  clear hu ho
  go_wp2_with fail
  refine (eqIntS_rd vx1 vz1 zs1 w9 hn1 (OwnI.rd (unhide x1)) (OwnI.rd (unhide z1))).mono ?_
  rintro e w10 ⟨rfl, hu⟩
  replace x0 := hide ((unhide x0).keep hu)
  replace x1 := hide ((unhide x1).keep hu)
  replace z1 := hide ((unhide z1).keep hu)
  replace hB := hide (below_upd (unhide hB) hu (Nat.le_refl _) (.inr (Nat.le_refl _)))
  have hs10 : Hid (w9.heap.size ≤ w10.heap.size) := hide hu.size
  clear hu
  clear z1
  go_wp2_with fail
  go_ret
  exact ⟨rfl, unhide hB⟩

theorem lawApart (ad0 : Option Addr) (cap0 : Nat) (zs0 : List Int) (ad1 : Option Addr) (cap1 : Nat) (zs1 : List Int) (w : World)   (hA0 : ArgI w ad0 zs0) (hR0 : InI zs0) (hA1 : ArgI w ad1 zs1) (hR1 : InI zs1) :
    Calls Try.prog 6 #[.slice ad0 zs0.length cap0, .slice ad1 zs1.length cap1] w fun e w' => e = .returned (.bool true) ∧ Below w.heap.size w w' := by
  by_cases h0 : 1048576 < zs0.length
  · exact lawApart_long0 ad0 cap0 zs0 ad1 cap1 zs1 w  h0
  by_cases h1 : 1048576 < zs1.length
  · exact lawApart_long1 ad0 cap0 zs0 ad1 cap1 zs1 w (by omega) h1
  exact lawApart_short ad0 cap0 zs0 ad1 cap1 zs1 w  (by omega) (by omega) hA0 hR0 hA1 hR1
end Go.Proofs.Ytpofmcepjmbmcaa
