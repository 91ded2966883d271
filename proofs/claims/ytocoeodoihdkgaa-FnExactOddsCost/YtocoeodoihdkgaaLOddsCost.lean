/- The law on OddsCost, walked: what it calls is told by the walks of the specification and of the program. -/
import Derived.Test.YtocoeodoihdkgaaWOdE
import Derived.Test.YtocoeodoihdkgaaWOdG
import Derived.Test.YtocoeodoihdkgaaWMCh
namespace Go.Proofs.Ytocoeodoihdkgaa
open Go.RowKit

set_option maxHeartbeats 1000000 in
theorem lawOddsCost_long1 (n0 : Int) (ad1 : Option Addr) (cap1 : Nat) (zs1 : List Ch) (w : World) (hz1 : zs1.length ≤ 9223372036854775807)  (_hn1 : 1048576 < zs1.length)  :
    Calls Try.prog 11 #[.int .i64 n0, .slice ad1 zs1.length cap1] w fun e w' => e = .returned (.bool true) ∧ Below w.heap.size w w' := by
  have hB := hide (Below.refl w.heap.size w)
  go_enter Try.func11, Try.ntmps11
  go_wp2_with fail
  refine (upd_of_same (szChoiceS_any ad1 zs1.length cap1 (1048576) w (by omega) (by omega) hz1)).mono ?_
  rintro e w1 ⟨rfl, hu⟩
  replace hB := hide (below_upd (unhide hB) hu (Nat.le_refl _) (.inr (Nat.le_refl _)))
  have hs1 : Hid (w.heap.size ≤ w1.heap.size) := hide hu.size
  clear hu
  rw [if_pos (by omega)]
  go_wp2
  go_ret
  exact ⟨rfl, unhide hB⟩

set_option maxHeartbeats 4000000 in
set_option maxRecDepth 100000 in
theorem lawOddsCost_short (n0 : Int) (ad1 : Option Addr) (cap1 : Nat) (zs1 : List Ch) (w : World)  (hz1 : zs1.length ≤ 9223372036854775807) (hn : zs1.length ≤ 1048576) (hl0 : -9223372036854775808 ≤ n0) (hh0 : n0 ≤ 9223372036854775807) (hA1 : ArgCh w ad1 zs1) (hR1 : InCh zs1) :
    Calls Try.prog 11 #[.int .i64 n0, .slice ad1 zs1.length cap1] w fun e w' => e = .returned (.bool true) ∧ Below w.heap.size w w' := by
  have hn1 : zs1.length ≤ 1048576 := by omega
  replace hA1 := hide hA1
  replace hR1 := hide hR1
  have hB := hide (Below.refl w.heap.size w)
  go_enter Try.func11, Try.ntmps11
  have hleft0 : (0 : Int) ≤ 1048576 := by omega
  go_wp2_with fail
  refine (upd_of_same (szChoiceS_any ad1 zs1.length cap1 (1048576) w (by omega) (by omega) hz1)).mono ?_
  rintro e w1 ⟨rfl, hu⟩
  replace hB := hide (below_upd (unhide hB) hu (Nat.le_refl _) (.inr (Nat.le_refl _)))
  have hs1 : Hid (w.heap.size ≤ w1.heap.size) := hide hu.size
  clear hu
  rw [if_neg (by omega)]
  have hleft1 : ¬ (1048576 - (zs1.length : Int) < 0) := by omega
  go_wp2_with fail
  refine (toChoiceS_own ad1 cap1 zs1 w1 hn1 ((unhide hA1).below (unhide hB))).mono ?_
  rintro e w2 ⟨vy1_w0, rfl, ho, hu⟩
  replace hB := hide (below_upd (unhide hB) hu (Nat.le_refl _) (.inr (Nat.le_refl _)))
  have hs2 : Hid (w1.heap.size ≤ w2.heap.size) := hide hu.size
  have y1_w0 := hide ho
  clear hu ho
  go_wp2_with fail
  refine (specOddsCost n0 vy1_w0 zs1 w2  hl0 hh0 hn1 (unhide hR1) (OwnCh.rd (unhide y1_w0))).mono ?_
  rintro e w3 ⟨rfl, hu⟩
  replace y1_w0 := hide ((unhide y1_w0).keep hu)
  replace hB := hide (below_upd (unhide hB) hu (Nat.le_refl _) (.inr (Nat.le_refl _)))
  have hs3 : Hid (w2.heap.size ≤ w3.heap.size) := hide hu.size
  clear hu
  clear y1_w0
  go_wp2_with fail
  refine (toChoiceS_own ad1 cap1 zs1 w3 hn1 ((unhide hA1).below (unhide hB))).mono ?_
  rintro e w4 ⟨vx1, rfl, ho, hu⟩
  replace hB := hide (below_upd (unhide hB) hu (Nat.le_refl _) (.inr (Nat.le_refl _)))
  have hs4 : Hid (w3.heap.size ≤ w4.heap.size) := hide hu.size
  have x1 := hide ho
  clear hu ho
  go_wp2_with fail
  refine (implOddsCost n0 vx1 zs1 w4  hl0 hh0 hn1 (unhide hR1) (OwnCh.rd (unhide x1))).mono ?_
  rintro e w5 ⟨rfl, hu⟩
  replace x1 := hide ((unhide x1).keep hu)
  replace hB := hide (below_upd (unhide hB) hu (Nat.le_refl _) (.inr (Nat.le_refl _)))
  have hs5 : Hid (w4.heap.size ≤ w5.heap.size) := hide hu.size
  clear hu
  go_wp2_with fail
  refine (toChoiceS_own ad1 cap1 zs1 w5 hn1 ((unhide hA1).below (unhide hB))).mono ?_
  rintro e w6 ⟨vz1, rfl, ho, hu⟩
  replace x1 := hide ((unhide x1).keep hu)
  replace hB := hide (below_upd (unhide hB) hu (Nat.le_refl _) (.inr (Nat.le_refl _)))
  have hs6 : Hid (w5.heap.size ≤ w6.heap.size) := hide hu.size
  have z1 := hide ho
  clear hu ho
  go_wp2_with fail
  refine (eqChoiceS_rd vx1 vz1 zs1 w6 hn1 (OwnCh.rd (unhide x1)) (OwnCh.rd (unhide z1))).mono ?_
  rintro e w7 ⟨rfl, hu⟩
  replace x1 := hide ((unhide x1).keep hu)
  replace z1 := hide ((unhide z1).keep hu)
  replace hB := hide (below_upd (unhide hB) hu (Nat.le_refl _) (.inr (Nat.le_refl _)))
  have hs7 : Hid (w6.heap.size ≤ w7.heap.size) := hide hu.size
  clear hu
  clear z1
  go_wp2_with fail
  go_ret
  exact ⟨rfl, unhide hB⟩

theorem lawOddsCost (n0 : Int) (ad1 : Option Addr) (cap1 : Nat) (zs1 : List Ch) (w : World)  (hz1 : zs1.length ≤ 9223372036854775807) (hl0 : -9223372036854775808 ≤ n0) (hh0 : n0 ≤ 9223372036854775807) (hA1 : ArgCh w ad1 zs1) (hR1 : InCh zs1) :
    Calls Try.prog 11 #[.int .i64 n0, .slice ad1 zs1.length cap1] w fun e w' => e = .returned (.bool true) ∧ Below w.heap.size w w' := by
  by_cases h1 : 1048576 < zs1.length
  · exact lawOddsCost_long1 n0 ad1 cap1 zs1 w hz1 h1 
  exact lawOddsCost_short n0 ad1 cap1 zs1 w  hz1 (by omega) hl0 hh0 hA1 hR1
end Go.Proofs.Ytocoeodoihdkgaa
