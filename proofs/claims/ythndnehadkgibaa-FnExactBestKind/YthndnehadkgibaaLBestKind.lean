/- The law on BestKind, walked: what it calls is told by the walks of the specification and of the program. -/
import Derived.Test.YthndnehadkgibaaWBeA
import Derived.Test.YthndnehadkgibaaWBeB
import Derived.Test.YthndnehadkgibaaWByts
namespace Go.Proofs.Ythndnehadkgibaa
open Go.RowKit

set_option maxHeartbeats 1000000 in
theorem lawBestKind_long1 (n0 : Int) (ad1 : Option Addr) (cap1 : Nat) (zs1 : List Int) (ad2 : Option Addr) (cap2 : Nat) (zs2 : List Int) (w : World)  (_hn1 : 1048576 < zs1.length) :
    Calls Try.prog 10 #[.int .i64 n0, .slice ad1 zs1.length cap1, .slice ad2 zs2.length cap2] w fun e w' => e = .returned (.bool true) ∧ Below w.heap.size w w' := by
  go_enter Try.func10, Try.ntmps10
  go_wp2
  go_ret
  exact ⟨rfl, Below.refl _ _⟩

set_option maxHeartbeats 1000000 in
theorem lawBestKind_long2 (n0 : Int) (ad1 : Option Addr) (cap1 : Nat) (zs1 : List Int) (ad2 : Option Addr) (cap2 : Nat) (zs2 : List Int) (w : World) (_hn1 : zs1.length ≤ 1048576) (_hn2 : 1048576 < zs2.length) :
    Calls Try.prog 10 #[.int .i64 n0, .slice ad1 zs1.length cap1, .slice ad2 zs2.length cap2] w fun e w' => e = .returned (.bool true) ∧ Below w.heap.size w w' := by
  go_enter Try.func10, Try.ntmps10
  go_wp2
  go_ret
  exact ⟨rfl, Below.refl _ _⟩

set_option maxHeartbeats 4000000 in
theorem lawBestKind_short  (n0 : Int) (ad1 : Option Addr) (cap1 : Nat) (zs1 : List Int) (ad2 : Option Addr) (cap2 : Nat) (zs2 : List Int) (w : World) (hn1 : zs1.length ≤ 1048576) (hn2 : zs2.length ≤ 1048576) (hl0 : -9223372036854775808 ≤ n0) (hh0 : n0 ≤ 9223372036854775807) (hA1 : ArgY w ad1 zs1) (hR1 : InB zs1) (hA2 : ArgY w ad2 zs2) (hR2 : InB zs2) :
    Calls Try.prog 10 #[.int .i64 n0, .slice ad1 zs1.length cap1, .slice ad2 zs2.length cap2] w fun e w' => e = .returned (.bool true) ∧ Below w.heap.size w w' := by
  replace hA1 := hide hA1
  replace hR1 := hide hR1
  replace hA2 := hide hA2
  replace hR2 := hide hR2
  have hB := hide (Below.refl w.heap.size w)
  go_enter Try.func10, Try.ntmps10
  go_wp2_with fail
  refine (toByteY_own ad1 cap1 zs1 w hn1 ((unhide hA1).below (unhide hB))).mono ?_
  rintro e w1 ⟨vy1_w0, rfl, ho, hu⟩
  replace hB := hide (below_upd (unhide hB) hu (Nat.le_refl _) (.inr (Nat.le_refl _)))
  have hs1 : Hid (w.heap.size ≤ w1.heap.size) := hide hu.size
  have y1_w0 := hide ho
  clear hu ho
  go_wp2_with fail
  refine (toByteY_own ad2 cap2 zs2 w1 hn2 ((unhide hA2).below (unhide hB))).mono ?_
  rintro e w2 ⟨vy2_w0, rfl, ho, hu⟩
  replace y1_w0 := hide ((unhide y1_w0).keep hu)
  replace hB := hide (below_upd (unhide hB) hu (Nat.le_refl _) (.inr (Nat.le_refl _)))
  have hs2 : Hid (w1.heap.size ≤ w2.heap.size) := hide hu.size
  have y2_w0 := hide ho
  clear hu ho
  go_wp2_with fail
  refine (specBestKind n0 vy1_w0 zs1 vy2_w0 zs2 w2 hl0 hh0 hn1 (unhide hR1) (OwnY.rd (unhide y1_w0)) hn2 (unhide hR2) (OwnY.rd (unhide y2_w0))).mono ?_
  rintro e w3 ⟨rfl, hu⟩
  replace y1_w0 := hide ((unhide y1_w0).keep hu)
  replace y2_w0 := hide ((unhide y2_w0).keep hu)
  replace hB := hide (below_upd (unhide hB) hu (Nat.le_refl _) (.inr (Nat.le_refl _)))
  have hs3 : Hid (w2.heap.size ≤ w3.heap.size) := hide hu.size
  clear hu
  clear y1_w0 y2_w0
  go_wp2_with fail
  refine (toByteY_own ad1 cap1 zs1 w3 hn1 ((unhide hA1).below (unhide hB))).mono ?_
  rintro e w4 ⟨vx1, rfl, ho, hu⟩
  replace hB := hide (below_upd (unhide hB) hu (Nat.le_refl _) (.inr (Nat.le_refl _)))
  have hs4 : Hid (w3.heap.size ≤ w4.heap.size) := hide hu.size
  have x1 := hide ho
  clear hu ho
  go_wp2_with fail
  refine (toByteY_own ad2 cap2 zs2 w4 hn2 ((unhide hA2).below (unhide hB))).mono ?_
  rintro e w5 ⟨vx2, rfl, ho, hu⟩
  replace x1 := hide ((unhide x1).keep hu)
  replace hB := hide (below_upd (unhide hB) hu (Nat.le_refl _) (.inr (Nat.le_refl _)))
  have hs5 : Hid (w4.heap.size ≤ w5.heap.size) := hide hu.size
  have x2 := hide ho
  clear hu ho
  go_wp2_with fail
  refine (implBestKind n0 vx1 zs1 vx2 zs2 w5 hl0 hh0 hn1 (unhide hR1) (OwnY.rd (unhide x1)) hn2 (unhide hR2) (OwnY.rd (unhide x2))).mono ?_
  rintro e w6 ⟨rfl, hu⟩
  replace x1 := hide ((unhide x1).keep hu)
  replace x2 := hide ((unhide x2).keep hu)
  replace hB := hide (below_upd (unhide hB) hu (Nat.le_refl _) (.inr (Nat.le_refl _)))
  have hs6 : Hid (w5.heap.size ≤ w6.heap.size) := hide hu.size
  clear hu
  go_wp2_with fail
  refine (toByteY_own ad1 cap1 zs1 w6 hn1 ((unhide hA1).below (unhide hB))).mono ?_
  rintro e w7 ⟨vz1, rfl, ho, hu⟩
  replace x1 := hide ((unhide x1).keep hu)
  replace x2 := hide ((unhide x2).keep hu)
  replace hB := hide (below_upd (unhide hB) hu (Nat.le_refl _) (.inr (Nat.le_refl _)))
  have hs7 : Hid (w6.heap.size ≤ w7.heap.size) := hide hu.size
  have z1 := hide ho
  clear hu ho
  go_wp2_with fail
  refine (eqByteY_rd vx1 vz1 zs1 w7 hn1 (OwnY.rd (unhide x1)) (OwnY.rd (unhide z1))).mono ?_
  rintro e w8 ⟨rfl, hu⟩
  replace x1 := hide ((unhide x1).keep hu)
  replace x2 := hide ((unhide x2).keep hu)
  replace z1 := hide ((unhide z1).keep hu)
  replace hB := hide (below_upd (unhide hB) hu (Nat.le_refl _) (.inr (Nat.le_refl _)))
  have hs8 : Hid (w7.heap.size ≤ w8.heap.size) := hide hu.size
  clear hu
  clear z1
  go_wp2_with fail
  refine (toByteY_own ad2 cap2 zs2 w8 hn2 ((unhide hA2).below (unhide hB))).mono ?_
  rintro e w9 ⟨vz2, rfl, ho, hu⟩
  replace x1 := hide ((unhide x1).keep hu)
  replace x2 := hide ((unhide x2).keep hu)
  replace hB := hide (below_upd (unhide hB) hu (Nat.le_refl _) (.inr (Nat.le_refl _)))
  have hs9 : Hid (w8.heap.size ≤ w9.heap.size) := hide hu.size
  have z2 := hide ho
  clear hu ho
  go_wp2_with fail
  refine (eqByteY_rd vx2 vz2 zs2 w9 hn2 (OwnY.rd (unhide x2)) (OwnY.rd (unhide z2))).mono ?_
  rintro e w10 ⟨rfl, hu⟩
  replace x1 := hide ((unhide x1).keep hu)
  replace x2 := hide ((unhide x2).keep hu)
  replace z2 := hide ((unhide z2).keep hu)
  replace hB := hide (below_upd (unhide hB) hu (Nat.le_refl _) (.inr (Nat.le_refl _)))
  have hs10 : Hid (w9.heap.size ≤ w10.heap.size) := hide hu.size
  clear hu
  clear z2
  go_wp2_with fail
  go_ret
  exact ⟨rfl, unhide hB⟩

theorem lawBestKind  (n0 : Int) (ad1 : Option Addr) (cap1 : Nat) (zs1 : List Int) (ad2 : Option Addr) (cap2 : Nat) (zs2 : List Int) (w : World) (hl0 : -9223372036854775808 ≤ n0) (hh0 : n0 ≤ 9223372036854775807) (hA1 : ArgY w ad1 zs1) (hR1 : InB zs1) (hA2 : ArgY w ad2 zs2) (hR2 : InB zs2) :
    Calls Try.prog 10 #[.int .i64 n0, .slice ad1 zs1.length cap1, .slice ad2 zs2.length cap2] w fun e w' => e = .returned (.bool true) ∧ Below w.heap.size w w' := by
  by_cases h1 : 1048576 < zs1.length
  · exact lawBestKind_long1 n0 ad1 cap1 zs1 ad2 cap2 zs2 w  h1
  by_cases h2 : 1048576 < zs2.length
  · exact lawBestKind_long2 n0 ad1 cap1 zs1 ad2 cap2 zs2 w (by omega) h2
  exact lawBestKind_short  n0 ad1 cap1 zs1 ad2 cap2 zs2 w (by omega) (by omega) hl0 hh0 hA1 hR1 hA2 hR2
end Go.Proofs.Ythndnehadkgibaa
