/- The law on Turn, walked: what it calls is told by the walks of the specification and of the program. -/
import Derived.Test.YtailhdfmfmlniaaWLiD
import Derived.Test.YtailhdfmfmlniaaWLiG
namespace Go.Proofs.Ytailhdfmfmlniaa
open Go.RowKit

set_option maxHeartbeats 1000000 in
theorem lawTurn_long1 (n0 : Int) (ad1 : Option Addr) (cap1 : Nat) (zs1 : List Int) (ad2 : Option Addr) (cap2 : Nat) (zs2 : List Int) (w : World)  (_hn1 : 1048576 < zs1.length) :
    Calls Try.prog 8 #[.int .i64 n0, .slice ad1 zs1.length cap1, .slice ad2 zs2.length cap2] w fun e w' => e = .returned (.bool true) ∧ Below w.heap.size w w' := by
  go_enter Try.func8, Try.ntmps8
  go_wp2
  go_ret
  exact ⟨rfl, Below.refl _ _⟩

set_option maxHeartbeats 1000000 in
theorem lawTurn_long2 (n0 : Int) (ad1 : Option Addr) (cap1 : Nat) (zs1 : List Int) (ad2 : Option Addr) (cap2 : Nat) (zs2 : List Int) (w : World) (_hn1 : zs1.length ≤ 1048576) (_hn2 : 1048576 < zs2.length) :
    Calls Try.prog 8 #[.int .i64 n0, .slice ad1 zs1.length cap1, .slice ad2 zs2.length cap2] w fun e w' => e = .returned (.bool true) ∧ Below w.heap.size w w' := by
  go_enter Try.func8, Try.ntmps8
  go_wp2
  go_ret
  exact ⟨rfl, Below.refl _ _⟩

set_option maxHeartbeats 4000000 in
set_option maxRecDepth 100000 in
theorem lawTurn_short (n0 : Int) (ad1 : Option Addr) (cap1 : Nat) (zs1 : List Int) (ad2 : Option Addr) (cap2 : Nat) (zs2 : List Int) (w : World)   (hn1 : zs1.length ≤ 1048576) (hn2 : zs2.length ≤ 1048576) (hl0 : -9223372036854775808 ≤ n0) (hh0 : n0 ≤ 9223372036854775807) (hA1 : ArgI w ad1 zs1) (hR1 : InI zs1) (hA2 : ArgI w ad2 zs2) (hR2 : InI zs2) :
    Calls Try.prog 8 #[.int .i64 n0, .slice ad1 zs1.length cap1, .slice ad2 zs2.length cap2] w fun e w' => e = .returned (.bool true) ∧ Below w.heap.size w w' := by
  replace hA1 := hide hA1
  replace hR1 := hide hR1
  replace hA2 := hide hA2
  replace hR2 := hide hR2
  have hLa := hide (turF_len turA n0 zs1 zs2)
  have hLb := hide (turF_len turB n0 zs1 zs2)
  have hB := hide (Below.refl w.heap.size w)
  go_enter Try.func8, Try.ntmps8
  go_wp2_with fail
  refine (toIntS_own ad1 cap1 zs1 w hn1 ((unhide hA1).below (unhide hB))).mono ?_
  rintro e w1 ⟨vy1_w0, rfl, ho, hu⟩
  replace hB := hide (below_upd (unhide hB) hu (Nat.le_refl _) (.inr (Nat.le_refl _)))
  have hs1 : Hid (w.heap.size ≤ w1.heap.size) := hide hu.size
  have y1_w0 := hide ho
  clear hu ho
  go_wp2_with fail
  refine (toIntS_own ad2 cap2 zs2 w1 hn2 ((unhide hA2).below (unhide hB))).mono ?_
  rintro e w2 ⟨vy2_w0, rfl, ho, hu⟩
  replace y1_w0 := hide ((unhide y1_w0).keep hu)
  replace hB := hide (below_upd (unhide hB) hu (Nat.le_refl _) (.inr (Nat.le_refl _)))
  have hs2 : Hid (w1.heap.size ≤ w2.heap.size) := hide hu.size
  have y2_w0 := hide ho
  clear hu ho
  go_wp2_with fail
  refine (specTurn n0 vy1_w0 zs1 vy2_w0 zs2 w2 hl0 hh0 hn1 (unhide hR1) (OwnI.rd (unhide y1_w0)) hn2 (unhide hR2) (OwnI.rd (unhide y2_w0))).mono ?_
  rintro e w3 ⟨vr0a, vr0b, rfl, ⟨a1r0, b1r0, a2r0, b2r0, m1r0, m2r0, m3r0, m4r0, m5r0, ho1, ho2⟩, hu⟩
  replace y1_w0 := hide ((unhide y1_w0).keep hu)
  replace y2_w0 := hide ((unhide y2_w0).keep hu)
  replace hB := hide (below_upd (unhide hB) hu (Nat.le_refl _) (.inr (Nat.le_refl _)))
  have hs3 : Hid (w2.heap.size ≤ w3.heap.size) := hide hu.size
  clear hu
  have r0a := hide ho1
  have r0b := hide ho2
  replace m1r0 := hide m1r0
  replace m2r0 := hide m2r0
  replace m3r0 := hide m3r0
  replace m4r0 := hide m4r0
  replace m5r0 := hide m5r0
  clear ho1 ho2
  clear y1_w0 y2_w0
  go_wp2_with fail
  refine (toIntS_own ad1 cap1 zs1 w3 hn1 ((unhide hA1).below (unhide hB))).mono ?_
  rintro e w4 ⟨vx1, rfl, ho, hu⟩
  replace r0a := hide ((unhide r0a).keep hu)
  replace r0b := hide ((unhide r0b).keep hu)
  replace hB := hide (below_upd (unhide hB) hu (Nat.le_refl _) (.inr (Nat.le_refl _)))
  have hs4 : Hid (w3.heap.size ≤ w4.heap.size) := hide hu.size
  have x1 := hide ho
  clear hu ho
  go_wp2_with fail
  refine (toIntS_own ad2 cap2 zs2 w4 hn2 ((unhide hA2).below (unhide hB))).mono ?_
  rintro e w5 ⟨vx2, rfl, ho, hu⟩
  replace r0a := hide ((unhide r0a).keep hu)
  replace r0b := hide ((unhide r0b).keep hu)
  replace x1 := hide ((unhide x1).keep hu)
  replace hB := hide (below_upd (unhide hB) hu (Nat.le_refl _) (.inr (Nat.le_refl _)))
  have hs5 : Hid (w4.heap.size ≤ w5.heap.size) := hide hu.size
  have x2 := hide ho
  clear hu ho
  go_wp2_with fail
  refine (implTurn n0 vx1 zs1 vx2 zs2 w5 hl0 hh0 hn1 (unhide hR1) (OwnI.rd (unhide x1)) hn2 (unhide hR2) (OwnI.rd (unhide x2))).mono ?_
  rintro e w6 ⟨vr1a, vr1b, rfl, ⟨a1r1, b1r1, a2r1, b2r1, m1r1, m2r1, m3r1, m4r1, m5r1, ho1, ho2⟩, hu⟩
  replace r0a := hide ((unhide r0a).keep hu)
  replace r0b := hide ((unhide r0b).keep hu)
  replace x1 := hide ((unhide x1).keep hu)
  replace x2 := hide ((unhide x2).keep hu)
  replace hB := hide (below_upd (unhide hB) hu (Nat.le_refl _) (.inr (Nat.le_refl _)))
  have hs6 : Hid (w5.heap.size ≤ w6.heap.size) := hide hu.size
  clear hu
  have r1a := hide ho1
  have r1b := hide ho2
  replace m1r1 := hide m1r1
  replace m2r1 := hide m2r1
  replace m3r1 := hide m3r1
  replace m4r1 := hide m4r1
  replace m5r1 := hide m5r1
  clear ho1 ho2
  go_wp2_with fail
  refine (eqIntS_rd vr1a vr0a (turF turA n0 zs1 zs2) w6 (unhide hLa) (OwnI.rd (unhide r1a)) (OwnI.rd (unhide r0a))).mono ?_
  rintro e w7 ⟨rfl, hu⟩
  replace r0a := hide ((unhide r0a).keep hu)
  replace r0b := hide ((unhide r0b).keep hu)
  replace x1 := hide ((unhide x1).keep hu)
  replace x2 := hide ((unhide x2).keep hu)
  replace r1a := hide ((unhide r1a).keep hu)
  replace r1b := hide ((unhide r1b).keep hu)
  replace hB := hide (below_upd (unhide hB) hu (Nat.le_refl _) (.inr (Nat.le_refl _)))
  have hs7 : Hid (w6.heap.size ≤ w7.heap.size) := hide hu.size
  clear hu
  go_wp2_with fail
  refine (eqIntS_rd vr1b vr0b (turF turB n0 zs1 zs2) w7 (unhide hLb) (OwnI.rd (unhide r1b)) (OwnI.rd (unhide r0b))).mono ?_
  rintro e w8 ⟨rfl, hu⟩
  replace r0a := hide ((unhide r0a).keep hu)
  replace r0b := hide ((unhide r0b).keep hu)
  replace x1 := hide ((unhide x1).keep hu)
  replace x2 := hide ((unhide x2).keep hu)
  replace r1a := hide ((unhide r1a).keep hu)
  replace r1b := hide ((unhide r1b).keep hu)
  replace hB := hide (below_upd (unhide hB) hu (Nat.le_refl _) (.inr (Nat.le_refl _)))
  have hs8 : Hid (w7.heap.size ≤ w8.heap.size) := hide hu.size
  clear hu
  go_wp2_with fail
  refine (toIntS_own ad1 cap1 zs1 w8 hn1 ((unhide hA1).below (unhide hB))).mono ?_
  rintro e w9 ⟨vz1, rfl, ho, hu⟩
  replace r0a := hide ((unhide r0a).keep hu)
  replace r0b := hide ((unhide r0b).keep hu)
  replace x1 := hide ((unhide x1).keep hu)
  replace x2 := hide ((unhide x2).keep hu)
  replace r1a := hide ((unhide r1a).keep hu)
  replace r1b := hide ((unhide r1b).keep hu)
  replace hB := hide (below_upd (unhide hB) hu (Nat.le_refl _) (.inr (Nat.le_refl _)))
  have hs9 : Hid (w8.heap.size ≤ w9.heap.size) := hide hu.size
  have z1 := hide ho
  clear hu ho
  go_wp2_with fail
  refine (eqIntS_rd vx1 vz1 zs1 w9 hn1 (OwnI.rd (unhide x1)) (OwnI.rd (unhide z1))).mono ?_
  rintro e w10 ⟨rfl, hu⟩
  replace r0a := hide ((unhide r0a).keep hu)
  replace r0b := hide ((unhide r0b).keep hu)
  replace x1 := hide ((unhide x1).keep hu)
  replace x2 := hide ((unhide x2).keep hu)
  replace r1a := hide ((unhide r1a).keep hu)
  replace r1b := hide ((unhide r1b).keep hu)
  replace z1 := hide ((unhide z1).keep hu)
  replace hB := hide (below_upd (unhide hB) hu (Nat.le_refl _) (.inr (Nat.le_refl _)))
  have hs10 : Hid (w9.heap.size ≤ w10.heap.size) := hide hu.size
  clear hu
  clear z1
  go_wp2_with fail
  refine (toIntS_own ad2 cap2 zs2 w10 hn2 ((unhide hA2).below (unhide hB))).mono ?_
  rintro e w11 ⟨vz2, rfl, ho, hu⟩
  replace r0a := hide ((unhide r0a).keep hu)
  replace r0b := hide ((unhide r0b).keep hu)
  replace x1 := hide ((unhide x1).keep hu)
  replace x2 := hide ((unhide x2).keep hu)
  replace r1a := hide ((unhide r1a).keep hu)
  replace r1b := hide ((unhide r1b).keep hu)
  replace hB := hide (below_upd (unhide hB) hu (Nat.le_refl _) (.inr (Nat.le_refl _)))
  have hs11 : Hid (w10.heap.size ≤ w11.heap.size) := hide hu.size
  have z2 := hide ho
  clear hu ho
  go_wp2_with fail
  refine (eqIntS_rd vx2 vz2 zs2 w11 hn2 (OwnI.rd (unhide x2)) (OwnI.rd (unhide z2))).mono ?_
  rintro e w12 ⟨rfl, hu⟩
  replace r0a := hide ((unhide r0a).keep hu)
  replace r0b := hide ((unhide r0b).keep hu)
  replace x1 := hide ((unhide x1).keep hu)
  replace x2 := hide ((unhide x2).keep hu)
  replace r1a := hide ((unhide r1a).keep hu)
  replace r1b := hide ((unhide r1b).keep hu)
  replace z2 := hide ((unhide z2).keep hu)
  replace hB := hide (below_upd (unhide hB) hu (Nat.le_refl _) (.inr (Nat.le_refl _)))
  have hs12 : Hid (w11.heap.size ≤ w12.heap.size) := hide hu.size
  clear hu
  clear z2
  go_wp2_with fail
  refine (markIntS_own (w3.heap.size) (w4.heap.size) vx1 (1) (zs1) w12 hn1 (by have := unhide hLa; have := unhide hLb; omega) (unhide x1)).mono ?_
  rintro e w13 ⟨rfl, ho, hu⟩
  replace r0a := hide ((unhide r0a).upd hu (by have := unhide hs1; have := unhide hs2; have := unhide hs3; have := unhide m1r0; have := unhide m2r0; have := unhide m3r0; have := unhide m4r0; have := unhide m5r0; have := unhide hs4; have := unhide hs5; have := unhide hs6; have := unhide m1r1; have := unhide m2r1; have := unhide m3r1; have := unhide m4r1; have := unhide m5r1; have := unhide hs7; have := unhide hs8; have := unhide hs9; have := unhide hs10; have := unhide hs11; have := unhide hs12; omega))
  replace r0b := hide ((unhide r0b).upd hu (by have := unhide hs1; have := unhide hs2; have := unhide hs3; have := unhide m1r0; have := unhide m2r0; have := unhide m3r0; have := unhide m4r0; have := unhide m5r0; have := unhide hs4; have := unhide hs5; have := unhide hs6; have := unhide m1r1; have := unhide m2r1; have := unhide m3r1; have := unhide m4r1; have := unhide m5r1; have := unhide hs7; have := unhide hs8; have := unhide hs9; have := unhide hs10; have := unhide hs11; have := unhide hs12; omega))
  replace x2 := hide ((unhide x2).upd hu (by have := unhide hs1; have := unhide hs2; have := unhide hs3; have := unhide m1r0; have := unhide m2r0; have := unhide m3r0; have := unhide m4r0; have := unhide m5r0; have := unhide hs4; have := unhide hs5; have := unhide hs6; have := unhide m1r1; have := unhide m2r1; have := unhide m3r1; have := unhide m4r1; have := unhide m5r1; have := unhide hs7; have := unhide hs8; have := unhide hs9; have := unhide hs10; have := unhide hs11; have := unhide hs12; omega))
  replace r1a := hide ((unhide r1a).upd hu (by have := unhide hs1; have := unhide hs2; have := unhide hs3; have := unhide m1r0; have := unhide m2r0; have := unhide m3r0; have := unhide m4r0; have := unhide m5r0; have := unhide hs4; have := unhide hs5; have := unhide hs6; have := unhide m1r1; have := unhide m2r1; have := unhide m3r1; have := unhide m4r1; have := unhide m5r1; have := unhide hs7; have := unhide hs8; have := unhide hs9; have := unhide hs10; have := unhide hs11; have := unhide hs12; omega))
  replace r1b := hide ((unhide r1b).upd hu (by have := unhide hs1; have := unhide hs2; have := unhide hs3; have := unhide m1r0; have := unhide m2r0; have := unhide m3r0; have := unhide m4r0; have := unhide m5r0; have := unhide hs4; have := unhide hs5; have := unhide hs6; have := unhide m1r1; have := unhide m2r1; have := unhide m3r1; have := unhide m4r1; have := unhide m5r1; have := unhide hs7; have := unhide hs8; have := unhide hs9; have := unhide hs10; have := unhide hs11; have := unhide hs12; omega))
  replace hB := hide (below_upd (unhide hB) hu (Nat.le_refl _) (by have := unhide hs1; have := unhide hs2; have := unhide hs3; have := unhide m1r0; have := unhide m2r0; have := unhide m3r0; have := unhide m4r0; have := unhide m5r0; have := unhide hs4; have := unhide hs5; have := unhide hs6; have := unhide m1r1; have := unhide m2r1; have := unhide m3r1; have := unhide m4r1; have := unhide m5r1; have := unhide hs7; have := unhide hs8; have := unhide hs9; have := unhide hs10; have := unhide hs11; have := unhide hs12; omega))
  replace x1 := hide ho
  have hs13 : Hid (w12.heap.size ≤ w13.heap.size) := hide hu.size
  clear hu ho
  go_wp2_with fail
  refine (markIntS_own (w4.heap.size) (w5.heap.size) vx2 (1 + (zs1).length) (zs2) w13 hn2 (by have := unhide hLa; have := unhide hLb; omega) (unhide x2)).mono ?_
  rintro e w14 ⟨rfl, ho, hu⟩
  replace r0a := hide ((unhide r0a).upd hu (by have := unhide hs1; have := unhide hs2; have := unhide hs3; have := unhide m1r0; have := unhide m2r0; have := unhide m3r0; have := unhide m4r0; have := unhide m5r0; have := unhide hs4; have := unhide hs5; have := unhide hs6; have := unhide m1r1; have := unhide m2r1; have := unhide m3r1; have := unhide m4r1; have := unhide m5r1; have := unhide hs7; have := unhide hs8; have := unhide hs9; have := unhide hs10; have := unhide hs11; have := unhide hs12; have := unhide hs13; omega))
  replace r0b := hide ((unhide r0b).upd hu (by have := unhide hs1; have := unhide hs2; have := unhide hs3; have := unhide m1r0; have := unhide m2r0; have := unhide m3r0; have := unhide m4r0; have := unhide m5r0; have := unhide hs4; have := unhide hs5; have := unhide hs6; have := unhide m1r1; have := unhide m2r1; have := unhide m3r1; have := unhide m4r1; have := unhide m5r1; have := unhide hs7; have := unhide hs8; have := unhide hs9; have := unhide hs10; have := unhide hs11; have := unhide hs12; have := unhide hs13; omega))
  replace x1 := hide ((unhide x1).upd hu (by have := unhide hs1; have := unhide hs2; have := unhide hs3; have := unhide m1r0; have := unhide m2r0; have := unhide m3r0; have := unhide m4r0; have := unhide m5r0; have := unhide hs4; have := unhide hs5; have := unhide hs6; have := unhide m1r1; have := unhide m2r1; have := unhide m3r1; have := unhide m4r1; have := unhide m5r1; have := unhide hs7; have := unhide hs8; have := unhide hs9; have := unhide hs10; have := unhide hs11; have := unhide hs12; have := unhide hs13; omega))
  replace r1a := hide ((unhide r1a).upd hu (by have := unhide hs1; have := unhide hs2; have := unhide hs3; have := unhide m1r0; have := unhide m2r0; have := unhide m3r0; have := unhide m4r0; have := unhide m5r0; have := unhide hs4; have := unhide hs5; have := unhide hs6; have := unhide m1r1; have := unhide m2r1; have := unhide m3r1; have := unhide m4r1; have := unhide m5r1; have := unhide hs7; have := unhide hs8; have := unhide hs9; have := unhide hs10; have := unhide hs11; have := unhide hs12; have := unhide hs13; omega))
  replace r1b := hide ((unhide r1b).upd hu (by have := unhide hs1; have := unhide hs2; have := unhide hs3; have := unhide m1r0; have := unhide m2r0; have := unhide m3r0; have := unhide m4r0; have := unhide m5r0; have := unhide hs4; have := unhide hs5; have := unhide hs6; have := unhide m1r1; have := unhide m2r1; have := unhide m3r1; have := unhide m4r1; have := unhide m5r1; have := unhide hs7; have := unhide hs8; have := unhide hs9; have := unhide hs10; have := unhide hs11; have := unhide hs12; have := unhide hs13; omega))
  replace hB := hide (below_upd (unhide hB) hu (Nat.le_refl _) (by have := unhide hs1; have := unhide hs2; have := unhide hs3; have := unhide m1r0; have := unhide m2r0; have := unhide m3r0; have := unhide m4r0; have := unhide m5r0; have := unhide hs4; have := unhide hs5; have := unhide hs6; have := unhide m1r1; have := unhide m2r1; have := unhide m3r1; have := unhide m4r1; have := unhide m5r1; have := unhide hs7; have := unhide hs8; have := unhide hs9; have := unhide hs10; have := unhide hs11; have := unhide hs12; have := unhide hs13; omega))
  replace x2 := hide ho
  have hs14 : Hid (w13.heap.size ≤ w14.heap.size) := hide hu.size
  clear hu ho
  have hk0 : ¬ (((1 + (zs1).length + (zs2).length : Nat) : Int) < 0) := by omega
  go_wp2_with fail
  refine (eqIntS_rd vr1a vr0a (turF turA n0 zs1 zs2) w14 (unhide hLa) (OwnI.rd (unhide r1a)) (OwnI.rd (unhide r0a))).mono ?_
  rintro e w15 ⟨rfl, hu⟩
  replace r0a := hide ((unhide r0a).keep hu)
  replace r0b := hide ((unhide r0b).keep hu)
  replace x1 := hide ((unhide x1).keep hu)
  replace x2 := hide ((unhide x2).keep hu)
  replace r1a := hide ((unhide r1a).keep hu)
  replace r1b := hide ((unhide r1b).keep hu)
  replace hB := hide (below_upd (unhide hB) hu (Nat.le_refl _) (.inr (Nat.le_refl _)))
  have hs15 : Hid (w14.heap.size ≤ w15.heap.size) := hide hu.size
  clear hu
  go_wp2_with fail
  refine (eqIntS_rd vr1b vr0b (turF turB n0 zs1 zs2) w15 (unhide hLb) (OwnI.rd (unhide r1b)) (OwnI.rd (unhide r0b))).mono ?_
  rintro e w16 ⟨rfl, hu⟩
  replace r0a := hide ((unhide r0a).keep hu)
  replace r0b := hide ((unhide r0b).keep hu)
  replace x1 := hide ((unhide x1).keep hu)
  replace x2 := hide ((unhide x2).keep hu)
  replace r1a := hide ((unhide r1a).keep hu)
  replace r1b := hide ((unhide r1b).keep hu)
  replace hB := hide (below_upd (unhide hB) hu (Nat.le_refl _) (.inr (Nat.le_refl _)))
  have hs16 : Hid (w15.heap.size ≤ w16.heap.size) := hide hu.size
  clear hu
  clear x1 x2
  go_wp2_with fail
  refine (markIntS_own (a1r1) (b1r1) vr1a (1) (turF turA n0 zs1 zs2) w16 (unhide hLa) (by have := unhide hLa; have := unhide hLb; omega) (unhide r1a)).mono ?_
  rintro e w17 ⟨rfl, ho, hu⟩
  replace r0a := hide ((unhide r0a).upd hu (by have := unhide hs1; have := unhide hs2; have := unhide hs3; have := unhide m1r0; have := unhide m2r0; have := unhide m3r0; have := unhide m4r0; have := unhide m5r0; have := unhide hs4; have := unhide hs5; have := unhide hs6; have := unhide m1r1; have := unhide m2r1; have := unhide m3r1; have := unhide m4r1; have := unhide m5r1; have := unhide hs7; have := unhide hs8; have := unhide hs9; have := unhide hs10; have := unhide hs11; have := unhide hs12; have := unhide hs13; have := unhide hs14; have := unhide hs15; have := unhide hs16; omega))
  replace r0b := hide ((unhide r0b).upd hu (by have := unhide hs1; have := unhide hs2; have := unhide hs3; have := unhide m1r0; have := unhide m2r0; have := unhide m3r0; have := unhide m4r0; have := unhide m5r0; have := unhide hs4; have := unhide hs5; have := unhide hs6; have := unhide m1r1; have := unhide m2r1; have := unhide m3r1; have := unhide m4r1; have := unhide m5r1; have := unhide hs7; have := unhide hs8; have := unhide hs9; have := unhide hs10; have := unhide hs11; have := unhide hs12; have := unhide hs13; have := unhide hs14; have := unhide hs15; have := unhide hs16; omega))
  replace r1b := hide ((unhide r1b).upd hu (by have := unhide hs1; have := unhide hs2; have := unhide hs3; have := unhide m1r0; have := unhide m2r0; have := unhide m3r0; have := unhide m4r0; have := unhide m5r0; have := unhide hs4; have := unhide hs5; have := unhide hs6; have := unhide m1r1; have := unhide m2r1; have := unhide m3r1; have := unhide m4r1; have := unhide m5r1; have := unhide hs7; have := unhide hs8; have := unhide hs9; have := unhide hs10; have := unhide hs11; have := unhide hs12; have := unhide hs13; have := unhide hs14; have := unhide hs15; have := unhide hs16; omega))
  replace hB := hide (below_upd (unhide hB) hu (Nat.le_refl _) (by have := unhide hs1; have := unhide hs2; have := unhide hs3; have := unhide m1r0; have := unhide m2r0; have := unhide m3r0; have := unhide m4r0; have := unhide m5r0; have := unhide hs4; have := unhide hs5; have := unhide hs6; have := unhide m1r1; have := unhide m2r1; have := unhide m3r1; have := unhide m4r1; have := unhide m5r1; have := unhide hs7; have := unhide hs8; have := unhide hs9; have := unhide hs10; have := unhide hs11; have := unhide hs12; have := unhide hs13; have := unhide hs14; have := unhide hs15; have := unhide hs16; omega))
  replace r1a := hide ho
  have hs17 : Hid (w16.heap.size ≤ w17.heap.size) := hide hu.size
  clear hu ho
  go_wp2_with fail
  refine (markIntS_own (a2r1) (b2r1) vr1b (1 + (turF turA n0 zs1 zs2).length) (turF turB n0 zs1 zs2) w17 (unhide hLb) (by have := unhide hLa; have := unhide hLb; omega) (unhide r1b)).mono ?_
  rintro e w18 ⟨rfl, ho, hu⟩
  replace r0a := hide ((unhide r0a).upd hu (by have := unhide hs1; have := unhide hs2; have := unhide hs3; have := unhide m1r0; have := unhide m2r0; have := unhide m3r0; have := unhide m4r0; have := unhide m5r0; have := unhide hs4; have := unhide hs5; have := unhide hs6; have := unhide m1r1; have := unhide m2r1; have := unhide m3r1; have := unhide m4r1; have := unhide m5r1; have := unhide hs7; have := unhide hs8; have := unhide hs9; have := unhide hs10; have := unhide hs11; have := unhide hs12; have := unhide hs13; have := unhide hs14; have := unhide hs15; have := unhide hs16; have := unhide hs17; omega))
  replace r0b := hide ((unhide r0b).upd hu (by have := unhide hs1; have := unhide hs2; have := unhide hs3; have := unhide m1r0; have := unhide m2r0; have := unhide m3r0; have := unhide m4r0; have := unhide m5r0; have := unhide hs4; have := unhide hs5; have := unhide hs6; have := unhide m1r1; have := unhide m2r1; have := unhide m3r1; have := unhide m4r1; have := unhide m5r1; have := unhide hs7; have := unhide hs8; have := unhide hs9; have := unhide hs10; have := unhide hs11; have := unhide hs12; have := unhide hs13; have := unhide hs14; have := unhide hs15; have := unhide hs16; have := unhide hs17; omega))
  replace r1a := hide ((unhide r1a).upd hu (by have := unhide hs1; have := unhide hs2; have := unhide hs3; have := unhide m1r0; have := unhide m2r0; have := unhide m3r0; have := unhide m4r0; have := unhide m5r0; have := unhide hs4; have := unhide hs5; have := unhide hs6; have := unhide m1r1; have := unhide m2r1; have := unhide m3r1; have := unhide m4r1; have := unhide m5r1; have := unhide hs7; have := unhide hs8; have := unhide hs9; have := unhide hs10; have := unhide hs11; have := unhide hs12; have := unhide hs13; have := unhide hs14; have := unhide hs15; have := unhide hs16; have := unhide hs17; omega))
  replace hB := hide (below_upd (unhide hB) hu (Nat.le_refl _) (by have := unhide hs1; have := unhide hs2; have := unhide hs3; have := unhide m1r0; have := unhide m2r0; have := unhide m3r0; have := unhide m4r0; have := unhide m5r0; have := unhide hs4; have := unhide hs5; have := unhide hs6; have := unhide m1r1; have := unhide m2r1; have := unhide m3r1; have := unhide m4r1; have := unhide m5r1; have := unhide hs7; have := unhide hs8; have := unhide hs9; have := unhide hs10; have := unhide hs11; have := unhide hs12; have := unhide hs13; have := unhide hs14; have := unhide hs15; have := unhide hs16; have := unhide hs17; omega))
  replace r1b := hide ho
  have hs18 : Hid (w17.heap.size ≤ w18.heap.size) := hide hu.size
  clear hu ho
  go_wp2_with fail
  refine (upd_of_same (heldIntS_own (a1r1) (b1r1) vr1a (1) (turF turA n0 zs1 zs2).length w18 (unhide hLa) (by have := unhide hLa; have := unhide hLb; omega) (unhide r1a))).mono ?_
  rintro e w19 ⟨rfl, hu⟩
  replace r0a := hide ((unhide r0a).keep hu)
  replace r0b := hide ((unhide r0b).keep hu)
  replace r1a := hide ((unhide r1a).keep hu)
  replace r1b := hide ((unhide r1b).keep hu)
  replace hB := hide (below_upd (unhide hB) hu (Nat.le_refl _) (.inr (Nat.le_refl _)))
  have hs19 : Hid (w18.heap.size ≤ w19.heap.size) := hide hu.size
  clear hu
  have hq1 : ¬ (((1 + (turF turA n0 zs1 zs2).length : Nat) : Int) < 0) := by omega
  go_wp2_with fail
  refine (upd_of_same (heldIntS_own (a2r1) (b2r1) vr1b (1 + (turF turA n0 zs1 zs2).length) (turF turB n0 zs1 zs2).length w19 (unhide hLb) (by have := unhide hLa; have := unhide hLb; omega) (unhide r1b))).mono ?_
  rintro e w20 ⟨rfl, hu⟩
  replace r0a := hide ((unhide r0a).keep hu)
  replace r0b := hide ((unhide r0b).keep hu)
  replace r1a := hide ((unhide r1a).keep hu)
  replace r1b := hide ((unhide r1b).keep hu)
  replace hB := hide (below_upd (unhide hB) hu (Nat.le_refl _) (.inr (Nat.le_refl _)))
  have hs20 : Hid (w19.heap.size ≤ w20.heap.size) := hide hu.size
  clear hu
  have hq2 : ¬ (((1 + (turF turA n0 zs1 zs2).length + (turF turB n0 zs1 zs2).length : Nat) : Int) < 0) := by omega
  go_wp2_with fail
  refine (toIntS_own ad1 cap1 zs1 w20 hn1 ((unhide hA1).below (unhide hB))).mono ?_
  rintro e w21 ⟨vy1_h0, rfl, ho, hu⟩
  replace r0a := hide ((unhide r0a).keep hu)
  replace r0b := hide ((unhide r0b).keep hu)
  replace r1a := hide ((unhide r1a).keep hu)
  replace r1b := hide ((unhide r1b).keep hu)
  replace hB := hide (below_upd (unhide hB) hu (Nat.le_refl _) (.inr (Nat.le_refl _)))
  have hs21 : Hid (w20.heap.size ≤ w21.heap.size) := hide hu.size
  have y1_h0 := hide ho
  clear hu ho
  go_wp2_with fail
  refine (toIntS_own ad2 cap2 zs2 w21 hn2 ((unhide hA2).below (unhide hB))).mono ?_
  rintro e w22 ⟨vy2_h0, rfl, ho, hu⟩
  replace r0a := hide ((unhide r0a).keep hu)
  replace r0b := hide ((unhide r0b).keep hu)
  replace r1a := hide ((unhide r1a).keep hu)
  replace r1b := hide ((unhide r1b).keep hu)
  replace y1_h0 := hide ((unhide y1_h0).keep hu)
  replace hB := hide (below_upd (unhide hB) hu (Nat.le_refl _) (.inr (Nat.le_refl _)))
  have hs22 : Hid (w21.heap.size ≤ w22.heap.size) := hide hu.size
  have y2_h0 := hide ho
  clear hu ho
  go_wp2_with fail
  refine (implTurn n0 vy1_h0 zs1 vy2_h0 zs2 w22 hl0 hh0 hn1 (unhide hR1) (OwnI.rd (unhide y1_h0)) hn2 (unhide hR2) (OwnI.rd (unhide y2_h0))).mono ?_
  rintro e w23 ⟨vr2a, vr2b, rfl, ⟨a1r2, b1r2, a2r2, b2r2, m1r2, m2r2, m3r2, m4r2, m5r2, ho1, ho2⟩, hu⟩
  replace r0a := hide ((unhide r0a).keep hu)
  replace r0b := hide ((unhide r0b).keep hu)
  replace r1a := hide ((unhide r1a).keep hu)
  replace r1b := hide ((unhide r1b).keep hu)
  replace y1_h0 := hide ((unhide y1_h0).keep hu)
  replace y2_h0 := hide ((unhide y2_h0).keep hu)
  replace hB := hide (below_upd (unhide hB) hu (Nat.le_refl _) (.inr (Nat.le_refl _)))
  have hs23 : Hid (w22.heap.size ≤ w23.heap.size) := hide hu.size
  clear hu
  have r2a := hide ho1
  have r2b := hide ho2
  replace m1r2 := hide m1r2
  replace m2r2 := hide m2r2
  replace m3r2 := hide m3r2
  replace m4r2 := hide m4r2
  replace m5r2 := hide m5r2
  clear ho1 ho2
  clear y1_h0 y2_h0
  go_wp2_with fail
  refine (eqIntS_rd vr2a vr0a (turF turA n0 zs1 zs2) w23 (unhide hLa) (OwnI.rd (unhide r2a)) (OwnI.rd (unhide r0a))).mono ?_
  rintro e w24 ⟨rfl, hu⟩
  replace r0a := hide ((unhide r0a).keep hu)
  replace r0b := hide ((unhide r0b).keep hu)
  replace r1a := hide ((unhide r1a).keep hu)
  replace r1b := hide ((unhide r1b).keep hu)
  replace r2a := hide ((unhide r2a).keep hu)
  replace r2b := hide ((unhide r2b).keep hu)
  replace hB := hide (below_upd (unhide hB) hu (Nat.le_refl _) (.inr (Nat.le_refl _)))
  have hs24 : Hid (w23.heap.size ≤ w24.heap.size) := hide hu.size
  clear hu
  go_wp2_with fail
  refine (eqIntS_rd vr2b vr0b (turF turB n0 zs1 zs2) w24 (unhide hLb) (OwnI.rd (unhide r2b)) (OwnI.rd (unhide r0b))).mono ?_
  rintro e w25 ⟨rfl, hu⟩
  replace r0a := hide ((unhide r0a).keep hu)
  replace r0b := hide ((unhide r0b).keep hu)
  replace r1a := hide ((unhide r1a).keep hu)
  replace r1b := hide ((unhide r1b).keep hu)
  replace r2a := hide ((unhide r2a).keep hu)
  replace r2b := hide ((unhide r2b).keep hu)
  replace hB := hide (below_upd (unhide hB) hu (Nat.le_refl _) (.inr (Nat.le_refl _)))
  have hs25 : Hid (w24.heap.size ≤ w25.heap.size) := hide hu.size
  clear hu
  go_wp2_with fail
  refine (upd_of_same (heldIntS_own (a1r1) (b1r1) vr1a (1) (turF turA n0 zs1 zs2).length w25 (unhide hLa) (by have := unhide hLa; have := unhide hLb; omega) (unhide r1a))).mono ?_
  rintro e w26 ⟨rfl, hu⟩
  replace r0a := hide ((unhide r0a).keep hu)
  replace r0b := hide ((unhide r0b).keep hu)
  replace r1a := hide ((unhide r1a).keep hu)
  replace r1b := hide ((unhide r1b).keep hu)
  replace r2a := hide ((unhide r2a).keep hu)
  replace r2b := hide ((unhide r2b).keep hu)
  replace hB := hide (below_upd (unhide hB) hu (Nat.le_refl _) (.inr (Nat.le_refl _)))
  have hs26 : Hid (w25.heap.size ≤ w26.heap.size) := hide hu.size
  clear hu
  go_wp2_with fail
  refine (upd_of_same (heldIntS_own (a2r1) (b2r1) vr1b (1 + (turF turA n0 zs1 zs2).length) (turF turB n0 zs1 zs2).length w26 (unhide hLb) (by have := unhide hLa; have := unhide hLb; omega) (unhide r1b))).mono ?_
  rintro e w27 ⟨rfl, hu⟩
  replace r0a := hide ((unhide r0a).keep hu)
  replace r0b := hide ((unhide r0b).keep hu)
  replace r1a := hide ((unhide r1a).keep hu)
  replace r1b := hide ((unhide r1b).keep hu)
  replace r2a := hide ((unhide r2a).keep hu)
  replace r2b := hide ((unhide r2b).keep hu)
  replace hB := hide (below_upd (unhide hB) hu (Nat.le_refl _) (.inr (Nat.le_refl _)))
  have hs27 : Hid (w26.heap.size ≤ w27.heap.size) := hide hu.size
  clear hu
  go_wp2_with fail
  go_ret
  exact ⟨rfl, unhide hB⟩

theorem lawTurn (n0 : Int) (ad1 : Option Addr) (cap1 : Nat) (zs1 : List Int) (ad2 : Option Addr) (cap2 : Nat) (zs2 : List Int) (w : World)   (hl0 : -9223372036854775808 ≤ n0) (hh0 : n0 ≤ 9223372036854775807) (hA1 : ArgI w ad1 zs1) (hR1 : InI zs1) (hA2 : ArgI w ad2 zs2) (hR2 : InI zs2) :
    Calls Try.prog 8 #[.int .i64 n0, .slice ad1 zs1.length cap1, .slice ad2 zs2.length cap2] w fun e w' => e = .returned (.bool true) ∧ Below w.heap.size w w' := by
  by_cases h1 : 1048576 < zs1.length
  · exact lawTurn_long1 n0 ad1 cap1 zs1 ad2 cap2 zs2 w  h1
  by_cases h2 : 1048576 < zs2.length
  · exact lawTurn_long2 n0 ad1 cap1 zs1 ad2 cap2 zs2 w (by omega) h2
  exact lawTurn_short n0 ad1 cap1 zs1 ad2 cap2 zs2 w  (by omega) (by omega) hl0 hh0 hA1 hR1 hA2 hR2
end Go.Proofs.Ytailhdfmfmlniaa
