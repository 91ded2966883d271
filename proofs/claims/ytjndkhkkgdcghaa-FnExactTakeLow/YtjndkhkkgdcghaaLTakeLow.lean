/- The law on TakeLow, walked. -/
import Derived.Test.YtjndkhkkgdcghaaWTake6
namespace Go.Proofs.Ytjndkhkkgdcghaa
open Go.RowKit

set_option maxHeartbeats 1000000 in
theorem lawTakeLow_long (ad : Option Addr) (n cap : Nat) (p q : Int) (w : World) (hn : 1048576 < n) :
    Calls Try.prog 8 #[.slice ad n cap, .int .i64 p, .int .i64 q] w fun e w' => e = .returned (.bool true) ∧ Below w.heap.size w w' := by
  go_enter Try.func8, Try.ntmps8
  go_wp2
  go_ret
  exact ⟨rfl, Below.refl _ _⟩

set_option maxHeartbeats 1000000 in
theorem lawTakeLow_short (ad : Option Addr) (cap : Nat) (zs : List Int) (p q : Int) (w : World) (h : ArgB w ad zs) (hn : zs.length ≤ 1048576) :
    Calls Try.prog 8 #[.slice ad zs.length cap, .int .i64 p, .int .i64 q] w fun e w' => e = .returned (.bool true) ∧ Below w.heap.size w w' := by
  have hz := h.1
  obtain ⟨o, v, n, hV⟩ := numV_agg (tk lowTo zs p q)
  replace hV := hide hV
  replace h := hide h
  replace hz := hide hz
  go_enter Try.func8, Try.ntmps8
  go_wp2_with fail
  refine (toByteS_arg ad cap zs w (unhide h) hn).mono ?_
  rintro e w1 ⟨g1, rfl, ho1, hb1⟩
  go_wp2_with fail
  refine (specTakeLow g1 zs.length zs p q w1 (unhide hz) ho1 hn).mono ?_
  rintro e w2 ⟨rfl, hb2⟩
  rw [unhide hV]
  have hb12 := hb1.trans (hb2.mono hb1.size)
  clear hb1 hb2 ho1
  go_wp2_with fail
  have hN := hide (numAt_new w2 o v n)
  have hbA := hb12.alloc hb12.size (.cells #[.bool o, .int .u64 v, .int .i64 n] 32)
  generalize w2.heap.size = bA at hN ⊢
  generalize w2.alloc (.cells #[.bool o, .int .u64 v, .int .i64 n] 32) = wA at hN hbA ⊢
  clear hb12
  refine (toByteS_arg ad cap zs wA ((unhide h).below hbA) hn).mono ?_
  rintro e w3 ⟨g2, rfl, ho2, hb3⟩
  replace hN := hide ((unhide hN).below hb3)
  replace hbA := hbA.trans (hb3.mono hbA.size)
  clear hb3
  go_wp2_with fail
  refine (implTakeLow g2 zs.length zs p q w3 (unhide hz) ho2 hn).mono ?_
  rintro e w4 ⟨rfl, hb4⟩
  rw [unhide hV]
  replace hN := hide ((unhide hN).below hb4)
  replace hbA := hbA.trans (hb4.mono hbA.size)
  replace ho2 := ho2.below hb4
  clear hb4
  have hA1 := Below.alloc (Below.refl w4.heap.size w4) (Nat.le_refl _) (.cells #[.bool o, .int .u64 v, .int .i64 n] 32)
  have hN1 := (unhide hN).below hA1
  have hN2 := numAt_new w4 o v n
  obtain ⟨_, a0, a1, a2⟩ := hN1
  obtain ⟨_, c0, c1, c2⟩ := hN2
  replace ho2 := ho2.below hA1
  replace hbA := hbA.trans (hA1.mono hbA.size)
  clear hA1 hN
  go_wp2_with fail
  refine (eqNumber_eq o v n _).mono ?_
  rintro e w5 ⟨rfl, hb5⟩
  replace ho2 := ho2.below hb5
  replace hbA := hbA.trans (hb5.mono hbA.size)
  clear hb5 a0 a1 a2 c0 c1 c2
  go_wp2_with fail
  refine (toByteS_arg ad cap zs w5 ((unhide h).below hbA) hn).mono ?_
  rintro e w6 ⟨g3, rfl, ho3, hb6⟩
  replace ho2 := ho2.below hb6
  replace hbA := hbA.trans (hb6.mono hbA.size)
  clear hb6
  go_wp2_with fail
  refine (eqByteS_own g2 g3 zs.length zs.length zs w6 hn ho2 ho3).mono ?_
  rintro e w7 ⟨rfl, hb7⟩
  replace hbA := hbA.trans (hb7.mono hbA.size)
  go_wp2_with fail
  go_ret
  exact ⟨rfl, hbA⟩
theorem lawTakeLow (ad : Option Addr) (cap : Nat) (zs : List Int) (p q : Int) (w : World) (h : ArgB w ad zs) (_ : -9223372036854775808 ≤ p) (_ : p ≤ 9223372036854775807) (_ : -9223372036854775808 ≤ q) (_ : q ≤ 9223372036854775807) :
    Calls Try.prog 8 #[.slice ad zs.length cap, .int .i64 p, .int .i64 q] w fun e w' => e = .returned (.bool true) ∧ Below w.heap.size w w' := by
  by_cases hn : 1048576 < zs.length
  · exact lawTakeLow_long ad _ cap p q w hn
  · exact lawTakeLow_short ad cap zs p q w h (by omega)
end Go.Proofs.Ytjndkhkkgdcghaa
