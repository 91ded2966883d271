/- The law on Crc, walked. -/
import Derived.Test.YtjndkhkkgdcghaaWCrc2
import Derived.Test.YtjndkhkkgdcghaaWBytes2
namespace Go.Proofs.Ytjndkhkkgdcghaa
open Go.RowKit

set_option maxHeartbeats 1000000 in
theorem lawCrc_long (ad : Option Addr) (n cap : Nat) (w : World) (hn : 1048576 < n) :
    Calls Try.prog 14 #[.slice ad n cap] w fun e w' => e = .returned (.bool true) ∧ Below w.heap.size w w' := by
  go_enter Try.func14, Try.ntmps14
  go_wp2
  go_ret
  exact ⟨rfl, Below.refl _ _⟩

set_option maxHeartbeats 1000000 in
theorem lawCrc_short (ad : Option Addr) (cap : Nat) (zs : List Int) (w : World) (h : ArgB w ad zs) (hn : zs.length ≤ 1048576) :
    Calls Try.prog 14 #[.slice ad zs.length cap] w fun e w' => e = .returned (.bool true) ∧ Below w.heap.size w w' := by
  have hz := h.1
  replace h := hide h
  replace hz := hide hz
  go_enter Try.func14, Try.ntmps14
  go_wp2_with fail
  refine (toByteS_arg ad cap zs w (unhide h) hn).mono ?_
  rintro e w1 ⟨g1, rfl, ho1, hb1⟩
  go_wp2_with fail
  refine (specCrc g1 0 zs.length zs.length zs w1 rfl (by omega) (unhide hz) ho1.2).mono ?_
  rintro e w1' ⟨rfl, hw1⟩
  subst hw1
  go_wp2_with fail
  refine (toByteS_arg ad cap zs w1' ((unhide h).below hb1) hn).mono ?_
  rintro e w2 ⟨g2, rfl, ho2, hb2⟩
  have hb12 := hb1.trans (hb2.mono hb1.size)
  go_wp2_with fail
  refine (implCrc g2 0 zs.length zs.length zs w2 rfl (by omega) ho2.1 (unhide hz) ho2.2).mono ?_
  rintro e w2' ⟨rfl, hbc⟩
  replace ho2 := ho2.below hbc
  replace hb12 := hb12.trans (hbc.mono hb12.size)
  go_wp2_with fail
  refine (toByteS_arg ad cap zs w2' ((unhide h).below hb12) hn).mono ?_
  rintro e w3 ⟨g3, rfl, ho3, hb3⟩
  have hb13 := hb12.trans (hb3.mono hb12.size)
  go_wp2_with fail
  refine (eqByteS_own g2 g3 zs.length zs.length zs w3 hn (ho2.below hb3) ho3).mono ?_
  rintro e w4 ⟨rfl, hb4⟩
  have hb14 := hb13.trans (hb4.mono hb13.size)
  go_wp2_with fail
  go_ret
  exact ⟨rfl, hb14⟩
theorem lawCrc (ad : Option Addr) (cap : Nat) (zs : List Int) (w : World) (h : ArgB w ad zs) :
    Calls Try.prog 14 #[.slice ad zs.length cap] w fun e w' => e = .returned (.bool true) ∧ Below w.heap.size w w' := by
  by_cases hn : 1048576 < zs.length
  · exact lawCrc_long ad _ cap w hn
  · exact lawCrc_short ad cap zs w h (by omega)
end Go.Proofs.Ytjndkhkkgdcghaa
