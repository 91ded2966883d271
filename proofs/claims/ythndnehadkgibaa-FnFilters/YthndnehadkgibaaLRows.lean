/- The law of rows, walked: drawn samples packed by the program and by the specification, and unpacked again. -/
import Derived.Test.YthndnehadkgibaaWDraR
import Derived.Test.YthndnehadkgibaaWRowA
import Derived.Test.YthndnehadkgibaaWRowB
import Derived.Test.YthndnehadkgibaaWRowD
import Derived.Test.YthndnehadkgibaaPlainI3
import Derived.Test.YthndnehadkgibaaWDw
namespace Go.Proofs.Ythndnehadkgibaa
open Go.RowKit

theorem argB_of_Y {w : World} {ad : Option Addr} {zs : List Int} (h : ArgY w ad zs) (hR : InB zs) : ArgB w ad zs :=
  ⟨hR, fun hne => by
    obtain ⟨b, off, e, hl, hc⟩ := h hne
    exact ⟨b, off, e, hl, hc⟩⟩

set_option maxHeartbeats 1000000 in
theorem lawRows_long (ad : Option Addr) (cap : Nat) (zs : List Int) (w : World) (hn : 1048576 < zs.length) :
    Calls Try.prog 4 #[.slice ad zs.length cap] w fun e w' => e = .returned (.bool true) ∧ Below w.heap.size w w' := by
  go_enter Try.func4, Try.ntmps4
  go_wp2
  go_ret
  exact ⟨rfl, Below.refl _ _⟩

set_option maxHeartbeats 4000000 in
theorem lawRows_short (ad : Option Addr) (cap : Nat) (zs : List Int) (w : World) (hA : ArgY w ad zs) (hR : InB zs) (hn : zs.length ≤ 1048576) :
    Calls Try.prog 4 #[.slice ad zs.length cap] w fun e w' => e = .returned (.bool true) ∧ Below w.heap.size w w' := by
  have hK := hide (drawPackRow ad cap zs w (argB_of_Y hA hR) hn)
  clear hA hR
  go_enter Try.func4, Try.ntmps4
  go_wp2_with fail
  refine (unhide hK).mono ?_
  rintro e w1 ⟨v, xs, d, rfl, hxl, hxI, ⟨hd0, hd1⟩, hov, hB⟩
  clear hK
  replace hxI := hide hxI
  replace hB := hide hB
  have x0 := hide hov
  clear hov
  have hxl2 : xs.length ≤ 1048576 := by omega
  have hL := hide (rowF_len xs d)
  go_wp2_with fail
  refine (implPackRow v xs d w1 hxl2 (unhide hxI) (OwnI.rd (unhide x0)) (by omega) (by omega)).mono ?_
  rintro e w2 ⟨v1, rfl, ho, hu⟩
  replace x0 := hide ((unhide x0).keep hu)
  replace hB := hide (below_upd (unhide hB) hu (Nat.le_refl _) (.inr (Nat.le_refl _)))
  have r0 := hide ho
  clear hu ho
  go_wp2_with fail
  refine (specPackRow v xs d w2 hxl2 (unhide hxI) (OwnI.rd (unhide x0)) (by omega) (by omega)).mono ?_
  rintro e w3 ⟨v2, rfl, ho, hu⟩
  replace x0 := hide ((unhide x0).keep hu)
  replace r0 := hide ((unhide r0).keep hu)
  replace hB := hide (below_upd (unhide hB) hu (Nat.le_refl _) (.inr (Nat.le_refl _)))
  have r1 := hide ho
  clear hu ho
  go_wp2_with fail
  refine (wBytes_rd v1 v2 (rowF xs d) w3 (unhide hL) (OwnY.rd (unhide r0)) (OwnY.rd (unhide r1))).mono ?_
  rintro e w4 ⟨rfl, hu⟩
  replace x0 := hide ((unhide x0).keep hu)
  replace r0 := hide ((unhide r0).keep hu)
  replace hB := hide (below_upd (unhide hB) hu (Nat.le_refl _) (.inr (Nat.le_refl _)))
  clear hu r1
  obtain ⟨ad1, cap1, rfl, hr1⟩ := OwnY.rd (unhide r0)
  replace hr1 := hide hr1
  clear r0
  by_cases hz : (rowF xs d).length = 0
  · clear hr1 x0 hxI hL
    go_wp2
    go_ret
    exact ⟨rfl, unhide hB⟩
  · have hok : Hid (RowOk xs d) := hide (by
      rcases Classical.em (RowOk xs d) with h | h
      · exact h
      · exact absurd (by rw [rowF_no h]; rfl) hz)
    have hup := hide (up_row (unhide hok))
    have hpos : 0 < (rowF xs d).length := by omega
    obtain ⟨ad2, cap2, rfl, hx2⟩ := OwnI.rd (unhide x0)
    replace hx2 := hide hx2
    have hlen := unhide hL
    generalize hm : rowF xs d = bs at *
    replace hm := hide hm
    go_wp2_with fail
    refine (implUnpackRow (.slice ad1 bs.length cap1) bs xs.length d w4 hlen (by rw [← unhide hm]; exact rowF_inB) ⟨ad1, cap1, rfl, unhide hr1⟩ (by omega) (by omega) (by omega) (by omega)).mono ?_
    rintro e w5 ⟨v3, rfl, ho, hu⟩
    rw [unhide hup] at ho
    have x3 := hide ho
    replace hB := hide (below_upd (unhide hB) hu (Nat.le_refl _) (.inr (Nat.le_refl _)))
    replace x0 := hide ((unhide x0).keep hu)
    clear hu ho
    go_wp2_with fail
    refine (wInts_rd v3 (.slice ad2 xs.length cap2) xs w5 hxl2 (OwnI.rd (unhide x3)) (OwnI.rd (unhide x0))).mono ?_
    rintro e w6 ⟨rfl, hu⟩
    replace hB := hide (below_upd (unhide hB) hu (Nat.le_refl _) (.inr (Nat.le_refl _)))
    clear hu
    go_wp2_with fail
    go_ret
    exact ⟨rfl, unhide hB⟩

theorem lawRows (ad0 : Option Addr) (cap0 : Nat) (zs0 : List Int) (w : World) (hA0 : ArgY w ad0 zs0) (hR0 : InB zs0) :
    Calls Try.prog 4 #[.slice ad0 zs0.length cap0] w fun e w' => e = .returned (.bool true) ∧ Below w.heap.size w w' := by
  by_cases h0 : 1048576 < zs0.length
  · exact lawRows_long ad0 cap0 zs0 w h0
  exact lawRows_short ad0 cap0 zs0 w hA0 hR0 (by omega)
end Go.Proofs.Ythndnehadkgibaa
