/- The drawing of a number and of the place of its marks. -/
import Derived.Test.YtocoeodoihdkgaaWToB
namespace Go.Proofs.Ytocoeodoihdkgaa
open Go.RowKit

set_option maxHeartbeats 16000000 in
set_option maxRecDepth 100000 in
theorem specDrawMarks (ad : Option Addr) (cap : Nat) (zs : List Int) (w : World) (h : ArgB w ad zs) (hl : zs.length ≤ 1048576) :
    Calls Try.prog 22 #[.slice ad zs.length cap] w fun e w' => ∃ n f, e = .returned (.tuple #[.int .i64 n, .int .i64 f]) ∧ (-1 ≤ n ∧ n ≤ 70000) ∧ (0 ≤ f ∧ f ≤ 1000) ∧ Below w.heap.size w w' := by
  have hD0 : DwSt w (w.alloc (.cells #[.slice ad zs.length cap, .int .i64 0, .int .u64 0] 76)) ad cap zs 0 := ⟨curIn_new _ ad cap zs h, (Below.refl w.heap.size w).alloc (Nat.le_refl _) _, by simp⟩
  replace hD0 := hide hD0
  clear h
  go_enter Try.func22, Try.ntmps22
  go_wp2_with fail
  generalize w.alloc (.cells #[.slice ad zs.length cap, .int .i64 0, .int .u64 0] 76) = w0 at hD0 ⊢
  refine (curPickBig w.heap.size ad cap zs 0 300 w0 (unhide hD0).cur (by omega) hl (by omega)).mono ?_
  rintro e w1 ⟨n, rfl, n0, n1, hc, ho⟩
  replace n1 := n1 (by omega)
  have hD := hide ((unhide hD0).pick hc ho)
  clear hc ho hD0
  go_wp2_with fail
  refine (curOne w.heap.size ad cap zs _ 3 w1 (unhide hD).cur (by omega) hl (by omega) (by omega)).mono ?_
  rintro e w2 ⟨b1, rfl, hc, ho⟩
  replace hD := hide ((unhide hD).pick hc ho)
  clear hc ho
  go_upto_if 13 with fail
  go_cut [5] (fun s wx => ∃ N : Int, s = .int .i64 N ∧ (0 ≤ N ∧ N ≤ 70000) ∧ Hid (DwSt w wx ad cap zs 100))
  case first =>
    cases b1
    · go_wp2
      go_meet
      exact ⟨n, rfl, by omega, hide ((unhide hD).more (by omega))⟩
    · go_wp2_with fail
      refine (curPickBig w.heap.size ad cap zs _ 4 w2 (unhide hD).cur (by omega) hl (by omega)).mono ?_
      rintro e w4 ⟨pk, rfl, pk0, pk1, hc, ho⟩
      replace pk1 := pk1 (by omega)
      replace hD := hide ((unhide hD).pick hc ho)
      clear hc ho
      go_wp2
      go_meet
      exact ⟨65534 + pk, rfl, by omega, hide ((unhide hD).more (by omega))⟩
  case rest =>
    clear hD n0 n1
    obtain ⟨N, rfl, ⟨N0, N1⟩, hD⟩ := hcut
    go_wp2_with fail
    refine (curPickBig w.heap.size ad cap zs _ 60 wc (unhide hD).cur (by omega) hl (by omega)).mono ?_
    rintro e w4 ⟨f, rfl, f0, f1, hc, ho⟩
    replace f1 := f1 (by omega)
    replace hD := hide ((unhide hD).pick hc ho)
    clear hc ho
    go_wp2_with fail
    refine (curOne w.heap.size ad cap zs _ 6 w4 (unhide hD).cur (by omega) hl (by omega) (by omega)).mono ?_
    rintro e w5 ⟨b2, rfl, hc, ho⟩
    replace hD := hide ((unhide hD).pick hc ho)
    clear hc ho
    go_upto_if 20 with fail
    go_cut [6] (fun s wx => ∃ F : Int, s = .int .i64 F ∧ (0 ≤ F ∧ F ≤ 1000) ∧ Hid (DwSt w wx ad cap zs 200))
    case first =>
      cases b2
      · go_wp2
        go_meet
        exact ⟨f, rfl, by omega, hide ((unhide hD).more (by omega))⟩
      · go_wp2_with fail
        refine (curPickBig w.heap.size ad cap zs _ 4 w5 (unhide hD).cur (by omega) hl (by omega)).mono ?_
        rintro e w6 ⟨pk, rfl, pk0, pk1, hc, ho⟩
        replace pk1 := pk1 (by omega)
        replace hD := hide ((unhide hD).pick hc ho)
        clear hc ho
        go_wp2
        go_meet
        exact ⟨471 + pk, rfl, by omega, hide ((unhide hD).more (by omega))⟩
    case rest =>
      clear hD f0 f1
      obtain ⟨F, rfl, ⟨F0, F1⟩, hD⟩ := hcut
      go_wp2_with fail
      refine (curOne w.heap.size ad cap zs _ 12 wc (unhide hD).cur (by omega) hl (by omega) (by omega)).mono ?_
      rintro e w6 ⟨b3, rfl, hc, ho⟩
      replace hD := hide ((unhide hD).pick hc ho)
      clear hc ho
      cases b3
      · go_wp2
        go_ret2
        exact ⟨N, F, rfl, by omega, by omega, (unhide hD).be⟩
      · go_wp2
        go_ret2
        exact ⟨-1, F, rfl, by omega, by omega, (unhide hD).be⟩
end Go.Proofs.Ytocoeodoihdkgaa
