/- slices.Clone of a list of ints. -/
import Derived.Test.YtailhdfmfmlniaaWAppI
import Derived.Deep.RegionWith
import Derived.Lib.SliceRun
namespace Go.Proofs.Ytailhdfmfmlniaa
open Go.RowKit

set_option maxHeartbeats 1000000 in
set_option maxRecDepth 100000 in
theorem cloneI (u : Value) (zs : List Int) (w : World) (hn : zs.length ≤ 1048576) (hr : RdJ w u zs) :
    Calls Try.prog 77 #[u] w fun e w' => ∃ v, e = .returned v ∧ OwnI w' w.heap.size w'.heap.size v zs ∧ Upd 0 0 w w' := by
  have hr0 := hide hr
  rcases hr with ⟨rfl, rfl⟩ | ⟨b, off, cap, rfl, _, _⟩
  · have hq := Lib.run_eql_slice_nil (P := Try.prog) w 23 3 none 0 0 0 0 Try.underlying23
    go_enter Try.func77, Try.ntmps77
    go_wp2
    go_ret
    exact ⟨_, rfl, own_nilI _ _ _, Upd.refl _ _ _⟩
  · have hq := Lib.run_eql_slice_nil (P := Try.prog) w 23 3 (some ⟨b, off, none⟩) zs.length cap 0 0 Try.underlying23
    have hb1 := (Below.refl w.heap.size w).alloc (Nat.le_refl _) (.cells #[] 3)
    have ho1 := World.ownsRow_made (base := w.heap.size) (e := 3) (size := 1) w #[] 0 (Nat.le_refl _) (by unfold maxLen; omega) rfl
    have hr1 := hide ((unhide hr0).below hb1)
    replace hb1 := hide hb1
    replace ho1 := hide ho1
    go_enter Try.func77, Try.ntmps77
    go_wp2_with (at_builtin; go_loud (refine wpList_appI rfl (.tmp 5) (.tmp 6) rfl w.heap.size _ [] rfl (unhide ho1) _ zs rfl (unhide hr1) (by simp; omega) (by simp) ?_))
    intro v2 w2 ho2 hg2 _
    have hb2 := hide (below_upd (unhide hb1) (upd_of_grownI hg2 (unhide ho1)) (Nat.le_refl _) (.inl (Nat.le_refl _)))
    have hO := hide (Own.of (show w2.ownsRow w.heap.size 3 1 v2 zs.length (ints zs) from ho2))
    clear ho2 hg2
    go_wp2
    go_ret
    exact ⟨_, rfl, unhide hO, Upd.of_below (unhide hb2) 0 0⟩
end Go.Proofs.Ytailhdfmfmlniaa
