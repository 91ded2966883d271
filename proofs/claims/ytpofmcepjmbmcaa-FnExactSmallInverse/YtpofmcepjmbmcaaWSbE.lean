/- Which small blocks are good, and their sums: the program's walks. -/
import Derived.Test.YtpofmcepjmbmcaaWSbD
import Derived.Test.YtpofmcepjmbmcaaW8A
namespace Go.Proofs.Ytpofmcepjmbmcaa
open Go.RowKit

theorem implGoodSmall (ad : Option Addr) (cap : Nat) (zs : List Int) (w : World) (hn : zs.length ≤ 1048576) (hA : ArgI w ad zs) :
    Calls Try.prog 71 #[.slice ad zs.length cap] w fun e w' => e = .returned (.bool (smB zs)) ∧ Upd 0 0 w w' := by
  have hW := hide (fun W (h : ArgI W ad zs) => implWithin ad cap zs (-65536) 65535 W hn h)
  replace hA := hide hA
  by_cases hl : zs.length = 16
  case neg =>
    rw [smB_no (fun h => hl h.1)]
    have hb : ((zs.length : Int) == 16) = false := by simp; omega
    clear hW hA hl
    go_enter Try.func71, Try.ntmps71
    go_wp2
    go_ret
    exact ⟨rfl, Upd.refl 0 0 _⟩
  have hE : smB zs = inRB (-65536) 65535 zs := by
    by_cases h : InR (-65536) 65535 zs
    · rw [smB_yes ⟨hl, h⟩, inRB_yes h]
    · rw [smB_no (fun h' => h h'.2), inRB_no h]
  rw [hE]
  have hb : ((zs.length : Int) == 16) = true := by simp; omega
  clear hE
  replace hl := hide hl
  go_enter Try.func71, Try.ntmps71
  go_wp2_with fail
  refine (unhide hW _ (unhide hA)).mono ?_
  rintro e w1 ⟨rfl, hu⟩
  go_wp2
  go_ret
  exact ⟨rfl, hu⟩
theorem smFwd_yes {zs : List Int} (h : SmOk zs) : smFwd zs = turn4 sumS (turn4 sumS zs) := by unfold smFwd; rw [if_pos (smB_yes h)]
theorem smFwd_no {zs : List Int} (h : ¬ SmOk zs) : smFwd zs = [] := by unfold smFwd; rw [if_neg (by rw [smB_no h]; decide)]
theorem smInv_yes {zs : List Int} (h : SmOk zs) : smInv zs = tab16 (smInvZ zs) := by unfold smInv; rw [if_pos (smB_yes h)]
theorem smInv_no {zs : List Int} (h : ¬ SmOk zs) : smInv zs = [] := by unfold smInv; rw [if_neg (by rw [smB_no h]; decide)]
theorem inR_wide {lo hi lo' hi' : Int} {xs : List Int} (h : InR lo hi xs) (hl : lo' ≤ lo) (hh : hi ≤ hi') : InR lo' hi' xs := fun j hj => by have := h j hj; omega
end Go.Proofs.Ytpofmcepjmbmcaa
