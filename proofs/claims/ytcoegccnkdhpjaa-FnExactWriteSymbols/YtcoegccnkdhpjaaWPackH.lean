/- The program's and the specification's packing in high order, told once for those who call it. -/
import Derived.Test.YtcoegccnkdhpjaaWPack
namespace Go.Proofs.Ytcoegccnkdhpjaa
open Go.RowKit

set_option maxHeartbeats 1000000 in
theorem implPackHighAll (hPut : PutSaid true) (g cap : Nat) (fs : List (Int × Int)) (w : World) (hI : InF fs) (hO : OwnF w g fs) :
    Calls Try.prog 14 #[.slice (some ⟨g, 0, none⟩) fs.length cap] w fun e w' => ∃ v, e = .returned v ∧ w'.ownsRow w.heap.size 5 1 v (packF true fs).length (vals (packF true fs)) ∧ Below w.heap.size w w' := by
  have hC : Calls Try.prog 48 #[.slice (some ⟨g, 0, none⟩) fs.length cap, .int .i64 1] w fun e w' => ∃ v, e = .returned v ∧ w'.ownsRow w.heap.size 5 1 v (packF true fs).length (vals (packF true fs)) ∧ Below w.heap.size w w' := by
    by_cases hn : fs.length ≤ 20000
    · exact implPackFew true hPut g cap fs w hI hn hO
    · rw [packF_many true fs (by omega)]
      exact (implPackMany 1 _ _ cap w (by omega)).mono fun e w' ⟨he, hb⟩ => ⟨_, he, World.ownsRow_nil _ _ _ _, hb⟩
  replace hC := hide hC
  clear hI hO hPut
  go_enter Try.func14, Try.ntmps14
  go_wp2_with fail
  refine (unhide hC).mono ?_
  rintro e w1 ⟨v, rfl, hown, hb⟩
  replace hown := hide hown
  clear hC
  go_wp2
  go_ret
  exact ⟨v, rfl, unhide hown, hb⟩
end Go.Proofs.Ytcoegccnkdhpjaa
