/- Which lists are blocks, which are scales: the walks of both sides. -/
import Derived.Test.YtpofmcepjmbmcaaDoorPlainBl
import Derived.Test.YtpofmcepjmbmcaaDoorWInts
namespace Go.Proofs.YtpofmcepjmbmcaaDoor
open Go.RowKit

set_option maxHeartbeats 4000000 in
theorem implWithin (ad : Option Addr) (cap : Nat) (zs : List Int) (lo hi : Int) (w : World) (hn : zs.length ≤ 1048576) (hA : ArgI w ad zs) :
    Calls Tryd.prog 102 #[.slice ad zs.length cap, .int .i64 lo, .int .i64 hi] w fun e w' => e = .returned (.bool (inRB lo hi zs)) ∧ Upd 0 0 w w' := by
  replace hA := hide hA
  have hNo : Hid (∀ k, k < zs.length → ¬ (lo ≤ zs.getD k 0 ∧ zs.getD k 0 ≤ hi) → inRB lo hi zs = false) := hide (fun k hk h => inRB_no (fun h' => h (h' k hk)))
  have hYes : Hid ((∀ j, j < zs.length → (lo ≤ zs.getD j 0 ∧ zs.getD j 0 ≤ hi)) → inRB lo hi zs = true) := hide (fun h => inRB_yes h)
  go_enter Tryd.func102, Tryd.ntmps102
  go_wp2
  go_loop [11] (fun i => ∃ k : Nat, k ≤ zs.length ∧ i = .int .i64 k ∧ Hid (∀ j, j < k → (lo ≤ zs.getD j 0 ∧ zs.getD j 0 ≤ hi))) (fun i => zs.length - (intOf i).toNat)
  case atStart => exact ⟨0, Nat.zero_le _, rfl, fun j hj => by omega⟩
  case round =>
    obtain ⟨k, hk', rfl, hok⟩ := hrel
    by_cases hlt : k < zs.length
    · obtain ⟨bb, off, rfl, hbl, hcl⟩ := (unhide hA) (ne_of_lt_length hlt)
      have hck := hcl k hlt
      have hbad := hide (unhide hNo k hlt)
      have hOk : Hid ((lo ≤ zs.getD k 0 ∧ zs.getD k 0 ≤ hi) → ∀ j, j < k + 1 → (lo ≤ zs.getD j 0 ∧ zs.getD j 0 ≤ hi)) := hide (fun h j hj => by
        rcases Nat.lt_or_eq_of_le (Nat.le_of_lt_succ hj) with h' | h'
        · exact unhide hok j h'
        · subst h'; exact h)
      clear hcl hbl
      generalize zs.getD k 0 = x at hck hbad hOk
      by_cases h1 : x < lo
      · have hB := hide (unhide hbad (fun h => by have := h.1; omega))
        clear hbad hOk
        go_wp2
        go_ret
        exact ⟨by rw [unhide hB]; rfl, Upd.refl 0 0 _⟩
      · by_cases h2 : hi < x
        · have hB := hide (unhide hbad (fun h => by have := h.2; omega))
          clear hbad hOk
          go_wp2
          go_ret
          exact ⟨by rw [unhide hB]; rfl, Upd.refl 0 0 _⟩
        · have hok2 := hide (unhide hOk ⟨by omega, by omega⟩)
          clear hbad hOk
          go_wp2
          all_goals
            go_round
            case rel => exact ⟨k + 1, by omega, by go_num, unhide hok2⟩
            case measure => simp [intOf]; omega
    · have hkl : k = zs.length := by omega
      subst hkl
      have hs := hide (unhide hYes (unhide hok))
      go_wp2
      go_ret
      exact ⟨by rw [unhide hs]; rfl, Upd.refl 0 0 _⟩
end Go.Proofs.YtpofmcepjmbmcaaDoor
