/- The walks of PackRow: the program's. -/
import Derived.Test.YtpofmcepjmbmcaaPlainI
import Derived.Test.YtpofmcepjmbmcaaWInts
import Derived.Test.YtpofmcepjmbmcaaWPutD
import Derived.Deep.RegionWith
namespace Go.Proofs.Ytpofmcepjmbmcaa
open Go.RowKit

theorem own_nilYS (w : World) (a b : Nat) : OwnY w a b (.slice none 0 0) [] := ⟨World.ownsRow_nil _ _ _ _, fun k hk => by simp [Value.ownBlock] at hk⟩

noncomputable def smpB (zs : List Int) (d : Int) : Bool := open Classical in decide (SmpOk zs d)
theorem smpB_yes {zs : List Int} {d : Int} (h : SmpOk zs d) : smpB zs d = true := by unfold smpB; simpa using h
theorem smpB_no {zs : List Int} {d : Int} (h : ¬ SmpOk zs d) : smpB zs d = false := by unfold smpB; simpa using h
theorem smpB_iff {zs : List Int} {d : Int} : smpB zs d = true ↔ SmpOk zs d := by unfold smpB; simp

set_option maxHeartbeats 2000000 in
theorem implGoodSamples (v : Value) (zs : List Int) (D : Nat) (w : World) (hD : D ≤ 16) (hn : zs.length ≤ 1048576) (hv : RdI w v zs) :
    Calls Try.prog 67 #[v, .int .i64 D] w fun e w' => e = .returned (.bool (smpB zs D)) ∧ w' = w := by
  obtain ⟨ad, cap, rfl, hA⟩ := hv
  replace hA := hide hA
  have hBad : Hid (∀ k, k < zs.length → ¬ (0 ≤ zs.getD k 0 ∧ zs.getD k 0 < 2 ^ D) → smpB zs D = false) := hide (fun k hk' hb => smpB_no (fun h => hb (by have := h k hk'; simpa using this)))
  have hGood : Hid ((∀ k, k < zs.length → (0 ≤ zs.getD k 0 ∧ zs.getD k 0 < 2 ^ D)) → smpB zs D = true) := hide (fun h => smpB_yes (fun j hj => by have := h j hj; simpa using this))
  have hp := two_pow_16 hD
  go_enter Try.func67, Try.ntmps67
  go_wp2
  go_loop [9] (fun i => ∃ k : Nat, k ≤ zs.length ∧ i = .int .i64 k ∧ Hid (∀ j, j < k → (0 ≤ zs.getD j 0 ∧ zs.getD j 0 < 2 ^ D))) (fun i => zs.length - (intOf i).toNat)
  case atStart => exact ⟨0, Nat.zero_le _, rfl, fun j hj => by omega⟩
  case round =>
    obtain ⟨k, hk', rfl, hok⟩ := hrel
    by_cases hlt : k < zs.length
    · obtain ⟨b, off, rfl, hbl, hcl⟩ := (unhide hA) (ne_of_lt_length hlt)
      have hck := hcl k hlt
      have hbad := hide (unhide hBad k hlt)
      have hOk : Hid ((0 ≤ zs.getD k 0 ∧ zs.getD k 0 < 2 ^ D) → ∀ j, j < k + 1 → (0 ≤ zs.getD j 0 ∧ zs.getD j 0 < 2 ^ D)) := hide (fun h j hj => by
        rcases Nat.lt_or_eq_of_le (Nat.le_of_lt_succ hj) with h' | h'
        · exact unhide hok j h'
        · subst h'; exact h)
      clear hcl hbl
      generalize zs.getD k 0 = x at hck hbad hOk
      by_cases h1 : x < 0
      · have hB := hide (unhide hbad (fun h => by have := h.1; omega))
        clear hbad hOk
        go_wp2
        go_ret
        exact ⟨by rw [unhide hB]; rfl, rfl⟩
      · by_cases h2 : x < 2 ^ D
        · have hok2 := hide (unhide hOk ⟨by omega, h2⟩)
          clear hbad hOk
          go_wp2
          all_goals
            go_round
            case rel => exact ⟨k + 1, by omega, by go_num, unhide hok2⟩
            case measure => simp [intOf]; omega
        · have hB := hide (unhide hbad (fun h => h2 h.2))
          clear hbad hOk
          go_wp2
          go_ret
          exact ⟨by rw [unhide hB]; rfl, rfl⟩
    · have hkl : k = zs.length := by omega
      subst hkl
      have hs := hide (unhide hGood (unhide hok))
      go_wp2
      go_ret
      exact ⟨by rw [unhide hs]; rfl, rfl⟩

end Go.Proofs.Ytpofmcepjmbmcaa
