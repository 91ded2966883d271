/- Numbers of so many bits: the specification's walk. -/
import Derived.Test.YtocoeodoihdkgaaWSoA
import Derived.Deep.DeepCutAuto
namespace Go.Proofs.Ytocoeodoihdkgaa
open Go.RowKit

theorem inRB_bad {lo hi : Int} {zs : List Int} (k : Nat) (hk : k < zs.length) (h : ¬ (lo ≤ zs.getD k 0 ∧ zs.getD k 0 ≤ hi)) : inRB lo hi zs = false := inRB_no (fun h' => h (h' k hk))
set_option maxHeartbeats 4000000 in
theorem specL10In (b : Nat) (ad : Option Addr) (cap : Nat) (zs : List Int) (w : World) (h1 : 1 ≤ b) (h2 : b ≤ 62) (hn : zs.length ≤ 1048576) (hA : ArgI w ad zs) :
    Calls Try.prog 77 #[.int .i64 (b : Int), .slice ad zs.length cap] w fun e w' => e = .returned (.bool (inRB (loB b) (hiB b) zs)) ∧ Upd 0 0 w w' := by
  obtain ⟨c, hc⟩ : ∃ c, b - 1 = c := ⟨_, rfl⟩
  have e1 : (b : Int) - 1 = (c : Int) := by omega
  have hw0 : IntKind.i64.wrap ((b : Int) - 1) = (c : Int) := by simp [IntKind.wrap, IntKind.bits, IntKind.signed]; omega
  have hcb : c ≤ 61 := by omega
  have hp := pow_small c hcb
  have el : loB b = -(2 : Int) ^ c := by unfold loB; rw [hc, Int.natCast_pow]; rfl
  have eh : hiB b = (2 : Int) ^ c - 1 := by unfold hiB; rw [hc, Int.natCast_pow]; rfl
  rw [el, eh]
  have hw2 : wrap64 ((2 : Int) ^ c) = (2 : Int) ^ c := wrap64_in _ (by omega)
  have hA0 := hide hA
  replace hw2 := hide hw2
  have hNo : Hid (∀ k, k < zs.length → ¬ (-(2 : Int) ^ c ≤ zs.getD k 0 ∧ zs.getD k 0 ≤ (2 : Int) ^ c - 1) → inRB (-(2 : Int) ^ c) ((2 : Int) ^ c - 1) zs = false) := hide (fun k hk h => inRB_bad k hk h)
  have hYes : Hid ((∀ j, j < zs.length → (-(2 : Int) ^ c ≤ zs.getD j 0 ∧ zs.getD j 0 ≤ (2 : Int) ^ c - 1)) → inRB (-(2 : Int) ^ c) ((2 : Int) ^ c - 1) zs = true) := hide (fun h => inRB_yes h)
  generalize inRB (-(2 : Int) ^ c) ((2 : Int) ^ c - 1) zs = R at hNo hYes ⊢
  clear hA el eh hc h1 h2
  go_enter Try.func77, Try.ntmps77
  go_upto_region 2 with fail
  try rw [unhide hw2]
  clear hw2 hw0 e1
  generalize (2 : Int) ^ c = P at hp hNo hYes ⊢
  obtain ⟨p1, p2⟩ := hp
  clear hcb
  go_wp2
  go_loop [7, 14] (fun _ i => ∃ k : Nat, k ≤ zs.length ∧ i = .int .i64 k ∧ Hid (∀ j, j < k → (-P ≤ zs.getD j 0 ∧ zs.getD j 0 ≤ P - 1))) (fun _ i => zs.length - (intOf i).toNat)
  case atStart => exact ⟨0, Nat.zero_le _, rfl, fun j hj => by omega⟩
  case round =>
    obtain ⟨k, hk', rfl, hok⟩ := hrel
    by_cases hlt : k < zs.length
    · obtain ⟨bb, off, rfl, hbl, hcl⟩ := (unhide hA0) (ne_of_lt_length hlt)
      have hck := hcl k hlt
      have hbad := hide (unhide hNo k hlt)
      have hOk : Hid ((-P ≤ zs.getD k 0 ∧ zs.getD k 0 ≤ P - 1) → ∀ j, j < k + 1 → (-P ≤ zs.getD j 0 ∧ zs.getD j 0 ≤ P - 1)) := hide (fun h j hj => by
        rcases Nat.lt_or_eq_of_le (Nat.le_of_lt_succ hj) with h' | h'
        · exact unhide hok j h'
        · subst h'; exact h)
      clear hcl hbl
      generalize zs.getD k 0 = x at hck hbad hOk
      by_cases h1 : x < -P
      · have hB := hide (unhide hbad (fun h => by have := h.1; omega))
        clear hbad hOk
        go_wp2
        go_ret
        exact ⟨by rw [unhide hB]; rfl, Upd.refl 0 0 _⟩
      · by_cases h2 : P ≤ x
        · have hB := hide (unhide hbad (fun h => by have := h.2; omega))
          clear hbad hOk
          go_wp2
          go_ret
          exact ⟨by rw [unhide hB]; rfl, Upd.refl 0 0 _⟩
        · have hok2 := hide (unhide hOk ⟨by omega, by omega⟩)
          clear hbad hOk
          go_wp2
          all_goals
            go_round
            case rel => exact ⟨k + 1, by omega, by go_num, unhide hok2⟩
            case measure => simp [intOf]; omega
    · have hkl : k = zs.length := by omega
      subst hkl
      have hs := hide (unhide hYes (unhide hok))
      go_wp2
      go_ret
      exact ⟨by rw [unhide hs]; rfl, Upd.refl 0 0 _⟩
end Go.Proofs.Ytocoeodoihdkgaa
