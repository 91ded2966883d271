/- Small blocks: the specification's walks. -/
import Derived.Test.YtpofmcepjmbmcaaDoorPlainSm
import Derived.Test.YtpofmcepjmbmcaaDoorWHeld
import Derived.Test.YtpofmcepjmbmcaaDoorWInts
import Derived.Test.YtpofmcepjmbmcaaDoorWUpd2
import Derived.Test.YtpofmcepjmbmcaaDoorWAppI
namespace Go.Proofs.YtpofmcepjmbmcaaDoor
open Go.RowKit

theorem wrapS {n : Int} (h : -9223372036854775808 ≤ n ∧ n ≤ 9223372036854775807) : IntKind.i64.wrap n = n := by
  simp [IntKind.wrap, IntKind.bits, IntKind.signed]; omega
theorem cell_updS {w : World} {p : Addr} {v : Value} (h : w.cell? p = some v) (hp : p.block < w.heap.size) (X : UpdT w) : X.to.cell? p = some v := (X.upd.none.cell hp).trans h
set_option maxHeartbeats 4000000 in
theorem specL13Small (ad : Option Addr) (cap : Nat) (zs : List Int) (w : World) (hn : zs.length ≤ 1048576) (hA : ArgI w ad zs) :
    Calls Tryd.prog 73 #[.slice ad zs.length cap] w fun e w' => e = .returned (.bool (smB zs)) ∧ w' = w := by
  replace hA := hide hA
  have hNo : Hid (∀ k, k < zs.length → ¬ ((-65536 : Int) ≤ zs.getD k 0 ∧ zs.getD k 0 ≤ 65535) → smB zs = false) := hide (fun k hk h => smB_no (fun h' => h (h'.2 k hk)))
  have hYes : Hid ((∀ j, j < zs.length → ((-65536 : Int) ≤ zs.getD j 0 ∧ zs.getD j 0 ≤ 65535)) → smB zs = decide (zs.length = 16)) := hide (fun h => by
    by_cases hl : zs.length = 16
    · rw [smB_yes ⟨hl, h⟩, decide_eq_true hl]
    · rw [smB_no (fun h' => hl h'.1), decide_eq_false hl])
  go_enter Tryd.func73, Tryd.ntmps73
  go_wp2
  go_loop [7] (fun i => ∃ k : Nat, k ≤ zs.length ∧ i = .int .i64 k ∧ Hid (∀ j, j < k → ((-65536 : Int) ≤ zs.getD j 0 ∧ zs.getD j 0 ≤ 65535))) (fun i => zs.length - (intOf i).toNat)
  case atStart => exact ⟨0, Nat.zero_le _, rfl, fun j hj => by omega⟩
  case round =>
    obtain ⟨k, hk', rfl, hok⟩ := hrel
    by_cases hlt : k < zs.length
    · obtain ⟨bb, off, rfl, hbl, hcl⟩ := (unhide hA) (ne_of_lt_length hlt)
      have hck := hcl k hlt
      have hbad := hide (unhide hNo k hlt)
      have hOk : Hid (((-65536 : Int) ≤ zs.getD k 0 ∧ zs.getD k 0 ≤ 65535) → ∀ j, j < k + 1 → ((-65536 : Int) ≤ zs.getD j 0 ∧ zs.getD j 0 ≤ 65535)) := hide (fun h j hj => by
        rcases Nat.lt_or_eq_of_le (Nat.le_of_lt_succ hj) with h' | h'
        · exact unhide hok j h'
        · subst h'; exact h)
      clear hcl hbl
      generalize zs.getD k 0 = x at hck hbad hOk
      by_cases h1 : x < -65536
      · have hB := hide (unhide hbad (fun h => by have := h.1; omega))
        clear hbad hOk
        go_wp2
        go_ret
        exact ⟨by rw [unhide hB]; rfl, rfl⟩
      · by_cases h2 : 65535 < x
        · have hB := hide (unhide hbad (fun h => by have := h.2; omega))
          clear hbad hOk
          go_wp2
          go_ret
          exact ⟨by rw [unhide hB]; rfl, rfl⟩
        · have hok2 := hide (unhide hOk ⟨by omega, by omega⟩)
          clear hbad hOk
          go_wp2
          all_goals
            go_round
            case rel => exact ⟨k + 1, by omega, by go_num, unhide hok2⟩
            case measure => simp [intOf]; omega
    · have hkl : k = zs.length := by omega
      subst hkl
      have hs := hide (unhide hYes (unhide hok))
      have hb : ((zs.length : Int) == 16) = decide (zs.length = 16) := by rw [Bool.eq_iff_iff]; simp; omega
      go_wp2
      go_ret
      exact ⟨by rw [unhide hs]; rfl, rfl⟩
set_option maxRecDepth 100000 in
theorem specL13T (u x : Nat) (w : World) (hu : u < 4) (hx : x < 4) : Calls Tryd.prog 105 #[.int .i64 (u : Int), .int .i64 (x : Int)] w fun e w' => e = .returned (.int .i64 (smT u x)) ∧ Upd 0 0 w w' := by
  have hc := heldF_new w [.int .i64 1, .int .i64 1, .int .i64 1, .int .i64 1, .int .i64 2, .int .i64 1, .int .i64 (-1), .int .i64 (-2), .int .i64 1, .int .i64 (-1), .int .i64 (-1), .int .i64 1, .int .i64 1, .int .i64 (-2), .int .i64 2, .int .i64 (-1)] 3
  have hU := hide (Upd.of_below ((Below.refl w.heap.size w).alloc (Nat.le_refl _) (.cells #[.int .i64 1, .int .i64 1, .int .i64 1, .int .i64 1, .int .i64 2, .int .i64 1, .int .i64 (-1), .int .i64 (-2), .int .i64 1, .int .i64 (-1), .int .i64 (-1), .int .i64 1, .int .i64 1, .int .i64 (-2), .int .i64 2, .int .i64 (-1)] 3)) 0 0)
  have hcell : Hid (∀ k, k < 16 → (w.alloc (.cells #[.int .i64 1, .int .i64 1, .int .i64 1, .int .i64 1, .int .i64 2, .int .i64 1, .int .i64 (-1), .int .i64 (-2), .int .i64 1, .int .i64 (-1), .int .i64 (-1), .int .i64 1, .int .i64 1, .int .i64 (-2), .int .i64 2, .int .i64 (-1)] 3)).cell? ⟨w.heap.size, k, none⟩ = some (.int .i64 (([1, 1, 1, 1, 2, 1, -1, -2, 1, -1, -1, 1, 1, -2, 2, -1] : List Int).getD k 0))) := hide (fun k hk => by
    rcases (show k = 0 ∨ k = 1 ∨ k = 2 ∨ k = 3 ∨ k = 4 ∨ k = 5 ∨ k = 6 ∨ k = 7 ∨ k = 8 ∨ k = 9 ∨ k = 10 ∨ k = 11 ∨ k = 12 ∨ k = 13 ∨ k = 14 ∨ k = 15 by omega) with e | e | e | e | e | e | e | e | e | e | e | e | e | e | e | e <;> subst e <;> exact hc.1.2 _ _ rfl)
  clear hc
  obtain ⟨q, hq⟩ : ∃ q, 4 * u + x = q := ⟨_, rfl⟩
  have hq16 : q < 16 := by omega
  have hk := unhide hcell q hq16
  have hv : smT u x = ([1, 1, 1, 1, 2, 1, -1, -2, 1, -1, -1, 1, 1, -2, 2, -1] : List Int).getD q 0 := by unfold smT; rw [hq]
  rw [hv]
  generalize ([1, 1, 1, 1, 2, 1, -1, -2, 1, -1, -1, 1, 1, -2, 2, -1] : List Int).getD q 0 = y at hk ⊢
  have e1 : 4 * (u : Int) + (x : Int) = (q : Int) := by omega
  clear hcell hv hq
  go_enter Tryd.func105, Tryd.ntmps105
  go_wp2
  go_ret
  exact ⟨rfl, unhide hU⟩
end Go.Proofs.YtpofmcepjmbmcaaDoor
