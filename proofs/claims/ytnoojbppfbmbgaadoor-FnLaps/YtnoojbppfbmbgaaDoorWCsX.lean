/- Unlap: both sides in the law's form. -/
import Derived.Test.YtnoojbppfbmbgaaDoorWCsV
import Derived.Test.YtnoojbppfbmbgaaDoorWTnA
namespace Go.Proofs.YtnoojbppfbmbgaaDoor
open Go.RowKit

def unlapF (zs : List Int) : List Int := if slotB zs then unlapL zs else []
theorem unlapF_len (zs : List Int) : (unlapF zs).length ≤ 1048576 := by
  unfold unlapF unlapL
  split
  · simp
  · simp
theorem slotB_iff {zs : List Int} : slotB zs = true ↔ (zs.length = 16 ∧ InR (-1048576) 1048575 zs) := by
  unfold slotB
  rw [Bool.and_eq_true, decide_eq_true_iff, inRB_iff0]
set_option maxHeartbeats 4000000 in
set_option maxRecDepth 100000 in
theorem implUnlap (v : Value) (zs : List Int) (w : World) (hT : Held w 0 cosCells) (hn : zs.length ≤ 1048576) (_hR : InI zs) (hv : RdI w v zs) :
    Calls Tryd.prog 13 #[v] w fun e w' => ∃ u, e = .returned u ∧ OwnI w' w.heap.size w'.heap.size u (unlapF zs) ∧ Upd 0 0 w w' := by
  obtain ⟨ad, cap, rfl, hA⟩ := hv
  have hS := hide (implGoodSlot ad cap zs w hn hA)
  cases hs : slotB zs
  · have hF : unlapF zs = [] := by unfold unlapF; rw [hs]; rfl
    rw [hF]
    rw [hs] at hS
    clear hs hF hA hT hn
    go_enter Tryd.func13, Tryd.ntmps13
    go_wp2_with fail
    refine (unhide hS).mono ?_
    rintro e w1 ⟨rfl, hu1⟩
    have hU := hide hu1
    clear hu1
    go_wp2
    go_ret
    exact ⟨_, rfl, own_nilI _ _ _, unhide hU⟩
  · have hF : unlapF zs = unlapL zs := by unfold unlapF; rw [hs]; rfl
    rw [hF]
    rw [hs] at hS
    obtain ⟨hl, hi⟩ := slotB_iff.1 hs
    obtain ⟨b, off, rfl, hbl0, hcl⟩ := hA (ne_of_lt_length (k := 0) (by omega))
    have hbl : b < w.heap.size := hbl0
    have hC := hide (fun (X : World) (hX : Upd 0 0 w X) => implUnlapped b off cap zs X hl (fun i h => by have := hi i (by omega); unfold fI; omega) (Nat.lt_of_lt_of_le hbl hX.size) (fun j h => (hX.none.cell (p := ⟨b, off + j, none⟩) hbl).trans (hcl j (by omega))) (hT.keep hX))
    rw [hl] at hS ⊢
    clear hs hF hi hl hn hcl hbl0 hT
    go_enter Tryd.func13, Tryd.ntmps13
    go_wp2_with fail
    refine (unhide hS).mono ?_
    rintro e w1 ⟨rfl, hu1⟩
    have hs1 : w.heap.size ≤ w1.heap.size := hu1.size
    replace hu1 := hide hu1
    go_wp2_with fail
    refine (unhide hC _ (unhide hu1)).mono ?_
    rintro e w2 ⟨u, rfl, how, hu2⟩
    have hU := hide ((unhide hu1).trans hu2)
    have how2 := hide (own_mono (a' := w.heap.size) how hs1 (Nat.le_refl _))
    clear how hu2 hC hS
    go_wp2
    go_ret
    exact ⟨_, rfl, unhide how2, unhide hU⟩
set_option maxHeartbeats 4000000 in
set_option maxRecDepth 100000 in
theorem specUnlap (v : Value) (zs : List Int) (w : World) (_hn : zs.length ≤ 1048576) (_hR : InI zs) (hv : RdI w v zs) :
    Calls Tryd.prog 30 #[v] w fun e w' => ∃ u, e = .returned u ∧ OwnI w' w.heap.size w'.heap.size u (unlapF zs) ∧ Upd 0 0 w w' := by
  obtain ⟨ad, cap, rfl, hA⟩ := hv
  have hNo : Hid (∀ k, k < zs.length → ¬ (-1048576 ≤ zs.getD k 0 ∧ zs.getD k 0 ≤ 1048575) → unlapF zs = []) := hide (fun k hk h => by
    unfold unlapF
    rw [if_neg (fun h' => h ((slotB_iff.1 h').2 k hk))])
  have hNo2 : Hid (zs.length ≠ 16 → unlapF zs = []) := hide (fun h => by
    unfold unlapF
    rw [if_neg (fun h' => h (slotB_iff.1 h').1)])
  have hYes : Hid (zs.length = 16 → (∀ j, j < zs.length → (-1048576 ≤ zs.getD j 0 ∧ zs.getD j 0 ≤ 1048575)) → unlapF zs = unlapL zs) := hide (fun h1 h2 => by
    unfold unlapF
    rw [if_pos (slotB_iff.2 ⟨h1, h2⟩)])
  have hC : Hid (∀ (b off : Nat), ad = some ⟨b, off, none⟩ → zs.length = 16 → (∀ j, j < zs.length → (-1048576 ≤ zs.getD j 0 ∧ zs.getD j 0 ≤ 1048575)) → Calls Tryd.prog 68 #[.slice (some ⟨b, off, none⟩) 16 cap] w fun e w' => ∃ v, e = .returned v ∧ OwnI w' w.heap.size w'.heap.size v (unlapL zs) ∧ Upd 0 0 w w') := hide (fun b off e hl hi => by
    obtain ⟨b', off', e', hbl0, hcl⟩ := hA (ne_of_lt_length (k := 0) (by omega))
    rw [e] at e'
    simp only [Option.some.injEq, Addr.mk.injEq] at e'
    obtain ⟨rfl, rfl, _⟩ := e'
    exact specUnlapW b off cap zs w hl (fun i h => by have := hi i (by omega); unfold fI; omega) hbl0 (fun j h => hcl j (by omega)))
  have hC0 : Hid (∀ b off, ad = some ⟨b, off, none⟩ → True) := hide (fun _ _ _ => trivial)
  replace hA := hide hA
  generalize unlapF zs = R at hNo hNo2 hYes ⊢
  generalize unlapL zs = A at hYes hC
  go_enter Tryd.func30, Tryd.ntmps30
  go_wp2
  go_loop [4, 7] (fun _ i => ∃ k : Nat, k ≤ zs.length ∧ i = .int .i64 k ∧ Hid (∀ j, j < k → (-1048576 ≤ zs.getD j 0 ∧ zs.getD j 0 ≤ 1048575))) (fun _ i => zs.length - (intOf i).toNat)
  case atStart => exact ⟨0, Nat.zero_le _, rfl, fun j hj => by omega⟩
  case round =>
    obtain ⟨k, hk', rfl, hok⟩ := hrel
    by_cases hlt : k < zs.length
    · obtain ⟨bb, off, rfl, hbl, hcl⟩ := (unhide hA) (ne_of_lt_length hlt)
      have hck := hcl k hlt
      have hbad := hide (unhide hNo k hlt)
      have hOk : Hid ((-1048576 ≤ zs.getD k 0 ∧ zs.getD k 0 ≤ 1048575) → ∀ j, j < k + 1 → (-1048576 ≤ zs.getD j 0 ∧ zs.getD j 0 ≤ 1048575)) := hide (fun h j hj => by
        rcases Nat.lt_or_eq_of_le (Nat.le_of_lt_succ hj) with h' | h'
        · exact unhide hok j h'
        · subst h'; exact h)
      clear hcl hbl
      generalize zs.getD k 0 = x at hck hbad hOk
      by_cases h1 : x < -1048576
      · have hB := hide (unhide hbad (fun h => by have := h.1; omega))
        clear hbad hOk
        go_wp2
        go_ret
        exact ⟨_, rfl, by rw [unhide hB]; exact own_nilI _ _ _, Upd.refl 0 0 _⟩
      · by_cases h2 : 1048575 < x
        · have hB := hide (unhide hbad (fun h => by have := h.2; omega))
          clear hbad hOk
          go_wp2
          go_ret
          exact ⟨_, rfl, by rw [unhide hB]; exact own_nilI _ _ _, Upd.refl 0 0 _⟩
        · have hok2 := hide (unhide hOk ⟨by omega, by omega⟩)
          clear hbad hOk
          go_wp2
          all_goals
            go_round
            case rel => exact ⟨k + 1, by omega, by go_num, unhide hok2⟩
            case measure => simp [intOf]; omega
    · have hkl : k = zs.length := by omega
      subst hkl
      by_cases hl : zs.length = 16
      · obtain ⟨b, off, rfl, hbl0, _⟩ := (unhide hA) (ne_of_lt_length (k := 0) (by omega))
        have hCC := hide (unhide hC b off rfl hl (unhide hok))
        have hR := hide (unhide hYes hl (unhide hok))
        have q1 : ((zs.length : Int) != 16) = false := by rw [bne_eq_false_iff_eq]; omega
        have q2 : decide (zs.length < zs.length) = false := by simp
        rw [← hl] at hCC
        clear hl hbl0 hNo hNo2 hYes hC hok hA
        go_wp2_with fail
        refine (unhide hCC).mono ?_
        rintro e w2 ⟨u, rfl, how, hu2⟩
        replace how := hide how
        replace hu2 := hide hu2
        go_wp2
        go_ret
        exact ⟨_, rfl, by rw [unhide hR]; exact unhide how, unhide hu2⟩
      · have hB := hide (unhide hNo2 hl)
        have q1 : ((zs.length : Int) != 16) = true := by rw [bne_iff_ne]; omega
        clear hl hNo hNo2 hYes hC hok
        go_wp2
        go_ret
        exact ⟨_, rfl, by rw [unhide hB]; exact own_nilI _ _ _, Upd.refl 0 0 _⟩
end Go.Proofs.YtnoojbppfbmbgaaDoor
