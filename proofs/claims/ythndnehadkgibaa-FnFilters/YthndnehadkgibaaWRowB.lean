/- The walks of PackRow: the program's. -/
import Derived.Test.YthndnehadkgibaaPlainI
import Derived.Test.YthndnehadkgibaaWInts
import Derived.Test.YthndnehadkgibaaWPutD
import Derived.Deep.RegionWith
namespace Go.Proofs.Ythndnehadkgibaa
open Go.RowKit

theorem own_nilYS (w : World) (a b : Nat) : OwnY w a b (.slice none 0 0) [] := ⟨World.ownsRow_nil _ _ _ _, fun k hk => by simp [Value.ownBlock] at hk⟩

set_option maxHeartbeats 1000000 in
theorem implGoodDepth (d : Int) (w : World) : Calls Try.prog 48 #[.int .i64 d] w fun e w' => e = .returned (.bool (depthOk d)) ∧ w' = w := by
  by_cases h : depthOk d = true
  · rw [h]
    rcases depthOk_cases h with e | e | e | e | e <;> subst e <;>
    · clear h
      go_enter Try.func48, Try.ntmps48
      go_wp2
      go_ret
      exact ⟨rfl, rfl⟩
  · have h' : depthOk d = false := by simpa using h
    rw [h']
    have h1 : (d == 1) = false := by unfold depthOk at h'; simp at h' ⊢; omega
    have h2 : (d == 2) = false := by unfold depthOk at h'; simp at h' ⊢; omega
    have h3 : (d == 4) = false := by unfold depthOk at h'; simp at h' ⊢; omega
    have h4 : (d == 8) = false := by unfold depthOk at h'; simp at h' ⊢; omega
    have h5 : (d == 16) = false := by unfold depthOk at h'; simp at h' ⊢; omega
    clear h h'
    go_enter Try.func48, Try.ntmps48
    go_wp2
    go_ret
    exact ⟨rfl, rfl⟩

noncomputable def smpB (zs : List Int) (d : Int) : Bool := open Classical in decide (SmpOk zs d)
theorem smpB_yes {zs : List Int} {d : Int} (h : SmpOk zs d) : smpB zs d = true := by unfold smpB; simpa using h
theorem smpB_no {zs : List Int} {d : Int} (h : ¬ SmpOk zs d) : smpB zs d = false := by unfold smpB; simpa using h
theorem smpB_iff {zs : List Int} {d : Int} : smpB zs d = true ↔ SmpOk zs d := by unfold smpB; simp

set_option maxHeartbeats 2000000 in
theorem implGoodSamples (v : Value) (zs : List Int) (D : Nat) (w : World) (hD : D ≤ 16) (hn : zs.length ≤ 1048576) (hv : RdI w v zs) :
    Calls Try.prog 49 #[v, .int .i64 D] w fun e w' => e = .returned (.bool (smpB zs D)) ∧ w' = w := by
  obtain ⟨ad, cap, rfl, hA⟩ := hv
  replace hA := hide hA
  have hBad : Hid (∀ k, k < zs.length → ¬ (0 ≤ zs.getD k 0 ∧ zs.getD k 0 < 2 ^ D) → smpB zs D = false) := hide (fun k hk' hb => smpB_no (fun h => hb (by have := h k hk'; simpa using this)))
  have hGood : Hid ((∀ k, k < zs.length → (0 ≤ zs.getD k 0 ∧ zs.getD k 0 < 2 ^ D)) → smpB zs D = true) := hide (fun h => smpB_yes (fun j hj => by have := h j hj; simpa using this))
  have hp := two_pow_16 hD
  go_enter Try.func49, Try.ntmps49
  go_wp2
  go_loop [9] (fun i => ∃ k : Nat, k ≤ zs.length ∧ i = .int .i64 k ∧ Hid (∀ j, j < k → (0 ≤ zs.getD j 0 ∧ zs.getD j 0 < 2 ^ D))) (fun i => zs.length - (intOf i).toNat)
  case atStart => exact ⟨0, Nat.zero_le _, rfl, fun j hj => by omega⟩
  case round =>
    obtain ⟨k, hk', rfl, hok⟩ := hrel
    by_cases hlt : k < zs.length
    · obtain ⟨b, off, rfl, hbl, hcl⟩ := (unhide hA) (ne_of_lt_length hlt)
      have hck := hcl k hlt
      have hbad := hide (unhide hBad k hlt)
      have hOk : Hid ((0 ≤ zs.getD k 0 ∧ zs.getD k 0 < 2 ^ D) → ∀ j, j < k + 1 → (0 ≤ zs.getD j 0 ∧ zs.getD j 0 < 2 ^ D)) := hide (fun h j hj => by
        rcases Nat.lt_or_eq_of_le (Nat.le_of_lt_succ hj) with h' | h'
        · exact unhide hok j h'
        · subst h'; exact h)
      clear hcl hbl
      generalize zs.getD k 0 = x at hck hbad hOk
      by_cases h1 : x < 0
      · have hB := hide (unhide hbad (fun h => by have := h.1; omega))
        clear hbad hOk
        go_wp2
        go_ret
        exact ⟨by rw [unhide hB]; rfl, rfl⟩
      · by_cases h2 : x < 2 ^ D
        · have hok2 := hide (unhide hOk ⟨by omega, h2⟩)
          clear hbad hOk
          go_wp2
          all_goals
            go_round
            case rel => exact ⟨k + 1, by omega, by go_num, unhide hok2⟩
            case measure => simp [intOf]; omega
        · have hB := hide (unhide hbad (fun h => h2 h.2))
          clear hbad hOk
          go_wp2
          go_ret
          exact ⟨by rw [unhide hB]; rfl, rfl⟩
    · have hkl : k = zs.length := by omega
      subst hkl
      have hs := hide (unhide hGood (unhide hok))
      go_wp2
      go_ret
      exact ⟨by rw [unhide hs]; rfl, rfl⟩

theorem writer_newR (w : World) (o : Int) : Sink (w.alloc (.cells #[.int .i64 o, .slice none 0 0, .int .i64 0] 72)) w.heap.size (.int .i64 o) [] (roomI 0) := by
  refine ⟨.slice none 0 0, ⟨by simp, ?_, ?_, ?_, World.frozen?_alloc_at _ _ _ _ rfl, World.frozen?_alloc_at _ _ _ _ rfl⟩, World.ownsRow_nil _ _ _ _⟩ <;> (rw [World.cell?_alloc_at _ _ _ _ rfl]; rfl)

set_option maxHeartbeats 4000000 in
set_option maxRecDepth 1000000 in
theorem implPackRow (v : Value) (zs : List Int) (d : Int) (w : World) (hn : zs.length ≤ 1048576) (_hR : InI zs) (hv : RdI w v zs) (_hl : -9223372036854775808 ≤ d) (_hh : d ≤ 9223372036854775807) :
    Calls Try.prog 19 #[v, .int .i64 d] w fun e w' => ∃ u, e = .returned u ∧ OwnY w' w.heap.size w'.heap.size u (rowF zs d) ∧ Upd 0 0 w w' := by
  have hK := hide (implGoodDepth d w)
  have hv0 := hide hv
  obtain ⟨ad, cap, rfl, hA⟩ := hv
  replace hA := hide hA

  by_cases hk : depthOk d = true
  · rw [hk] at hK
    by_cases hm : 4096 < zs.length
    · have hE := hide (rowF_no (zs := zs) (d := d) (fun h => by have := h.2.1; omega))
      replace hk := hide hk
      go_enter Try.func19, Try.ntmps19
      go_wp2_with fail
      refine (unhide hK).mono ?_
      rintro e w1 ⟨rfl, rfl⟩
      clear hK
      go_wp2
      go_ret
      refine ⟨_, rfl, ?_, Upd.refl _ _ _⟩
      rw [unhide hE]; exact own_nilYS _ _ _
    · obtain ⟨D, rfl, hD1, hD⟩ := depthOk_nat hk
      have hG := hide (implGoodSamples _ zs D w hD hn (unhide hv0))
      replace hk := hide hk
      by_cases hs : SmpOk zs D
      · rw [smpB_yes hs] at hG
        have hE := hide (rowB_yes ⟨unhide hk, by omega, hs⟩)
        have hS0 := hide (writer_newR w 1)
        have hbC := (Below.refl w.heap.size w).alloc (Nat.le_refl _) (.cells #[.int .i64 1, .slice none 0 0, .int .i64 0] 72)
        replace hs := hide hs
        go_enter Try.func19, Try.ntmps19
        go_wp2_with fail
        refine (unhide hK).mono ?_
        rintro e w1 ⟨rfl, rfl⟩
        clear hK
        go_wp2_with fail
        refine (unhide hG).mono ?_
        rintro e w2 ⟨rfl, rfl⟩
        clear hG
        go_wp2
        generalize w2.alloc (.cells #[.int .i64 1, .slice none 0 0, .int .i64 0] 72) = w3 at hS0 hbC ⊢
        go_loopw [25] (fun i wx => ∃ k : Nat, k ≤ zs.length ∧ i = .int .i64 k ∧ Sink wx w2.heap.size (.int .i64 1) (packTo true (rowFs zs D) k).1 (roomI (packTo true (rowFs zs D) k).2) ∧ Below w2.heap.size w2 wx) (fun i _ => zs.length - (intOf i).toNat)
        case atStart => exact ⟨0, Nat.zero_le _, rfl, unhide hS0, hbC⟩
        case round =>
          clear hbC hS0
          obtain ⟨k, hk', rfl, hS, hbel⟩ := hrel
          by_cases hlt : k < zs.length
          · obtain ⟨b, off, rfl, hbl, hcl⟩ := (unhide hA) (ne_of_lt_length hlt)
            have hck : wr.cell? ⟨b, off + k, none⟩ = some (Value.int .i64 (zs.getD k 0)) := (hbel.cell (by simpa using hbl)).trans (hcl k hlt)
            have hx := (unhide hs) k hlt
            obtain ⟨u, hu⟩ := Int.eq_ofNat_of_zero_le hx.1
            have hst := hide (row_step (D := D) hlt u hu)
            have hinv := hide (row_inv (unhide hk) zs k (by omega))
            have hp := two_pow_16 hD
            rw [hu] at hck
            have hu16 : u < 65536 := by have := hx.2; rw [Int.toNat_natCast] at this; omega
            have hb0 := (unhide hinv).2
            have hP := hide (implPutT _ _ u D w2.heap.size wr (unhide hinv).1 (by omega) (by omega) (by omega) hS)
            have hwr := hide (show IntKind.u64.wrap (u : Int) = (u : Int) by rw [IntKind.wrap_u64]; omega)
            clear hcl hbl hx hu hinv hS hp
            go_wp2_with fail
            refine (unhide hP).mono ?_
            rintro e w5 ⟨rfl, hS2, hb2⟩
            rw [← (unhide hst).1, ← (unhide hst).2] at hS2
            replace hb2 := hide (hbel.trans hb2)
            replace hS2 := hide hS2
            clear hP hbel
            go_wp2
            go_roundw
            case rel => exact ⟨k + 1, by omega, by go_num, unhide hS2, unhide hb2⟩
            case measure => simp [intOf]; omega
          · have hkl : k = zs.length := by omega
            subst hkl
            obtain ⟨vs, hSS, hown⟩ := hS
            obtain ⟨s0, s1, s2, s3, s4, s5⟩ := hSS
            rw [← unhide hE] at hown
            replace hown := hide (Own.of (ownsRow_base hown (show w2.heap.size ≤ w2.heap.size + 1 by omega)))
            go_wp2
            go_ret
            refine ⟨_, rfl, ?_, Upd.of_below hbel 0 0⟩
            unfold OwnY
            rw [rowF_length, rowF_byts]; exact unhide hown
      · rw [smpB_no hs] at hG
        have hE := hide (rowF_no (zs := zs) (d := D) (fun h => hs h.2.2))
        replace hs := hide hs
        go_enter Try.func19, Try.ntmps19
        go_wp2_with fail
        refine (unhide hK).mono ?_
        rintro e w1 ⟨rfl, rfl⟩
        clear hK
        go_wp2_with fail
        refine (unhide hG).mono ?_
        rintro e w2 ⟨rfl, rfl⟩
        clear hG
        go_wp2
        go_ret
        refine ⟨_, rfl, ?_, Upd.refl _ _ _⟩
        rw [unhide hE]; exact own_nilYS _ _ _
  · have hk' : depthOk d = false := by simpa using hk
    rw [hk'] at hK
    have hE := hide (rowF_no (zs := zs) (d := d) (fun h => hk h.1))
    replace hk := hide hk
    replace hk' := hide hk'
    go_enter Try.func19, Try.ntmps19
    go_wp2_with fail
    refine (unhide hK).mono ?_
    rintro e w1 ⟨rfl, rfl⟩
    clear hK
    go_wp2
    go_ret
    refine ⟨_, rfl, ?_, Upd.refl _ _ _⟩
    rw [unhide hE]; exact own_nilYS _ _ _
end Go.Proofs.Ythndnehadkgibaa
