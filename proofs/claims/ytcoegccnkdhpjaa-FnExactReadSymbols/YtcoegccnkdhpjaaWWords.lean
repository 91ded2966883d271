/- The walk of CodeWords: the specification's. -/
import Derived.Test.YtcoegccnkdhpjaaWKind2
import Derived.Test.YtcoegccnkdhpjaaPlainW
namespace Go.Proofs.Ytcoegccnkdhpjaa
open Go.RowKit

theorem zeros_ints (n : Nat) : List.replicate n (Value.int .i64 0) = ints (List.replicate n 0) := by unfold ints; simp
theorem ints_set (zs : List Int) (k : Nat) (x : Int) : (ints zs).set k (.int .i64 x) = ints (zs.set k x) := by unfold ints; rw [List.map_set]
theorem ints_at {zs : List Int} {k : Nat} (h : k < zs.length) : (ints zs)[k]? = some (.int .i64 (zs.getD k 0)) := getD_map_int zs .i64 k h

set_option maxHeartbeats 4000000 in
set_option maxRecDepth 100000 in
theorem specL2Words (v : Value) (zs : List Int) (w : World) (hg : goodL zs) (hv : RdI w v zs) :
    Calls Try.prog 65 #[v] w fun e w' => ∃ u, e = .returned u ∧ OwnI w' w.heap.size w'.heap.size u (wordsL zs) ∧ Upd 0 0 w w' := by
  obtain ⟨i0, hi, hz0, hz1, hz2⟩ := info_parts infoI
  obtain ⟨ad, cap, rfl, hA⟩ := hv
  have hn := hg.1
  replace hA := hide hA
  replace hg := hide hg
  go_enter Try.func65, Try.ntmps65
  go_wp2_with (at_make; refine wpList_make_full _ rfl _ _ 35 rfl w.heap.size 3 i0 (.int .i64 0) 1 Try.underlying35 hi hz0 hz1 .i64 .i64 _ _ zs.length rfl rfl (by omega) (by omega) (by rw [hz2]; omega) (by unfold maxLen; omega) (Nat.le_refl _) ?_; intro w1 hown hgrow)
  have hbel := (Below.refl w.heap.size w).grown hgrow (Nat.le_refl _) (by simp)
  have hown0 : w1.ownsRow w.heap.size 3 1 (.slice (some ⟨w.heap.size, 0, none⟩) zs.length zs.length) zs.length (ints (outAt zs 1 0)) := by
    rw [outAt_start, ← zeros_ints]; simpa [toList_madeCells_one, Value.cells] using hown
  clear hown hgrow
  go_loopw [4, 5, 6] (fun a b c wr => ∃ l last word : Nat, 1 ≤ l ∧ l ≤ 16 ∧ a = .int .i64 word ∧ b = .int .i64 last ∧ c = .int .i64 l ∧ Hid (SpecW zs l 0 last word) ∧ wr.ownsRow w.heap.size 3 1 (.slice (some ⟨w.heap.size, 0, none⟩) zs.length zs.length) zs.length (ints (outAt zs l 0)) ∧ Below w.heap.size w wr) (fun _ _ c _ => 17 - (intOf c).toNat)
  case atStart => exact ⟨1, 0, 0, Nat.le_refl _, by omega, rfl, rfl, rfl, SpecW.start zs, hown0, hbel⟩
  case round =>
    clear hown0 hbel
    obtain ⟨l, last, word, hl1, hl2, rfl, rfl, rfl, hS, hown, hbel⟩ := hrel
    by_cases hl : l ≤ 15
    · go_wp2
      go_loopw [4, 5, 17] (fun a b c wx => ∃ i last word : Nat, i ≤ zs.length ∧ a = .int .i64 word ∧ b = .int .i64 last ∧ c = .int .i64 i ∧ Hid (SpecW zs l i last word) ∧ wx.ownsRow w.heap.size 3 1 (.slice (some ⟨w.heap.size, 0, none⟩) zs.length zs.length) zs.length (ints (outAt zs l i)) ∧ Below w.heap.size w wx) (fun _ _ c _ => zs.length - (intOf c).toNat)
      case atStart => exact ⟨0, last, word, Nat.zero_le _, rfl, rfl, rfl, hS, hown, hbel⟩
      case round =>
        clear hown hbel hS
        obtain ⟨i, last, word, hi1, rfl, rfl, rfl, hS, hown, hbel⟩ := hrel
        by_cases hlt : i < zs.length
        · obtain ⟨b, off, rfl, hbl, hc⟩ := (unhide hA) (ne_of_lt_length hlt)
          have hck : _ = some (Value.int .i64 (zs.getD i 0)) := (hbel.cell (by simpa using hbl)).trans (hc i hlt)
          clear hc hA hbl
          have hbd := (unhide hS).bd hn hl hi1
          have hll := (unhide hS).last
          by_cases hx : zs.getD i 0 = (l : Int)
          · have hdst : ∃ u, wr.cell? ⟨w.heap.size, i, none⟩ = some u := by
              rw [hown.cellAt i (by omega)]; exact ⟨_, List.getElem?_eq_getElem (by have := hown.1; omega)⟩
            obtain ⟨u, hdst⟩ := hdst
            have hfz := hown.frozenAt i
            have hst := (hown.stored i (.int .i64 (wordOf zs i))).1
            rw [ints_set, outAt_hit zs l i (by omega) hlt hx] at hst
            by_cases h0 : last = 0
            · subst h0
              obtain ⟨hw0, hwo, hS'⟩ := (unhide hS).hit0 (by omega) hx
              subst hw0
              rw [hwo] at hst
              have hb2 := hbel.setCell (p := ⟨w.heap.size, i, none⟩) (Nat.le_refl _) (.int .i64 0)
              rw [hx] at hck
              replace hx := hide hx
              replace hS' := hide hS'
              replace hst := hide hst
              clear hown hS hwo hbd
              go_wp2
              go_roundw
              case rel => exact ⟨i + 1, l, 0, by omega, rfl, rfl, by go_num, hS', unhide hst, hb2⟩
              case measure => simp [intOf]; omega
            · obtain ⟨hle, hwo, hS'⟩ := (unhide hS).hit1 (by omega) (by omega) hx
              have hb3 := hbd.2 (by omega)
              rw [hwo] at hst
              have hb2 := hbel.setCell (p := ⟨w.heap.size, i, none⟩) (Nat.le_refl _) (.int .i64 (((word + 1) * 2 ^ (l - last) : Nat) : Int))
              rw [hx] at hck
              replace hx := hide hx
              replace hS' := hide hS'
              replace hst := hide hst
              have hpw := hide (show wrap64 (((word : Int) + 1) * 2 ^ (l - last)) = (((word + 1) * 2 ^ (l - last) : Nat) : Int) by
                rw [show (((word : Int) + 1) * 2 ^ (l - last)) = (((word + 1) * 2 ^ (l - last) : Nat) : Int) by simp]
                exact wrap64_of (by omega) (by omega))
              have hwd := hbd.1
              clear hown hS hwo hbd
              go_wp2
              rw [unhide hpw]
              go_roundw
              case rel => exact ⟨i + 1, l, (word + 1) * 2 ^ (l - last), by omega, rfl, rfl, by go_num, hS', unhide hst, hb2⟩
              case measure => simp [intOf]; omega
          · rw [← outAt_miss zs l i hx] at hown
            have hS' := hide ((unhide hS).miss hx)
            generalize zs.getD i 0 = x at hck hx
            have q0 : (x != (l : Int)) = true := by simpa using hx
            clear hS hx hbd
            replace hown := hide hown
            go_wp2
            go_roundw
            case rel => exact ⟨i + 1, last, word, by omega, rfl, rfl, by go_num, hS', unhide hown, hbel⟩
            case measure => simp [intOf]; omega
        · have hil : i = zs.length := by omega
          subst hil
          rw [outAt_next] at hown
          have hS' := hide (unhide hS).next
          replace hown := hide hown
          go_wp2
          go_roundw
          case rel => exact ⟨l + 1, last, word, by omega, by omega, rfl, rfl, by go_num, hS', unhide hown, hbel⟩
          case measure => simp [intOf]; omega
    · have hl16 : l = 16 := by omega
      subst hl16
      rw [outAt_end zs (unhide hg)] at hown
      have ho := hide (Own.of hown)
      clear hown
      go_wp2
      go_ret
      refine ⟨_, rfl, ?_, Upd.of_below hbel 0 0⟩
      have := unhide ho
      unfold OwnI
      rw [wordsL_length]; exact this
end Go.Proofs.Ytcoegccnkdhpjaa
