/- The walk of GoodPlane: the program's. -/
import Derived.Test.YtilmdbdgohfpcaaPlainPl
import Derived.Test.YtilmdbdgohfpcaaWSides
import Derived.Test.YtilmdbdgohfpcaaWRowB
namespace Go.Proofs.Ytilmdbdgohfpcaa
open Go.RowKit

set_option maxHeartbeats 8000000 in
set_option maxRecDepth 100000 in
theorem implGoodPlane (v : Value) (d : Pl) (w : World) (hn : d.2.2.length ≤ 1048576) (_hR : InPl d) (hv : RdPl w v d) :
    Calls Try.prog 44 #[v] w fun e w' => e = .returned (.bool (goodPlB d)) ∧ Upd 0 0 w w' := by
  obtain ⟨vl, rfl, h⟩ := hv
  obtain ⟨ad, cap, rfl, hA⟩ := h
  obtain ⟨a, b, zs⟩ := d
  simp only [Plv, Pls] at hn hA ⊢
  have hB := (Below.refl w.heap.size w).alloc (Nat.le_refl _) (.cells #[.int .i64 a, .int .i64 b, .slice ad zs.length cap] 63)
  have hU := hide (Upd.of_below hB 0 0)
  have hS := hide (fun W => implGoodSidesP a b W)
  have hG := hide (fun (W : World) h => implGoodSamples (.slice ad zs.length cap) zs 8 W (by omega) hn h)
  have hrd := hide (show RdI (w.alloc (.cells #[.int .i64 a, .int .i64 b, .slice ad zs.length cap] 63)) (.slice ad zs.length cap) zs from ⟨ad, cap, rfl, hA.below hB⟩)
  clear hB hA
  by_cases hs : SidesOk a b
  case neg =>
    rw [goodPlB_no (fun h => hs h.1)]
    have hs' : decide ((1 ≤ a ∧ a ≤ 512) ∧ (1 ≤ b ∧ b ≤ 512) ∧ a * b ≤ 4096) = false := decide_eq_false hs
    rw [hs'] at hS
    clear hs hs'
    go_enter Try.func44, Try.ntmps44
    go_wp2_with fail
    refine (unhide hS _).mono ?_
    rintro e w1 ⟨rfl, rfl⟩
    go_wp2
    go_ret
    exact ⟨rfl, unhide hU⟩
  have hs' : decide ((1 ≤ a ∧ a ≤ 512) ∧ (1 ≤ b ∧ b ≤ 512) ∧ a * b ≤ 4096) = true := decide_eq_true hs
  rw [hs'] at hS
  clear hs'
  obtain ⟨P, hP, P1, P2⟩ := prod_side hs.1 hs.2.1
  by_cases hl : (zs.length : Int) = P
  case neg =>
    rw [goodPlB_no (fun h => hl (by have := h.2.1; simp only at this; omega))]
    have r3 : ((zs.length : Int) == P) = false := by simp [hl]
    clear hs hl
    go_enter Try.func44, Try.ntmps44
    go_wp2_with fail
    refine (unhide hS _).mono ?_
    rintro e w1 ⟨rfl, rfl⟩
    go_wp2
    go_ret
    exact ⟨rfl, unhide hU⟩
  have r3 : ((zs.length : Int) == P) = true := by simp [hl]
  have hE : Hid (goodPlB (a, b, zs) = smpB zs 8) := hide (by
    by_cases h : SmpOk zs 8
    · rw [smpB_yes h]; exact goodPlB_yes ⟨hs, by show (zs.length : Int) = a * b; rw [hP, hl], h⟩
    · rw [smpB_no h]; exact goodPlB_no (fun h' => h h'.2.2))
  replace hl := hide hl
  clear hs
  rw [unhide hE]
  clear hE
  go_enter Try.func44, Try.ntmps44
  go_wp2_with fail
  refine (unhide hS _).mono ?_
  rintro e w1 ⟨rfl, rfl⟩
  go_wp2_with fail
  refine (unhide hG _ (unhide hrd)).mono ?_
  rintro e w1 ⟨rfl, rfl⟩
  go_wp2
  go_ret
  exact ⟨rfl, unhide hU⟩
end Go.Proofs.Ytilmdbdgohfpcaa
