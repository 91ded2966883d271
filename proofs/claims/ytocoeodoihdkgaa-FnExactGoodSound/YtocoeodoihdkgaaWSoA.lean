/- What sound is good: its head. -/
import Derived.Test.YtocoeodoihdkgaaWLiA
import Derived.Test.YtocoeodoihdkgaaWSo
import Derived.Test.YtocoeodoihdkgaaWOwn2
namespace Go.Proofs.Ytocoeodoihdkgaa
open Go.RowKit

def HeadSo (r b f : Int) : Prop := (1 ≤ r ∧ r ≤ 1000000) ∧ (2 ≤ b ∧ b ≤ 24) ∧ 1 ≤ f ∧ f ≤ 512
instance (r b f : Int) : Decidable (HeadSo r b f) := by unfold HeadSo; infer_instance
set_option maxHeartbeats 4000000 in
theorem implGoodHead (r b f : Int) (v : Value) (w : World) (hv : ∃ ad n cap, v = .slice ad n cap) :
    Calls Try.prog 79 #[.agg #[.int .i64 r, .int .i64 b, .int .i64 f, v]] w fun e w' => e = .returned (.bool (decide (HeadSo r b f))) ∧ Upd 0 0 w w' := by
  obtain ⟨ad, n, cap, rfl⟩ := hv
  have hU := hide (Upd.of_below ((Below.refl w.heap.size w).alloc (Nat.le_refl _) (.cells #[.int .i64 r, .int .i64 b, .int .i64 f, .slice ad n cap] 51)) 0 0)
  by_cases h0 : r < 1
  · rw [decide_eq_false (show ¬ HeadSo r b f from fun h => by unfold HeadSo at h; omega)]
    go_enter Try.func79, Try.ntmps79
    go_wp2
    go_ret
    exact ⟨rfl, unhide hU⟩
  by_cases h1 : 1000000 < r
  · rw [decide_eq_false (show ¬ HeadSo r b f from fun h => by unfold HeadSo at h; omega)]
    go_enter Try.func79, Try.ntmps79
    go_wp2
    go_ret
    exact ⟨rfl, unhide hU⟩
  by_cases h2 : b < 2
  · rw [decide_eq_false (show ¬ HeadSo r b f from fun h => by unfold HeadSo at h; omega)]
    go_enter Try.func79, Try.ntmps79
    go_wp2
    go_ret
    exact ⟨rfl, unhide hU⟩
  by_cases h3 : 24 < b
  · rw [decide_eq_false (show ¬ HeadSo r b f from fun h => by unfold HeadSo at h; omega)]
    go_enter Try.func79, Try.ntmps79
    go_wp2
    go_ret
    exact ⟨rfl, unhide hU⟩
  by_cases h4 : f < 1
  · rw [decide_eq_false (show ¬ HeadSo r b f from fun h => by unfold HeadSo at h; omega)]
    go_enter Try.func79, Try.ntmps79
    go_wp2
    go_ret
    exact ⟨rfl, unhide hU⟩
  by_cases h5 : 512 < f
  · have q5 : decide (f ≤ 512) = false := decide_eq_false (by omega)
    rw [decide_eq_false (show ¬ HeadSo r b f from fun h => by unfold HeadSo at h; omega)]
    go_enter Try.func79, Try.ntmps79
    go_wp2
    go_ret
    exact ⟨rfl, unhide hU⟩
  rw [decide_eq_true (show HeadSo r b f by unfold HeadSo; omega)]
  have q5 : decide (f ≤ 512) = true := decide_eq_true (by omega)
  go_enter Try.func79, Try.ntmps79
  go_wp2
  go_ret
  exact ⟨rfl, unhide hU⟩
set_option maxHeartbeats 4000000 in
theorem specL10Head (r b f c m : Int) (v : Value) (w : World) (hv : ∃ ad n cap, v = .slice ad n cap) :
    Calls Try.prog 76 #[.agg #[.int .i64 r, .int .i64 b, .int .i64 f, v], .int .i64 c, .int .i64 m] w fun e w' => e = .returned (.bool (decide (HeadSo r b f ∧ (1 ≤ c ∧ c ≤ 2) ∧ m ≤ 4000))) ∧ Upd 0 0 w w' := by
  obtain ⟨ad, n, cap, rfl⟩ := hv
  have hU := hide (Upd.of_below ((Below.refl w.heap.size w).alloc (Nat.le_refl _) (.cells #[.int .i64 r, .int .i64 b, .int .i64 f, .slice ad n cap] 51)) 0 0)
  by_cases h0 : r < 1
  · rw [decide_eq_false (show ¬ (HeadSo r b f ∧ (1 ≤ c ∧ c ≤ 2) ∧ m ≤ 4000) from fun h => by unfold HeadSo at h; omega)]
    go_enter Try.func76, Try.ntmps76
    go_wp2
    go_ret
    exact ⟨rfl, unhide hU⟩
  by_cases h1 : 1000000 < r
  · rw [decide_eq_false (show ¬ (HeadSo r b f ∧ (1 ≤ c ∧ c ≤ 2) ∧ m ≤ 4000) from fun h => by unfold HeadSo at h; omega)]
    go_enter Try.func76, Try.ntmps76
    go_wp2
    go_ret
    exact ⟨rfl, unhide hU⟩
  by_cases h2 : b < 2
  · rw [decide_eq_false (show ¬ (HeadSo r b f ∧ (1 ≤ c ∧ c ≤ 2) ∧ m ≤ 4000) from fun h => by unfold HeadSo at h; omega)]
    go_enter Try.func76, Try.ntmps76
    go_wp2
    go_ret
    exact ⟨rfl, unhide hU⟩
  by_cases h3 : 24 < b
  · rw [decide_eq_false (show ¬ (HeadSo r b f ∧ (1 ≤ c ∧ c ≤ 2) ∧ m ≤ 4000) from fun h => by unfold HeadSo at h; omega)]
    go_enter Try.func76, Try.ntmps76
    go_wp2
    go_ret
    exact ⟨rfl, unhide hU⟩
  by_cases h4 : f < 1
  · rw [decide_eq_false (show ¬ (HeadSo r b f ∧ (1 ≤ c ∧ c ≤ 2) ∧ m ≤ 4000) from fun h => by unfold HeadSo at h; omega)]
    go_enter Try.func76, Try.ntmps76
    go_wp2
    go_ret
    exact ⟨rfl, unhide hU⟩
  by_cases h5 : 512 < f
  · rw [decide_eq_false (show ¬ (HeadSo r b f ∧ (1 ≤ c ∧ c ≤ 2) ∧ m ≤ 4000) from fun h => by unfold HeadSo at h; omega)]
    go_enter Try.func76, Try.ntmps76
    go_wp2
    go_ret
    exact ⟨rfl, unhide hU⟩
  by_cases h6 : c < 1
  · rw [decide_eq_false (show ¬ (HeadSo r b f ∧ (1 ≤ c ∧ c ≤ 2) ∧ m ≤ 4000) from fun h => by unfold HeadSo at h; omega)]
    go_enter Try.func76, Try.ntmps76
    go_wp2
    go_ret
    exact ⟨rfl, unhide hU⟩
  by_cases h7 : 2 < c
  · rw [decide_eq_false (show ¬ (HeadSo r b f ∧ (1 ≤ c ∧ c ≤ 2) ∧ m ≤ 4000) from fun h => by unfold HeadSo at h; omega)]
    go_enter Try.func76, Try.ntmps76
    go_wp2
    go_ret
    exact ⟨rfl, unhide hU⟩
  by_cases h8 : 4000 < m
  · have q5 : decide (m ≤ 4000) = false := decide_eq_false (by omega)
    rw [decide_eq_false (show ¬ (HeadSo r b f ∧ (1 ≤ c ∧ c ≤ 2) ∧ m ≤ 4000) from fun h => by unfold HeadSo at h; omega)]
    go_enter Try.func76, Try.ntmps76
    go_wp2
    go_ret
    exact ⟨rfl, unhide hU⟩
  rw [decide_eq_true (show HeadSo r b f ∧ (1 ≤ c ∧ c ≤ 2) ∧ m ≤ 4000 by unfold HeadSo; omega)]
  have q5 : decide (m ≤ 4000) = true := decide_eq_true (by omega)
  go_enter Try.func76, Try.ntmps76
  go_wp2
  go_ret
  exact ⟨rfl, unhide hU⟩
end Go.Proofs.Ytocoeodoihdkgaa
