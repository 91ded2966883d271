/- The iterator's maker: rowsOfLine. -/
import Derived.Test.YtilmdbdgohfpcaaWItR
namespace Go.Proofs.Ytilmdbdgohfpcaa
open Go Go.RowKit

theorem three_cells (w : World) (x y z : Value) : ∃ W, (((w.alloc (.cells #[x] 3)).alloc (.cells #[y] 3)).alloc (.cells #[z] 3)).drew = W ∧ W.heap.size = w.heap.size + 3 ∧
    W.cell? ⟨w.heap.size, 0, none⟩ = some x ∧ W.cell? ⟨w.heap.size + 1, 0, none⟩ = some y ∧ W.cell? ⟨w.heap.size + 1 + 1, 0, none⟩ = some z ∧ Below w.heap.size w W := by
  obtain ⟨W, hW⟩ : ∃ W, (((w.alloc (.cells #[x] 3)).alloc (.cells #[y] 3)).alloc (.cells #[z] 3)).drew = W := ⟨_, rfl⟩
  have e : ∀ k : Nat, W.heap[k]? = (((w.heap.push (.cells #[x] 3)).push (.cells #[y] 3)).push (.cells #[z] 3))[k]? := fun k => by rw [← hW]; rfl
  have e1 : W.heap[w.heap.size]? = some (.cells #[x] 3) := by
    rw [e, Array.getElem?_push, if_neg (by simp; omega), Array.getElem?_push, if_neg (by simp), Array.getElem?_push, if_pos rfl]
  have e2 : W.heap[w.heap.size + 1]? = some (.cells #[y] 3) := by
    rw [e, Array.getElem?_push, if_neg (by simp), Array.getElem?_push, if_pos (by simp)]
  have e3 : W.heap[w.heap.size + 1 + 1]? = some (.cells #[z] 3) := by
    rw [e, Array.getElem?_push, if_pos (by simp)]
  refine ⟨W, hW, by rw [← hW]; simp, ?_, ?_, ?_, by rw [← hW]; exact ((((Below.refl _ w).alloc (Nat.le_refl _) _).alloc (by simp) _).alloc (by simp; omega) _).drew⟩
  · unfold World.cell?; rw [e1]; rfl
  · unfold World.cell?; rw [e2]; rfl
  · unfold World.cell?; rw [e3]; rfl

set_option maxRecDepth 100000 in
set_option maxHeartbeats 4000000 in
theorem rowsOfLine_mk (s : Nat) (hs : s ≤ 14) (w : World) :
    Calls Try.prog 51 #[.int .i64 (s : Int)] w fun e w' => ∃ b1 b2 b3 : Nat,
      e = .returned (.func (.func 61) #[] #[.pointer (some ⟨b1, 0, none⟩), .pointer (some ⟨b2, 0, none⟩), .pointer (some ⟨b3, 0, none⟩)]) ∧
      (w.heap.size ≤ b1 ∧ b1 < w'.heap.size) ∧ (w.heap.size ≤ b2 ∧ b2 < w'.heap.size) ∧ (w.heap.size ≤ b3 ∧ b3 < w'.heap.size) ∧
      w'.cell? ⟨b1, 0, none⟩ = some (.int .i64 (btN s : Int)) ∧ w'.cell? ⟨b2, 0, none⟩ = some (.int .i64 (tpN s : Int)) ∧ w'.cell? ⟨b3, 0, none⟩ = some (.int .i64 (s : Int)) ∧ Below w.heap.size w w' := by
  go_enter Try.func51, Try.ntmps51
  have hz : (s : Int) - 8 + 1 = (s : Int) - 7 := by omega
  by_cases h7 : s ≤ 7
  · have m1 : decide ((s : Int) - 7 ≤ 0) = true := decide_eq_true (by omega)
    have e1 : btN s = s := by unfold btN; omega
    have e2 : tpN s = 0 := by unfold tpN; omega
    rw [e1, e2]
    clear e1 e2
    go_wp2
    go_region
    · obtain ⟨W, hW, hsz, k1, k2, k3, hb⟩ := three_cells w (.int .i64 (s : Int)) (.int .i64 0) (.int .i64 (s : Int))
      rw [hW]
      go_wp2
      go_ret
      exact ⟨_, _, _, rfl, by omega, by omega, by omega, k3, k2, k1, hb⟩
    · obtain ⟨W, hW, hsz, k1, k2, k3, hb⟩ := three_cells w (.int .i64 (s : Int)) (.int .i64 (s : Int)) (.int .i64 0)
      rw [hW]
      go_wp2
      go_ret
      exact ⟨_, _, _, rfl, by omega, by omega, by omega, k2, k3, k1, hb⟩
  · have m1 : decide ((s : Int) - 7 ≤ 0) = false := decide_eq_false (by omega)
    have e1 : btN s = 7 := by unfold btN; omega
    obtain ⟨t, ht⟩ : ∃ t, tpN s = t := ⟨_, rfl⟩
    have e2 : (s : Int) - 7 = (t : Int) := by rw [← ht]; unfold tpN; omega
    rw [e1, ht]
    clear e1 ht
    go_wp2
    go_region
    · obtain ⟨W, hW, hsz, k1, k2, k3, hb⟩ := three_cells w (.int .i64 (s : Int)) (.int .i64 (t : Int)) (.int .i64 7)
      rw [hW]
      go_wp2
      go_ret
      exact ⟨_, _, _, rfl, by omega, by omega, by omega, k3, k2, k1, hb⟩
    · obtain ⟨W, hW, hsz, k1, k2, k3, hb⟩ := three_cells w (.int .i64 (s : Int)) (.int .i64 7) (.int .i64 (t : Int))
      rw [hW]
      go_wp2
      go_ret
      exact ⟨_, _, _, rfl, by omega, by omega, by omega, k2, k3, k1, hb⟩
end Go.Proofs.Ytilmdbdgohfpcaa
