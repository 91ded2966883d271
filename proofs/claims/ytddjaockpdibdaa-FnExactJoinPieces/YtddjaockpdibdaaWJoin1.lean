/- The walks of what a piece is: the program's. -/
import Derived.Test.YtddjaockpdibdaaWJo2
namespace Go.Proofs.Ytddjaockpdibdaa
open Go.RowKit

set_option maxHeartbeats 2000000 in
theorem isLiteral_any (x y z : Int) (w : World) :
    Calls Try.prog 103 #[.agg #[.int .i64 x, .int .i64 y, .int .i64 z]] w fun e w' => e = .returned (.bool (decide (litP (x, y, z)))) ∧ Below w.heap.size w w' := by
  by_cases h0 : y = 0
  · have q0 : (y == 0) = true := by simp; omega
    by_cases h1 : z = 0
    · have q1 : (z == 0) = true := by simp; omega
      by_cases h2 : 0 ≤ x
      · have q2 : decide ((0 : Int) ≤ x) = true := by simp; omega
        by_cases h3 : x ≤ 255
        · have q3 : decide (x ≤ (255 : Int)) = true := by simp; omega
          have hr : decide (litP (x, y, z)) = true := decide_eq_true (by unfold litP; simp only; omega)
          rw [hr]
          clear hr h0 h1 h2 h3
          go_enter Try.func103, Try.ntmps103
          go_wp2
          go_ret
          exact ⟨rfl, (Below.refl _ _).alloc (Nat.le_refl _) _⟩
        · have q3 : decide (x ≤ (255 : Int)) = false := by simp; omega
          have hr : decide (litP (x, y, z)) = false := decide_eq_false (fun h => by unfold litP at h; simp only at h; omega)
          rw [hr]
          clear hr h0 h1 h2 h3
          go_enter Try.func103, Try.ntmps103
          go_wp2
          go_ret
          exact ⟨rfl, (Below.refl _ _).alloc (Nat.le_refl _) _⟩
      · have q2 : decide ((0 : Int) ≤ x) = false := by simp; omega
        have hr : decide (litP (x, y, z)) = false := decide_eq_false (fun h => by unfold litP at h; simp only at h; omega)
        rw [hr]
        clear hr h0 h1 h2
        go_enter Try.func103, Try.ntmps103
        go_wp2
        go_ret
        exact ⟨rfl, (Below.refl _ _).alloc (Nat.le_refl _) _⟩
    · have q1 : (z == 0) = false := by simp; omega
      have hr : decide (litP (x, y, z)) = false := decide_eq_false (fun h => by unfold litP at h; simp only at h; omega)
      rw [hr]
      clear hr h0 h1
      go_enter Try.func103, Try.ntmps103
      go_wp2
      go_ret
      exact ⟨rfl, (Below.refl _ _).alloc (Nat.le_refl _) _⟩
  · have q0 : (y == 0) = false := by simp; omega
    have hr : decide (litP (x, y, z)) = false := decide_eq_false (fun h => by unfold litP at h; simp only at h; omega)
    rw [hr]
    clear hr h0
    go_enter Try.func103, Try.ntmps103
    go_wp2
    go_ret
    exact ⟨rfl, (Below.refl _ _).alloc (Nat.le_refl _) _⟩

set_option maxHeartbeats 2000000 in
theorem isCopy_any (x y z : Int) (w : World) :
    Calls Try.prog 105 #[.agg #[.int .i64 x, .int .i64 y, .int .i64 z]] w fun e w' => e = .returned (.bool (decide (copP (x, y, z)))) ∧ Below w.heap.size w w' := by
  by_cases h0 : x = 0
  · have q0 : (x == 0) = true := by simp; omega
    by_cases h1 : 3 ≤ y
    · have q1 : decide ((3 : Int) ≤ y) = true := by simp; omega
      by_cases h2 : y ≤ 258
      · have q2 : decide (y ≤ (258 : Int)) = true := by simp; omega
        by_cases h3 : 1 ≤ z
        · have q3 : decide ((1 : Int) ≤ z) = true := by simp; omega
          by_cases h4 : z ≤ 32768
          · have q4 : decide (z ≤ (32768 : Int)) = true := by simp; omega
            have hr : decide (copP (x, y, z)) = true := decide_eq_true (by unfold copP; simp only; omega)
            rw [hr]
            clear hr h0 h1 h2 h3 h4
            go_enter Try.func105, Try.ntmps105
            go_wp2
            go_ret
            exact ⟨rfl, (Below.refl _ _).alloc (Nat.le_refl _) _⟩
          · have q4 : decide (z ≤ (32768 : Int)) = false := by simp; omega
            have hr : decide (copP (x, y, z)) = false := decide_eq_false (fun h => by unfold copP at h; simp only at h; omega)
            rw [hr]
            clear hr h0 h1 h2 h3 h4
            go_enter Try.func105, Try.ntmps105
            go_wp2
            go_ret
            exact ⟨rfl, (Below.refl _ _).alloc (Nat.le_refl _) _⟩
        · have q3 : decide ((1 : Int) ≤ z) = false := by simp; omega
          have hr : decide (copP (x, y, z)) = false := decide_eq_false (fun h => by unfold copP at h; simp only at h; omega)
          rw [hr]
          clear hr h0 h1 h2 h3
          go_enter Try.func105, Try.ntmps105
          go_wp2
          go_ret
          exact ⟨rfl, (Below.refl _ _).alloc (Nat.le_refl _) _⟩
      · have q2 : decide (y ≤ (258 : Int)) = false := by simp; omega
        have hr : decide (copP (x, y, z)) = false := decide_eq_false (fun h => by unfold copP at h; simp only at h; omega)
        rw [hr]
        clear hr h0 h1 h2
        go_enter Try.func105, Try.ntmps105
        go_wp2
        go_ret
        exact ⟨rfl, (Below.refl _ _).alloc (Nat.le_refl _) _⟩
    · have q1 : decide ((3 : Int) ≤ y) = false := by simp; omega
      have hr : decide (copP (x, y, z)) = false := decide_eq_false (fun h => by unfold copP at h; simp only at h; omega)
      rw [hr]
      clear hr h0 h1
      go_enter Try.func105, Try.ntmps105
      go_wp2
      go_ret
      exact ⟨rfl, (Below.refl _ _).alloc (Nat.le_refl _) _⟩
  · have q0 : (x == 0) = false := by simp; omega
    have hr : decide (copP (x, y, z)) = false := decide_eq_false (fun h => by unfold copP at h; simp only at h; omega)
    rw [hr]
    clear hr h0
    go_enter Try.func105, Try.ntmps105
    go_wp2
    go_ret
    exact ⟨rfl, (Below.refl _ _).alloc (Nat.le_refl _) _⟩

def okPc (p : Pc) : Prop := litP p ∨ copP p
instance (p : Pc) : Decidable (okPc p) := by unfold okPc; infer_instance
set_option maxHeartbeats 4000000 in
theorem l3PieceOk_any (x y z : Int) (w : World) :
    Calls Try.prog 81 #[.agg #[.int .i64 x, .int .i64 y, .int .i64 z]] w fun e w' => e = .returned (.bool (decide (okPc (x, y, z)))) ∧ Below w.heap.size w w' := by
  by_cases hy0 : y = 0
  · have qy0 : (y == 0) = true := by simp; omega
    by_cases hz0 : z = 0
    · have qz0 : (z == 0) = true := by simp; omega
      by_cases hx0 : 0 ≤ x
      · have qx0 : decide ((0 : Int) ≤ x) = true := by simp; omega
        by_cases hx255 : x ≤ 255
        · have qx255 : decide (x ≤ (255 : Int)) = true := by simp; omega
          have hr : decide (okPc (x, y, z)) = true := decide_eq_true (by unfold okPc litP copP; simp only; omega)
          rw [hr]
          clear hr hy0 hz0 hx0 hx255
          go_enter Try.func81, Try.ntmps81
          go_wp2
          go_ret
          exact ⟨rfl, (Below.refl _ _).alloc (Nat.le_refl _) _⟩
        · have qx255 : decide (x ≤ (255 : Int)) = false := by simp; omega
          have hr : decide (okPc (x, y, z)) = false := decide_eq_false (fun h => by unfold okPc litP copP at h; simp only at h; omega)
          rw [hr]
          clear hr hy0 hz0 hx0 hx255
          go_enter Try.func81, Try.ntmps81
          go_wp2
          go_ret
          exact ⟨rfl, (Below.refl _ _).alloc (Nat.le_refl _) _⟩
      · have qx0 : decide ((0 : Int) ≤ x) = false := by simp; omega
        have hr : decide (okPc (x, y, z)) = false := decide_eq_false (fun h => by unfold okPc litP copP at h; simp only at h; omega)
        rw [hr]
        clear hr hy0 hz0 hx0
        go_enter Try.func81, Try.ntmps81
        go_wp2
        go_ret
        exact ⟨rfl, (Below.refl _ _).alloc (Nat.le_refl _) _⟩
    · have qz0 : (z == 0) = false := by simp; omega
      by_cases hxz : x = 0
      · have qxz : (x == 0) = true := by simp; omega
        have qy3 : decide ((3 : Int) ≤ y) = false := by simp; omega
        have hr : decide (okPc (x, y, z)) = false := decide_eq_false (fun h => by unfold okPc litP copP at h; simp only at h; omega)
        rw [hr]
        clear hr hy0 hz0 hxz
        go_enter Try.func81, Try.ntmps81
        go_wp2
        go_ret
        exact ⟨rfl, (Below.refl _ _).alloc (Nat.le_refl _) _⟩
      · have qxz : (x == 0) = false := by simp; omega
        have hr : decide (okPc (x, y, z)) = false := decide_eq_false (fun h => by unfold okPc litP copP at h; simp only at h; omega)
        rw [hr]
        clear hr hy0 hz0 hxz
        go_enter Try.func81, Try.ntmps81
        go_wp2
        go_ret
        exact ⟨rfl, (Below.refl _ _).alloc (Nat.le_refl _) _⟩
  · have qy0 : (y == 0) = false := by simp; omega
    by_cases hxz : x = 0
    · have qxz : (x == 0) = true := by simp; omega
      by_cases hy3 : 3 ≤ y
      · have qy3 : decide ((3 : Int) ≤ y) = true := by simp; omega
        by_cases hy258 : y ≤ 258
        · have qy258 : decide (y ≤ (258 : Int)) = true := by simp; omega
          by_cases hz1 : 1 ≤ z
          · have qz1 : decide ((1 : Int) ≤ z) = true := by simp; omega
            by_cases hzb : z ≤ 32768
            · have qzb : decide (z ≤ (32768 : Int)) = true := by simp; omega
              have hr : decide (okPc (x, y, z)) = true := decide_eq_true (by unfold okPc litP copP; simp only; omega)
              rw [hr]
              clear hr hy0 hxz hy3 hy258 hz1 hzb
              go_enter Try.func81, Try.ntmps81
              go_wp2
              go_ret
              exact ⟨rfl, (Below.refl _ _).alloc (Nat.le_refl _) _⟩
            · have qzb : decide (z ≤ (32768 : Int)) = false := by simp; omega
              have hr : decide (okPc (x, y, z)) = false := decide_eq_false (fun h => by unfold okPc litP copP at h; simp only at h; omega)
              rw [hr]
              clear hr hy0 hxz hy3 hy258 hz1 hzb
              go_enter Try.func81, Try.ntmps81
              go_wp2
              go_ret
              exact ⟨rfl, (Below.refl _ _).alloc (Nat.le_refl _) _⟩
          · have qz1 : decide ((1 : Int) ≤ z) = false := by simp; omega
            have hr : decide (okPc (x, y, z)) = false := decide_eq_false (fun h => by unfold okPc litP copP at h; simp only at h; omega)
            rw [hr]
            clear hr hy0 hxz hy3 hy258 hz1
            go_enter Try.func81, Try.ntmps81
            go_wp2
            go_ret
            exact ⟨rfl, (Below.refl _ _).alloc (Nat.le_refl _) _⟩
        · have qy258 : decide (y ≤ (258 : Int)) = false := by simp; omega
          have hr : decide (okPc (x, y, z)) = false := decide_eq_false (fun h => by unfold okPc litP copP at h; simp only at h; omega)
          rw [hr]
          clear hr hy0 hxz hy3 hy258
          go_enter Try.func81, Try.ntmps81
          go_wp2
          go_ret
          exact ⟨rfl, (Below.refl _ _).alloc (Nat.le_refl _) _⟩
      · have qy3 : decide ((3 : Int) ≤ y) = false := by simp; omega
        have hr : decide (okPc (x, y, z)) = false := decide_eq_false (fun h => by unfold okPc litP copP at h; simp only at h; omega)
        rw [hr]
        clear hr hy0 hxz hy3
        go_enter Try.func81, Try.ntmps81
        go_wp2
        go_ret
        exact ⟨rfl, (Below.refl _ _).alloc (Nat.le_refl _) _⟩
    · have qxz : (x == 0) = false := by simp; omega
      have hr : decide (okPc (x, y, z)) = false := decide_eq_false (fun h => by unfold okPc litP copP at h; simp only at h; omega)
      rw [hr]
      clear hr hy0 hxz
      go_enter Try.func81, Try.ntmps81
      go_wp2
      go_ret
      exact ⟨rfl, (Below.refl _ _).alloc (Nat.le_refl _) _⟩
end Go.Proofs.Ytddjaockpdibdaa
