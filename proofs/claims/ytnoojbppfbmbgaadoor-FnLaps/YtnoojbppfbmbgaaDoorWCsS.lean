/- Cosines: the specification's walks; the window on both sides. -/
import Derived.Test.YtnoojbppfbmbgaaDoorWCsB
import Derived.Test.YtnoojbppfbmbgaaDoorPlainLi
namespace Go.Proofs.YtnoojbppfbmbgaaDoor
open Go.RowKit

theorem rowI_new (w : World) (xs : List Value) (n : Nat) (hn : xs.length = n) (h : n ≤ 1048576) : RowI (w.alloc (.cells xs.toArray 3)) w.heap.size n xs := by
  refine ⟨by simp [hn], .inr ⟨w.heap.size, n, xs.toArray, rfl, Nat.le_refl _, alloc_newR w _, Nat.le_refl _, by unfold maxLen; omega, by simp [hn], by subst hn; simp⟩⟩
set_option maxHeartbeats 4000000 in
set_option maxRecDepth 100000 in
theorem specTable (w : World) :
    Calls Tryd.prog 69 #[] w fun e w' => ∃ v, e = .returned v ∧ OwnI w' w.heap.size w'.heap.size v cosQ ∧ Upd 0 0 w w' := by
  have hR := hide (rowI_new w (ints cosQ) 33 rfl (by omega))
  have hU := hide (Upd.of_below ((Below.refl w.heap.size w).alloc (Nat.le_refl _) (.cells (ints cosQ).toArray 3)) 0 0)
  have hz : Hid ((w.alloc (.cells (ints cosQ).toArray 3)).heap.size = w.heap.size + 1) := hide (by simp)
  go_enter Tryd.func69, Tryd.ntmps69
  go_wp2
  change Hid (RowI (w.alloc (.cells #[.int .i64 16384, .int .i64 16364, .int .i64 16305, .int .i64 16207, .int .i64 16069, .int .i64 15893, .int .i64 15679, .int .i64 15426, .int .i64 15137, .int .i64 14811, .int .i64 14449, .int .i64 14053, .int .i64 13623, .int .i64 13160, .int .i64 12665, .int .i64 12140, .int .i64 11585, .int .i64 11003, .int .i64 10394, .int .i64 9760, .int .i64 9102, .int .i64 8423, .int .i64 7723, .int .i64 7005, .int .i64 6270, .int .i64 5520, .int .i64 4756, .int .i64 3981, .int .i64 3196, .int .i64 2404, .int .i64 1606, .int .i64 804, .int .i64 0] 3)) w.heap.size 33 (ints cosQ)) at hR
  go_ret
  refine ⟨_, rfl, ?_, unhide hU⟩
  have h := (unhide hR).own
  rw [← unhide hz] at h
  exact h
set_option maxHeartbeats 2000000 in
theorem specCosine (m : Int) (b off : Nat) (cap : Nat) (w : World) (hTb : ∀ j, j < 33 → w.cell? ⟨b, off + j, none⟩ = some (.int .i64 (cosQ.getD j 0))) :
    Calls Tryd.prog 70 #[.slice (some ⟨b, off, none⟩) 33 cap, .int .i64 m] w fun e w' => e = .returned (.int .i64 (cosA m)) ∧ w' = w := by
  have hA := i64_and127 m
  obtain ⟨r, hr⟩ : ∃ r : Nat, m % 128 = (r : Int) := ⟨(m % 128).toNat, by omega⟩
  have hr2 : r < 128 := by omega
  have hv : cosA m = cosT.getD r 0 := by unfold cosA; rw [hr, Int.toNat_natCast]
  rw [hv, cosA_parts r hr2]
  rw [hr] at hA
  clear hv hr
  have hc := hide hTb
  have hbd := hide cosQ_bd
  clear hTb
  by_cases c1 : r ≤ 32
  · rw [if_pos c1]
    have hk := unhide hc r (by omega)
    clear hc hbd
    generalize cosQ.getD r 0 = y at hk ⊢
    have q1 : decide ((r : Int) ≤ 32) = true := decide_eq_true (by omega)
    go_enter Tryd.func70, Tryd.ntmps70
    go_wp2
    go_ret
    exact ⟨rfl, rfl⟩
  by_cases c2 : r ≤ 64
  · rw [if_neg c1, if_pos c2]
    obtain ⟨j, hj⟩ : ∃ j, 64 - r = j := ⟨_, rfl⟩
    rw [hj]
    have hk := unhide hc j (by omega)
    have hy := unhide hbd j (by omega)
    have ej : 64 - (r : Int) = (j : Int) := by omega
    have j33 : j < 33 := by omega
    clear hc hbd hj
    generalize cosQ.getD j 0 = y at hk hy ⊢
    obtain ⟨y1, y2⟩ := hy
    have q1 : decide ((r : Int) ≤ 32) = false := decide_eq_false (by omega)
    have q2 : decide ((r : Int) ≤ 64) = true := decide_eq_true (by omega)
    go_enter Tryd.func70, Tryd.ntmps70
    go_wp2
    go_ret
    exact ⟨rfl, rfl⟩
  by_cases c3 : r ≤ 96
  · rw [if_neg c1, if_neg c2, if_pos c3]
    obtain ⟨j, hj⟩ : ∃ j, r - 64 = j := ⟨_, rfl⟩
    rw [hj]
    have hk := unhide hc j (by omega)
    have hy := unhide hbd j (by omega)
    have ej : (r : Int) - 64 = (j : Int) := by omega
    have j33 : j < 33 := by omega
    clear hc hbd hj
    generalize cosQ.getD j 0 = y at hk hy ⊢
    obtain ⟨y1, y2⟩ := hy
    have q1 : decide ((r : Int) ≤ 32) = false := decide_eq_false (by omega)
    have q2 : decide ((r : Int) ≤ 64) = false := decide_eq_false (by omega)
    have q3 : decide ((r : Int) ≤ 96) = true := decide_eq_true (by omega)
    go_enter Tryd.func70, Tryd.ntmps70
    go_wp2
    go_ret
    exact ⟨rfl, rfl⟩
  · rw [if_neg c1, if_neg c2, if_neg c3]
    obtain ⟨j, hj⟩ : ∃ j, 128 - r = j := ⟨_, rfl⟩
    rw [hj]
    have hk := unhide hc j (by omega)
    have ej : 128 - (r : Int) = (j : Int) := by omega
    have j33 : j < 33 := by omega
    clear hc hbd hj
    generalize cosQ.getD j 0 = y at hk ⊢
    have q1 : decide ((r : Int) ≤ 32) = false := decide_eq_false (by omega)
    have q2 : decide ((r : Int) ≤ 64) = false := decide_eq_false (by omega)
    have q3 : decide ((r : Int) ≤ 96) = false := decide_eq_false (by omega)
    go_enter Tryd.func70, Tryd.ntmps70
    go_wp2
    go_ret
    exact ⟨rfl, rfl⟩
end Go.Proofs.YtnoojbppfbmbgaaDoor
