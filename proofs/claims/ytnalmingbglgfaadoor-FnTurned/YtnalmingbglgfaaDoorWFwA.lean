/- A wave by its number: the specification's. -/
import Derived.Test.YtnalmingbglgfaaDoorPlainFx
import Derived.Test.YtnalmingbglgfaaDoorWHeld
import Derived.Test.YtnalmingbglgfaaDoorWIntsD
namespace Go.Proofs.YtnalmingbglgfaaDoor
open Go.RowKit

set_option maxHeartbeats 4000000 in
set_option maxRecDepth 100000 in
theorem specL8M (u x : Nat) (w : World) (hu : u < 8) (hx : x < 8) : Calls Tryd.prog 32 #[.int .i64 (u : Int), .int .i64 (x : Int)] w fun e w' => e = .returned (.int .i64 (mZ u x)) ∧ Upd 0 0 w w' := by
  by_cases h0 : u = 0
  · subst h0
    rw [m_zero x hx]
    go_enter Tryd.func32, Tryd.ntmps32
    go_wp2
    go_ret
    exact ⟨rfl, Upd.refl 0 0 _⟩
  have hb : ((u : Int) == 0) = false := beq_eq_false_iff_ne.2 (by omega)
  have hm := m_spec u hu x hx h0
  generalize mZ u x = y at hm ⊢
  have hNd : mN u x = if (2 * x + 1) * u % 32 > 16 then 32 - (2 * x + 1) * u % 32 else (2 * x + 1) * u % 32 := rfl
  generalize mN u x = n at hm hNd
  obtain ⟨N, hN⟩ : ∃ N, (2 * x + 1) * u = N := ⟨_, rfl⟩
  have hN2 : N ≤ 15 * 7 := by rw [← hN]; exact Nat.mul_le_mul (by omega) (by omega)
  have e1 : (2 * (x : Int) + 1) * (u : Int) = (N : Int) := by rw [← hN]; push_cast; rfl
  rw [hN] at hNd
  clear hN
  obtain ⟨r, hr⟩ : ∃ r, N % 32 = r := ⟨_, rfl⟩
  have e2 : (N : Int) % 32 = (r : Int) := by omega
  have e3 : (N : Int).tmod 32 = (r : Int) := by rw [Int.tmod_eq_emod_of_nonneg (by omega)]; exact e2
  rw [hr] at hNd
  have hr32 : r < 32 := by omega
  replace hr := hide hr
  have hc := heldF_new w [.int .i64 0, .int .i64 4017, .int .i64 3784, .int .i64 3406, .int .i64 2896, .int .i64 2276, .int .i64 1567, .int .i64 799] 3
  have hU := hide (Upd.of_below ((Below.refl w.heap.size w).alloc (Nat.le_refl _) (.cells #[.int .i64 0, .int .i64 4017, .int .i64 3784, .int .i64 3406, .int .i64 2896, .int .i64 2276, .int .i64 1567, .int .i64 799] 3)) 0 0)
  have hcell : Hid (∀ j, j < 8 → (w.alloc (.cells #[.int .i64 0, .int .i64 4017, .int .i64 3784, .int .i64 3406, .int .i64 2896, .int .i64 2276, .int .i64 1567, .int .i64 799] 3)).cell? ⟨w.heap.size, j, none⟩ = some (.int .i64 (cT.getD j 0))) := hide (fun j hj => by
    rcases (show j = 0 ∨ j = 1 ∨ j = 2 ∨ j = 3 ∨ j = 4 ∨ j = 5 ∨ j = 6 ∨ j = 7 by omega) with e | e | e | e | e | e | e | e <;> subst e <;> exact hc.1.2 _ _ rfl)
  have u1 : (1 : Int) ≤ (u : Int) := by omega
  clear hc h0
  by_cases hr16 : 16 < r
  · rw [if_pos hr16] at hNd
    have e4 : 32 - (r : Int) = (n : Int) := by omega
    clear hNd
    rcases hm with ⟨h8, rfl⟩ | ⟨h8, h9, h10, rfl⟩
    · have hk := unhide hcell n h8
      clear hcell
      generalize cT.getD n 0 = y at hk ⊢
      have hn0 : (n : Int).toNat = n := by omega
      go_enter Tryd.func32, Tryd.ntmps32
      go_wp2
      go_ret
      exact ⟨rfl, unhide hU⟩
    · have hk := unhide hcell (16 - n) h9
      clear hcell
      have hyb : cT.getD (16 - n) 0 ≤ 4017 ∧ 0 ≤ cT.getD (16 - n) 0 := by
        have : ∀ j, j < 8 → cT.getD j 0 ≤ 4017 ∧ 0 ≤ cT.getD j 0 := by decide
        exact this _ h9
      generalize cT.getD (16 - n) 0 = y at hk hyb ⊢
      obtain ⟨y1, y0⟩ := hyb
      obtain ⟨q, hq⟩ : ∃ q, 16 - n = q := ⟨_, rfl⟩
      rw [hq] at hk h9
      have e5 : 16 - (n : Int) = (q : Int) := by omega
      clear hq
      go_enter Tryd.func32, Tryd.ntmps32
      go_wp2
      go_ret
      exact ⟨rfl, unhide hU⟩
  · rw [if_neg hr16] at hNd
    subst hNd
    rcases hm with ⟨h8, rfl⟩ | ⟨h8, h9, h10, rfl⟩
    · have hk := unhide hcell n h8
      clear hcell
      generalize cT.getD n 0 = y at hk ⊢
      go_enter Tryd.func32, Tryd.ntmps32
      go_wp2
      go_ret
      exact ⟨rfl, unhide hU⟩
    · have hk := unhide hcell (16 - n) h9
      clear hcell
      have hyb : cT.getD (16 - n) 0 ≤ 4017 ∧ 0 ≤ cT.getD (16 - n) 0 := by
        have : ∀ j, j < 8 → cT.getD j 0 ≤ 4017 ∧ 0 ≤ cT.getD j 0 := by decide
        exact this _ h9
      generalize cT.getD (16 - n) 0 = y at hk hyb ⊢
      obtain ⟨y1, y0⟩ := hyb
      obtain ⟨q, hq⟩ : ∃ q, 16 - n = q := ⟨_, rfl⟩
      rw [hq] at hk h9
      have e5 : 16 - (n : Int) = (q : Int) := by omega
      clear hq
      go_enter Tryd.func32, Tryd.ntmps32
      go_wp2
      go_ret
      exact ⟨rfl, unhide hU⟩
end Go.Proofs.YtnalmingbglgfaaDoor
