/- The laws' comparing of two lists that may differ, and the specification's Clips. -/
import Derived.Test.YtnalmingbglgfaaWDw
import Derived.Test.YtnalmingbglgfaaPlainBl
namespace Go.Proofs.Ytnalmingbglgfaa
open Go.RowKit

theorem InR.inI {lo hi : Int} {xs : List Int} (h : InR lo hi xs) (hl : -9223372036854775808 ≤ lo) (hh : hi ≤ 9223372036854775807) : InI xs := by
  intro j
  by_cases hj : j < xs.length
  · have := h j hj; omega
  · rw [List.getD_eq_getElem?_getD, List.getElem?_eq_none (by omega)]; simp
set_option maxHeartbeats 4000000 in
theorem wInts_any (u v : Value) (zs ys : List Int) (w : World) (hn : zs.length ≤ 1048576) (hl : ys.length = zs.length) (hu : RdI w u zs) (hv : RdI w v ys) :
    Calls Try.prog 21 #[u, v] w fun e w' => ∃ b : Bool, e = .returned (.bool b) ∧ Upd 0 0 w w' := by
  obtain ⟨ad, cap, rfl, hA⟩ := hu
  obtain ⟨ad', cap', rfl, hA'⟩ := hv
  rw [hl]
  replace hl := hide hl
  replace hA := hide hA
  replace hA' := hide hA'
  go_enter Try.func21, Try.ntmps21
  go_wp2
  go_loopw [13] (fun i wr => ∃ k : Nat, k ≤ zs.length ∧ i = .int .i64 k ∧ ∃ nq, wr = w.drewN nq) (fun i _ => zs.length - (intOf i).toNat)
  case atStart => exact ⟨0, Nat.zero_le _, rfl, 0, rfl⟩
  case round =>
    obtain ⟨k, hk, rfl, nq, rfl⟩ := hrel
    by_cases hlt : k < zs.length
    · obtain ⟨b, off, rfl, hbl, hc⟩ := (unhide hA) (ne_of_lt_length hlt)
      obtain ⟨b', off', rfl, hbl', hc'⟩ := (unhide hA') (ne_of_lt_length (k := k) (by rw [unhide hl]; exact hlt))
      have hck := hc k hlt
      have hck' := hc' k (by rw [unhide hl]; exact hlt)
      clear hc hc' hA hA'
      generalize zs.getD k 0 = x at hck
      generalize ys.getD k 0 = y at hck'
      by_cases hxy : x = y
      · subst hxy
        go_wp2
        go_quiet (fail)
        go_wp2
        go_roundw
        case rel => exact ⟨k + 1, by omega, by go_num, _, rfl⟩
        case measure => simp [intOf]; omega
      · have hb : (x != y) = true := bne_iff_ne.2 hxy
        go_wp2
        go_quiet (fail)
        go_wp2
        go_ret
        exact ⟨false, rfl, ((Upd.refl 0 0 _).drewN _).drewN _⟩
    · have hkl : k = zs.length := by omega
      subst hkl
      go_wp2
      go_ret
      exact ⟨true, rfl, (Upd.refl 0 0 _).drewN _⟩
set_option maxHeartbeats 4000000 in
theorem specClips (u v : Value) (zs ts : List Int) (w : World) (hn : zs.length = 64) (hn' : ts.length = 64) (hz : InR (-32768) 32767 zs) (ht : InR 1 255 ts) (hu : RdI w u zs) (hv : RdI w v ts)
    (hC : ∃ k, k < 64 ∧ (32767 < zs.getD k 0 * ts.getD k 0 ∨ zs.getD k 0 * ts.getD k 0 < -32768)) :
    Calls Try.prog 26 #[u, v] w fun e w' => e = .returned (.bool true) ∧ w' = w := by
  obtain ⟨ad, cap, rfl, hA⟩ := hu
  obtain ⟨ad', cap', rfl, hA'⟩ := hv
  replace hA := hide hA
  replace hA' := hide hA'
  replace hz := hide hz
  replace ht := hide ht
  replace hC := hide hC
  rw [hn, hn']
  go_enter Try.func26, Try.ntmps26
  go_wp2
  go_loop [9] (fun i => ∃ k : Nat, k ≤ 64 ∧ i = .int .i64 k ∧ Hid (∀ j, j < k → ¬ (32767 < zs.getD j 0 * ts.getD j 0 ∨ zs.getD j 0 * ts.getD j 0 < -32768))) (fun i => 64 - (intOf i).toNat)
  case atStart => exact ⟨0, Nat.zero_le _, rfl, fun j hj => by omega⟩
  case round =>
    obtain ⟨k, hk, rfl, hno⟩ := hrel
    by_cases hlt : k < 64
    · obtain ⟨b, off, rfl, hbl, hc⟩ := (unhide hA) (ne_of_lt_length (k := k) (by omega))
      obtain ⟨b', off', rfl, hbl', hc'⟩ := (unhide hA') (ne_of_lt_length (k := k) (by omega))
      have hck := hc k (by omega)
      have hck' := hc' k (by omega)
      have hx := (unhide hz) k (by omega)
      have hy := (unhide ht) k (by omega)
      have hno2 : Hid (¬ (32767 < zs.getD k 0 * ts.getD k 0 ∨ zs.getD k 0 * ts.getD k 0 < -32768) → ∀ j, j < k + 1 → ¬ (32767 < zs.getD j 0 * ts.getD j 0 ∨ zs.getD j 0 * ts.getD j 0 < -32768)) := hide (fun h j hj => by
        rcases Nat.lt_or_eq_of_le (Nat.le_of_lt_succ hj) with h' | h'
        · exact unhide hno j h'
        · subst h'; exact h)
      clear hc hc' hbl hbl' hno
      generalize zs.getD k 0 = x at hck hx hno2
      generalize ts.getD k 0 = t at hck' hy hno2
      obtain ⟨x0, x1⟩ := hx
      obtain ⟨t0, t1⟩ := hy
      obtain ⟨P, hP⟩ : ∃ P, x * t = P := ⟨_, rfl⟩
      have hP0 : -8355840 ≤ P := by
        have h1 : -32768 * t ≤ x * t := Int.mul_le_mul_of_nonneg_right x0 (by omega)
        rw [hP] at h1; omega
      have hP1 : P ≤ 8355840 := by
        have h1 : x * t ≤ 32768 * t := Int.mul_le_mul_of_nonneg_right (by omega) (by omega)
        rw [hP] at h1; omega
      rw [hP] at hno2
      by_cases p1 : 32767 < P
      · go_wp2
        go_ret
        exact ⟨rfl, rfl⟩
      · by_cases p2 : P < -32768
        · go_wp2
          go_ret
          exact ⟨rfl, rfl⟩
        · have hno3 := hide (unhide hno2 (by omega))
          clear hno2
          go_wp2
          go_round
          case rel => exact ⟨k + 1, by omega, by go_num, hno3⟩
          case measure => simp [intOf]; omega
    · obtain ⟨j, hj, hcl⟩ := unhide hC
      exact absurd hcl (unhide hno j (by omega))
end Go.Proofs.Ytnalmingbglgfaa
