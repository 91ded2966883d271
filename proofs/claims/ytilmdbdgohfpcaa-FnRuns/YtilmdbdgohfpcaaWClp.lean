/- The laws' comparing of two lists that may differ, and the specification's Clips. -/
import Derived.Test.YtilmdbdgohfpcaaWDw
import Derived.Test.YtilmdbdgohfpcaaPlainBl
namespace Go.Proofs.Ytilmdbdgohfpcaa
open Go.RowKit

theorem InR.inI {lo hi : Int} {xs : List Int} (h : InR lo hi xs) (hl : -9223372036854775808 ≤ lo) (hh : hi ≤ 9223372036854775807) : InI xs := by
  intro j
  by_cases hj : j < xs.length
  · have := h j hj; omega
  · rw [List.getD_eq_getElem?_getD, List.getElem?_eq_none (by omega)]; simp
set_option maxHeartbeats 4000000 in
theorem wInts_any (u v : Value) (zs ys : List Int) (w : World) (hn : zs.length ≤ 1048576) (hl : ys.length = zs.length) (hu : RdI w u zs) (hv : RdI w v ys) :
    Calls Try.prog 12 #[u, v] w fun e w' => ∃ b : Bool, e = .returned (.bool b) ∧ Upd 0 0 w w' := by
  obtain ⟨ad, cap, rfl, hA⟩ := hu
  obtain ⟨ad', cap', rfl, hA'⟩ := hv
  rw [hl]
  replace hl := hide hl
  replace hA := hide hA
  replace hA' := hide hA'
  go_enter Try.func12, Try.ntmps12
  go_wp2
  go_loopw [13] (fun i wr => ∃ k : Nat, k ≤ zs.length ∧ i = .int .i64 k ∧ ∃ nq, wr = w.drewN nq) (fun i _ => zs.length - (intOf i).toNat)
  case atStart => exact ⟨0, Nat.zero_le _, rfl, 0, rfl⟩
  case round =>
    obtain ⟨k, hk, rfl, nq, rfl⟩ := hrel
    by_cases hlt : k < zs.length
    · obtain ⟨b, off, rfl, hbl, hc⟩ := (unhide hA) (ne_of_lt_length hlt)
      obtain ⟨b', off', rfl, hbl', hc'⟩ := (unhide hA') (ne_of_lt_length (k := k) (by rw [unhide hl]; exact hlt))
      have hck := hc k hlt
      have hck' := hc' k (by rw [unhide hl]; exact hlt)
      clear hc hc' hA hA'
      generalize zs.getD k 0 = x at hck
      generalize ys.getD k 0 = y at hck'
      by_cases hxy : x = y
      · subst hxy
        go_wp2
        go_quiet (fail)
        go_wp2
        go_roundw
        case rel => exact ⟨k + 1, by omega, by go_num, _, rfl⟩
        case measure => simp [intOf]; omega
      · have hb : (x != y) = true := bne_iff_ne.2 hxy
        go_wp2
        go_quiet (fail)
        go_wp2
        go_ret
        exact ⟨false, rfl, ((Upd.refl 0 0 _).drewN _).drewN _⟩
    · have hkl : k = zs.length := by omega
      subst hkl
      go_wp2
      go_ret
      exact ⟨true, rfl, (Upd.refl 0 0 _).drewN _⟩
end Go.Proofs.Ytilmdbdgohfpcaa
