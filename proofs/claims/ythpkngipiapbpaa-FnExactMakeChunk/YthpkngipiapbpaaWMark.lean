/- The walks of the laws' own helpers that mark a byte string of the call's own, and ask whether the marks are there. -/
import Derived.Test.YthpkngipiapbpaaWTake3
namespace Go.Proofs.Ythpkngipiapbpaa
open Go.RowKit

def markAt (k j : Nat) : Value := .int .u8 (((k : Int) + j) % 256)
def Marked (w : World) (g n k : Nat) : Prop := ∀ j, j < n → w.cell? ⟨g, j, none⟩ = some (markAt k j)

set_option maxHeartbeats 1000000 in
theorem markByteS_own (base g cap n k : Nat) (xs : List Value) (w : World) (hn : n ≤ 1048576) (hk : k ≤ 1099511627776) (h : w.ownsRow base 5 1 (.slice (some ⟨g, 0, none⟩) n cap) n xs) :
    Calls Try.prog 11 #[.slice (some ⟨g, 0, none⟩) n cap, .int .i64 k] w fun e w' => e = .returned (.int .i64 ((k + n : Nat) : Int)) ∧ Marked w' g n k ∧ OnlyAt g w w' ∧ ∃ ys, w'.ownsRow base 5 1 (.slice (some ⟨g, 0, none⟩) n cap) n ys := by
  go_enter Try.func11, Try.ntmps11
  go_wp2
  go_loopw [1, 5] (fun a i wr => ∃ t : Nat, ∃ ys, t ≤ n ∧ a = .int .i64 ((k + t : Nat) : Int) ∧ i = .int .i64 t ∧ wr.ownsRow base 5 1 (.slice (some ⟨g, 0, none⟩) n cap) n ys ∧ (∀ j, j < t → ys[j]? = some (markAt k j)) ∧ OnlyAt g w wr) (fun _ i _ => n - (intOf i).toNat)
  case atStart => exact ⟨0, xs, Nat.zero_le _, rfl, rfl, h, fun j hj => by omega, OnlyAt.refl _ _⟩
  case round =>
    clear h
    obtain ⟨t, ys, ht, rfl, rfl, hown, hys, honly⟩ := hrel
    have hlen : ys.length = n := by have := hown.1; omega
    by_cases hlt : t < n
    · have hdst : wr.cell? ⟨g, t, none⟩ = some (ys.getD t undef) := by
        rw [hown.cellAt t (by omega), List.getElem?_eq_getElem (by omega), List.getD_eq_getElem?_getD, List.getElem?_eq_getElem (by omega)]; rfl
      have hfz := hown.frozenAt t
      generalize ys.getD t undef = u at hdst
      have hst := (hown.stored t (markAt k t)).1
      have hnew : ∀ j, j < t + 1 → (ys.set t (markAt k t))[j]? = some (markAt k j) := fun j hj => by
        rw [List.getElem?_set]
        by_cases e : t = j
        · subst e; simp [hlen, hlt]
        · rw [if_neg e]; exact hys j (by omega)
      have ho2 := honly.setCell t (markAt k t)
      unfold markAt at hst ho2
      replace hst := hide hst
      replace hnew := hide hnew
      replace ho2 := hide ho2
      clear hown hys honly
      go_wp2
      go_roundw
      case rel => exact ⟨t + 1, _, by omega, by go_num, by go_num, unhide hst, unhide hnew, unhide ho2⟩
      case measure => simp [intOf]; omega
    · have htn : t = n := by omega
      subst htn
      have hM : Marked wr g t k := fun j hj => by rw [hown.cellAt j (by omega)]; exact hys j hj
      replace hM := hide hM
      clear hys
      go_wp2
      go_ret
      exact ⟨rfl, unhide hM, honly, _, hown⟩

set_option maxHeartbeats 1000000 in
theorem heldByteS_own (g cap n k : Nat) (w : World) (hn : n ≤ 1048576) (hk : k ≤ 1099511627776) (h : Marked w g n k) :
    Calls Try.prog 12 #[.slice (some ⟨g, 0, none⟩) n cap, .int .i64 k] w fun e w' => e = .returned (.int .i64 ((k + n : Nat) : Int)) ∧ w' = w := by
  replace h := hide h
  go_enter Try.func12, Try.ntmps12
  go_wp2
  go_loop [1, 5] (fun a i => ∃ t : Nat, t ≤ n ∧ a = .int .i64 ((k + t : Nat) : Int) ∧ i = .int .i64 t) (fun _ i => n - (intOf i).toNat)
  case atStart => exact ⟨0, Nat.zero_le _, rfl, rfl⟩
  case round =>
    obtain ⟨t, ht, rfl, rfl⟩ := hrel
    by_cases hlt : t < n
    · have hck : w.cell? ⟨g, t, none⟩ = some (.int .u8 (((k : Int) + t) % 256)) := unhide h t hlt
      go_wp2
      go_round
      case rel => exact ⟨t + 1, by omega, by go_num, by go_num⟩
      case measure => simp [intOf]; omega
    · have htn : t = n := by omega
      subst htn
      go_wp2
      go_ret
      exact ⟨rfl, rfl⟩
end Go.Proofs.Ythpkngipiapbpaa
