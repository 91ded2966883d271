/- The walks of GetNumber. -/
import Derived.Test.YtcmabocmcgkmdaaRows
import Derived.Test.YtcmabocmcgkmdaaPlainN
import Derived.WalkKit
import Derived.WalkSpells
import Derived.WalkLawsBesides
namespace Go.Proofs.Ytcmabocmcgkmdaa
open Go.RowKit

set_option maxHeartbeats 2000000 in
set_option maxRecDepth 100000 in
theorem implGetNumberIn (b off len cap : Nat) (zs : List Int) (p : Nat) (w : World) (hlen : zs.length = len) (hreach : len ≤ 1048576) (hlc : len ≤ cap)
    (hz : ∀ j, 0 ≤ zs.getD j 0 ∧ zs.getD j 0 < 256) (hc : ∀ j, j < len → w.cell? ⟨b, off + j, none⟩ = some (.int .u8 (zs.getD j 0))) (hp : p ≤ len) (hbl : b < w.heap.size) :
    Calls Try.prog 27 #[.slice (some ⟨b, off, none⟩) len cap, .int .i64 p] w fun e w' => e = .returned (numV (getNum zs p)) ∧ Below w.heap.size w w' := by
  subst hlen
  replace hc := hide hc
  have g1 : ¬ ((p : Int) < 0) := by omega
  have g2 : ¬ ((zs.length : Int) < p) := by omega
  have hG : getNum zs p = gnGo zs p 10 0 0 := by unfold getNum; rw [if_neg g1]; rfl
  rw [hG]; clear hG
  by_cases hpl : p = zs.length
  · rw [gn_end zs p 10 0 0 (by omega)]
    have g3 : zs.length - p = 0 := by omega
    go_enter Try.func27, Try.ntmps27
    go_wp2
    all_goals
      go_loop [21] (fun i => i = .int .i64 0) (fun i => 0)
      case atStart => rfl
      case round =>
        subst hrel
        go_wp2
        exact bodyPost_ret (v := numV none) (by simp [results, Try.results27, go_sem, numV]) rfl ⟨rfl, (Below.refl _ _).alloc (Nat.le_refl _) _⟩
  · have g3 : ¬ cap = p := by omega
    have hd : ∀ j, j < zs.length - p → (w.alloc (.cells #[.bool false, .int .u64 0, .int .i64 0] 32)).cell? ⟨b, off + p + j, none⟩ = some (.int .u8 (zs.getD (p + j) 0)) := fun j hj => by
      rw [World.cell?_alloc_past _ _ _ hbl, Nat.add_assoc]; exact unhide hc (p + j) (by omega)
    have hbel : Below w.heap.size w (w.alloc (.cells #[.bool false, .int .u64 0, .int .i64 0] 32)) := (Below.refl _ _).alloc (Nat.le_refl _) _
    replace hd := hide hd
    replace hbel := hide hbel
    go_enter Try.func27, Try.ntmps27
    go_wp2
    go_loop [5, 21] (fun a i => ∃ k v : Nat, k ≤ zs.length - p ∧ k ≤ 9 ∧ i = .int .i64 k ∧ a = .int .u64 v ∧ v < 2 ^ (7 * k) ∧ gnGo zs p (10 - k) k v = gnGo zs p 10 0 0) (fun _ i => zs.length - p - (intOf i).toNat)
    case atStart => exact ⟨0, 0, by omega, by omega, rfl, rfl, by simp, rfl⟩
    case round =>
      obtain ⟨k, v, hk, hk9, rfl, rfl, hv, HG⟩ := hrel
      by_cases hlt : k < zs.length - p
      · have hzk := hz (p + k)
        have hck := unhide hd k hlt
        have hun : ∃ d : Nat, (zs.getD (p + k) 0) = (d : Int) ∧ d < 256 := ⟨(zs.getD (p + k) 0).toNat, by omega, by omega⟩
        obtain ⟨d, hdd, hd256⟩ := hun
        rw [hdd] at hck
        clear hzk
        have hS : gnGo zs p (10 - k) k v = (if k = 9 ∧ 1 < d then none else if d < 128 then (if d = 0 ∧ 0 < k then none else some (v + d % 128 * 2 ^ (7 * k), p + k + 1)) else gnGo zs p (9 - k) (k + 1) (v + d % 128 * 2 ^ (7 * k))) := by
          rw [show 10 - k = (9 - k) + 1 by omega]
          conv => lhs; unfold gnGo
          rw [if_neg (by omega), hdd]; simp only [Int.toNat_natCast]
        rw [HG] at hS
        clear hdd
        by_cases hk9' : k = 9
        · subst hk9'
          by_cases hd1 : 1 < d
          · rw [if_pos ⟨rfl, hd1⟩] at hS
            replace hS := hide hS
            clear HG
            go_wp2
            rw [unhide hS]
            exact bodyPost_ret (v := numV none) (by simp [results, Try.results27, go_sem, numV]) rfl ⟨rfl, (Below.refl _ _).alloc (Nat.le_refl _) _⟩
          · rw [if_neg (by omega), if_pos (by omega)] at hS
            have hand := u8_and_127 d hd256
            clear HG
            rcases Nat.lt_or_eq_of_le (show d ≤ 1 by omega) with hd0 | hd1
            · have : d = 0 := by omega
              subst this
              rw [if_pos ⟨rfl, by omega⟩] at hS
              replace hS := hide hS
              go_wp2
              rw [unhide hS]
              exact bodyPost_ret (v := numV none) (by simp [results, Try.results27, go_sem, numV]) rfl ⟨rfl, (Below.refl _ _).alloc (Nat.le_refl _) _⟩
            · subst hd1
              rw [if_neg (by omega)] at hS
              replace hS := hide hS
              go_wp2
              rw [unhide hS]
              refine bodyPost_ret (v := numV (some (v + 1 % 128 * 2 ^ (7 * 9), p + 9 + 1))) (by simp [results, Try.results27, go_sem, numV]; exact or_group9 v hv) rfl ⟨rfl, (Below.refl _ _).alloc (Nat.le_refl _) _⟩
        · rw [if_neg (by omega)] at hS
          have hand := u8_and_127 d hd256
          clear HG
          have hk9b : ((k : Int) == 9) = false := beq_eq_false_iff_ne.2 (by omega)
          by_cases hd : d < 128
          · rw [if_pos hd] at hS
            by_cases hd0 : d = 0
            · subst hd0
              by_cases hk0 : 0 < k
              · rw [if_pos ⟨rfl, hk0⟩] at hS
                replace hS := hide hS
                go_wp2
                rw [unhide hS]
                exact bodyPost_ret (v := numV none) (by simp [results, Try.results27, go_sem, numV]) rfl ⟨rfl, (Below.refl _ _).alloc (Nat.le_refl _) _⟩
              · have hk00 : k = 0 := by omega
                subst hk00
                rw [if_neg (by omega)] at hS
                have hv0 : v = 0 := by simpa using hv
                subst hv0
                rw [Nat.add_zero] at hck
                replace hS := hide hS
                go_wp2
                rw [unhide hS]
                exact bodyPost_ret (v := numV (some (0 + 0 % 128 * 2 ^ (7 * 0), p + 0 + 1))) (by simp [results, Try.results27, go_sem, numV]; decide) rfl ⟨rfl, (Below.refl _ _).alloc (Nat.le_refl _) _⟩
            · rw [if_neg (by omega)] at hS
              replace hS := hide hS
              have hdb : ((d : Int) == 0) = false := beq_eq_false_iff_ne.2 (by omega)
              go_wp2
              rw [unhide hS]
              refine bodyPost_ret (v := numV (some (v + d % 128 * 2 ^ (7 * k), p + k + 1))) (by simp [results, Try.results27, go_sem, numV]; simpa using or_group v d k hv (by omega)) rfl ⟨rfl, (Below.refl _ _).alloc (Nat.le_refl _) _⟩
          · rw [if_neg hd] at hS
            replace hS := hide hS
            have HB := hide (group_bd v d k hv (by omega))
            have HO := hide (or_group v d k hv (by omega))
            clear hv
            go_wp2
            go_round
            case rel => exact ⟨k + 1, v + d % 128 * 2 ^ (7 * k), by omega, by omega, by go_num, by rw [unhide HO], (unhide HB).2.2, by rw [unhide hS, show 10 - (k + 1) = 9 - k by omega]⟩
            case measure => simp [intOf]; omega
      · have hkl : k = zs.length - p := by omega
        subst hkl
        rw [gn_end zs p _ _ _ (by omega)] at HG
        replace HG := hide HG
        go_wp2
        rw [← unhide HG]
        exact bodyPost_ret (v := numV none) (by simp [results, Try.results27, go_sem, numV]) rfl ⟨rfl, (Below.refl _ _).alloc (Nat.le_refl _) _⟩
end Go.Proofs.Ytcmabocmcgkmdaa
