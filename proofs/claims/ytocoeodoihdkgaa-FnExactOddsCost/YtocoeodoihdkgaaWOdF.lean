/- Odds: the specification's odds at first, and what choices cost. -/
import Derived.Test.YtocoeodoihdkgaaWOdB
import Derived.Test.YtocoeodoihdkgaaWOdA
import Derived.Test.YtocoeodoihdkgaaWRowI
namespace Go.Proofs.Ytocoeodoihdkgaa
open Go.RowKit

def oddsI (P : Nat) (s : Int → Int) : List Value := (List.range P).map fun p : Nat => .int .i64 (s (p : Int))
@[simp] theorem oddsI_length (P : Nat) (s : Int → Int) : (oddsI P s).length = P := by simp [oddsI]
theorem oddsI_at (P : Nat) (s : Int → Int) (p : Nat) (h : p < P) : (oddsI P s)[p]? = some (.int .i64 (s p)) := by
  unfold oddsI; rw [List.getElem?_map, List.getElem?_range h]; rfl
theorem oddsI_put (P : Nat) (s s' : Int → Int) (p : Nat) (y : Int) (h : ∀ q, s' q = if q = (p : Int) then y else s q) : (oddsI P s).set p (.int .i64 y) = oddsI P s' := by
  apply List.ext_getElem?
  intro j
  by_cases hj : j < P
  · by_cases e : p = j
    · subst e
      rw [List.getElem?_set_self (by simpa using hj), oddsI_at _ _ _ hj, h, if_pos rfl]
    · rw [List.getElem?_set_ne e, oddsI_at _ _ _ hj, oddsI_at _ _ _ hj, h, if_neg (by omega)]
  · rw [List.getElem?_eq_none (by simp; omega), List.getElem?_eq_none (by simp; omega)]
theorem oddsI_congr (P : Nat) (s s' : Int → Int) (h : ∀ p : Nat, p < P → s p = s' p) : oddsI P s = oddsI P s' := by
  unfold oddsI
  apply List.map_congr_left
  intro p hp
  rw [h p (List.mem_range.1 hp)]
def oddsTo (k : Nat) : Int → Int := fun q => if q < (k : Int) then 2048 else 0
theorem oddsTo_zero (P : Nat) : oddsI P (oddsTo 0) = List.replicate P (.int .i64 0) := by
  apply List.ext_getElem?
  intro j
  by_cases hj : j < P
  · rw [oddsI_at _ _ _ hj, List.getElem?_replicate, if_pos hj]; unfold oddsTo; rw [if_neg (by omega)]
  · rw [List.getElem?_eq_none (by simp; omega), List.getElem?_eq_none (by simp; omega)]
theorem oddsTo_succ (P k : Nat) : (oddsI P (oddsTo k)).set k (.int .i64 2048) = oddsI P (oddsTo (k + 1)) :=
  oddsI_put P _ _ k 2048 (fun q => by unfold oddsTo; by_cases h : q = (k : Int)
                                      · rw [if_pos h, if_pos (by omega)]
                                      · rw [if_neg h]
                                        by_cases h2 : q < (k : Int)
                                        · rw [if_pos h2, if_pos (by omega)]
                                        · rw [if_neg h2, if_neg (by omega)])
theorem oddsTo_all (P : Nat) : oddsI P (oddsTo P) = oddsI P (fun _ => 2048) := oddsI_congr P _ _ (fun p hp => by unfold oddsTo; rw [if_pos (by omega)])
theorem RowI.learn {w : World} {g P : Nat} {s : Int → Int} (h : RowI w g P (oddsI P s)) (c : Int × Int) (p : Nat) (hp : c.1 = (p : Int)) : RowI (w.setCell ⟨g, p, none⟩ (.int .i64 (learnF (s p) c.2))) g P (oddsI P (oddsSet s c)) := by
  have h1 := RowI.set h p (.int .i64 (learnF (s p) c.2))
  rw [oddsI_put P s (oddsSet s c) p (learnF (s p) c.2) (fun q => by
    unfold oddsSet
    by_cases e : q = (p : Int)
    · rw [if_pos (by rw [hp]; exact e), if_pos e, e]
    · rw [if_neg (by rw [hp]; exact e), if_neg e])] at h1
  exact h1
set_option maxHeartbeats 8000000 in
set_option maxRecDepth 100000 in
theorem specL12Odds (P : Nat) (w : World) (hP : P ≤ 512) :
    Calls Try.prog 91 #[.int .i64 (P : Int)] w fun e w' => e = .returned (.slice (some ⟨w.heap.size, 0, none⟩) P P) ∧ RowI w' w.heap.size P (oddsI P (fun _ => 2048)) ∧ Below w.heap.size w w' := by
  obtain ⟨o, hmk⟩ := mkRowI P (by omega)
  have hrun : ∀ X : World, (Instr.makeSlice 23 (.int .i64 (P : Int)) (.int .i64 (P : Int))).run Try.prog X = .ok (.slice (some ⟨X.heap.size, 0, none⟩) P P) (X.alloc o) := fun X => (hmk X).1
  have hrow := (hmk w).2
  rw [← oddsTo_zero] at hrow
  replace hrow := hide hrow
  have hB := hide ((Below.refl w.heap.size w).alloc (Nat.le_refl _) o)
  clear hmk
  go_enter Try.func91, Try.ntmps91
  go_upto_region 2 with fail
  generalize w.alloc o = w0 at hrow hB ⊢
  clear hrun
  go_wp2_with fail
  go_loopw [4, 9] (fun _ i wr => ∃ k : Nat, k ≤ P ∧ i = .int .i64 k ∧ Hid (RowI wr w.heap.size P (oddsI P (oddsTo k))) ∧ Hid (Below w.heap.size w wr)) (fun _ i _ => P - (intOf i).toNat)
  case atStart => exact ⟨0, Nat.zero_le _, rfl, hrow, hB⟩
  case round =>
    clear hrow hB
    obtain ⟨k, hk, rfl, hrow, hB⟩ := hrel
    by_cases hlt : k < P
    · have c0 := (unhide hrow).cell k hlt
      rw [oddsI_at _ _ _ hlt] at c0
      have f0 := (unhide hrow).frozen k
      have hr2 := (unhide hrow).set k (.int .i64 2048)
      rw [oddsTo_succ] at hr2
      replace hr2 := hide hr2
      have hB2 := hide ((unhide hB).setCell (p := ⟨w.heap.size, k, none⟩) (Nat.le_refl _) (.int .i64 2048))
      have kI : decide ((k : Int) < (P : Int)) = true := decide_eq_true (by omega)
      clear hrow hB
      go_wp2_with fail
      go_roundw
      case rel => exact ⟨k + 1, by omega, by go_num, hr2, hB2⟩
      case measure => simp [intOf]; omega
    · obtain rfl : k = P := by omega
      have kI : decide ((k : Int) < (k : Int)) = false := decide_eq_false (by omega)
      have hE := hide (oddsTo_all k)
      go_wp2
      go_ret
      exact ⟨rfl, by rw [← unhide hE]; exact unhide hrow, unhide hB⟩
end Go.Proofs.Ytocoeodoihdkgaa
