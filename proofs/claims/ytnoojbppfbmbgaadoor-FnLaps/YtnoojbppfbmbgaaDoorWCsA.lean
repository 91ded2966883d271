/- Cosines, weights: the program's walks. -/
import Derived.Test.YtnoojbppfbmbgaaDoorPlainLb
import Derived.Test.YtnoojbppfbmbgaaDoorWRowI
import Derived.Laws.Bits128
namespace Go.Proofs.YtnoojbppfbmbgaaDoor
open Go.RowKit

def cosCells : List Value := cosQ.map fun z => .int .i64 z
theorem cosCells_at {w : World} {g : Nat} (h : Held w g cosCells) (j : Nat) (hj : j < 33) : w.cell? ⟨g, j, none⟩ = some (.int .i64 (cosQ.getD j 0)) := by
  refine h.2 j _ ?_
  unfold cosCells
  rw [List.getElem?_map, List.getD_eq_getElem?_getD, List.getElem?_eq_getElem (show j < cosQ.length from hj)]
  rfl
set_option maxHeartbeats 2000000 in
theorem implCosine (m : Int) (w : World) (hTb : Held w 0 cosCells) :
    Calls Tryd.prog 102 #[.int .i64 m] w fun e w' => e = .returned (.int .i64 (cosA m)) ∧ w' = w := by
  have hA := i64_and127 m
  obtain ⟨r, hr⟩ : ∃ r : Nat, m % 128 = (r : Int) := ⟨(m % 128).toNat, by omega⟩
  have hr2 : r < 128 := by omega
  have hv : cosA m = cosT.getD r 0 := by unfold cosA; rw [hr, Int.toNat_natCast]
  rw [hv, cosA_parts r hr2]
  rw [hr] at hA
  clear hv hr
  have hc := hide (fun j hj => cosCells_at hTb j hj)
  have hb := hide cosQ_bd
  clear hTb
  by_cases c1 : r ≤ 32
  · rw [if_pos c1]
    have hk := unhide hc r (by omega)
    clear hc hb
    generalize cosQ.getD r 0 = y at hk ⊢
    have q1 : decide ((r : Int) ≤ 32) = true := decide_eq_true (by omega)
    go_enter Tryd.func102, Tryd.ntmps102
    go_wp2
    go_ret
    exact ⟨rfl, rfl⟩
  by_cases c2 : r ≤ 64
  · rw [if_neg c1, if_pos c2]
    obtain ⟨j, hj⟩ : ∃ j, 64 - r = j := ⟨_, rfl⟩
    rw [hj]
    have hk := unhide hc j (by omega)
    have hy := unhide hb j (by omega)
    have ej : 64 - (r : Int) = (j : Int) := by omega
    have j33 : j < 33 := by omega
    clear hc hb hj
    generalize cosQ.getD j 0 = y at hk hy ⊢
    obtain ⟨y1, y2⟩ := hy
    have q1 : decide ((r : Int) ≤ 32) = false := decide_eq_false (by omega)
    have q2 : decide ((r : Int) ≤ 64) = true := decide_eq_true (by omega)
    go_enter Tryd.func102, Tryd.ntmps102
    go_wp2
    go_ret
    exact ⟨rfl, rfl⟩
  by_cases c3 : r ≤ 96
  · rw [if_neg c1, if_neg c2, if_pos c3]
    obtain ⟨j, hj⟩ : ∃ j, r - 64 = j := ⟨_, rfl⟩
    rw [hj]
    have hk := unhide hc j (by omega)
    have hy := unhide hb j (by omega)
    have ej : (r : Int) - 64 = (j : Int) := by omega
    have j33 : j < 33 := by omega
    clear hc hb hj
    generalize cosQ.getD j 0 = y at hk hy ⊢
    obtain ⟨y1, y2⟩ := hy
    have q1 : decide ((r : Int) ≤ 32) = false := decide_eq_false (by omega)
    have q2 : decide ((r : Int) ≤ 64) = false := decide_eq_false (by omega)
    have q3 : decide ((r : Int) ≤ 96) = true := decide_eq_true (by omega)
    go_enter Tryd.func102, Tryd.ntmps102
    go_wp2
    go_ret
    exact ⟨rfl, rfl⟩
  · rw [if_neg c1, if_neg c2, if_neg c3]
    obtain ⟨j, hj⟩ : ∃ j, 128 - r = j := ⟨_, rfl⟩
    rw [hj]
    have hk := unhide hc j (by omega)
    have ej : 128 - (r : Int) = (j : Int) := by omega
    have j33 : j < 33 := by omega
    clear hc hb hj
    generalize cosQ.getD j 0 = y at hk ⊢
    have q1 : decide ((r : Int) ≤ 32) = false := decide_eq_false (by omega)
    have q2 : decide ((r : Int) ≤ 64) = false := decide_eq_false (by omega)
    have q3 : decide ((r : Int) ≤ 96) = false := decide_eq_false (by omega)
    go_enter Tryd.func102, Tryd.ntmps102
    go_wp2
    go_ret
    exact ⟨rfl, rfl⟩
end Go.Proofs.YtnoojbppfbmbgaaDoor
