/- What tones are good: heads, counts, one slot. -/
import Derived.Test.YtnoojbppfbmbgaaDoorWLiA
import Derived.Test.YtnoojbppfbmbgaaDoorWTn
import Derived.Test.YtnoojbppfbmbgaaDoorWOwn2
import Derived.Test.YtnoojbppfbmbgaaDoorW8A
namespace Go.Proofs.YtnoojbppfbmbgaaDoor
open Go.RowKit

def headTn (r q l : Int) : Bool := decide (1 ≤ r) && decide (r ≤ 1000000) && decide (0 ≤ q) && decide (q ≤ 15) && decide (0 ≤ l) && decide (l ≤ 4000)
theorem headTn_iff {r q l : Int} : headTn r q l = true ↔ ((1 ≤ r ∧ r ≤ 1000000) ∧ (0 ≤ q ∧ q ≤ 15) ∧ 0 ≤ l ∧ l ≤ 4000) := by
  unfold headTn
  simp only [Bool.and_eq_true, decide_eq_true_iff]
  omega
theorem headTn_no {r q l : Int} (h : ¬ ((1 ≤ r ∧ r ≤ 1000000) ∧ (0 ≤ q ∧ q ≤ 15) ∧ 0 ≤ l ∧ l ≤ 4000)) : headTn r q l = false := Bool.eq_false_iff.2 (fun h' => h (headTn_iff.1 h'))
def slotB (zs : List Int) : Bool := decide (zs.length = 16) && inRB (-1048576) 1048575 zs
def grdB (zs : List Int) : Bool := decide (zs.length = 8) && inRB 0 12 zs
def cntTn (l : Int) : Nat := ((l + 15) / 16 + 1).toNat
theorem cntTn_int {l : Int} (h0 : 0 ≤ l) : (cntTn l : Int) = (l + 15) / 16 + 1 := by unfold cntTn; omega
set_option maxHeartbeats 4000000 in
theorem implTnHead (r q l : Int) (v0 v1 : Value) (w : World) (hv0 : ∃ ad n cap, v0 = .slice ad n cap) (hv1 : ∃ ad n cap, v1 = .slice ad n cap) :
    Calls Tryd.prog 44 #[.agg #[.int .i64 r, .int .i64 q, .int .i64 l, v0, v1]] w fun e w' => e = .returned (.bool (headTn r q l)) ∧ Upd 0 0 w w' := by
  obtain ⟨ad0, n0, cap0, rfl⟩ := hv0
  obtain ⟨ad1, n1, cap1, rfl⟩ := hv1
  have hU := hide (Upd.of_below ((Below.refl w.heap.size w).alloc (Nat.le_refl _) (.cells #[.int .i64 r, .int .i64 q, .int .i64 l, .slice ad0 n0 cap0, .slice ad1 n1 cap1] 33)) 0 0)
  by_cases h0 : r < 1
  · rw [headTn_no (fun h => by omega)]
    go_enter Tryd.func44, Tryd.ntmps44
    go_wp2
    go_ret
    exact ⟨rfl, unhide hU⟩
  by_cases h1 : 1000000 < r
  · rw [headTn_no (fun h => by omega)]
    go_enter Tryd.func44, Tryd.ntmps44
    go_wp2
    go_ret
    exact ⟨rfl, unhide hU⟩
  by_cases h2 : q < 0
  · rw [headTn_no (fun h => by omega)]
    go_enter Tryd.func44, Tryd.ntmps44
    go_wp2
    go_ret
    exact ⟨rfl, unhide hU⟩
  by_cases h3 : 15 < q
  · rw [headTn_no (fun h => by omega)]
    go_enter Tryd.func44, Tryd.ntmps44
    go_wp2
    go_ret
    exact ⟨rfl, unhide hU⟩
  by_cases h4 : l < 0
  · rw [headTn_no (fun h => by omega)]
    go_enter Tryd.func44, Tryd.ntmps44
    go_wp2
    go_ret
    exact ⟨rfl, unhide hU⟩
  by_cases h5 : 4000 < l
  · rw [headTn_no (fun h => by omega)]
    have q5 : decide (l ≤ 4000) = false := decide_eq_false (by omega)
    go_enter Tryd.func44, Tryd.ntmps44
    go_wp2
    go_ret
    exact ⟨rfl, unhide hU⟩
  rw [headTn_iff.2 (by omega)]
  have q5 : decide (l ≤ 4000) = true := decide_eq_true (by omega)
  go_enter Tryd.func44, Tryd.ntmps44
  go_wp2
  go_ret
  exact ⟨rfl, unhide hU⟩
set_option maxHeartbeats 4000000 in
theorem specTnHead (r q l : Int) (w : World) :
    Calls Tryd.prog 50 #[.int .i64 r, .int .i64 q, .int .i64 l] w fun e w' => e = .returned (.bool (headTn r q l)) ∧ Upd 0 0 w w' := by
  have hU := hide (Upd.refl 0 0 w)
  by_cases h0 : r < 1
  · rw [headTn_no (fun h => by omega)]
    go_enter Tryd.func50, Tryd.ntmps50
    go_wp2
    go_ret
    exact ⟨rfl, unhide hU⟩
  by_cases h1 : 1000000 < r
  · rw [headTn_no (fun h => by omega)]
    go_enter Tryd.func50, Tryd.ntmps50
    go_wp2
    go_ret
    exact ⟨rfl, unhide hU⟩
  by_cases h2 : q < 0
  · rw [headTn_no (fun h => by omega)]
    go_enter Tryd.func50, Tryd.ntmps50
    go_wp2
    go_ret
    exact ⟨rfl, unhide hU⟩
  by_cases h3 : 15 < q
  · rw [headTn_no (fun h => by omega)]
    go_enter Tryd.func50, Tryd.ntmps50
    go_wp2
    go_ret
    exact ⟨rfl, unhide hU⟩
  by_cases h4 : l < 0
  · rw [headTn_no (fun h => by omega)]
    go_enter Tryd.func50, Tryd.ntmps50
    go_wp2
    go_ret
    exact ⟨rfl, unhide hU⟩
  by_cases h5 : 4000 < l
  · rw [headTn_no (fun h => by omega)]
    have q5 : decide (l ≤ 4000) = false := decide_eq_false (by omega)
    go_enter Tryd.func50, Tryd.ntmps50
    go_wp2
    go_ret
    exact ⟨rfl, unhide hU⟩
  rw [headTn_iff.2 (by omega)]
  have q5 : decide (l ≤ 4000) = true := decide_eq_true (by omega)
  go_enter Tryd.func50, Tryd.ntmps50
  go_wp2
  go_ret
  exact ⟨rfl, unhide hU⟩
set_option maxHeartbeats 4000000 in
theorem implTnCount (r q l : Int) (v0 v1 : Value) (w : World) (h0 : 0 ≤ l) (h1 : l ≤ 4000) (hv0 : ∃ ad n cap, v0 = .slice ad n cap) (hv1 : ∃ ad n cap, v1 = .slice ad n cap) :
    Calls Tryd.prog 46 #[.agg #[.int .i64 r, .int .i64 q, .int .i64 l, v0, v1]] w fun e w' => e = .returned (.int .i64 (cntTn l)) ∧ Upd 0 0 w w' := by
  obtain ⟨ad0, n0, cap0, rfl⟩ := hv0
  obtain ⟨ad1, n1, cap1, rfl⟩ := hv1
  have hU := hide (Upd.of_below ((Below.refl w.heap.size w).alloc (Nat.le_refl _) (.cells #[.int .i64 r, .int .i64 q, .int .i64 l, .slice ad0 n0 cap0, .slice ad1 n1 cap1] 33)) 0 0)
  rw [cntTn_int h0]
  have hd : ((l + 15).tdiv 16) = (l + 15) / 16 := Int.tdiv_eq_ediv_of_nonneg (by omega)
  go_enter Tryd.func46, Tryd.ntmps46
  go_wp2
  go_ret
  exact ⟨ret_int (by omega), unhide hU⟩
set_option maxHeartbeats 4000000 in
theorem specTnCount (l : Int) (w : World) (h0 : 0 ≤ l) (h1 : l ≤ 4000) :
    Calls Tryd.prog 52 #[.int .i64 l] w fun e w' => e = .returned (.int .i64 (cntTn l)) ∧ Upd 0 0 w w' := by
  have hU := hide (Upd.refl 0 0 w)
  rw [cntTn_int h0]
  have hd : ((l + 15).tdiv 16) = (l + 15) / 16 := Int.tdiv_eq_ediv_of_nonneg (by omega)
  go_enter Tryd.func52, Tryd.ntmps52
  go_wp2
  go_ret
  exact ⟨ret_int (by omega), unhide hU⟩
set_option maxHeartbeats 4000000 in
set_option maxRecDepth 100000 in
theorem implGoodSlot (ad : Option Addr) (cap : Nat) (zs : List Int) (w : World) (hn : zs.length ≤ 1048576) (hA : ArgI w ad zs) :
    Calls Tryd.prog 40 #[.slice ad zs.length cap] w fun e w' => e = .returned (.bool (slotB zs)) ∧ Upd 0 0 w w' := by
  have hU := hide (Upd.refl 0 0 w)
  have hP := hide (implGoodNumbers ad cap zs 21 w (by omega) (by omega) hn hA)
  by_cases h : zs.length = 16
  · have e : slotB zs = inRB (-1048576) 1048575 zs := by unfold slotB; rw [decide_eq_true h, Bool.true_and]
    rw [e]
    have q : decide ((zs.length : Int) = 16) = true := decide_eq_true (by omega)
    have q' : ((zs.length : Int) == 16) = true := by rw [beq_iff_eq]; omega
    clear e
    rw [show lsB (loB 21) (hiB 21) zs = inRB (-1048576) 1048575 zs from by unfold lsB; rw [decide_eq_true (by omega), Bool.true_and]; rfl] at hP
    generalize inRB (-1048576) 1048575 zs = R at hP ⊢
    clear h hA
    go_enter Tryd.func40, Tryd.ntmps40
    go_wp2_with fail
    refine (unhide hP).mono ?_
    rintro e w1 ⟨rfl, hu1⟩
    replace hU := hide ((unhide hU).trans hu1)
    clear hu1 hP
    go_wp2
    go_ret
    exact ⟨rfl, unhide hU⟩
  · have e : slotB zs = false := by unfold slotB; rw [decide_eq_false h, Bool.false_and]
    rw [e]
    have q : decide ((zs.length : Int) = 16) = false := decide_eq_false (by omega)
    have q' : ((zs.length : Int) == 16) = false := by rw [beq_eq_false_iff_ne]; omega
    clear e hP h hA
    go_enter Tryd.func40, Tryd.ntmps40
    go_wp2
    go_ret
    exact ⟨rfl, unhide hU⟩
set_option maxHeartbeats 4000000 in
set_option maxRecDepth 100000 in
theorem implGoodGrades (ad : Option Addr) (cap : Nat) (zs : List Int) (w : World) (hn : zs.length ≤ 1048576) (hA : ArgI w ad zs) :
    Calls Tryd.prog 97 #[.slice ad zs.length cap] w fun e w' => e = .returned (.bool (grdB zs)) ∧ Upd 0 0 w w' := by
  have hU := hide (Upd.refl 0 0 w)
  have hP := hide (implWithin ad cap zs 0 12 w hn hA)
  by_cases h : zs.length = 8
  · have e : grdB zs = inRB 0 12 zs := by unfold grdB; rw [decide_eq_true h, Bool.true_and]
    rw [e]
    have q : decide ((zs.length : Int) = 8) = true := decide_eq_true (by omega)
    have q' : ((zs.length : Int) == 8) = true := by rw [beq_iff_eq]; omega
    clear e
    skip
    generalize inRB 0 12 zs = R at hP ⊢
    clear h hA
    go_enter Tryd.func97, Tryd.ntmps97
    go_wp2_with fail
    refine (unhide hP).mono ?_
    rintro e w1 ⟨rfl, hu1⟩
    replace hU := hide ((unhide hU).trans hu1)
    clear hu1 hP
    go_wp2
    go_ret
    exact ⟨rfl, unhide hU⟩
  · have e : grdB zs = false := by unfold grdB; rw [decide_eq_false h, Bool.false_and]
    rw [e]
    have q : decide ((zs.length : Int) = 8) = false := decide_eq_false (by omega)
    have q' : ((zs.length : Int) == 8) = false := by rw [beq_eq_false_iff_ne]; omega
    clear e hP h hA
    go_enter Tryd.func97, Tryd.ntmps97
    go_wp2
    go_ret
    exact ⟨rfl, unhide hU⟩
end Go.Proofs.YtnoojbppfbmbgaaDoor
