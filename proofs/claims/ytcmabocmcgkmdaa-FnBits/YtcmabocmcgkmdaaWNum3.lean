/- GetNumber at every place, by the program and by the specification. -/
import Derived.Test.YtcmabocmcgkmdaaWNum2
import Derived.Test.YtcmabocmcgkmdaaWBytes2
namespace Go.Proofs.Ytcmabocmcgkmdaa
open Go.RowKit

theorem getNum_neg (zs : List Int) (p : Int) (h : p < 0) : getNum zs p = none := by unfold getNum; rw [if_pos h]
theorem getNum_past (zs : List Int) (p : Int) (h : (zs.length : Int) ≤ p) : getNum zs p = none := by
  unfold getNum; rw [if_neg (by omega)]; exact gn_end _ _ _ _ _ (by omega)
theorem numV_agg (x : Option (Nat × Nat)) : ∃ o v n, numV x = .agg #[.bool o, .int .u64 v, .int .i64 n] := by
  rcases x with _ | ⟨v, n⟩ <;> exact ⟨_, _, _, rfl⟩

set_option maxHeartbeats 1000000 in
theorem specGetNumberNeg (ad : Option Addr) (len cap : Nat) (p : Int) (w : World) (h : p < 0) :
    Calls Try.prog 46 #[.slice ad len cap, .int .i64 p] w fun e w' => e = .returned (numV none) ∧ Below w.heap.size w w' := by
  go_enter Try.func46, Try.ntmps46
  go_wp2
  exact bodyPost_ret (v := numV none) (by simp [results, Try.results46, go_sem, numV]) rfl ⟨rfl, (Below.refl _ _).alloc (Nat.le_refl _) _⟩
set_option maxHeartbeats 1000000 in
theorem specGetNumberPast (ad : Option Addr) (len cap : Nat) (p : Int) (w : World) (hl : len ≤ 1048576) (h : (len : Int) ≤ p) :
    Calls Try.prog 46 #[.slice ad len cap, .int .i64 p] w fun e w' => e = .returned (numV none) ∧ Below w.heap.size w w' := by
  have h0 : ¬ (p < 0) := by omega
  go_enter Try.func46, Try.ntmps46
  go_wp2
  go_loop [5, 6] (fun a i => a = .int .u64 0 ∧ i = .int .i64 0) (fun _ _ => 0)
  case atStart => exact ⟨rfl, rfl⟩
  case round =>
    obtain ⟨rfl, rfl⟩ := hrel
    go_wp2
    exact bodyPost_ret (v := numV none) (by simp [results, Try.results46, go_sem, numV]) rfl ⟨rfl, (Below.refl _ _).alloc (Nat.le_refl _) _⟩
set_option maxHeartbeats 1000000 in
theorem implGetNumberNeg (ad : Option Addr) (len cap : Nat) (p : Int) (w : World) (h : p < 0) :
    Calls Try.prog 27 #[.slice ad len cap, .int .i64 p] w fun e w' => e = .returned (numV none) ∧ Below w.heap.size w w' := by
  go_enter Try.func27, Try.ntmps27
  go_wp2
  exact bodyPost_ret (v := numV none) (by simp [results, Try.results27, go_sem, numV]) rfl ⟨rfl, (Below.refl _ _).alloc (Nat.le_refl _) _⟩
set_option maxHeartbeats 1000000 in
theorem implGetNumberPast (ad : Option Addr) (len cap : Nat) (p : Int) (w : World) (h : (len : Int) < p) :
    Calls Try.prog 27 #[.slice ad len cap, .int .i64 p] w fun e w' => e = .returned (numV none) ∧ Below w.heap.size w w' := by
  have h0 : ¬ (p < 0) := by omega
  go_enter Try.func27, Try.ntmps27
  go_wp2
  exact bodyPost_ret (v := numV none) (by simp [results, Try.results27, go_sem, numV]) rfl ⟨rfl, (Below.refl _ _).alloc (Nat.le_refl _) _⟩

theorem specGetNumber (g cap : Nat) (zs : List Int) (p : Int) (w : World) (hn : zs.length ≤ 1048576) (hz : InB zs) (h : OwnB w g zs) :
    Calls Try.prog 46 #[.slice (some ⟨g, 0, none⟩) zs.length cap, .int .i64 p] w fun e w' => e = .returned (numV (getNum zs p)) ∧ Below w.heap.size w w' := by
  by_cases h0 : p < 0
  · rw [getNum_neg zs p h0]; exact specGetNumberNeg _ _ _ p w h0
  · by_cases h1 : (zs.length : Int) ≤ p
    · rw [getNum_past zs p h1]; exact specGetNumberPast _ _ _ p w hn h1
    · obtain ⟨q, rfl⟩ := Int.eq_ofNat_of_zero_le (show 0 ≤ p by omega)
      exact specGetNumberIn g 0 zs.length cap zs q w rfl hn hz h.2 (by omega) h.1
theorem implGetNumber (g cap : Nat) (zs : List Int) (p : Int) (w : World) (hn : zs.length ≤ 1048576) (hlc : zs.length ≤ cap) (hz : InB zs) (h : OwnB w g zs) :
    Calls Try.prog 27 #[.slice (some ⟨g, 0, none⟩) zs.length cap, .int .i64 p] w fun e w' => e = .returned (numV (getNum zs p)) ∧ Below w.heap.size w w' := by
  by_cases h0 : p < 0
  · rw [getNum_neg zs p h0]; exact implGetNumberNeg _ _ _ p w h0
  · by_cases h1 : (zs.length : Int) < p
    · rw [getNum_past zs p (by omega)]; exact implGetNumberPast _ _ _ p w h1
    · obtain ⟨q, rfl⟩ := Int.eq_ofNat_of_zero_le (show 0 ≤ p by omega)
      exact implGetNumberIn g 0 zs.length cap zs q w rfl hn hlc hz h.2 (by omega) h.1

set_option maxHeartbeats 1000000 in
theorem eqNumber_eq (o : Bool) (v n : Int) (w : World) :
    Calls Try.prog 44 #[.agg #[.bool o, .int .u64 v, .int .i64 n], .agg #[.bool o, .int .u64 v, .int .i64 n]] w fun e w' => e = .returned (.bool true) ∧ Below w.heap.size w w' := by
  go_enter Try.func44, Try.ntmps44
  go_wp2
  go_ret
  exact ⟨rfl, ((Below.refl _ _).alloc (Nat.le_refl _) _).alloc (by simp) _⟩

/-- A number of the call's own in the variable at block b. -/
def NumAt (w : World) (b : Nat) (o : Bool) (v n : Int) : Prop := b < w.heap.size ∧ w.cell? ⟨b, 0, none⟩ = some (.bool o) ∧ w.cell? ⟨b, 1, none⟩ = some (.int .u64 v) ∧ w.cell? ⟨b, 2, none⟩ = some (.int .i64 n)
theorem NumAt.below {w w' : World} {b : Nat} {o : Bool} {v n : Int} (h : NumAt w b o v n) (hb : Below w.heap.size w w') : NumAt w' b o v n :=
  ⟨Nat.lt_of_lt_of_le h.1 hb.size, (hb.cell (by simpa using h.1)).trans h.2.1, (hb.cell (by simpa using h.1)).trans h.2.2.1, (hb.cell (by simpa using h.1)).trans h.2.2.2⟩
theorem numAt_new (w : World) (o : Bool) (v n : Int) : NumAt (w.alloc (.cells #[.bool o, .int .u64 v, .int .i64 n] 32)) w.heap.size o v n := by
  refine ⟨by simp, ?_, ?_, ?_⟩ <;> (rw [World.cell?_alloc_at _ _ _ _ rfl]; rfl)
end Go.Proofs.Ytcmabocmcgkmdaa
