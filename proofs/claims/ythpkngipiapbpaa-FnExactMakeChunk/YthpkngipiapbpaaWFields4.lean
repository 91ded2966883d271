/- The walks of the laws' own helpers: fields marked; packed bytes compared and marked, nil or not. -/
import Derived.Test.YthpkngipiapbpaaWFields3
namespace Go.Proofs.Ythpkngipiapbpaa
open Go.RowKit

def toI (zs : List Nat) : List Int := zs.map fun b : Nat => (b : Int)
theorem toI_len (zs : List Nat) : (toI zs).length = zs.length := by unfold toI; simp
theorem vals_toI (zs : List Nat) : vals zs = (toI zs).map (.int .u8) := by unfold vals toI; simp
theorem res_cases {w : World} {base : Nat} {v : Value} {zs : List Nat} (h : w.ownsRow base 5 1 v zs.length (vals zs)) :
    (∃ g cap, v = .slice (some ⟨g, 0, none⟩) zs.length cap ∧ base ≤ g ∧ OwnB w g (toI zs)) ∨ (zs = [] ∧ v = .slice none 0 0) := by
  rcases h.2 with ⟨e, h0⟩ | ⟨g, cap, cur, e, hb, _⟩
  · exact .inr ⟨List.length_eq_zero_iff.1 h0, e⟩
  · subst e
    rw [vals_toI] at h
    exact .inl ⟨g, cap, rfl, hb, ownB_of_owns (toI_len zs) h⟩

set_option maxHeartbeats 1000000 in
theorem eqByteS_empty (ad ad' : Option Addr) (cap cap' : Nat) (w : World) :
    Calls Try.prog 8 #[.slice ad 0 cap, .slice ad' 0 cap'] w fun e w' => e = .returned (.bool true) ∧ w' = w := by
  go_enter Try.func8, Try.ntmps8
  go_wp2
  go_loop [5] (fun i => i = .int .i64 0) (fun _ => 0)
  case atStart => rfl
  case round =>
    subst hrel
    go_wp2
    go_ret
    exact ⟨rfl, rfl⟩
theorem eqByteS_res (base base' : Nat) (v v' : Value) (zs : List Nat) (w : World) (hn : zs.length ≤ 1048576) (h : w.ownsRow base 5 1 v zs.length (vals zs)) (h' : w.ownsRow base' 5 1 v' zs.length (vals zs)) :
    Calls Try.prog 8 #[v, v'] w fun e w' => e = .returned (.bool true) ∧ Below w.heap.size w w' := by
  rcases res_cases h with ⟨g, cap, rfl, _, ho⟩ | ⟨e, rfl⟩
  · rcases res_cases h' with ⟨g', cap', rfl, _, ho'⟩ | ⟨e', rfl⟩
    · refine (eqByteS_eq g 0 cap g' 0 cap' zs.length (toI zs) w (toI_len zs) hn ho.2 ho'.2).mono ?_
      rintro e w' ⟨rfl, nq, rfl⟩
      exact ⟨rfl, below_drewN (Below.refl _ _) nq⟩
    · subst e'
      exact (eqByteS_empty _ _ _ _ w).mono fun e w' ⟨he, hw⟩ => ⟨he, by subst hw; exact Below.refl _ _⟩
  · subst e
    rcases res_cases h' with ⟨g', cap', rfl, _, ho'⟩ | ⟨e', rfl⟩
    · exact (eqByteS_empty _ _ _ _ w).mono fun e w' ⟨he, hw⟩ => ⟨he, by subst hw; exact Below.refl _ _⟩
    · exact (eqByteS_empty _ _ _ _ w).mono fun e w' ⟨he, hw⟩ => ⟨he, by subst hw; exact Below.refl _ _⟩

set_option maxHeartbeats 1000000 in
theorem markByteS_nil (w : World) :
    Calls Try.prog 11 #[.slice none 0 0, .int .i64 1] w fun e w' => e = .returned (.int .i64 1) ∧ w' = w := by
  go_enter Try.func11, Try.ntmps11
  go_wp2
  go_loop [1, 5] (fun a i => a = .int .i64 1 ∧ i = .int .i64 0) (fun _ _ => 0)
  case atStart => exact ⟨rfl, rfl⟩
  case round =>
    obtain ⟨rfl, rfl⟩ := hrel
    go_wp2
    go_ret
    exact ⟨rfl, rfl⟩
set_option maxHeartbeats 1000000 in
theorem heldByteS_nil (w : World) :
    Calls Try.prog 12 #[.slice none 0 0, .int .i64 1] w fun e w' => e = .returned (.int .i64 1) ∧ w' = w := by
  go_enter Try.func12, Try.ntmps12
  go_wp2
  go_loop [1, 5] (fun a i => a = .int .i64 1 ∧ i = .int .i64 0) (fun _ _ => 0)
  case atStart => exact ⟨rfl, rfl⟩
  case round =>
    obtain ⟨rfl, rfl⟩ := hrel
    go_wp2
    go_ret
    exact ⟨rfl, rfl⟩
def MarkedV (w : World) (v : Value) (n : Nat) : Prop := (∃ g cap, v = .slice (some ⟨g, 0, none⟩) n cap ∧ g < w.heap.size ∧ Marked w g n 1) ∨ (v = .slice none 0 0 ∧ n = 0)
theorem MarkedV.below {w w' : World} {v : Value} {n : Nat} (h : MarkedV w v n) (hb : Below w.heap.size w w') : MarkedV w' v n := by
  rcases h with ⟨g, cap, e, hg, hm⟩ | h
  · exact .inl ⟨g, cap, e, Nat.lt_of_lt_of_le hg hb.size, hm.below hg hb⟩
  · exact .inr h
theorem heldByteS_res (v : Value) (n : Nat) (w : World) (hn : n ≤ 1048576) (h : MarkedV w v n) :
    Calls Try.prog 12 #[v, .int .i64 1] w fun e w' => e = .returned (.int .i64 ((1 + n : Nat) : Int)) ∧ w' = w := by
  rcases h with ⟨g, cap, rfl, hg, hm⟩ | ⟨rfl, rfl⟩
  · exact heldByteS_own g cap n 1 w hn (by omega) hm
  · exact heldByteS_nil w
/-- Marking writes into the packed bytes' own block alone. -/
theorem markByteS_res (base : Nat) (v : Value) (zs : List Nat) (w : World) (hn : zs.length ≤ 1048576) (h : w.ownsRow base 5 1 v zs.length (vals zs)) (hb : base ≤ w.heap.size) :
    Calls Try.prog 11 #[v, .int .i64 1] w fun e w' => e = .returned (.int .i64 ((1 + zs.length : Nat) : Int)) ∧ MarkedV w' v zs.length ∧ Below base w w' := by
  rcases res_cases h with ⟨g, cap, rfl, hg, _⟩ | ⟨rfl, rfl⟩
  · refine (markByteS_own base g cap zs.length 1 _ w hn (by omega) h).mono ?_
    rintro e w' ⟨rfl, hm, ho, ys, hown⟩
    exact ⟨rfl, .inl ⟨g, cap, rfl, (hown.lt g rfl).2, hm⟩, ho.below hg hb⟩
  · refine (markByteS_nil w).mono ?_
    rintro e w' ⟨rfl, rfl⟩
    exact ⟨rfl, .inr ⟨rfl, rfl⟩, Below.refl _ _⟩
end Go.Proofs.Ythpkngipiapbpaa
