/- The walks of the laws' own helpers on fields: equal, marked; a list of fields handed in. -/
import Derived.Test.YtcmabocmcgkmdaaWFields2
import Derived.Deep.RegionWith
namespace Go.Proofs.Ytcmabocmcgkmdaa
open Go.RowKit

def ArgF (w : World) (ad : Option Addr) (fs : List (Int × Int)) : Prop := InF fs ∧ (fs ≠ [] → ∃ b off, ad = some ⟨b, off, none⟩ ∧ b < w.heap.size ∧ FieldsAt w b off fs)
theorem ArgF.below {w w' : World} {ad : Option Addr} {fs : List (Int × Int)} (h : ArgF w ad fs) (hb : Below w.heap.size w w') : ArgF w' ad fs := by
  refine ⟨h.1, fun hne => ?_⟩
  obtain ⟨b, off, e, hl, hc⟩ := h.2 hne
  exact ⟨b, off, e, Nat.lt_of_lt_of_le hl hb.size, fun j hj => ⟨(hb.cell (by simpa using hl)).trans (hc j hj).1, (hb.cell (by simpa using hl)).trans (hc j hj).2⟩⟩
theorem ownF_of_owns {w : World} {base g cap : Nat} {ys : List Value} {fs : List (Int × Int)} (h : w.ownsRow base 29 2 (.slice (some ⟨g, 0, none⟩) fs.length cap) fs.length ys) (hr : FieldRow ys fs fs.length) : OwnF w g fs := by
  refine ⟨(h.lt g rfl).2, fun j hj => ⟨?_, ?_⟩⟩
  · rw [Nat.zero_add, h.cellAt _ (by omega)]; exact (hr j hj).1
  · rw [Nat.zero_add, h.cellAt _ (by omega)]; exact (hr j hj).2

set_option maxHeartbeats 1000000 in
theorem toFieldS_empty (ad : Option Addr) (cap : Nat) (w : World) :
    Calls Try.prog 36 #[.slice ad 0 cap] w fun e w' =>
      ∃ g ys, e = .returned (.slice (some ⟨g, 0, none⟩) 0 0) ∧ w'.ownsRow w.heap.size 29 2 (.slice (some ⟨g, 0, none⟩) 0 0) 0 ys ∧ Below w.heap.size w w' := by
  obtain ⟨i0, hi, hz0, hz1, hz2⟩ := info_parts infoF
  go_enter Try.func36, Try.ntmps36
  go_wp2_with (at_make; refine wpList_make_full _ rfl _ _ 23 rfl w.heap.size 29 i0 (.agg #[.int .i64 0, .int .u64 0]) 2 Try.underlying23 hi hz0 hz1 .i64 .i64 _ _ 0 rfl rfl (by simp) (by simp) (by rw [hz2]; omega) (by unfold maxLen; omega) (Nat.le_refl _) ?_; intro w1 hown hgrow)
  have hbel := (Below.refl w.heap.size w).grown hgrow (Nat.le_refl _) (by simp)
  generalize (madeCells (Value.agg #[.int .i64 0, .int .u64 0]).cells (0 * 2)).toList = ys0 at hown
  clear hgrow
  replace hown := hide hown
  go_loopw [4] (fun i wr => i = .int .i64 0 ∧ wr = w1) (fun _ _ => 0)
  case atStart => exact ⟨rfl, rfl⟩
  case round =>
    obtain ⟨rfl, rfl⟩ := hrel
    go_wp2
    go_ret
    exact ⟨_, _, rfl, unhide hown, hbel⟩
theorem toFieldS_arg (ad : Option Addr) (cap : Nat) (fs : List (Int × Int)) (w : World) (h : ArgF w ad fs) (hn : fs.length ≤ 1048576) :
    Calls Try.prog 36 #[.slice ad fs.length cap] w fun e w' => ∃ g ys, e = .returned (.slice (some ⟨g, 0, none⟩) fs.length fs.length) ∧ OwnF w' g fs ∧ w.heap.size ≤ g ∧ w'.ownsRow w.heap.size 29 2 (.slice (some ⟨g, 0, none⟩) fs.length fs.length) fs.length ys ∧ Below w.heap.size w w' := by
  by_cases hne : fs = []
  · subst hne
    refine (toFieldS_empty ad cap w).mono ?_
    rintro e w' ⟨g, ys, rfl, hown, hb⟩
    exact ⟨g, ys, rfl, ⟨(hown.lt g rfl).2, fun j hj => by simp at hj⟩, (hown.lt g rfl).1, hown, hb⟩
  · obtain ⟨b, off, rfl, hl, hc⟩ := h.2 hne
    refine (toFieldS_any b off cap fs w hn hl hc).mono ?_
    rintro e w' ⟨g, ys, rfl, hown, hr, hb⟩
    exact ⟨g, ys, rfl, ownF_of_owns hown hr, (hown.lt g rfl).1, hown, hb⟩

set_option maxHeartbeats 4000000 in
theorem eqFieldS_own (g g' cap cap' : Nat) (fs : List (Int × Int)) (w : World) (hn : fs.length ≤ 1048576) (h : OwnF w g fs) (h' : OwnF w g' fs) :
    Calls Try.prog 38 #[.slice (some ⟨g, 0, none⟩) fs.length cap, .slice (some ⟨g', 0, none⟩) fs.length cap'] w fun e w' => e = .returned (.bool true) ∧ Below w.heap.size w w' := by
  replace h := hide h
  replace h' := hide h'
  go_enter Try.func38, Try.ntmps38
  go_wp2
  go_loopw [5] (fun i wr => ∃ k : Nat, k ≤ fs.length ∧ i = .int .i64 k ∧ Below w.heap.size w wr) (fun i _ => fs.length - (intOf i).toNat)
  case atStart => exact ⟨0, Nat.zero_le _, rfl, Below.refl _ _⟩
  case round =>
    obtain ⟨k, hk, rfl, hbel⟩ := hrel
    by_cases hlt : k < fs.length
    · have d0 := ((unhide h).below hbel).2 k hlt
      have d1 := ((unhide h').below hbel).2 k hlt
      obtain ⟨d00, d01⟩ := d0
      obtain ⟨d10, d11⟩ := d1
      rw [Nat.zero_add] at d00 d01 d10 d11
      generalize fs.getD k (0, 0) = f at d00 d01 d10 d11
      obtain ⟨n, u⟩ := f
      simp only at d00 d01 d10 d11
      have hk0 : (0 : Int) ≤ (k : Int) := by omega
      have hk1 : (k : Int) < (fs.length : Int) := by omega
      go_wp2_with fail
      go_region_with (go_at_call 59; refine (eqField_eq n u _).mono ?_; rintro e w2 ⟨rfl, hb2⟩)
      all_goals
        have hb3 := hbel.drew.trans (hb2.mono (show w.heap.size ≤ _ from hbel.size))
        clear hb2
        go_wp2
        go_roundw
        case rel => exact ⟨k + 1, by omega, by go_num, hb3⟩
        case measure => simp [intOf]; omega
    · have hkl : k = fs.length := by omega
      subst hkl
      go_wp2
      go_ret
      exact ⟨rfl, hbel⟩
end Go.Proofs.Ytcmabocmcgkmdaa
