/- Lists of notes: how much they hold. -/
import Derived.Test.YthpkngipiapbpaaDoorWRNt
import Derived.Test.YthpkngipiapbpaaDoorWN1
namespace Go.Proofs.YthpkngipiapbpaaDoor
open Go.RowKit

def ntTo (ps : List Nt) (k : Nat) : Nat := ((ps.take k).map fun p => p.1.size + p.2.size).sum
def ntSize (ps : List Nt) : Nat := ps.length + ntTo ps ps.length
theorem ntTo_succ (ps : List Nt) (k : Nat) (h : k < ps.length) : ntTo ps (k + 1) = ntTo ps k + ((ps.getD k Nt0).1.size + (ps.getD k Nt0).2.size) := by
  unfold ntTo; rw [take_snoc_getD ps Nt0 k h]; simp
theorem ntTo_le (ps : List Nt) (k : Nat) : ntTo ps k ≤ ntTo ps ps.length := by
  have e : ntTo ps ps.length = ntTo ps k + ((ps.drop k).map fun p => p.1.size + p.2.size).sum := by
    unfold ntTo; rw [List.take_length, ← List.sum_append, ← List.map_append, List.take_append_drop]
  omega

set_option maxHeartbeats 4000000 in
theorem szNoteS_any (ad : Option Addr) (ps : List Nt) (cap : Nat) (left : Int) (w : World) (h0 : 0 ≤ left) (h1 : left ≤ 1099511627776) (hn : ps.length ≤ 9223372036854775807) (hI : InNt ps) (hA : ArgNt w ad ps) :
    Calls Tryd.prog 27 #[.slice ad ps.length cap, .int .i64 left] w fun e w' => e = .returned (.int .i64 (if left < ((ntSize ps : Nat) : Int) then -1 else left - ((ntSize ps : Nat) : Int))) ∧ Upd 0 0 w w' := by
  by_cases hlt : left < ps.length
  · have hc : left < ((ntSize ps : Nat) : Int) := by unfold ntSize; omega
    rw [if_pos hc]
    clear hA hI
    go_enter Tryd.func27, Tryd.ntmps27
    go_wp2
    go_ret
    exact ⟨rfl, Upd.refl _ _ _⟩
  · replace hA := hide hA
    replace hI := hide hI
    have q : decide (left - (ps.length : Int) < 0) = false := by simp; omega
    obtain ⟨R, hR⟩ : ∃ R : Int, R = if left < ((ntSize ps : Nat) : Int) then -1 else left - ((ntSize ps : Nat) : Int) := ⟨_, rfl⟩
    rw [← hR]
    replace hR := hide hR
    go_enter Tryd.func27, Tryd.ntmps27
    go_wp2
    go_loopw [1, 5] (fun l i wr => ∃ k : Nat, k ≤ ps.length ∧ i = .int .i64 k ∧ l = .int .i64 (left - (ps.length : Int) - ((ntTo ps k : Nat) : Int)) ∧ Hid (0 ≤ left - (ps.length : Int) - ((ntTo ps k : Nat) : Int)) ∧ Below w.heap.size w wr) (fun _ i _ => ps.length - (intOf i).toNat)
    case atStart => exact ⟨0, Nat.zero_le _, rfl, by simp [ntTo], hide (by simp [ntTo]; omega), Below.refl _ _⟩
    case round =>
      obtain ⟨k, hk, rfl, rfl, hp, hbel⟩ := hrel
      by_cases hk' : k < ps.length
      · obtain ⟨b, off, rfl, hbl, hc⟩ := ((unhide hA).below hbel) (ne_of_lt_length hk')
        obtain ⟨d0, d1⟩ := hc k hk'
        obtain ⟨b0, b1⟩ := unhide hI k
        have hs := hide (ntTo_succ ps k hk')
        have hle := hide (ntTo_le ps (k + 1))
        have hp' := unhide hp
        clear hc hbl
        generalize ps.getD k Nt0 = f at d0 d1 b0 b1 hs
        obtain ⟨x0, x1⟩ := f
        simp only at d0 d1 b0 b1
        change Hid (ntTo ps (k + 1) = ntTo ps k + (x0.size + x1.size)) at hs
        obtain ⟨l0, hl0⟩ : ∃ l0 : Int, l0 = left - (ps.length : Int) - ((ntTo ps k : Nat) : Int) := ⟨_, rfl⟩
        rw [← hl0] at hp' ⊢
        have hSz := hide (szNote_any x0 x1 l0 wr hp' (by omega) b0 b1)
        replace hl0 := hide hl0
        replace hp' := hide hp'
        clear hp b0 b1 hlt q h0 h1
        by_cases hx : l0 < ((x0.size + x1.size : Nat) : Int)
        · rw [if_pos hx] at hSz
          go_wp2_with fail
          refine (unhide hSz).mono ?_
          rintro e w2 ⟨rfl, hu⟩
          have hb2 := hide (below_upd hbel hu (Nat.le_refl _) (.inr (Nat.le_refl _)))
          have hE : R = -1 := by
            rw [unhide hR, if_pos]
            have := unhide hl0; have := unhide hs; have := unhide hle
            unfold ntSize; omega
          subst hE
          clear hu hSz
          go_wp2
          go_ret
          exact ⟨rfl, Upd.of_below (unhide hb2) 0 0⟩
        · rw [if_neg hx] at hSz
          have q2 : decide (l0 - ((x0.size + x1.size : Nat) : Int) < 0) = false := by simp; omega
          have hnx : Hid (0 ≤ l0 - ((x0.size + x1.size : Nat) : Int)) := hide (by omega)
          have he : Hid (l0 - ((x0.size + x1.size : Nat) : Int) = left - (ps.length : Int) - ((ntTo ps (k + 1) : Nat) : Int)) := hide (by have := unhide hl0; have := unhide hs; omega)
          obtain ⟨l1, hl1⟩ : ∃ l1 : Int, l1 = l0 - ((x0.size + x1.size : Nat) : Int) := ⟨_, rfl⟩
          rw [← hl1] at hSz q2 hnx he
          clear hl1 hx
          go_wp2_with fail
          refine (unhide hSz).mono ?_
          rintro e w2 ⟨rfl, hu⟩
          have hb2 := hide (below_upd hbel hu (Nat.le_refl _) (.inr (Nat.le_refl _)))
          clear hu hSz
          go_wp2
          go_roundw
          case rel => exact ⟨k + 1, by omega, by go_num, by rw [← unhide he], by rw [← unhide he]; exact hnx, unhide hb2⟩
          case measure => simp [intOf]; omega
      · have hkl : k = ps.length := by omega
        subst hkl
        have hE : R = left - (ps.length : Int) - ((ntTo ps ps.length : Nat) : Int) := by
          rw [unhide hR, if_neg]
          · unfold ntSize; omega
          · have := unhide hp; unfold ntSize; omega
        replace hbel := hide hbel
        rw [← hE] at hp ⊢
        clear hE hR hlt q
        go_wp2
        go_ret
        exact ⟨rfl, Upd.of_below (unhide hbel) 0 0⟩
end Go.Proofs.YthpkngipiapbpaaDoor
