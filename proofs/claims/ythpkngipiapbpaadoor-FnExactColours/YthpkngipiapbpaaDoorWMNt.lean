/- Lists of Notes: the walks of the laws' own marking of them. -/
import Derived.Test.YthpkngipiapbpaaDoorWRNt
import Derived.Test.YthpkngipiapbpaaDoorWTxt
namespace Go.Proofs.YthpkngipiapbpaaDoor
open Go.RowKit

def mkB (k : Nat) : ByteArray := ⟨(mkText k).toArray⟩
theorem mkB_of {s : ByteArray} {k : Nat} (h : s.data.toList = mkText k) : s = mkB k := by
  obtain ⟨⟨l⟩⟩ := s
  unfold mkB
  simp at h
  rw [h]
theorem markText_b (k : Nat) (w : World) (hk : k ≤ 1099511627776) :
    Calls Tryd.prog 73 #[.int .i64 k] w fun e w' => e = .returned (.string (mkB k)) ∧ Upd 0 0 w w' := by
  refine (markText_eq k w hk).mono ?_
  rintro e w' ⟨s, rfl, hs, hu⟩
  exact ⟨by rw [mkB_of hs], hu⟩
def marksNt (k n : Nat) : List Nt := (List.range n).map fun j => (mkB (k + 2 * j), mkB (k + 2 * j + 1))
@[simp] theorem marksNt_length (k n : Nat) : (marksNt k n).length = n := by simp [marksNt]
theorem marksNt_at (k n j : Nat) (h : j < n) : (marksNt k n).getD j Nt0 = (mkB (k + 2 * j), mkB (k + 2 * j + 1)) := by
  unfold marksNt; rw [List.getD_eq_getElem?_getD, List.getElem?_map, List.getElem?_range h]; rfl

theorem upd_wide {a b : Nat} {w w' : World} (h : Upd 0 0 w w') : Upd a b w w' := ⟨h.os, h.tape, h.output, h.size, fun k hk _ => h.block k hk (.inr (Nat.zero_le _))⟩

set_option maxHeartbeats 1000000 in
theorem markNoteS_none (k : Nat) (w : World) : Calls Tryd.prog 53 #[.slice none 0 0, .int .i64 k] w fun e w' => e = .returned (.int .i64 (k : Int)) ∧ w' = w := by
  go_enter Tryd.func53, Tryd.ntmps53
  go_wp2
  go_loop [1, 5] (fun a i => a = .int .i64 k ∧ i = .int .i64 0) (fun _ _ => 0)
  case atStart => exact ⟨rfl, rfl⟩
  case round =>
    obtain ⟨rfl, rfl⟩ := hrel
    go_wp2
    go_ret
    exact ⟨rfl, rfl⟩

set_option maxHeartbeats 4000000 in
theorem markNoteS_some (a g cap n k : Nat) (xs : List Value) (w : World) (hn : n ≤ 1048576) (hk : k ≤ 549755813888) (h : w.ownsRow a 58 2 (.slice (some ⟨g, 0, none⟩) n cap) n xs) :
    Calls Tryd.prog 53 #[.slice (some ⟨g, 0, none⟩) n cap, .int .i64 k] w fun e w' => e = .returned (.int .i64 ((k + 2 * n : Nat) : Int)) ∧ w'.ownsRow a 58 2 (.slice (some ⟨g, 0, none⟩) n cap) n (cellsNt (marksNt k n)) ∧ Upd g (g + 1) w w' := by
  go_enter Tryd.func53, Tryd.ntmps53
  go_wp2
  go_loopw [1, 5] (fun c i wr => ∃ t : Nat, ∃ ys, ∃ K : Nat, t ≤ n ∧ Hid (K = k + 2 * t) ∧ c = .int .i64 K ∧ i = .int .i64 t ∧ wr.ownsRow a 58 2 (.slice (some ⟨g, 0, none⟩) n cap) n ys ∧ Hid (RowNt ys (marksNt k n) t) ∧ Upd g (g + 1) w wr) (fun _ i _ => n - (intOf i).toNat)
  case atStart => exact ⟨0, xs, k, Nat.zero_le _, hide (by omega), rfl, rfl, h, hide (fun j hj => by omega), Upd.refl _ _ _⟩
  case round =>
    clear h
    obtain ⟨t, ys, K, ht, hK, rfl, rfl, hown, hrow, hupd⟩ := hrel
    have hlen : ys.length = n * 2 := hown.1
    by_cases hlt : t < n
    · have hK1 : K ≤ 1099511627770 := by have := unhide hK; omega
      have hT1 := hide (fun W => markText_b K W (by omega))
      have hT2 := hide (fun W => markText_b (K + 1) W (by omega))
      obtain ⟨s1, hs1⟩ : ∃ s, mkB K = s := ⟨_, rfl⟩
      obtain ⟨s2, hs2⟩ : ∃ s, mkB (K + 1) = s := ⟨_, rfl⟩
      rw [hs1] at hT1
      rw [hs2] at hT2
      have hrow2 : Hid (RowNt ((ys.set (t * 2) (.string s1)).set (t * 2 + 1) (.string s2)) (marksNt k n) (t + 1)) := by
        intro j hj
        by_cases e : j = t
        · subst e
          rw [marksNt_at k n j hlt, ← unhide hK, hs1, hs2]
          refine ⟨?_, ?_⟩
          · rw [List.getElem?_set_ne (by omega), List.getElem?_set_self (by omega)]
          · rw [List.getElem?_set_self (by simp; omega)]
        · have := unhide hrow j (by omega)
          refine ⟨?_, ?_⟩
          · rw [List.getElem?_set_ne (by omega), List.getElem?_set_ne (by omega)]; exact this.1
          · rw [List.getElem?_set_ne (by omega), List.getElem?_set_ne (by omega)]; exact this.2
      clear hs1 hs2 hrow
      replace hlen := hide hlen
      replace hown := hide (Own.of hown)
      replace hupd := hide hupd
      go_wp2_with fail
      refine (unhide hT1 _).mono ?_
      rintro e w1 ⟨rfl, hu1⟩
      have ho1 := (unhide hown).keep hu1
      have hp1 := (unhide hupd).trans (upd_wide hu1)
      clear hT1 hown hupd hu1
      have e0 : ∃ u, w1.cell? ⟨g, t * 2, none⟩ = some u := by rw [ho1.1.cellAt _ (by omega)]; exact ⟨_, List.getElem?_eq_getElem (by have := unhide hlen; omega)⟩
      obtain ⟨a0, e0⟩ := e0
      have f0 := ho1.1.frozenAt (t * 2)
      have ho2 := hide (Own.of (ho1.1.stored (t * 2) (.string s1)).1)
      have hp2 := hide (hp1.setCell (r := g) ⟨Nat.le_refl _, by omega⟩ (t * 2) (.string s1))
      clear ho1 hp1
      go_wp2_with fail
      generalize w1.setCell ⟨g, t * 2, none⟩ (.string s1) = w2 at ho2 hp2 ⊢
      refine (unhide hT2 _).mono ?_
      rintro e w3 ⟨rfl, hu1⟩
      have ho1 := (unhide ho2).keep hu1
      have hp1 := (unhide hp2).trans (upd_wide hu1)
      clear hT2 ho2 hp2 hu1 e0 f0
      have e0 : ∃ u, w3.cell? ⟨g, t * 2 + 1, none⟩ = some u := by rw [ho1.1.cellAt _ (by omega)]; exact ⟨_, List.getElem?_eq_getElem (by have := unhide hlen; simp; omega)⟩
      obtain ⟨a1, e0⟩ := e0
      have f0 := ho1.1.frozenAt (t * 2 + 1)
      have ho2 := hide (ho1.1.stored (t * 2 + 1) (.string s2)).1
      have hp2 := hide (hp1.setCell (r := g) ⟨Nat.le_refl _, by omega⟩ (t * 2 + 1) (.string s2))
      clear ho1 hp1
      go_wp2
      go_roundw
      case rel => exact ⟨t + 1, _, K + 2, by omega, hide (by have := unhide hK; omega), by go_num, by go_num, unhide ho2, hrow2, unhide hp2⟩
      case measure => simp [intOf]; omega
    · have htn : t = n := by omega
      subst htn
      have he := cellsNt_of (ps := marksNt k t) (by rw [marksNt_length]; exact hlen) (by rw [marksNt_length]; exact unhide hrow)
      rw [he] at hown
      replace hown := hide hown
      clear hrow he hlen
      have hKK := unhide hK
      subst hKK
      go_wp2
      go_ret
      exact ⟨rfl, unhide hown, hupd⟩
theorem markNoteS_own (a b : Nat) (v : Value) (k : Nat) (ps : List Nt) (w : World) (hn : ps.length ≤ 1048576) (hk : k ≤ 549755813888) (h : OwnNt w a b v ps) :
    Calls Tryd.prog 53 #[v, .int .i64 k] w fun e w' => e = .returned (.int .i64 ((k + 2 * ps.length : Nat) : Int)) ∧ OwnNt w' a b v (marksNt k ps.length) ∧ Upd a b w w' := by
  rcases h.1.2 with ⟨rfl, h0⟩ | ⟨g, cap, cur, rfl, h1, h2, h3⟩
  · refine (markNoteS_none k w).mono ?_
    rintro e w' ⟨rfl, rfl⟩
    rw [h0]
    exact ⟨rfl, ⟨World.ownsRow_nil _ _ _ _, fun k hk => by simp [Value.ownBlock] at hk⟩, Upd.refl _ _ _⟩
  · have hb := h.2 g rfl
    refine (markNoteS_some a g cap ps.length k _ w hn hk h.1).mono ?_
    rintro e w' ⟨rfl, ho, hu⟩
    refine ⟨rfl, ⟨?_, h.2⟩, ⟨hu.os, hu.tape, hu.output, hu.size, fun i hi hn => hu.block i hi (by omega)⟩⟩
    rw [marksNt_length]; exact ho
end Go.Proofs.YthpkngipiapbpaaDoor
