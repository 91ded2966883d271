/- Lists of Passs: the walks of the laws' own marking of them. -/
import Derived.Test.YthndnehadkgibaaDoorWRPs
namespace Go.Proofs.YthndnehadkgibaaDoor
open Go.RowKit

set_option maxHeartbeats 1000000 in
theorem markPassS_none (k : Nat) (w : World) : Calls Tryd.prog 15 #[.slice none 0 0, .int .i64 k] w fun e w' => e = .returned (.int .i64 (k : Int)) ∧ w' = w := by
  go_enter Tryd.func15, Tryd.ntmps15
  go_wp2
  go_loop [1, 5] (fun a i => a = .int .i64 k ∧ i = .int .i64 0) (fun _ _ => 0)
  case atStart => exact ⟨rfl, rfl⟩
  case round =>
    obtain ⟨rfl, rfl⟩ := hrel
    go_wp2
    go_ret
    exact ⟨rfl, rfl⟩

set_option maxHeartbeats 4000000 in
theorem markPassS_some (a g cap n k : Nat) (xs : List Value) (w : World) (hn : n ≤ 1048576) (hk : k ≤ 1099511627776) (h : w.ownsRow a 33 6 (.slice (some ⟨g, 0, none⟩) n cap) n xs) :
    Calls Tryd.prog 15 #[.slice (some ⟨g, 0, none⟩) n cap, .int .i64 k] w fun e w' => e = .returned (.int .i64 ((k + 6 * n : Nat) : Int)) ∧ w'.ownsRow a 33 6 (.slice (some ⟨g, 0, none⟩) n cap) n (cellsPs (marksPs k n)) ∧ Upd g (g + 1) w w' := by
  go_enter Tryd.func15, Tryd.ntmps15
  go_wp2
  go_loopw [1, 5] (fun c i wr => ∃ t : Nat, ∃ ys, t ≤ n ∧ c = .int .i64 ((k + 6 * t : Nat) : Int) ∧ i = .int .i64 t ∧ wr.ownsRow a 33 6 (.slice (some ⟨g, 0, none⟩) n cap) n ys ∧ Hid (RowPs ys (marksPs k n) t) ∧ Upd g (g + 1) w wr) (fun _ i _ => n - (intOf i).toNat)
  case atStart => exact ⟨0, xs, Nat.zero_le _, rfl, rfl, h, fun j hj => by omega, Upd.refl _ _ _⟩
  case round =>
    clear h
    obtain ⟨t, ys, ht, rfl, rfl, hown, hrow, hupd⟩ := hrel
    have hlen : ys.length = n * 6 := hown.1
    by_cases hlt : t < n
    · have e0 : ∃ a, wr.cell? ⟨g, t * 6, none⟩ = some a := by rw [hown.cellAt _ (by omega)]; exact ⟨_, List.getElem?_eq_getElem (by omega)⟩
      have e1 : ∃ a, wr.cell? ⟨g, t * 6 + 1, none⟩ = some a := by rw [hown.cellAt _ (by omega)]; exact ⟨_, List.getElem?_eq_getElem (by omega)⟩
      have e2 : ∃ a, wr.cell? ⟨g, t * 6 + 2, none⟩ = some a := by rw [hown.cellAt _ (by omega)]; exact ⟨_, List.getElem?_eq_getElem (by omega)⟩
      have e3 : ∃ a, wr.cell? ⟨g, t * 6 + 3, none⟩ = some a := by rw [hown.cellAt _ (by omega)]; exact ⟨_, List.getElem?_eq_getElem (by omega)⟩
      have e4 : ∃ a, wr.cell? ⟨g, t * 6 + 4, none⟩ = some a := by rw [hown.cellAt _ (by omega)]; exact ⟨_, List.getElem?_eq_getElem (by omega)⟩
      have e5 : ∃ a, wr.cell? ⟨g, t * 6 + 5, none⟩ = some a := by rw [hown.cellAt _ (by omega)]; exact ⟨_, List.getElem?_eq_getElem (by omega)⟩
      obtain ⟨a0, e0⟩ := e0
      obtain ⟨a1, e1⟩ := e1
      obtain ⟨a2, e2⟩ := e2
      obtain ⟨a3, e3⟩ := e3
      obtain ⟨a4, e4⟩ := e4
      obtain ⟨a5, e5⟩ := e5
      have f0 := hown.frozenAt (t * 6)
      have f1 := hown.frozenAt (t * 6 + 1)
      have f2 := hown.frozenAt (t * 6 + 2)
      have f3 := hown.frozenAt (t * 6 + 3)
      have f4 := hown.frozenAt (t * 6 + 4)
      have f5 := hown.frozenAt (t * 6 + 5)
      have hst := hide (show ∀ p0 p1 p2 p3 p4 p5 : Value, ((((((wr.setCell ⟨g, t * 6, none⟩ (p0)).setCell ⟨g, t * 6 + 1, none⟩ (p1)).setCell ⟨g, t * 6 + 2, none⟩ (p2)).setCell ⟨g, t * 6 + 3, none⟩ (p3)).setCell ⟨g, t * 6 + 4, none⟩ (p4)).setCell ⟨g, t * 6 + 5, none⟩ (p5)).ownsRow a 33 6 (.slice (some ⟨g, 0, none⟩) n cap) n ((((((ys.set (t * 6) (p0)).set (t * 6 + 1) (p1)).set (t * 6 + 2) (p2)).set (t * 6 + 3) (p3)).set (t * 6 + 4) (p4)).set (t * 6 + 5) (p5)) from fun p0 p1 p2 p3 p4 p5 => ((((((hown.stored (t * 6) p0).1.stored (t * 6 + 1) p1).1.stored (t * 6 + 2) p2).1.stored (t * 6 + 3) p3).1.stored (t * 6 + 4) p4).1.stored (t * 6 + 5) p5).1)
      have ho2 := hide (show ∀ p0 p1 p2 p3 p4 p5 : Value, Upd g (g + 1) w ((((((wr.setCell ⟨g, t * 6, none⟩ (p0)).setCell ⟨g, t * 6 + 1, none⟩ (p1)).setCell ⟨g, t * 6 + 2, none⟩ (p2)).setCell ⟨g, t * 6 + 3, none⟩ (p3)).setCell ⟨g, t * 6 + 4, none⟩ (p4)).setCell ⟨g, t * 6 + 5, none⟩ (p5)) from fun p0 p1 p2 p3 p4 p5 => ((((((hupd.setCell (r := g) ⟨Nat.le_refl _, by omega⟩ _ p0).setCell (r := g) ⟨Nat.le_refl _, by omega⟩ _ p1).setCell (r := g) ⟨Nat.le_refl _, by omega⟩ _ p2).setCell (r := g) ⟨Nat.le_refl _, by omega⟩ _ p3).setCell (r := g) ⟨Nat.le_refl _, by omega⟩ _ p4).setCell (r := g) ⟨Nat.le_refl _, by omega⟩ _ p5))
      have hrow2 : Hid (RowPs ((((((ys.set (t * 6) (.int .i64 ((k + 6 * t : Nat) : Int))).set (t * 6 + 1) (.int .i64 ((k + 6 * t + 1 : Nat) : Int))).set (t * 6 + 2) (.int .i64 ((k + 6 * t + 2 : Nat) : Int))).set (t * 6 + 3) (.int .i64 ((k + 6 * t + 3 : Nat) : Int))).set (t * 6 + 4) (.int .i64 ((k + 6 * t + 4 : Nat) : Int))).set (t * 6 + 5) (.int .i64 ((k + 6 * t + 5 : Nat) : Int))) (marksPs k n) (t + 1)) := by
        intro j hj
        by_cases e : j = t
        · subst e
          rw [marksPs_at k n j hlt]
          refine ⟨?_, ?_, ?_, ?_, ?_, ?_⟩
          · rw [List.getElem?_set_ne (by omega), List.getElem?_set_ne (by omega), List.getElem?_set_ne (by omega), List.getElem?_set_ne (by omega), List.getElem?_set_ne (by omega), List.getElem?_set_self (by first | omega | (simp; omega))]
          · rw [List.getElem?_set_ne (by omega), List.getElem?_set_ne (by omega), List.getElem?_set_ne (by omega), List.getElem?_set_ne (by omega), List.getElem?_set_self (by first | omega | (simp; omega))]
          · rw [List.getElem?_set_ne (by omega), List.getElem?_set_ne (by omega), List.getElem?_set_ne (by omega), List.getElem?_set_self (by first | omega | (simp; omega))]
          · rw [List.getElem?_set_ne (by omega), List.getElem?_set_ne (by omega), List.getElem?_set_self (by first | omega | (simp; omega))]
          · rw [List.getElem?_set_ne (by omega), List.getElem?_set_self (by first | omega | (simp; omega))]
          · rw [List.getElem?_set_self (by first | omega | (simp; omega))]
        · have := unhide hrow j (by omega)
          refine ⟨?_, ?_, ?_, ?_, ?_, ?_⟩
          · rw [List.getElem?_set_ne (by omega), List.getElem?_set_ne (by omega), List.getElem?_set_ne (by omega), List.getElem?_set_ne (by omega), List.getElem?_set_ne (by omega), List.getElem?_set_ne (by omega)]; exact this.1
          · rw [List.getElem?_set_ne (by omega), List.getElem?_set_ne (by omega), List.getElem?_set_ne (by omega), List.getElem?_set_ne (by omega), List.getElem?_set_ne (by omega), List.getElem?_set_ne (by omega)]; exact this.2.1
          · rw [List.getElem?_set_ne (by omega), List.getElem?_set_ne (by omega), List.getElem?_set_ne (by omega), List.getElem?_set_ne (by omega), List.getElem?_set_ne (by omega), List.getElem?_set_ne (by omega)]; exact this.2.2.1
          · rw [List.getElem?_set_ne (by omega), List.getElem?_set_ne (by omega), List.getElem?_set_ne (by omega), List.getElem?_set_ne (by omega), List.getElem?_set_ne (by omega), List.getElem?_set_ne (by omega)]; exact this.2.2.2.1
          · rw [List.getElem?_set_ne (by omega), List.getElem?_set_ne (by omega), List.getElem?_set_ne (by omega), List.getElem?_set_ne (by omega), List.getElem?_set_ne (by omega), List.getElem?_set_ne (by omega)]; exact this.2.2.2.2.1
          · rw [List.getElem?_set_ne (by omega), List.getElem?_set_ne (by omega), List.getElem?_set_ne (by omega), List.getElem?_set_ne (by omega), List.getElem?_set_ne (by omega), List.getElem?_set_ne (by omega)]; exact this.2.2.2.2.2
      have hv0 : ((k + 6 * t : Nat) : Int) = (k : Int) + 6 * (t : Int) := by omega
      have hv1 : ((k + 6 * t + 1 : Nat) : Int) = (k : Int) + 6 * (t : Int) + 1 := by omega
      have hv2 : ((k + 6 * t + 2 : Nat) : Int) = (k : Int) + 6 * (t : Int) + 1 + 1 := by omega
      have hv3 : ((k + 6 * t + 3 : Nat) : Int) = (k : Int) + 6 * (t : Int) + 1 + 1 + 1 := by omega
      have hv4 : ((k + 6 * t + 4 : Nat) : Int) = (k : Int) + 6 * (t : Int) + 1 + 1 + 1 + 1 := by omega
      have hv5 : ((k + 6 * t + 5 : Nat) : Int) = (k : Int) + 6 * (t : Int) + 1 + 1 + 1 + 1 + 1 := by omega
      rw [hv0, hv1, hv2, hv3, hv4, hv5] at hrow2
      clear hv0 hv1 hv2 hv3 hv4 hv5
      replace hlen := hide hlen
      clear hown hupd hrow
      go_wp2
      go_roundw
      case rel => exact ⟨t + 1, _, by omega, by go_num, by go_num, unhide hst _ _ _ _ _ _, hrow2, unhide ho2 _ _ _ _ _ _⟩
      case measure => simp [intOf]; omega
    · have htn : t = n := by omega
      subst htn
      have he := cellsPs_of (ps := marksPs k t) (by rw [marksPs_length]; exact hlen) (by rw [marksPs_length]; exact unhide hrow)
      rw [he] at hown
      replace hown := hide hown
      clear hrow he hlen
      go_wp2
      go_ret
      exact ⟨rfl, unhide hown, hupd⟩
theorem markPassS_own (a b : Nat) (v : Value) (k : Nat) (ps : List Ps) (w : World) (hn : ps.length ≤ 1048576) (hk : k ≤ 1099511627776) (h : OwnPs w a b v ps) :
    Calls Tryd.prog 15 #[v, .int .i64 k] w fun e w' => e = .returned (.int .i64 ((k + 6 * ps.length : Nat) : Int)) ∧ OwnPs w' a b v (marksPs k ps.length) ∧ Upd a b w w' := by
  rcases h.1.2 with ⟨rfl, h0⟩ | ⟨g, cap, cur, rfl, h1, h2, h3⟩
  · refine (markPassS_none k w).mono ?_
    rintro e w' ⟨rfl, rfl⟩
    rw [h0]
    exact ⟨rfl, ⟨World.ownsRow_nil _ _ _ _, fun k hk => by simp [Value.ownBlock] at hk⟩, Upd.refl _ _ _⟩
  · have hb := h.2 g rfl
    refine (markPassS_some a g cap ps.length k _ w hn hk h.1).mono ?_
    rintro e w' ⟨rfl, ho, hu⟩
    refine ⟨rfl, ⟨?_, h.2⟩, ⟨hu.os, hu.tape, hu.output, hu.size, fun i hi hn => hu.block i hi (by omega)⟩⟩
    rw [marksPs_length]; exact ho

set_option maxHeartbeats 4000000 in
theorem heldPassS_own (a b : Nat) (v : Value) (k n : Nat) (w : World) (hn : n ≤ 1048576) (hk : k ≤ 1099511627776) (h : OwnPs w a b v (marksPs k n)) :
    Calls Tryd.prog 16 #[v, .int .i64 k] w fun e w' => e = .returned (.int .i64 ((k + 6 * n : Nat) : Int)) ∧ w' = w := by
  obtain ⟨ad, cap, rfl, hA⟩ := h.rd
  rw [marksPs_length]
  replace hA := hide hA
  clear h
  go_enter Tryd.func16, Tryd.ntmps16
  go_wp2
  go_loop [1, 5] (fun a i => ∃ t : Nat, t ≤ n ∧ a = .int .i64 ((k + 6 * t : Nat) : Int) ∧ i = .int .i64 t) (fun _ i => n - (intOf i).toNat)
  case atStart => exact ⟨0, Nat.zero_le _, rfl, rfl⟩
  case round =>
    obtain ⟨t, ht, rfl, rfl⟩ := hrel
    by_cases hlt : t < n
    · obtain ⟨b', off, rfl, hbl, hc⟩ := (unhide hA) (ne_of_lt_length (k := t) (by simpa using hlt))
      obtain ⟨d0, d1, d2, d3, d4, d5⟩ := hc t (by simpa using hlt)
      rw [marksPs_at k n t hlt] at d0 d1 d2 d3 d4 d5
      simp only at d0 d1 d2 d3 d4 d5
      have hv0 : ((k + 6 * t : Nat) : Int) = (k : Int) + 6 * (t : Int) := by omega
      have hv1 : ((k + 6 * t + 1 : Nat) : Int) = (k : Int) + 6 * (t : Int) + 1 := by omega
      have hv2 : ((k + 6 * t + 2 : Nat) : Int) = (k : Int) + 6 * (t : Int) + 1 + 1 := by omega
      have hv3 : ((k + 6 * t + 3 : Nat) : Int) = (k : Int) + 6 * (t : Int) + 1 + 1 + 1 := by omega
      have hv4 : ((k + 6 * t + 4 : Nat) : Int) = (k : Int) + 6 * (t : Int) + 1 + 1 + 1 + 1 := by omega
      have hv5 : ((k + 6 * t + 5 : Nat) : Int) = (k : Int) + 6 * (t : Int) + 1 + 1 + 1 + 1 + 1 := by omega
      rw [hv0] at d0
      rw [hv1] at d1
      rw [hv2] at d2
      rw [hv3] at d3
      rw [hv4] at d4
      rw [hv5] at d5
      clear hc hA hv0 hv1 hv2 hv3 hv4 hv5
      go_wp2
      go_round
      case rel => exact ⟨t + 1, by omega, by go_num, by go_num⟩
      case measure => simp [intOf]; omega
    · have htn : t = n := by omega
      subst htn
      go_wp2
      go_ret
      exact ⟨rfl, rfl⟩
end Go.Proofs.YthndnehadkgibaaDoor
