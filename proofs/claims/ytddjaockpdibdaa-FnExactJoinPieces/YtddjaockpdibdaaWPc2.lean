/- Lists of pieces: the walks of the laws' own marking of them. -/
import Derived.Test.YtddjaockpdibdaaWPc
namespace Go.Proofs.Ytddjaockpdibdaa
open Go.RowKit

set_option maxHeartbeats 1000000 in
theorem markPieceS_none (k : Nat) (w : World) : Calls Try.prog 46 #[.slice none 0 0, .int .i64 k] w fun e w' => e = .returned (.int .i64 (k : Int)) ∧ w' = w := by
  go_enter Try.func46, Try.ntmps46
  go_wp2
  go_loop [1, 5] (fun a i => a = .int .i64 k ∧ i = .int .i64 0) (fun _ _ => 0)
  case atStart => exact ⟨rfl, rfl⟩
  case round =>
    obtain ⟨rfl, rfl⟩ := hrel
    go_wp2
    go_ret
    exact ⟨rfl, rfl⟩

set_option maxHeartbeats 2000000 in
theorem markPieceS_some (a g cap n k : Nat) (xs : List Value) (w : World) (hn : n ≤ 1048576) (hk : k ≤ 1099511627776) (h : w.ownsRow a 102 3 (.slice (some ⟨g, 0, none⟩) n cap) n xs) :
    Calls Try.prog 46 #[.slice (some ⟨g, 0, none⟩) n cap, .int .i64 k] w fun e w' => e = .returned (.int .i64 ((k + 3 * n : Nat) : Int)) ∧ w'.ownsRow a 102 3 (.slice (some ⟨g, 0, none⟩) n cap) n (pcells (marksP k n)) ∧ Upd g (g + 1) w w' := by
  go_enter Try.func46, Try.ntmps46
  go_wp2
  go_loopw [1, 5] (fun c i wr => ∃ t : Nat, ∃ ys, t ≤ n ∧ c = .int .i64 ((k + 3 * t : Nat) : Int) ∧ i = .int .i64 t ∧ wr.ownsRow a 102 3 (.slice (some ⟨g, 0, none⟩) n cap) n ys ∧ Hid (PcRow ys (marksP k n) t) ∧ Upd g (g + 1) w wr) (fun _ i _ => n - (intOf i).toNat)
  case atStart => exact ⟨0, xs, Nat.zero_le _, rfl, rfl, h, fun j hj => by omega, Upd.refl _ _ _⟩
  case round =>
    clear h
    obtain ⟨t, ys, ht, rfl, rfl, hown, hrow, hupd⟩ := hrel
    have hlen : ys.length = n * 3 := hown.1
    by_cases hlt : t < n
    · have e0 : ∃ a, wr.cell? ⟨g, t * 3, none⟩ = some a := by rw [hown.cellAt _ (by omega)]; exact ⟨_, List.getElem?_eq_getElem (by omega)⟩
      have e1 : ∃ a, wr.cell? ⟨g, t * 3 + 1, none⟩ = some a := by rw [hown.cellAt _ (by omega)]; exact ⟨_, List.getElem?_eq_getElem (by omega)⟩
      have e2 : ∃ a, wr.cell? ⟨g, t * 3 + 2, none⟩ = some a := by rw [hown.cellAt _ (by omega)]; exact ⟨_, List.getElem?_eq_getElem (by omega)⟩
      obtain ⟨a0, e0⟩ := e0
      obtain ⟨a1, e1⟩ := e1
      obtain ⟨a2, e2⟩ := e2
      have f0 := hown.frozenAt (t * 3)
      have f1 := hown.frozenAt (t * 3 + 1)
      have f2 := hown.frozenAt (t * 3 + 2)
      have hst := hide (show ∀ p q r : Value, (((wr.setCell ⟨g, t * 3, none⟩ p).setCell ⟨g, t * 3 + 1, none⟩ q).setCell ⟨g, t * 3 + 2, none⟩ r).ownsRow a 102 3 (.slice (some ⟨g, 0, none⟩) n cap) n (((ys.set (t * 3) p).set (t * 3 + 1) q).set (t * 3 + 2) r) from fun p q r => ((((hown.stored (t * 3) p).1.stored (t * 3 + 1) q).1).stored (t * 3 + 2) r).1)
      have ho2 := hide (show ∀ p q r : Value, Upd g (g + 1) w (((wr.setCell ⟨g, t * 3, none⟩ p).setCell ⟨g, t * 3 + 1, none⟩ q).setCell ⟨g, t * 3 + 2, none⟩ r) from fun p q r => ((hupd.setCell (r := g) ⟨Nat.le_refl _, by omega⟩ _ p).setCell (r := g) ⟨Nat.le_refl _, by omega⟩ _ q).setCell (r := g) ⟨Nat.le_refl _, by omega⟩ _ r)
      have hrow2 : Hid (PcRow (((ys.set (t * 3) (.int .i64 ((k + 3 * t : Nat) : Int))).set (t * 3 + 1) (.int .i64 ((k + 3 * t + 1 : Nat) : Int))).set (t * 3 + 2) (.int .i64 ((k + 3 * t + 2 : Nat) : Int))) (marksP k n) (t + 1)) := by
        intro j hj
        by_cases e : j = t
        · subst e
          rw [marksP_at k n j hlt]
          refine ⟨?_, ?_, ?_⟩
          · rw [List.getElem?_set_ne (by omega), List.getElem?_set_ne (by omega), List.getElem?_set_self (by omega)]
          · rw [List.getElem?_set_ne (by omega), List.getElem?_set_self (by simp; omega)]
          · rw [List.getElem?_set_self (by simp; omega)]
        · have := unhide hrow j (by omega)
          refine ⟨?_, ?_, ?_⟩
          · rw [List.getElem?_set_ne (by omega), List.getElem?_set_ne (by omega), List.getElem?_set_ne (by omega)]; exact this.1
          · rw [List.getElem?_set_ne (by omega), List.getElem?_set_ne (by omega), List.getElem?_set_ne (by omega)]; exact this.2.1
          · rw [List.getElem?_set_ne (by omega), List.getElem?_set_ne (by omega), List.getElem?_set_ne (by omega)]; exact this.2.2
      have hv0 : ((k + 3 * t : Nat) : Int) = (k : Int) + 3 * (t : Int) := by omega
      have hv1 : ((k + 3 * t + 1 : Nat) : Int) = (k : Int) + 3 * (t : Int) + 1 := by omega
      have hv2 : ((k + 3 * t + 2 : Nat) : Int) = (k : Int) + 3 * (t : Int) + 1 + 1 := by omega
      rw [hv0, hv1, hv2] at hrow2
      clear hv0 hv1 hv2
      replace hlen := hide hlen
      clear hown hupd hrow
      go_wp2
      go_roundw
      case rel => exact ⟨t + 1, _, by omega, by go_num, by go_num, unhide hst _ _ _, hrow2, unhide ho2 _ _ _⟩
      case measure => simp [intOf]; omega
    · have htn : t = n := by omega
      subst htn
      have he := pcells_of (ps := marksP k t) (by rw [marksP_length]; exact hlen) (by rw [marksP_length]; exact unhide hrow)
      rw [he] at hown
      replace hown := hide hown
      clear hrow he hlen
      go_wp2
      go_ret
      exact ⟨rfl, unhide hown, hupd⟩
theorem markPieceS_own (a b : Nat) (v : Value) (k : Nat) (ps : List Pc) (w : World) (hn : ps.length ≤ 1048576) (hk : k ≤ 1099511627776) (h : OwnP w a b v ps) :
    Calls Try.prog 46 #[v, .int .i64 k] w fun e w' => e = .returned (.int .i64 ((k + 3 * ps.length : Nat) : Int)) ∧ OwnP w' a b v (marksP k ps.length) ∧ Upd a b w w' := by
  rcases h.1.2 with ⟨rfl, h0⟩ | ⟨g, cap, cur, rfl, h1, h2, h3⟩
  · refine (markPieceS_none k w).mono ?_
    rintro e w' ⟨rfl, rfl⟩
    rw [h0]
    exact ⟨rfl, ⟨World.ownsRow_nil _ _ _ _, fun k hk => by simp [Value.ownBlock] at hk⟩, Upd.refl _ _ _⟩
  · have hb := h.2 g rfl
    refine (markPieceS_some a g cap ps.length k _ w hn hk h.1).mono ?_
    rintro e w' ⟨rfl, ho, hu⟩
    refine ⟨rfl, ⟨?_, h.2⟩, ⟨hu.os, hu.tape, hu.output, hu.size, fun i hi hn => hu.block i hi (by omega)⟩⟩
    rw [marksP_length]; exact ho

set_option maxHeartbeats 2000000 in
theorem heldPieceS_own (a b : Nat) (v : Value) (k n : Nat) (w : World) (hn : n ≤ 1048576) (hk : k ≤ 1099511627776) (h : OwnP w a b v (marksP k n)) :
    Calls Try.prog 47 #[v, .int .i64 k] w fun e w' => e = .returned (.int .i64 ((k + 3 * n : Nat) : Int)) ∧ w' = w := by
  obtain ⟨ad, cap, rfl, hA⟩ := h.rd
  rw [marksP_length]
  replace hA := hide hA
  clear h
  go_enter Try.func47, Try.ntmps47
  go_wp2
  go_loop [1, 5] (fun a i => ∃ t : Nat, t ≤ n ∧ a = .int .i64 ((k + 3 * t : Nat) : Int) ∧ i = .int .i64 t) (fun _ i => n - (intOf i).toNat)
  case atStart => exact ⟨0, Nat.zero_le _, rfl, rfl⟩
  case round =>
    obtain ⟨t, ht, rfl, rfl⟩ := hrel
    by_cases hlt : t < n
    · obtain ⟨b', off, rfl, hbl, hc⟩ := (unhide hA) (ne_of_lt_length (k := t) (by simpa using hlt))
      obtain ⟨d0, d1, d2⟩ := hc t (by simpa using hlt)
      rw [marksP_at k n t hlt] at d0 d1 d2
      simp only at d0 d1 d2
      have hv0 : ((k + 3 * t : Nat) : Int) = (k : Int) + 3 * (t : Int) := by omega
      have hv1 : ((k + 3 * t + 1 : Nat) : Int) = (k : Int) + 3 * (t : Int) + 1 := by omega
      have hv2 : ((k + 3 * t + 2 : Nat) : Int) = (k : Int) + 3 * (t : Int) + 1 + 1 := by omega
      rw [hv0] at d0
      rw [hv1] at d1
      rw [hv2] at d2
      clear hc hA hv0 hv1 hv2
      go_wp2
      go_round
      case rel => exact ⟨t + 1, by omega, by go_num, by go_num⟩
      case measure => simp [intOf]; omega
    · have htn : t = n := by omega
      subst htn
      go_wp2
      go_ret
      exact ⟨rfl, rfl⟩
end Go.Proofs.Ytddjaockpdibdaa
