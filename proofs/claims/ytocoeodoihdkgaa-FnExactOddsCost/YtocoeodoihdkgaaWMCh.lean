/- Lists of Choices: the walks of the laws' own marking of them. -/
import Derived.Test.YtocoeodoihdkgaaWRCh
namespace Go.Proofs.Ytocoeodoihdkgaa
open Go.RowKit

set_option maxHeartbeats 1000000 in
theorem markChoiceS_none (k : Nat) (w : World) : Calls Try.prog 44 #[.slice none 0 0, .int .i64 k] w fun e w' => e = .returned (.int .i64 (k : Int)) ∧ w' = w := by
  go_enter Try.func44, Try.ntmps44
  go_wp2
  go_loop [1, 5] (fun a i => a = .int .i64 k ∧ i = .int .i64 0) (fun _ _ => 0)
  case atStart => exact ⟨rfl, rfl⟩
  case round =>
    obtain ⟨rfl, rfl⟩ := hrel
    go_wp2
    go_ret
    exact ⟨rfl, rfl⟩

set_option maxHeartbeats 4000000 in
theorem markChoiceS_some (a g cap n k : Nat) (xs : List Value) (w : World) (hn : n ≤ 1048576) (hk : k ≤ 1099511627776) (h : w.ownsRow a 38 2 (.slice (some ⟨g, 0, none⟩) n cap) n xs) :
    Calls Try.prog 44 #[.slice (some ⟨g, 0, none⟩) n cap, .int .i64 k] w fun e w' => e = .returned (.int .i64 ((k + 2 * n : Nat) : Int)) ∧ w'.ownsRow a 38 2 (.slice (some ⟨g, 0, none⟩) n cap) n (cellsCh (marksCh k n)) ∧ Upd g (g + 1) w w' := by
  go_enter Try.func44, Try.ntmps44
  go_wp2
  go_loopw [1, 5] (fun c i wr => ∃ t : Nat, ∃ ys, t ≤ n ∧ c = .int .i64 ((k + 2 * t : Nat) : Int) ∧ i = .int .i64 t ∧ wr.ownsRow a 38 2 (.slice (some ⟨g, 0, none⟩) n cap) n ys ∧ Hid (RowCh ys (marksCh k n) t) ∧ Upd g (g + 1) w wr) (fun _ i _ => n - (intOf i).toNat)
  case atStart => exact ⟨0, xs, Nat.zero_le _, rfl, rfl, h, fun j hj => by omega, Upd.refl _ _ _⟩
  case round =>
    clear h
    obtain ⟨t, ys, ht, rfl, rfl, hown, hrow, hupd⟩ := hrel
    have hlen : ys.length = n * 2 := hown.1
    by_cases hlt : t < n
    · have e0 : ∃ a, wr.cell? ⟨g, t * 2, none⟩ = some a := by rw [hown.cellAt _ (by omega)]; exact ⟨_, List.getElem?_eq_getElem (by omega)⟩
      have e1 : ∃ a, wr.cell? ⟨g, t * 2 + 1, none⟩ = some a := by rw [hown.cellAt _ (by omega)]; exact ⟨_, List.getElem?_eq_getElem (by omega)⟩
      obtain ⟨a0, e0⟩ := e0
      obtain ⟨a1, e1⟩ := e1
      have f0 := hown.frozenAt (t * 2)
      have f1 := hown.frozenAt (t * 2 + 1)
      have hst := hide (show ∀ p0 p1 : Value, ((wr.setCell ⟨g, t * 2, none⟩ (p0)).setCell ⟨g, t * 2 + 1, none⟩ (p1)).ownsRow a 38 2 (.slice (some ⟨g, 0, none⟩) n cap) n ((ys.set (t * 2) (p0)).set (t * 2 + 1) (p1)) from fun p0 p1 => ((hown.stored (t * 2) p0).1.stored (t * 2 + 1) p1).1)
      have ho2 := hide (show ∀ p0 p1 : Value, Upd g (g + 1) w ((wr.setCell ⟨g, t * 2, none⟩ (p0)).setCell ⟨g, t * 2 + 1, none⟩ (p1)) from fun p0 p1 => ((hupd.setCell (r := g) ⟨Nat.le_refl _, by omega⟩ _ p0).setCell (r := g) ⟨Nat.le_refl _, by omega⟩ _ p1))
      have hrow2 : Hid (RowCh ((ys.set (t * 2) (.int .i64 ((k + 2 * t : Nat) : Int))).set (t * 2 + 1) (.int .i64 ((k + 2 * t + 1 : Nat) : Int))) (marksCh k n) (t + 1)) := by
        intro j hj
        by_cases e : j = t
        · subst e
          rw [marksCh_at k n j hlt]
          refine ⟨?_, ?_⟩
          · rw [List.getElem?_set_ne (by omega), List.getElem?_set_self (by first | omega | (simp; omega))]
          · rw [List.getElem?_set_self (by first | omega | (simp; omega))]
        · have := unhide hrow j (by omega)
          refine ⟨?_, ?_⟩
          · rw [List.getElem?_set_ne (by omega), List.getElem?_set_ne (by omega)]; exact this.1
          · rw [List.getElem?_set_ne (by omega), List.getElem?_set_ne (by omega)]; exact this.2
      have hv0 : ((k + 2 * t : Nat) : Int) = (k : Int) + 2 * (t : Int) := by omega
      have hv1 : ((k + 2 * t + 1 : Nat) : Int) = (k : Int) + 2 * (t : Int) + 1 := by omega
      rw [hv0, hv1] at hrow2
      clear hv0 hv1
      replace hlen := hide hlen
      clear hown hupd hrow
      go_wp2
      go_roundw
      case rel => exact ⟨t + 1, _, by omega, by go_num, by go_num, unhide hst _ _, hrow2, unhide ho2 _ _⟩
      case measure => simp [intOf]; omega
    · have htn : t = n := by omega
      subst htn
      have he := cellsCh_of (ps := marksCh k t) (by rw [marksCh_length]; exact hlen) (by rw [marksCh_length]; exact unhide hrow)
      rw [he] at hown
      replace hown := hide hown
      clear hrow he hlen
      go_wp2
      go_ret
      exact ⟨rfl, unhide hown, hupd⟩
theorem markChoiceS_own (a b : Nat) (v : Value) (k : Nat) (ps : List Ch) (w : World) (hn : ps.length ≤ 1048576) (hk : k ≤ 1099511627776) (h : OwnCh w a b v ps) :
    Calls Try.prog 44 #[v, .int .i64 k] w fun e w' => e = .returned (.int .i64 ((k + 2 * ps.length : Nat) : Int)) ∧ OwnCh w' a b v (marksCh k ps.length) ∧ Upd a b w w' := by
  rcases h.1.2 with ⟨rfl, h0⟩ | ⟨g, cap, cur, rfl, h1, h2, h3⟩
  · refine (markChoiceS_none k w).mono ?_
    rintro e w' ⟨rfl, rfl⟩
    rw [h0]
    exact ⟨rfl, ⟨World.ownsRow_nil _ _ _ _, fun k hk => by simp [Value.ownBlock] at hk⟩, Upd.refl _ _ _⟩
  · have hb := h.2 g rfl
    refine (markChoiceS_some a g cap ps.length k _ w hn hk h.1).mono ?_
    rintro e w' ⟨rfl, ho, hu⟩
    refine ⟨rfl, ⟨?_, h.2⟩, ⟨hu.os, hu.tape, hu.output, hu.size, fun i hi hn => hu.block i hi (by omega)⟩⟩
    rw [marksCh_length]; exact ho

set_option maxHeartbeats 4000000 in
theorem heldChoiceS_own (a b : Nat) (v : Value) (k n : Nat) (w : World) (hn : n ≤ 1048576) (hk : k ≤ 1099511627776) (h : OwnCh w a b v (marksCh k n)) :
    Calls Try.prog 53 #[v, .int .i64 k] w fun e w' => e = .returned (.int .i64 ((k + 2 * n : Nat) : Int)) ∧ w' = w := by
  obtain ⟨ad, cap, rfl, hA⟩ := h.rd
  rw [marksCh_length]
  replace hA := hide hA
  clear h
  go_enter Try.func53, Try.ntmps53
  go_wp2
  go_loop [1, 5] (fun a i => ∃ t : Nat, t ≤ n ∧ a = .int .i64 ((k + 2 * t : Nat) : Int) ∧ i = .int .i64 t) (fun _ i => n - (intOf i).toNat)
  case atStart => exact ⟨0, Nat.zero_le _, rfl, rfl⟩
  case round =>
    obtain ⟨t, ht, rfl, rfl⟩ := hrel
    by_cases hlt : t < n
    · obtain ⟨b', off, rfl, hbl, hc⟩ := (unhide hA) (ne_of_lt_length (k := t) (by simpa using hlt))
      obtain ⟨d0, d1⟩ := hc t (by simpa using hlt)
      rw [marksCh_at k n t hlt] at d0 d1
      simp only at d0 d1
      have hv0 : ((k + 2 * t : Nat) : Int) = (k : Int) + 2 * (t : Int) := by omega
      have hv1 : ((k + 2 * t + 1 : Nat) : Int) = (k : Int) + 2 * (t : Int) + 1 := by omega
      rw [hv0] at d0
      rw [hv1] at d1
      clear hc hA hv0 hv1
      go_wp2
      go_round
      case rel => exact ⟨t + 1, by omega, by go_num, by go_num⟩
      case measure => simp [intOf]; omega
    · have htn : t = n := by omega
      subst htn
      go_wp2
      go_ret
      exact ⟨rfl, rfl⟩
end Go.Proofs.Ytocoeodoihdkgaa
