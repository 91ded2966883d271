/- The rows that a slanting line meets: the iterator's contract. -/
import Derived.Test.YtilmdbdgohfpcaaPlainRo
import Derived.Test.YtilmdbdgohfpcaaWIt
import Derived.Test.YtilmdbdgohfpcaaWHeld
import Derived.Shelf.Abstract
import Derived.Shelf.RegionOpen
import Derived.WalkKit
import Derived.OwnWalkIn
import Derived.TacticsInMore
import Derived.LoopNIn
import Derived.LoopIn
namespace Go.Proofs.Ytilmdbdgohfpcaa
open Go Go.RowKit Go.Shelf
attribute [local go_sem] Oper.semAt_some

set_option maxRecDepth 100000 in
set_option maxHeartbeats 4000000 in
theorem rowsOfLine_seq (n : Nat) (hn : 1 ≤ n) (s : Nat) (hs : s ≤ 14) (B1 B2 B3 : Nat) (w : World) (h1 : B1 < w.heap.size) (h2 : B2 < w.heap.size) (h3 : B3 < w.heap.size)
    (c1 : w.cell? ⟨B1, 0, none⟩ = some (.int .i64 (btN s : Int))) (c2 : w.cell? ⟨B2, 0, none⟩ = some (.int .i64 (tpN s : Int))) (c3 : w.cell? ⟨B3, 0, none⟩ = some (.int .i64 (s : Int))) :
    SeqZ Fence.wide n Try.prog 61 #[.pointer (some ⟨B1, 0, none⟩), .pointer (some ⟨B2, 0, none⟩), .pointer (some ⟨B3, 0, none⟩)] (fun x : Int => #[Value.int .i64 x])
      (fun k => k = B1 ∨ k = B2 ∨ k = B3) (fun xs => xs = rowsN s (cntN s)) (fun xs => ∃ k, k < cntN s ∧ xs = rowsN s k ++ [((rowN s k : Nat) : Int)]) w := by
  intro l J Jx W hW hJ hJx hY h0
  refine callsIn_of_wp Try.func61 rfl trivial ?_ rfl
  simp only [Try.ntmps61, List.size_toArray, List.length_cons, List.length_nil, Nat.reduceAdd, Nat.reduceSub, Array.replicate_succ, Array.replicate_zero, List.push_toArray, List.append_toArray, List.nil_append, List.cons_append]
  have d1 := (hW.cell (p := ⟨B1, 0, none⟩) h1).trans c1
  have d2 := (hW.cell (p := ⟨B2, 0, none⟩) h2).trans c2
  have d3 := (hW.cell (p := ⟨B3, 0, none⟩) h3).trans c3
  have hcn : (btN s : Int) - (tpN s : Int) + 1 = (cntN s : Int) := by have := tpN_le s hs; unfold cntN; omega
  have hb7 := btN_le s
  have ht8 := tpN_le s hs
  have hc8 : cntN s ≤ 8 := by unfold cntN; omega
  gi_wp2
  try rw [hcn]
  gi_loopw [11] (fun i wr => ∃ k : Nat, i = .int .i64 (k : Int) ∧ k ≤ cntN s ∧ J (fun _ => False) (rowsN s k) wr ∧ wr.cell? ⟨B1, 0, none⟩ = some (.int .i64 (btN s : Int)) ∧ wr.cell? ⟨B2, 0, none⟩ = some (.int .i64 (tpN s : Int)) ∧ wr.cell? ⟨B3, 0, none⟩ = some (.int .i64 (s : Int)))
    (fun i _ => cntN s - (intOf i).toNat)
  case atStart => exact ⟨0, rfl, Nat.zero_le _, h0, d1, d2, d3⟩
  case round =>
    clear h0 d1 d2 d3 c1 c2 c3 hJ hJx
    obtain ⟨k, rfl, hk, hJ0, d1, d2, d3⟩ := hrel
    by_cases hkl : k < cntN s
    · have hlb : decide ((k : Int) < (cntN s : Int)) = true := decide_eq_true (by omega)
      obtain ⟨r, hr⟩ : ∃ r, rowN s k = r := ⟨_, rfl⟩
      have hrE : Hid (r = if s % 2 = 0 then btN s - k else tpN s + k) := hide (by rw [← hr]; rfl)
      have hnx : Hid (rowsN s k ++ [(r : Int)] = rowsN s (k + 1)) := hide (by rw [← hr]; rfl)
      obtain ⟨fn, tmps, assign, body, hy, hR⟩ := hY (fun _ => False) (rowsN s k) (r : Int) wr (fun _ h => h.elim) hJ0 ⟨k, hkl, by rw [hr]⟩
      by_cases hp : s % 2 = 0
      · have hpb : ((((s : Int) % 2 : Int)) == 0) = true := beq_iff_eq.2 (by omega)
        have hre : (btN s : Int) - (k : Int) = (r : Int) := by have := unhide hrE; rw [if_pos hp] at this; unfold cntN at hkl; omega
        gi_wp2
        refine hR.mono ?_
        rintro e W3 ⟨hkp, (⟨rfl, hJ3⟩ | ⟨rfl, hJx3⟩)⟩
        · have e1 := (World.cell?_of_block (a := ⟨B1, 0, none⟩) (hkp.block B1 (.inl (.inl rfl)))).trans d1
          have e2 := (World.cell?_of_block (a := ⟨B2, 0, none⟩) (hkp.block B2 (.inl (.inr (.inl rfl))))).trans d2
          have e3 := (World.cell?_of_block (a := ⟨B3, 0, none⟩) (hkp.block B3 (.inl (.inr (.inr rfl))))).trans d3
          clear hy hR hJ0 d1 d2 d3
          gi_wp2
          go_roundw
          case rel => exact ⟨k + 1, by go_num, by omega, unhide hnx ▸ hJ3, e1, e2, e3⟩
          case measure => simp [intOf]; omega
        · clear hy hR hJ0
          gi_wp2
          refine bodyPost_ret (results_none rfl _ _ _) rfl ?_
          exact ⟨⟨_, rfl⟩, .inr ⟨fun _ => False, _, ⟨k, hkl, by rw [hr]⟩, fun _ h => h.elim, hJx3⟩⟩
      · have hpb : ((((s : Int) % 2 : Int)) == 0) = false := by simp; omega
        have hre : (tpN s : Int) + (k : Int) = (r : Int) := by have := unhide hrE; rw [if_neg hp] at this; omega
        gi_wp2
        refine hR.mono ?_
        rintro e W3 ⟨hkp, (⟨rfl, hJ3⟩ | ⟨rfl, hJx3⟩)⟩
        · have e1 := (World.cell?_of_block (a := ⟨B1, 0, none⟩) (hkp.block B1 (.inl (.inl rfl)))).trans d1
          have e2 := (World.cell?_of_block (a := ⟨B2, 0, none⟩) (hkp.block B2 (.inl (.inr (.inl rfl))))).trans d2
          have e3 := (World.cell?_of_block (a := ⟨B3, 0, none⟩) (hkp.block B3 (.inl (.inr (.inr rfl))))).trans d3
          clear hy hR hJ0 d1 d2 d3
          gi_wp2
          go_roundw
          case rel => exact ⟨k + 1, by go_num, by omega, unhide hnx ▸ hJ3, e1, e2, e3⟩
          case measure => simp [intOf]; omega
        · clear hy hR hJ0
          gi_wp2
          refine bodyPost_ret (results_none rfl _ _ _) rfl ?_
          exact ⟨⟨_, rfl⟩, .inr ⟨fun _ => False, _, ⟨k, hkl, by rw [hr]⟩, fun _ h => h.elim, hJx3⟩⟩
    · have hke : k = cntN s := by omega
      subst hke
      have hlb : decide ((cntN s : Int) < (cntN s : Int)) = false := decide_eq_false (by omega)
      gi_wp2
      go_end0
      exact ⟨⟨_, rfl⟩, .inl ⟨fun _ => False, _, rfl, fun _ h => h.elim, hJ0⟩⟩
end Go.Proofs.Ytilmdbdgohfpcaa
