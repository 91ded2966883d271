/- The program's units and blocks of a photo. -/
import Derived.Test.YtilmdbdgohfpcaaWPhA
namespace Go.Proofs.Ytilmdbdgohfpcaa
open Go.RowKit

theorem wrapP {x : Int} (h : -9223372036854775808 ≤ x ∧ x ≤ 9223372036854775807) : IntKind.i64.wrap x = x := by
  obtain ⟨h1, h2⟩ := h
  simp [IntKind.wrap, IntKind.signed, IntKind.bits]
  omega
set_option maxHeartbeats 4000000 in
set_option maxRecDepth 100000 in
theorem implCountUnits (a b q : Int) (hf st : Bool) (ev : Int) (ad : Option Addr) (n cap : Nat) (w : World) (ha : 1 ≤ a ∧ a ≤ 512) (hb : 1 ≤ b ∧ b ≤ 512) :
    Calls Try.prog 64 #[phv a b q hf st ev (.slice ad n cap)] w fun e w' => e = .returned (.int .i64 (upZ a (uZ hf) * upZ b (uZ hf))) ∧ Upd 0 0 w w' := by
  have hbx := hide (heldF_new w (phc a b q hf st ev (.slice ad n cap)) 46)
  have hU := hide (Upd.of_below ((Below.refl w.heap.size w).alloc (Nat.le_refl _) (.cells #[.int .i64 a, .int .i64 b, .int .i64 q, .bool hf, .bool st, .int .i64 ev, .slice ad n cap] 46)) 0 0)
  have h1 := hide (fun X => implUnitsAcross a b q hf st ev ad n cap X ha)
  have h2 := hide (fun X => implUnitSide a b q hf st ev ad n cap 0 X)
  have h3 := hide (fun X => implSteps8 b (uZ hf) X hb (by unfold uZ; cases hf <;> simp))
  rw [uSide_zero] at h2
  have hp := units_bd a b hf ha hb
  obtain ⟨P, hP⟩ : ∃ P, upZ a (uZ hf) * upZ b (uZ hf) = P := ⟨_, rfl⟩
  rw [hP] at hp ⊢
  have hW : IntKind.i64.wrap P = P := wrapP (by omega)
  clear ha hb hp
  go_enter Try.func64, Try.ntmps64
  go_wp2_with fail
  change Hid (HeldF (w.alloc (.cells #[.int .i64 a, .int .i64 b, .int .i64 q, .bool hf, .bool st, .int .i64 ev, .slice ad n cap] 46)) w.heap.size (phc a b q hf st ev (.slice ad n cap))) at hbx
  generalize w.alloc (.cells #[.int .i64 a, .int .i64 b, .int .i64 q, .bool hf, .bool st, .int .i64 ev, .slice ad n cap] 46) = w0 at hbx hU ⊢
  have q0 := fun X : UpdT w0 => (((unhide hbx).1.updT X).2 0 _ rfl)
  have q1 := fun X : UpdT w0 => (((unhide hbx).1.updT X).2 1 _ rfl)
  have q2 := fun X : UpdT w0 => (((unhide hbx).1.updT X).2 2 _ rfl)
  have q3 := fun X : UpdT w0 => (((unhide hbx).1.updT X).2 3 _ rfl)
  have q4 := fun X : UpdT w0 => (((unhide hbx).1.updT X).2 4 _ rfl)
  have q5 := fun X : UpdT w0 => (((unhide hbx).1.updT X).2 5 _ rfl)
  have q6 := fun X : UpdT w0 => (((unhide hbx).1.updT X).2 6 _ rfl)
  refine wq_region_tail 8 (by kernel_rfl) (by kernel_rfl) ?_
  simp only [List.take_succ_cons, List.take_zero, List.drop_succ_cons, List.drop_zero]
  iterate 1
    refine WQ.step (fun K hK => ?_)
    go_simp
    refine hK _ ?_
    clear hK K
  refine WQ.step (fun K hK => ?_)
  go_simp
  refine ⟨.int .i64 (upZ a (uZ hf)), fun X => Calls.updT X (unhide h1 X.to), hK _ ?_⟩
  clear hK K
  iterate 3
    refine WQ.step (fun K hK => ?_)
    go_simp
    refine hK _ ?_
    clear hK K
  refine WQ.step (fun K hK => ?_)
  go_simp
  refine ⟨.int .i64 (uZ hf), fun X => Calls.updT X (unhide h2 X.to), hK _ ?_⟩
  clear hK K
  refine WQ.step (fun K hK => ?_)
  go_simp
  refine ⟨.int .i64 (upZ b (uZ hf)), fun X => Calls.updT_same X (unhide h3 X.to), hK _ ?_⟩
  clear hK K
  refine WQ.step (fun K hK => ?_)
  go_simp
  refine hK _ ?_
  clear hK K
  refine WQ.nil ?_
  rintro _ ⟨X, rfl⟩
  have hX := X.upd
  generalize X.to = wt at hX ⊢
  replace hX := hide ((unhide hU).trans hX)
  clear q0 q1 q2 q3 q4 q5 q6 hbx
  go_wp2
  go_ret
  exact ⟨rfl, unhide hX⟩

set_option maxHeartbeats 4000000 in
set_option maxRecDepth 100000 in
theorem implBlocksOfUnit (a b q : Int) (hf st : Bool) (ev : Int) (ad : Option Addr) (n cap : Nat) (w : World) (hn : n ≤ 1048576) :
    Calls Try.prog 65 #[phv a b q hf st ev (.slice ad n cap)] w fun e w' => e = .returned (.int .i64 (unitTo hf n)) ∧ Upd 0 0 w w' := by
  have hbx := hide (heldF_new w (phc a b q hf st ev (.slice ad n cap)) 46)
  have hU := hide (Upd.of_below ((Below.refl w.heap.size w).alloc (Nat.le_refl _) (.cells #[.int .i64 a, .int .i64 b, .int .i64 q, .bool hf, .bool st, .int .i64 ev, .slice ad n cap] 46)) 0 0)
  have h1 := hide (fun p X => implUnitSide a b q hf st ev ad n cap p X)
  go_enter Try.func65, Try.ntmps65
  go_wp2
  change Hid (HeldF (w.alloc (.cells #[.int .i64 a, .int .i64 b, .int .i64 q, .bool hf, .bool st, .int .i64 ev, .slice ad n cap] 46)) w.heap.size (phc a b q hf st ev (.slice ad n cap))) at hbx
  generalize w.alloc (.cells #[.int .i64 a, .int .i64 b, .int .i64 q, .bool hf, .bool st, .int .i64 ev, .slice ad n cap] 46) = w0 at hbx hU ⊢
  go_loopw [3, 4, 8] (fun s _ i wr => ∃ k : Nat, k ≤ n ∧ i = .int .i64 k ∧ s = .int .i64 (unitTo hf k) ∧ 0 ≤ unitTo hf k ∧ unitTo hf k ≤ 4 * k ∧ Hid (Upd 0 0 w wr) ∧ Hid (HeldF wr w.heap.size (phc a b q hf st ev (.slice ad n cap)))) (fun _ _ i _ => n - (intOf i).toNat)
  case atStart => exact ⟨0, Nat.zero_le _, rfl, rfl, by simp [unitTo], by simp [unitTo], hU, hbx⟩
  case round =>
    clear hU hbx
    obtain ⟨k, hk, rfl, rfl, h0, h4, hU, hbx⟩ := hrel
    by_cases hlt : k < n
    · have hS := hide (show unitTo hf (k + 1) = unitTo hf k + uSide hf (k : Int) * uSide hf (k : Int) / 64 from rfl)
      have hu := uSide_bd hf (k : Int)
      have h2 := hide (fun X => unhide h1 (k : Int) X)
      generalize uSide hf (k : Int) = u at hS hu h2
      generalize unitTo hf k = s at hS h0 h4
      have hWm : IntKind.i64.wrap (u * u) = u * u := wrapP (by rcases hu with rfl | rfl <;> omega)
      have hq : u * u / 64 = 1 ∨ u * u / 64 = 4 := by rcases hu with rfl | rfl <;> simp
      obtain ⟨D, hD⟩ : ∃ D, u * u / 64 = D := ⟨_, rfl⟩
      rw [hD] at hq hS
      have hWq : IntKind.i64.wrap D = D := wrapP (by omega)
      have hWs : IntKind.i64.wrap (s + D) = s + D := wrapP (by omega)
      have hdv : (u * u).tdiv 64 = D := by rw [← hD]; rcases hu with rfl | rfl <;> rfl
      go_upto_region 5 with fail
      have q0 := fun X : UpdT wr => (((unhide hbx).1.updT X).2 0 _ rfl)
      have q1 := fun X : UpdT wr => (((unhide hbx).1.updT X).2 1 _ rfl)
      have q2 := fun X : UpdT wr => (((unhide hbx).1.updT X).2 2 _ rfl)
      have q3 := fun X : UpdT wr => (((unhide hbx).1.updT X).2 3 _ rfl)
      have q4 := fun X : UpdT wr => (((unhide hbx).1.updT X).2 4 _ rfl)
      have q5 := fun X : UpdT wr => (((unhide hbx).1.updT X).2 5 _ rfl)
      have q6 := fun X : UpdT wr => (((unhide hbx).1.updT X).2 6 _ rfl)
      refine wq_region_tail 10 (by kernel_rfl) (by kernel_rfl) ?_
      simp only [List.take_succ_cons, List.take_zero, List.drop_succ_cons, List.drop_zero]
      iterate 3
        refine WQ.step (fun K hK => ?_)
        go_simp
        refine hK _ ?_
        clear hK K
      refine WQ.step (fun K hK => ?_)
      go_simp
      refine ⟨.int .i64 u, fun X => Calls.updT X (unhide h2 X.to), hK _ ?_⟩
      clear hK K
      iterate 2
        refine WQ.step (fun K hK => ?_)
        go_simp
        refine hK _ ?_
        clear hK K
      refine WQ.step (fun K hK => ?_)
      go_simp
      refine ⟨.int .i64 u, fun X => Calls.updT X (unhide h2 X.to), hK _ ?_⟩
      clear hK K
      refine WQ.step (fun K hK => ?_)
      go_simp
      refine hK _ ?_
      clear hK K
      refine WQ.step (fun K hK => ?_)
      go_simp
      refine hK _ ?_
      clear hK K
      iterate 1
        refine WQ.step (fun K hK => ?_)
        go_simp
        refine hK _ ?_
        clear hK K
      refine WQ.nil ?_
      rintro _ ⟨X, rfl⟩
      have hX := X.upd
      generalize X.to = wt at hX ⊢
      have hU2 := hide ((unhide hU).trans hX)
      have hbx2 := hide ((unhide hbx).keep hX)
      clear q0 q1 q2 q3 q4 q5 q6 hbx hU hX h2 hD hdv
      go_wp2
      go_roundw
      case rel => exact ⟨k + 1, by omega, by go_num, by rw [unhide hS], by rw [unhide hS]; omega, by rw [unhide hS]; omega, hU2, hbx2⟩
      case measure => simp [intOf]; omega
    · have hkn : k = n := by omega
      subst hkn
      clear hbx
      go_wp2
      go_ret
      exact ⟨rfl, unhide hU⟩

set_option maxHeartbeats 4000000 in
set_option maxRecDepth 100000 in
theorem implCountBlocks (a b q : Int) (hf st : Bool) (ev : Int) (ad : Option Addr) (n cap : Nat) (w : World) (ha : 1 ≤ a ∧ a ≤ 512) (hb : 1 ≤ b ∧ b ≤ 512) (hn : n = 1 ∨ n = 3) (h3 : hf = true → n = 3) :
    Calls Try.prog 57 #[phv a b q hf st ev (.slice ad n cap)] w fun e w' => e = .returned (.int .i64 (blocksZ a b hf n)) ∧ Upd 0 0 w w' := by
  have hbx := hide (heldF_new w (phc a b q hf st ev (.slice ad n cap)) 46)
  have hU := hide (Upd.of_below ((Below.refl w.heap.size w).alloc (Nat.le_refl _) (.cells #[.int .i64 a, .int .i64 b, .int .i64 q, .bool hf, .bool st, .int .i64 ev, .slice ad n cap] 46)) 0 0)
  have h1 := hide (fun X => implCountUnits a b q hf st ev ad n cap X ha hb)
  have h2 := hide (fun X => implBlocksOfUnit a b q hf st ev ad n cap X (by omega))
  have hp := units_bd a b hf ha hb
  have hper := perN_bd hf n (by omega)
  rw [unitTo_all hf n hn h3] at h2
  have hE : Hid (blocksZ a b hf n = upZ a (uZ hf) * upZ b (uZ hf) * (perN hf n : Int)) := hide rfl
  generalize upZ a (uZ hf) * upZ b (uZ hf) = P at h1 hp hE
  generalize perN hf n = r at h2 hper hE
  obtain ⟨p, rfl⟩ := Int.eq_ofNat_of_zero_le (show 0 ≤ P by omega)
  have hpr : p * r ≤ 4096 * 6 := Nat.mul_le_mul (by omega) hper
  obtain ⟨R, hR⟩ : ∃ R, p * r = R := ⟨_, rfl⟩
  have hRI : ((p : Nat) : Int) * (r : Int) = (R : Int) := by rw [← hR]; simp
  rw [hR] at hpr
  rw [unhide hE, hRI]
  have hW : IntKind.i64.wrap (R : Int) = (R : Int) := wrapP (by omega)
  clear ha hb hp hR hE h3
  go_enter Try.func57, Try.ntmps57
  go_wp2_with fail
  change Hid (HeldF (w.alloc (.cells #[.int .i64 a, .int .i64 b, .int .i64 q, .bool hf, .bool st, .int .i64 ev, .slice ad n cap] 46)) w.heap.size (phc a b q hf st ev (.slice ad n cap))) at hbx
  generalize w.alloc (.cells #[.int .i64 a, .int .i64 b, .int .i64 q, .bool hf, .bool st, .int .i64 ev, .slice ad n cap] 46) = w0 at hbx hU ⊢
  have q0 := fun X : UpdT w0 => (((unhide hbx).1.updT X).2 0 _ rfl)
  have q1 := fun X : UpdT w0 => (((unhide hbx).1.updT X).2 1 _ rfl)
  have q2 := fun X : UpdT w0 => (((unhide hbx).1.updT X).2 2 _ rfl)
  have q3 := fun X : UpdT w0 => (((unhide hbx).1.updT X).2 3 _ rfl)
  have q4 := fun X : UpdT w0 => (((unhide hbx).1.updT X).2 4 _ rfl)
  have q5 := fun X : UpdT w0 => (((unhide hbx).1.updT X).2 5 _ rfl)
  have q6 := fun X : UpdT w0 => (((unhide hbx).1.updT X).2 6 _ rfl)
  refine wq_region_tail 5 (by kernel_rfl) (by kernel_rfl) ?_
  simp only [List.take_succ_cons, List.take_zero, List.drop_succ_cons, List.drop_zero]
  iterate 1
    refine WQ.step (fun K hK => ?_)
    go_simp
    refine hK _ ?_
    clear hK K
  refine WQ.step (fun K hK => ?_)
  go_simp
  refine ⟨.int .i64 (p : Int), fun X => Calls.updT X (unhide h1 X.to), hK _ ?_⟩
  clear hK K
  iterate 1
    refine WQ.step (fun K hK => ?_)
    go_simp
    refine hK _ ?_
    clear hK K
  refine WQ.step (fun K hK => ?_)
  go_simp
  refine ⟨.int .i64 (r : Int), fun X => Calls.updT X (unhide h2 X.to), hK _ ?_⟩
  clear hK K
  refine WQ.step (fun K hK => ?_)
  go_simp
  refine hK _ ?_
  clear hK K
  refine WQ.nil ?_
  rintro _ ⟨X, rfl⟩
  have hX := X.upd
  generalize X.to = wt at hX ⊢
  replace hX := hide ((unhide hU).trans hX)
  clear q0 q1 q2 q3 q4 q5 q6 hbx
  go_wp2
  go_ret
  exact ⟨rfl, unhide hX⟩
end Go.Proofs.Ytilmdbdgohfpcaa
