/- The program's units of a photo. -/
import Derived.Test.YtilmdbdgohfpcaaPlainPh
import Derived.Test.YtilmdbdgohfpcaaWUpd
import Derived.Test.YtilmdbdgohfpcaaWUpd2
import Derived.Test.YtilmdbdgohfpcaaWQT
import Derived.Test.YtilmdbdgohfpcaaWHeld
import Derived.Deep.DeepCutAuto
namespace Go.Proofs.Ytilmdbdgohfpcaa
open Go.RowKit

abbrev phv (a b q : Int) (hf st : Bool) (ev : Int) (v : Value) : Value := .agg #[.int .i64 a, .int .i64 b, .int .i64 q, .bool hf, .bool st, .int .i64 ev, v]
abbrev phc (a b q : Int) (hf st : Bool) (ev : Int) (v : Value) : List Value := [.int .i64 a, .int .i64 b, .int .i64 q, .bool hf, .bool st, .int .i64 ev, v]

set_option maxHeartbeats 2000000 in
theorem implUnitSide (a b q : Int) (hf st : Bool) (ev : Int) (ad : Option Addr) (n cap : Nat) (p : Int) (w : World) :
    Calls Try.prog 68 #[phv a b q hf st ev (.slice ad n cap), .int .i64 p] w fun e w' => e = .returned (.int .i64 (uSide hf p)) ∧ Upd 0 0 w w' := by
  have hU := hide (Upd.of_below ((Below.refl w.heap.size w).alloc (Nat.le_refl _) (.cells #[.int .i64 a, .int .i64 b, .int .i64 q, .bool hf, .bool st, .int .i64 ev, .slice ad n cap] 46)) 0 0)
  by_cases h : p = 0
  · subst h
    cases hf
    · go_enter Try.func68, Try.ntmps68
      go_wp2
      go_ret
      exact ⟨rfl, unhide hU⟩
    · go_enter Try.func68, Try.ntmps68
      go_wp2
      go_ret
      exact ⟨rfl, unhide hU⟩
  · have hp : (p == 0) = false := by simpa using h
    have e : uSide hf p = 8 := by unfold uSide; rw [if_neg (fun h' => h h'.2)]
    rw [e]
    clear e h
    cases hf
    · go_enter Try.func68, Try.ntmps68
      go_wp2
      go_ret
      exact ⟨rfl, unhide hU⟩
    · go_enter Try.func68, Try.ntmps68
      go_wp2
      go_ret
      exact ⟨rfl, unhide hU⟩
theorem implSteps8 (n s : Int) (w : World) (hn : 1 ≤ n ∧ n ≤ 512) (hs : s = 8 ∨ s = 16) : Calls Try.prog 67 #[.int .i64 n, .int .i64 0, .int .i64 s] w fun e w' => e = .returned (.int .i64 (upZ n s)) ∧ w' = w := by
  have hE : Hid ((n + s - 1) / s = upZ n s) := hide rfl
  obtain ⟨n1, n2⟩ := hn
  have hb1 : 1 ≤ s := by omega
  have hb4 : s ≤ 16 := by omega
  clear hs
  have hq : s ≠ 0 := by omega
  go_enter Try.func67, Try.ntmps67
  go_wp2
  go_ret
  exact ⟨ret_int (unhide hE), rfl⟩
set_option maxHeartbeats 4000000 in
set_option maxRecDepth 100000 in
theorem implUnitsAcross (a b q : Int) (hf st : Bool) (ev : Int) (ad : Option Addr) (n cap : Nat) (w : World) (ha : 1 ≤ a ∧ a ≤ 512) :
    Calls Try.prog 66 #[phv a b q hf st ev (.slice ad n cap)] w fun e w' => e = .returned (.int .i64 (upZ a (uZ hf))) ∧ Upd 0 0 w w' := by
  have hB := (Below.refl w.heap.size w).alloc (Nat.le_refl _) (.cells #[.int .i64 a, .int .i64 b, .int .i64 q, .bool hf, .bool st, .int .i64 ev, .slice ad n cap] 46)
  have hbx := hide (heldF_new w (phc a b q hf st ev (.slice ad n cap)) 46)
  have hU := hide (Upd.of_below hB 0 0)
  have h1 := hide (fun X => implUnitSide a b q hf st ev ad n cap 0 X)
  have h2 := hide (fun X => implSteps8 a (uZ hf) X ha (by unfold uZ; cases hf <;> simp))
  rw [uSide_zero] at h1
  clear hB ha
  go_enter Try.func66, Try.ntmps66
  go_wp2_with fail
  change Hid (HeldF (w.alloc (.cells #[.int .i64 a, .int .i64 b, .int .i64 q, .bool hf, .bool st, .int .i64 ev, .slice ad n cap] 46)) w.heap.size (phc a b q hf st ev (.slice ad n cap))) at hbx
  generalize w.alloc (.cells #[.int .i64 a, .int .i64 b, .int .i64 q, .bool hf, .bool st, .int .i64 ev, .slice ad n cap] 46) = w0 at hbx hU ⊢
  have q0 := fun X : UpdT w0 => (((unhide hbx).1.updT X).2 0 _ rfl)
  have q1 := fun X : UpdT w0 => (((unhide hbx).1.updT X).2 1 _ rfl)
  have q2 := fun X : UpdT w0 => (((unhide hbx).1.updT X).2 2 _ rfl)
  have q3 := fun X : UpdT w0 => (((unhide hbx).1.updT X).2 3 _ rfl)
  have q4 := fun X : UpdT w0 => (((unhide hbx).1.updT X).2 4 _ rfl)
  have q5 := fun X : UpdT w0 => (((unhide hbx).1.updT X).2 5 _ rfl)
  have q6 := fun X : UpdT w0 => (((unhide hbx).1.updT X).2 6 _ rfl)
  refine wq_region_tail 5 (by kernel_rfl) (by kernel_rfl) ?_
  simp only [List.take_succ_cons, List.take_zero, List.drop_succ_cons, List.drop_zero]
  iterate 3
    refine WQ.step (fun K hK => ?_)
    go_simp
    refine hK _ ?_
    clear hK K
  refine WQ.step (fun K hK => ?_)
  go_simp
  refine ⟨.int .i64 (uZ hf), fun X => Calls.updT X (unhide h1 X.to), hK _ ?_⟩
  clear hK K
  refine WQ.step (fun K hK => ?_)
  go_simp
  refine ⟨.int .i64 (upZ a (uZ hf)), fun X => Calls.updT_same X (unhide h2 X.to), hK _ ?_⟩
  clear hK K
  refine WQ.nil ?_
  rintro _ ⟨X, rfl⟩
  have hX := X.upd
  generalize X.to = wt at hX ⊢
  replace hX := hide ((unhide hU).trans hX)
  clear q0 q1 q2 q3 q4 q5 q6 hbx
  go_wp2
  go_ret
  exact ⟨rfl, unhide hX⟩
end Go.Proofs.Ytilmdbdgohfpcaa
