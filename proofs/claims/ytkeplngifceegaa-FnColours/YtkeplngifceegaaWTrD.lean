/- The program's colours: matrices. -/
import Derived.Test.YtkeplngifceegaaWTrC
import Derived.Test.YtkeplngifceegaaWQT
namespace Go.Proofs.Ytkeplngifceegaa
open Go.RowKit

set_option maxHeartbeats 4000000 in
set_option maxRecDepth 100000 in
theorem implBrightMatrix (w : World) : Calls Try.prog 45 #[] w fun e w' => e = .returned (.agg #[.int .i64 77, .int .i64 150, .int .i64 29, .int .i64 (-43), .int .i64 (-85), .int .i64 128, .int .i64 128, .int .i64 (-107), .int .i64 (-21)]) ∧ Upd 0 0 w w' := by
  go_enter Try.func45, Try.ntmps45
  go_wp2
  refine bodyPost_ret (v := .agg #[.int .i64 77, .int .i64 150, .int .i64 29, .int .i64 (-43), .int .i64 (-85), .int .i64 128, .int .i64 128, .int .i64 (-107), .int .i64 (-21)]) (by simp [results, Try.results45, go_sem]) rfl ⟨rfl, Upd.of_below ?_ 0 0⟩
  repeat (first | exact Below.refl _ _ | refine Below.setCell ?_ (by simp) _ | refine Below.alloc ?_ (by first | exact Nat.le_refl _ | (simp; done) | (simp; omega)) _)
set_option maxHeartbeats 4000000 in
set_option maxRecDepth 100000 in
theorem implUnbrightMatrix (w : World) : Calls Try.prog 47 #[] w fun e w' => e = .returned (.agg #[.int .i64 0, .int .i64 0, .int .i64 359, .int .i64 0, .int .i64 88, .int .i64 183, .int .i64 0, .int .i64 454, .int .i64 0]) ∧ Upd 0 0 w w' := by
  go_enter Try.func47, Try.ntmps47
  go_wp2
  refine bodyPost_ret (v := .agg #[.int .i64 0, .int .i64 0, .int .i64 359, .int .i64 0, .int .i64 88, .int .i64 183, .int .i64 0, .int .i64 454, .int .i64 0]) (by simp [results, Try.results47, go_sem]) rfl ⟨rfl, Upd.of_below ?_ 0 0⟩
  repeat (first | exact Below.refl _ _ | refine Below.setCell ?_ (by simp) _ | refine Below.alloc ?_ (by first | exact Nat.le_refl _ | (simp; done) | (simp; omega)) _)
set_option maxHeartbeats 4000000 in
set_option maxRecDepth 100000 in
theorem implTurned (m0 m1 m2 m3 m4 m5 m6 m7 m8 a b c v0 v1 v2 : Int) (w : World)
    (h0 : ∀ W, Calls Try.prog 73 #[.agg #[.int .i64 m0, .int .i64 m1, .int .i64 m2], .agg #[.int .i64 a, .int .i64 b, .int .i64 c]] W fun e w' => e = .returned (.int .i64 v0) ∧ Upd 0 0 W w')
    (h1 : ∀ W, Calls Try.prog 73 #[.agg #[.int .i64 m3, .int .i64 m4, .int .i64 m5], .agg #[.int .i64 a, .int .i64 b, .int .i64 c]] W fun e w' => e = .returned (.int .i64 v1) ∧ Upd 0 0 W w')
    (h2 : ∀ W, Calls Try.prog 73 #[.agg #[.int .i64 m6, .int .i64 m7, .int .i64 m8], .agg #[.int .i64 a, .int .i64 b, .int .i64 c]] W fun e w' => e = .returned (.int .i64 v2) ∧ Upd 0 0 W w') :
    Calls Try.prog 44 #[.agg #[.int .i64 m0, .int .i64 m1, .int .i64 m2, .int .i64 m3, .int .i64 m4, .int .i64 m5, .int .i64 m6, .int .i64 m7, .int .i64 m8], .agg #[.int .i64 a, .int .i64 b, .int .i64 c]] w fun e w' => e = .returned (.agg #[.int .i64 v0, .int .i64 v1, .int .i64 v2]) ∧ Upd 0 0 w w' := by
  have hB0 := ((((Below.refl w.heap.size w).alloc (Nat.le_refl _) (.cells #[.int .i64 m0, .int .i64 m1, .int .i64 m2, .int .i64 m3, .int .i64 m4, .int .i64 m5, .int .i64 m6, .int .i64 m7, .int .i64 m8] 59)).alloc (by simp) (.cells #[.int .i64 a, .int .i64 b, .int .i64 c] 24)).alloc (by simp; omega) (.cells #[.int .i64 0, .int .i64 0, .int .i64 0] 24))
  have hsz : (((w.alloc (.cells #[.int .i64 m0, .int .i64 m1, .int .i64 m2, .int .i64 m3, .int .i64 m4, .int .i64 m5, .int .i64 m6, .int .i64 m7, .int .i64 m8] 59)).alloc (.cells #[.int .i64 a, .int .i64 b, .int .i64 c] 24)).alloc (.cells #[.int .i64 0, .int .i64 0, .int .i64 0] 24)).heap.size = w.heap.size + 3 := by simp
  have hm := ((heldF_new w [.int .i64 m0, .int .i64 m1, .int .i64 m2, .int .i64 m3, .int .i64 m4, .int .i64 m5, .int .i64 m6, .int .i64 m7, .int .i64 m8] 59).keep (Upd.of_below ((Below.refl _ _).alloc (Nat.le_refl _) (.cells #[.int .i64 a, .int .i64 b, .int .i64 c] 24)) 0 0)).keep (Upd.of_below ((Below.refl _ _).alloc (Nat.le_refl _) (.cells #[.int .i64 0, .int .i64 0, .int .i64 0] 24)) 0 0)
  have ht := (heldF_new (w.alloc (.cells #[.int .i64 m0, .int .i64 m1, .int .i64 m2, .int .i64 m3, .int .i64 m4, .int .i64 m5, .int .i64 m6, .int .i64 m7, .int .i64 m8] 59)) [.int .i64 a, .int .i64 b, .int .i64 c] 24).keep (Upd.of_below ((Below.refl _ _).alloc (Nat.le_refl _) (.cells #[.int .i64 0, .int .i64 0, .int .i64 0] 24)) 0 0)
  have hr := heldF_new ((w.alloc (.cells #[.int .i64 m0, .int .i64 m1, .int .i64 m2, .int .i64 m3, .int .i64 m4, .int .i64 m5, .int .i64 m6, .int .i64 m7, .int .i64 m8] 59)).alloc (.cells #[.int .i64 a, .int .i64 b, .int .i64 c] 24)) [.int .i64 0, .int .i64 0, .int .i64 0] 24
  have e1 : (w.alloc (.cells #[.int .i64 m0, .int .i64 m1, .int .i64 m2, .int .i64 m3, .int .i64 m4, .int .i64 m5, .int .i64 m6, .int .i64 m7, .int .i64 m8] 59)).heap.size = w.heap.size + 1 := by simp
  have e2 : ((w.alloc (.cells #[.int .i64 m0, .int .i64 m1, .int .i64 m2, .int .i64 m3, .int .i64 m4, .int .i64 m5, .int .i64 m6, .int .i64 m7, .int .i64 m8] 59)).alloc (.cells #[.int .i64 a, .int .i64 b, .int .i64 c] 24)).heap.size = w.heap.size + 2 := by simp
  rw [e1] at ht
  rw [e2] at hr
  clear e1 e2
  replace hB0 := hide hB0
  replace hm := hide hm
  replace ht := hide ht
  replace hr := hide hr
  replace h0 := hide h0
  replace h1 := hide h1
  replace h2 := hide h2
  go_enter Try.func44, Try.ntmps44
  go_wp2_with fail
  generalize (((w.alloc (.cells #[.int .i64 m0, .int .i64 m1, .int .i64 m2, .int .i64 m3, .int .i64 m4, .int .i64 m5, .int .i64 m6, .int .i64 m7, .int .i64 m8] 59)).alloc (.cells #[.int .i64 a, .int .i64 b, .int .i64 c] 24)).alloc (.cells #[.int .i64 0, .int .i64 0, .int .i64 0] 24)) = w0 at hB0 hm ht hr hsz ⊢
  have km0 := fun x : UpdT w0 => (((unhide hm).1.updT x).2 0 _ rfl)
  have km1 := fun x : UpdT w0 => (((unhide hm).1.updT x).2 1 _ rfl)
  have km2 := fun x : UpdT w0 => (((unhide hm).1.updT x).2 2 _ rfl)
  have km3 := fun x : UpdT w0 => (((unhide hm).1.updT x).2 3 _ rfl)
  have km4 := fun x : UpdT w0 => (((unhide hm).1.updT x).2 4 _ rfl)
  have km5 := fun x : UpdT w0 => (((unhide hm).1.updT x).2 5 _ rfl)
  have km6 := fun x : UpdT w0 => (((unhide hm).1.updT x).2 6 _ rfl)
  have km7 := fun x : UpdT w0 => (((unhide hm).1.updT x).2 7 _ rfl)
  have km8 := fun x : UpdT w0 => (((unhide hm).1.updT x).2 8 _ rfl)
  have kt0 := fun x : UpdT w0 => (((unhide ht).1.updT x).2 0 _ rfl)
  have kt1 := fun x : UpdT w0 => (((unhide ht).1.updT x).2 1 _ rfl)
  have kt2 := fun x : UpdT w0 => (((unhide ht).1.updT x).2 2 _ rfl)
  refine wq_region_tail 12 (by kernel_rfl) (by kernel_rfl) ?_
  simp only [List.take_succ_cons, List.take_zero, List.drop_succ_cons, List.drop_zero]
  refine WQ.step (fun K hK => ?_)
  go_simp
  refine hK _ ?_
  clear hK K
  refine WQ.step (fun K hK => ?_)
  go_simp
  refine hK _ ?_
  clear hK K
  refine WQ.step (fun K hK => ?_)
  go_simp
  refine hK _ ?_
  clear hK K
  refine WQ.step (fun K hK => ?_)
  go_simp
  refine ⟨_, fun _ => Calls.updT _ (unhide h0 _), hK _ ?_⟩
  clear hK K
  refine WQ.step (fun K hK => ?_)
  go_simp
  refine hK _ ?_
  clear hK K
  refine WQ.step (fun K hK => ?_)
  go_simp
  refine hK _ ?_
  clear hK K
  refine WQ.step (fun K hK => ?_)
  go_simp
  refine hK _ ?_
  clear hK K
  refine WQ.step (fun K hK => ?_)
  go_simp
  refine ⟨_, fun _ => Calls.updT _ (unhide h1 _), hK _ ?_⟩
  clear hK K
  refine WQ.step (fun K hK => ?_)
  go_simp
  refine hK _ ?_
  clear hK K
  refine WQ.step (fun K hK => ?_)
  go_simp
  refine hK _ ?_
  clear hK K
  refine WQ.step (fun K hK => ?_)
  go_simp
  refine hK _ ?_
  clear hK K
  refine WQ.step (fun K hK => ?_)
  go_simp
  refine ⟨_, fun _ => Calls.updT _ (unhide h2 _), hK _ ?_⟩
  clear hK K
  refine WQ.nil ?_
  rintro _ ⟨x, rfl⟩
  clear km0 km1 km2 km3 km4 km5 km6 km7 km8 kt0 kt1 kt2
  have hx := x.upd
  generalize x.to = w1 at hx ⊢
  replace hr := hide ((unhide hr).keep hx)
  replace hB0 := hide (below_upd (unhide hB0) hx (Nat.le_refl _) (.inr (Nat.le_refl _)))
  have z0 := (unhide hr).1.2 0 _ rfl
  have z1 := (unhide hr).1.2 1 _ rfl
  have z2 := (unhide hr).1.2 2 _ rfl
  have f0 := (unhide hr).2 0
  have f1 := (unhide hr).2 1
  have f2 := (unhide hr).2 2
  clear hx hr hm ht h0 h1 h2
  go_wp2
  refine bodyPost_ret (v := .agg #[.int .i64 v0, .int .i64 v1, .int .i64 v2]) (by simp [results, Try.results44, go_sem, z0, z1, z2]) rfl ⟨rfl, Upd.of_below ((((unhide hB0).setCell (by simp; try omega) _).setCell (by simp; try omega) _).setCell (by simp; try omega) _) 0 0⟩
end Go.Proofs.Ytkeplngifceegaa
