/- Stills: the walk of the laws' own marking of them. -/
import Derived.Test.YthpkngipiapbpaaDoorWSt
import Derived.Test.YthpkngipiapbpaaDoorWMNt
namespace Go.Proofs.YthpkngipiapbpaaDoor
open Go.RowKit

def StMarked (k : Nat) (d : St) : St := ((d.1.1, d.1.2.1, d.1.2.2.1, d.1.2.2.2.1, marks (k) d.1.2.2.2.2.length), marks (k + d.1.2.2.2.2.length) d.2.1.length, marksNt (k + d.1.2.2.2.2.length + d.2.1.length) d.2.2.1.length, d.2.2.2)
theorem own_clip {e : TypeId} {s : Nat} {w : World} {a b : Nat} {v : Value} {n : Nat} {xs : List Value} (h : Own e s w a b v n xs) : Own e s w a (min b w.heap.size) v n xs :=
  ⟨h.1, fun k hk => by have := h.2 k hk; have := (h.1.lt k hk).2; omega⟩
theorem upd_widen {a b : Nat} {w w' : World} (h : Upd 0 0 w w') : Upd a b w w' := ⟨h.os, h.tape, h.output, h.size, fun k hk _ => h.block k hk (.inr (Nat.zero_le _))⟩
theorem upd_narrow {a b c d : Nat} {w w' : World} (h : Upd c d w w') (h1 : a ≤ c) (h2 : d ≤ b) : Upd a b w w' := ⟨h.os, h.tape, h.output, h.size, fun k hk hn => h.block k hk (by omega)⟩

set_option maxHeartbeats 4000000 in
set_option maxRecDepth 100000 in
theorem markStill_own {w : World} {a b : Nat} {v : Value} {d : St} (k : Nat) (hL : StSize d ≤ 1048576) (hk : k ≤ 1073741824) (hv : OwnSt w a b v d) :
    Calls Tryd.prog 22 #[v, .int .i64 k] w fun e w' => e = .returned (.int .i64 ((k + StCount d : Nat) : Int)) ∧ OwnSt w' a b v (StMarked k d) ∧ Upd a b w w' := by
  obtain ⟨v0, v1, v2, a1, a2, rfl, hch, h0, h1, h2⟩ := hv
  obtain ⟨⟨x0, x1, x2, x3, zs0⟩, zs1, zs2, x4⟩ := d
  simp only [Stv, StSize, StCount, StMarked] at hL h0 h1 h2 ⊢
  have hn0 : zs0.length ≤ 1048576 := by omega
  have hn1 : zs1.length ≤ 1048576 := by omega
  have hn2 : zs2.length ≤ 1048576 := by unfold ntSize at hL; omega
  have hu0 : Upd 0 0 w (w.alloc (.cells #[.int .i64 x0, .int .i64 x1, .int .i64 x2, .int .i64 x3, v0, v1, v2, .bool x4] 33)) := Upd.of_below ((Below.refl w.heap.size w).alloc (Nat.le_refl _) (.cells #[.int .i64 x0, .int .i64 x1, .int .i64 x2, .int .i64 x3, v0, v1, v2, .bool x4] 33)) 0 0
  have hbx0 := heldF_new w [.int .i64 x0, .int .i64 x1, .int .i64 x2, .int .i64 x3, v0, v1, v2, .bool x4] 33
  replace h0 := hide ((own_clip h0).keep hu0)
  replace h1 := hide ((own_clip h1).keep hu0)
  replace h2 := hide ((own_clip h2).keep hu0)
  obtain ⟨ad0, cap0, hf0, _⟩ := OwnI.rd (unhide h0)
  subst hf0
  obtain ⟨ad1, cap1, hf1, _⟩ := OwnI.rd (unhide h1)
  subst hf1
  obtain ⟨ad2, cap2, hf2, _⟩ := OwnNt.rd (unhide h2)
  subst hf2
  have hU := hide (upd_widen (a := a) (b := b) hu0)
  go_enter Tryd.func22, Tryd.ntmps22
  go_wp2_with fail
  clear hu0
  generalize w.alloc (.cells #[.int .i64 x0, .int .i64 x1, .int .i64 x2, .int .i64 x3, .slice ad0 zs0.length cap0, .slice ad1 zs1.length cap1, .slice ad2 zs2.length cap2, .bool x4] 33) = w0 at hbx0 h0 h1 h2 hU ⊢
  have hbx := hide hbx0
  clear hbx0
  refine (markImage_own (a := a) (b := (min a1 w.heap.size)) (d := (x0, x1, x2, x3, zs0)) (k) hn0 (by omega) ⟨_, rfl, unhide h0⟩).mono ?_
  rintro e w1 ⟨rfl, ho, hu⟩
  replace hbx := hide ((unhide hbx).upd hu (by omega))
  replace h1 := hide ((unhide h1).upd hu (by omega))
  replace h2 := hide ((unhide h2).upd hu (by omega))
  obtain ⟨_, hfo, ho⟩ := ho
  have hfo2 := congrArg (fun v : Value => match v with | .agg c => c[4]? | _ => none) hfo
  simp at hfo2
  subst hfo2
  replace h0 := hide ho
  clear hfo
  replace hU := hide ((unhide hU).trans (upd_narrow hu (by omega) (by omega)))
  clear hu
  have cb0 := (unhide hbx).1.2 0 _ rfl
  have cb1 := (unhide hbx).1.2 1 _ rfl
  have cb2 := (unhide hbx).1.2 2 _ rfl
  have cb3 := (unhide hbx).1.2 3 _ rfl
  have cb4 := (unhide hbx).1.2 4 _ rfl
  have cb5 := (unhide hbx).1.2 5 _ rfl
  have cb6 := (unhide hbx).1.2 6 _ rfl
  have cb7 := (unhide hbx).1.2 7 _ rfl
  go_wp2_with fail
  clear cb0 cb1 cb2 cb3 cb4 cb5 cb6 cb7
  refine (markIntS_own a1 (min a2 w.heap.size) _ (k + zs0.length) _ w1 hn1 (by omega) (unhide h1)).mono ?_
  rintro e w2 ⟨rfl, ho, hu⟩
  replace hbx := hide ((unhide hbx).upd hu (by omega))
  replace h0 := hide ((unhide h0).upd hu (by omega))
  replace h2 := hide ((unhide h2).upd hu (by omega))
  replace h1 := hide ho
  replace hU := hide ((unhide hU).trans (upd_narrow hu (by omega) (by omega)))
  clear hu ho
  have cb0 := (unhide hbx).1.2 0 _ rfl
  have cb1 := (unhide hbx).1.2 1 _ rfl
  have cb2 := (unhide hbx).1.2 2 _ rfl
  have cb3 := (unhide hbx).1.2 3 _ rfl
  have cb4 := (unhide hbx).1.2 4 _ rfl
  have cb5 := (unhide hbx).1.2 5 _ rfl
  have cb6 := (unhide hbx).1.2 6 _ rfl
  have cb7 := (unhide hbx).1.2 7 _ rfl
  go_wp2_with fail
  clear cb0 cb1 cb2 cb3 cb4 cb5 cb6 cb7
  refine (markNoteS_own a2 (min b w.heap.size) _ (k + zs0.length + zs1.length) _ w2 hn2 (by omega) (unhide h2)).mono ?_
  rintro e w3 ⟨rfl, ho, hu⟩
  replace hbx := hide ((unhide hbx).upd hu (by omega))
  replace h0 := hide ((unhide h0).upd hu (by omega))
  replace h1 := hide ((unhide h1).upd hu (by omega))
  replace h2 := hide ho
  replace hU := hide ((unhide hU).trans (upd_narrow hu (by omega) (by omega)))
  clear hu ho
  have cb0 := (unhide hbx).1.2 0 _ rfl
  have cb1 := (unhide hbx).1.2 1 _ rfl
  have cb2 := (unhide hbx).1.2 2 _ rfl
  have cb3 := (unhide hbx).1.2 3 _ rfl
  have cb4 := (unhide hbx).1.2 4 _ rfl
  have cb5 := (unhide hbx).1.2 5 _ rfl
  have cb6 := (unhide hbx).1.2 6 _ rfl
  have cb7 := (unhide hbx).1.2 7 _ rfl
  go_wp2
  go_ret
  exact ⟨by first | rfl | exact ret_int (by omega), ⟨_, _, _, a1, a2, rfl, hch, own_mono (unhide h0) (Nat.le_refl _) (Nat.min_le_left _ _), own_mono (unhide h1) (Nat.le_refl _) (Nat.min_le_left _ _), own_mono (unhide h2) (Nat.le_refl _) (Nat.min_le_left _ _)⟩, unhide hU⟩
end Go.Proofs.YthpkngipiapbpaaDoor
