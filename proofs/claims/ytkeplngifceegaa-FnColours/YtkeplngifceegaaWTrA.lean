/- The specification's colours. -/
import Derived.Test.YtkeplngifceegaaPlainTr
import Derived.Test.YtkeplngifceegaaWTr
namespace Go.Proofs.Ytkeplngifceegaa
open Go.RowKit

theorem specClip (n : Int) (w : World) : Calls Try.prog 48 #[.int .i64 n] w fun e w' => e = .returned (.int .i64 (clipF n)) ∧ w' = w := by
  by_cases h0 : n < 0
  · rw [clipF_low h0]
    go_enter Try.func48, Try.ntmps48
    go_wp2
    go_ret
    exact ⟨rfl, rfl⟩
  · by_cases h1 : 255 < n
    · rw [clipF_high h1]
      go_enter Try.func48, Try.ntmps48
      go_wp2
      go_ret
      exact ⟨rfl, rfl⟩
    · rw [clipF_in h0 h1]
      go_enter Try.func48, Try.ntmps48
      go_wp2
      go_ret
      exact ⟨rfl, rfl⟩
set_option maxHeartbeats 4000000 in
set_option maxRecDepth 100000 in
theorem specBright (v : Value) (d : Tr) (w : World) (_hn : TrSize d ≤ 1048576) (_hR : InTr d) (hv : RdTr w v d) :
    Calls Try.prog 19 #[v] w fun e w' => ∃ u, e = .returned u ∧ OwnTr w' w.heap.size w'.heap.size u (brightF d) ∧ Upd 0 0 w w' := by
  subst hv
  obtain ⟨r, g, b⟩ := d
  simp only [Trv]
  have hC := hide (fun n W => specClip n W)
  have cr := clipF_bd r
  have cg := clipF_bd g
  have cb := clipF_bd b
  have hF : Hid (brightF (r, g, b) = (yOf (clipF r) (clipF g) (clipF b), cbOf (clipF r) (clipF g) (clipF b), crOf (clipF r) (clipF g) (clipF b))) := hide rfl
  go_enter Try.func19, Try.ntmps19
  go_wp2_with fail
  refine (unhide hC r _).mono ?_
  rintro e w1 ⟨rfl, rfl⟩
  go_wp2_with fail
  refine (unhide hC g _).mono ?_
  rintro e w1 ⟨rfl, rfl⟩
  go_wp2_with fail
  refine (unhide hC b _).mono ?_
  rintro e w1 ⟨rfl, rfl⟩
  generalize clipF r = R at cr hF ⊢
  generalize clipF g = G at cg hF ⊢
  generalize clipF b = B at cb hF ⊢
  go_wp2_with fail
  refine (unhide hC _ _).mono ?_
  rintro e w1 ⟨rfl, rfl⟩
  go_wp2_with fail
  refine (unhide hC _ _).mono ?_
  rintro e w1 ⟨rfl, rfl⟩
  go_wp2_with fail
  refine (unhide hC _ _).mono ?_
  rintro e w1 ⟨rfl, rfl⟩
  go_wp2
  refine bodyPost_ret (v := .agg #[.int .i64 (yOf R G B), .int .i64 (cbOf R G B), .int .i64 (crOf R G B)]) (by simp [results, Try.results19, go_sem, yOf, cbOf, crOf]) rfl ⟨_, rfl, by rw [unhide hF]; rfl, Upd.of_below ?_ 0 0⟩
  repeat (first | exact Below.refl _ _ | refine Below.setCell ?_ (by simp) _ | refine Below.alloc ?_ (by first | exact Nat.le_refl _ | (simp; done) | (simp; omega)) _)

set_option maxHeartbeats 4000000 in
set_option maxRecDepth 100000 in
theorem specUnbright (v : Value) (d : Tr) (w : World) (_hn : TrSize d ≤ 1048576) (_hR : InTr d) (hv : RdTr w v d) :
    Calls Try.prog 20 #[v] w fun e w' => ∃ u, e = .returned u ∧ OwnTr w' w.heap.size w'.heap.size u (unbrightF d) ∧ Upd 0 0 w w' := by
  subst hv
  obtain ⟨r, g, b⟩ := d
  simp only [Trv]
  have hC := hide (fun n W => specClip n W)
  have cr := clipF_bd r
  have cg := clipF_bd g
  have cb := clipF_bd b
  have hF : Hid (unbrightF (r, g, b) = (rOf (clipF r) (clipF g - 128) (clipF b - 128), gOf (clipF r) (clipF g - 128) (clipF b - 128), bOf (clipF r) (clipF g - 128) (clipF b - 128))) := hide rfl
  go_enter Try.func20, Try.ntmps20
  go_wp2_with fail
  refine (unhide hC r _).mono ?_
  rintro e w1 ⟨rfl, rfl⟩
  go_wp2_with fail
  refine (unhide hC g _).mono ?_
  rintro e w1 ⟨rfl, rfl⟩
  go_wp2_with fail
  refine (unhide hC b _).mono ?_
  rintro e w1 ⟨rfl, rfl⟩
  generalize clipF r = R at cr hF ⊢
  generalize clipF g = G at cg hF ⊢
  generalize clipF b = B at cb hF ⊢
  go_wp2_with fail
  refine (unhide hC _ _).mono ?_
  rintro e w1 ⟨rfl, rfl⟩
  go_wp2_with fail
  refine (unhide hC _ _).mono ?_
  rintro e w1 ⟨rfl, rfl⟩
  go_wp2_with fail
  refine (unhide hC _ _).mono ?_
  rintro e w1 ⟨rfl, rfl⟩
  go_wp2
  refine bodyPost_ret (v := .agg #[.int .i64 (rOf R (G - 128) (B - 128)), .int .i64 (gOf R (G - 128) (B - 128)), .int .i64 (bOf R (G - 128) (B - 128))]) (by simp [results, Try.results20, go_sem, rOf, gOf, bOf]) rfl ⟨_, rfl, by rw [unhide hF]; rfl, Upd.of_below ?_ 0 0⟩
  repeat (first | exact Below.refl _ _ | refine Below.setCell ?_ (by simp) _ | refine Below.alloc ?_ (by first | exact Nat.le_refl _ | (simp; done) | (simp; omega)) _)

theorem near_no {m : Int} {d : Tr} (h : ¬ Near m d) : (d.1 < -m ∨ m < d.1) ∨ (d.2.1 < -m ∨ m < d.2.1) ∨ (d.2.2 < -m ∨ m < d.2.2) := by
  unfold Near at h; omega
set_option maxHeartbeats 4000000 in
set_option maxRecDepth 100000 in
theorem specFar (d : Tr) (m : Int) (w : World) (h0 : 0 ≤ m) (h1 : m ≤ 4000000) :
    Calls Try.prog 43 #[Trv d, .int .i64 m] w fun e w' => e = .returned (.bool (!decide (Near m d))) ∧ Upd 0 0 w w' := by
  obtain ⟨a, b, c⟩ := d
  simp only [Trv]
  have hU := hide (Upd.of_below ((Below.refl w.heap.size w).alloc (Nat.le_refl _) (.cells #[.int .i64 a, .int .i64 b, .int .i64 c] 24)) 0 0)
  by_cases k0 : a < -m
  · rw [show (!decide (Near m (a, b, c))) = true by rw [decide_eq_false (by unfold Near; simp only; omega)]; rfl]
    go_enter Try.func43, Try.ntmps43
    go_wp2
    go_ret
    exact ⟨rfl, unhide hU⟩
  by_cases k1 : m < a
  · rw [show (!decide (Near m (a, b, c))) = true by rw [decide_eq_false (by unfold Near; simp only; omega)]; rfl]
    go_enter Try.func43, Try.ntmps43
    go_wp2
    go_ret
    exact ⟨rfl, unhide hU⟩
  by_cases k2 : b < -m
  · rw [show (!decide (Near m (a, b, c))) = true by rw [decide_eq_false (by unfold Near; simp only; omega)]; rfl]
    go_enter Try.func43, Try.ntmps43
    go_wp2
    go_ret
    exact ⟨rfl, unhide hU⟩
  by_cases k3 : m < b
  · rw [show (!decide (Near m (a, b, c))) = true by rw [decide_eq_false (by unfold Near; simp only; omega)]; rfl]
    go_enter Try.func43, Try.ntmps43
    go_wp2
    go_ret
    exact ⟨rfl, unhide hU⟩
  by_cases k4 : c < -m
  · rw [show (!decide (Near m (a, b, c))) = true by rw [decide_eq_false (by unfold Near; simp only; omega)]; rfl]
    go_enter Try.func43, Try.ntmps43
    go_wp2
    go_ret
    exact ⟨rfl, unhide hU⟩
  by_cases k5 : m < c
  · rw [show (!decide (Near m (a, b, c))) = true by rw [decide_eq_false (by unfold Near; simp only; omega)]; rfl]
    go_enter Try.func43, Try.ntmps43
    go_wp2
    go_ret
    exact ⟨rfl, unhide hU⟩
  rw [show (!decide (Near m (a, b, c))) = false by rw [decide_eq_true (by unfold Near; simp only; omega)]; rfl]
  go_enter Try.func43, Try.ntmps43
  go_wp2
  go_ret
  exact ⟨rfl, unhide hU⟩
set_option maxHeartbeats 4000000 in
set_option maxRecDepth 100000 in
theorem specLift (v : Value) (d : Tr) (w : World) (_hn : TrSize d ≤ 1048576) (_hR : InTr d) (hv : RdTr w v d) :
    Calls Try.prog 16 #[v] w fun e w' => ∃ u, e = .returned u ∧ OwnTr w' w.heap.size w'.heap.size u (liftF d) ∧ Upd 0 0 w w' := by
  subst hv
  obtain ⟨r, g, b⟩ := d
  simp only [Trv]
  have hC := hide (fun W => specFar (r, g, b) 1000000 W (by omega) (by omega))
  have hu := Upd.of_below (((Below.refl w.heap.size w).alloc (Nat.le_refl _) (.cells #[.int .i64 r, .int .i64 g, .int .i64 b] 24)).alloc (by simp) (.cells #[.int .i64 0, .int .i64 0, .int .i64 0] 24)) 0 0
  have hs : ((w.alloc (.cells #[.int .i64 r, .int .i64 g, .int .i64 b] 24)).alloc (.cells #[.int .i64 0, .int .i64 0, .int .i64 0] 24)).heap.size = w.heap.size + 2 := by simp
  have hbx := (heldF_new w [.int .i64 r, .int .i64 g, .int .i64 b] 24).keep (Upd.of_below ((Below.refl _ _).alloc (Nat.le_refl _) (.cells #[.int .i64 0, .int .i64 0, .int .i64 0] 24)) 0 0)
  have hrs := heldF_new (w.alloc (.cells #[.int .i64 r, .int .i64 g, .int .i64 b] 24)) [.int .i64 0, .int .i64 0, .int .i64 0] 24
  have e1 : (w.alloc (.cells #[.int .i64 r, .int .i64 g, .int .i64 b] 24)).heap.size = w.heap.size + 1 := by simp
  rw [e1] at hrs
  clear e1
  replace hu := hide hu
  replace hbx := hide hbx
  replace hrs := hide hrs
  go_enter Try.func16, Try.ntmps16
  go_wp2_with fail
  generalize (w.alloc (.cells #[.int .i64 r, .int .i64 g, .int .i64 b] 24)).alloc (.cells #[.int .i64 0, .int .i64 0, .int .i64 0] 24) = w0 at hu hbx hrs hs ⊢
  refine (unhide hC _).mono ?_
  rintro e w1 ⟨rfl, hw⟩
  have hB := hide ((unhide hu).trans hw).none
  replace hbx := hide ((unhide hbx).keep hw)
  replace hrs := hide ((unhide hrs).keep hw)
  have hs1 := hw.size
  rw [hs] at hs1
  clear hw hs hu
  have c0 := (unhide hbx).1.2 0 _ rfl
  have c1 := (unhide hbx).1.2 1 _ rfl
  have c2 := (unhide hbx).1.2 2 _ rfl
  have z0 := (unhide hrs).1.2 0 _ rfl
  have z1 := (unhide hrs).1.2 1 _ rfl
  have z2 := (unhide hrs).1.2 2 _ rfl
  have f0 := (unhide hrs).2 0
  have f1 := (unhide hrs).2 1
  have f2 := (unhide hrs).2 2
  clear hbx hrs hC
  by_cases hn : Near 1000000 (r, g, b)
  · have hF : Hid (liftF (r, g, b) = ((r + 2 * g + b) / 4, b - g, r - g)) := hide (by unfold liftF; rw [if_pos hn])
    rw [decide_eq_true hn]
    obtain ⟨⟨a1, a2⟩, ⟨a3, a4⟩, a5, a6⟩ := hn
    simp only at a1 a2 a3 a4 a5 a6
    go_wp2
    refine bodyPost_ret (v := .agg #[.int .i64 ((r + 2 * g + b) / 4), .int .i64 (b - g), .int .i64 (r - g)]) (by simp [results, Try.results16, go_sem, z0, z1, z2]) rfl ⟨_, rfl, by rw [unhide hF]; rfl, Upd.of_below ((((unhide hB).setCell (by simp) _).setCell (by simp) _).setCell (by simp) _) 0 0⟩
  · have hF : Hid (liftF (r, g, b) = (0, 0, 0)) := hide (by unfold liftF; rw [if_neg hn])
    rw [decide_eq_false hn]
    clear hn
    go_wp2
    refine bodyPost_ret (v := .agg #[.int .i64 0, .int .i64 0, .int .i64 0]) (by simp [results, Try.results16, go_sem, z0, z1, z2]) rfl ⟨_, rfl, by rw [unhide hF]; rfl, Upd.of_below ((((unhide hB).setCell (by simp) _).setCell (by simp) _).setCell (by simp) _) 0 0⟩
end Go.Proofs.Ytkeplngifceegaa
