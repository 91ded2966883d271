/- The program's Lift and Unlift. -/
import Derived.Test.YtkeplngifceegaaWTrA
import Derived.Test.YtkeplngifceegaaWQT
namespace Go.Proofs.Ytkeplngifceegaa
open Go.RowKit

theorem implMayLift (n : Int) (w : World) : Calls Try.prog 72 #[.int .i64 n] w fun e w' => e = .returned (.bool (decide (-1000000 ≤ n ∧ n ≤ 1000000))) ∧ w' = w := by
  by_cases h0 : -1000000 ≤ n
  · by_cases h1 : n ≤ 1000000
    · rw [decide_eq_true ⟨h0, h1⟩]
      go_enter Try.func72, Try.ntmps72
      go_wp2
      go_ret
      exact ⟨rfl, rfl⟩
    · rw [decide_eq_false (fun h => h1 h.2)]
      go_enter Try.func72, Try.ntmps72
      go_wp2
      go_ret
      exact ⟨rfl, rfl⟩
  · rw [decide_eq_false (fun h => h0 h.1)]
    go_enter Try.func72, Try.ntmps72
    go_wp2
    go_ret
    exact ⟨rfl, rfl⟩
set_option maxHeartbeats 4000000 in
set_option maxRecDepth 100000 in
theorem implMayLiftT (d : Tr) (w : World) : Calls Try.prog 42 #[Trv d] w fun e w' => e = .returned (.bool (decide (Near 1000000 d))) ∧ Upd 0 0 w w' := by
  obtain ⟨a, b, c⟩ := d
  simp only [Trv]
  have hU := hide (Upd.of_below ((Below.refl w.heap.size w).alloc (Nat.le_refl _) (.cells #[.int .i64 a, .int .i64 b, .int .i64 c] 24)) 0 0)
  have hL := hide (fun n W => implMayLift n W)
  by_cases ka : -1000000 ≤ a ∧ a ≤ 1000000
  case neg =>
    rw [decide_eq_false (fun h => ka (by unfold Near at h; simp only at h; exact h.1))]
    go_enter Try.func42, Try.ntmps42
    go_wp2_with fail
    refine (unhide hL a _).mono ?_
    rintro e w1 ⟨rfl, rfl⟩
    rw [decide_eq_false ka]
    go_wp2
    go_ret
    exact ⟨rfl, unhide hU⟩
  by_cases kb : -1000000 ≤ b ∧ b ≤ 1000000
  case neg =>
    rw [decide_eq_false (fun h => kb (by unfold Near at h; simp only at h; exact h.2.1))]
    go_enter Try.func42, Try.ntmps42
    go_wp2_with fail
    refine (unhide hL a _).mono ?_
    rintro e w1 ⟨rfl, rfl⟩
    rw [decide_eq_true ka]
    go_wp2_with fail
    refine (unhide hL b _).mono ?_
    rintro e w1 ⟨rfl, rfl⟩
    rw [decide_eq_false kb]
    go_wp2
    go_ret
    exact ⟨rfl, unhide hU⟩
  by_cases kc : -1000000 ≤ c ∧ c ≤ 1000000
  case neg =>
    rw [decide_eq_false (fun h => kc (by unfold Near at h; simp only at h; exact h.2.2))]
    go_enter Try.func42, Try.ntmps42
    go_wp2_with fail
    refine (unhide hL a _).mono ?_
    rintro e w1 ⟨rfl, rfl⟩
    rw [decide_eq_true ka]
    go_wp2_with fail
    refine (unhide hL b _).mono ?_
    rintro e w1 ⟨rfl, rfl⟩
    rw [decide_eq_true kb]
    go_wp2_with fail
    refine (unhide hL c _).mono ?_
    rintro e w1 ⟨rfl, rfl⟩
    rw [decide_eq_false kc]
    go_wp2
    go_ret
    exact ⟨rfl, unhide hU⟩
  rw [decide_eq_true (show Near 1000000 (a, b, c) by unfold Near; simp only; exact ⟨ka, kb, kc⟩)]
  go_enter Try.func42, Try.ntmps42
  go_wp2_with fail
  refine (unhide hL a _).mono ?_
  rintro e w1 ⟨rfl, rfl⟩
  rw [decide_eq_true ka]
  go_wp2_with fail
  refine (unhide hL b _).mono ?_
  rintro e w1 ⟨rfl, rfl⟩
  rw [decide_eq_true kb]
  go_wp2_with fail
  refine (unhide hL c _).mono ?_
  rintro e w1 ⟨rfl, rfl⟩
  rw [decide_eq_true kc]
  go_wp2
  go_ret
  exact ⟨rfl, unhide hU⟩
set_option maxHeartbeats 4000000 in
set_option maxRecDepth 100000 in
theorem implLift (v : Value) (d : Tr) (w : World) (_hn : TrSize d ≤ 1048576) (_hR : InTr d) (hv : RdTr w v d) :
    Calls Try.prog 15 #[v] w fun e w' => ∃ u, e = .returned u ∧ OwnTr w' w.heap.size w'.heap.size u (liftF d) ∧ Upd 0 0 w w' := by
  subst hv
  obtain ⟨r, g, b⟩ := d
  simp only [Trv]
  have hC := hide (fun W => implMayLiftT (r, g, b) W)
  have hu := Upd.of_below (((Below.refl w.heap.size w).alloc (Nat.le_refl _) (.cells #[.int .i64 r, .int .i64 g, .int .i64 b] 24)).alloc (by simp) (.cells #[.int .i64 0, .int .i64 0, .int .i64 0] 24)) 0 0
  have hs : ((w.alloc (.cells #[.int .i64 r, .int .i64 g, .int .i64 b] 24)).alloc (.cells #[.int .i64 0, .int .i64 0, .int .i64 0] 24)).heap.size = w.heap.size + 2 := by simp
  have hbx := (heldF_new w [.int .i64 r, .int .i64 g, .int .i64 b] 24).keep (Upd.of_below ((Below.refl _ _).alloc (Nat.le_refl _) (.cells #[.int .i64 0, .int .i64 0, .int .i64 0] 24)) 0 0)
  have hrs := heldF_new (w.alloc (.cells #[.int .i64 r, .int .i64 g, .int .i64 b] 24)) [.int .i64 0, .int .i64 0, .int .i64 0] 24
  have e1 : (w.alloc (.cells #[.int .i64 r, .int .i64 g, .int .i64 b] 24)).heap.size = w.heap.size + 1 := by simp
  rw [e1] at hrs
  clear e1
  replace hu := hide hu
  replace hbx := hide hbx
  replace hrs := hide hrs
  go_enter Try.func15, Try.ntmps15
  go_wp2_with fail
  generalize (w.alloc (.cells #[.int .i64 r, .int .i64 g, .int .i64 b] 24)).alloc (.cells #[.int .i64 0, .int .i64 0, .int .i64 0] 24) = w0 at hu hbx hrs hs ⊢
  refine (unhide hC _).mono ?_
  rintro e w1 ⟨rfl, hw⟩
  have hB := hide ((unhide hu).trans hw).none
  replace hbx := hide ((unhide hbx).keep hw)
  replace hrs := hide ((unhide hrs).keep hw)
  have hs1 := hw.size
  rw [hs] at hs1
  clear hw hs hu
  have c0 := (unhide hbx).1.2 0 _ rfl
  have c1 := (unhide hbx).1.2 1 _ rfl
  have c2 := (unhide hbx).1.2 2 _ rfl
  have z0 := (unhide hrs).1.2 0 _ rfl
  have z1 := (unhide hrs).1.2 1 _ rfl
  have z2 := (unhide hrs).1.2 2 _ rfl
  have f0 := (unhide hrs).2 0
  have f1 := (unhide hrs).2 1
  have f2 := (unhide hrs).2 2
  clear hbx hrs hC
  by_cases hn : Near 1000000 (r, g, b)
  · have hF : Hid (liftF (r, g, b) = ((r + 2 * g + b) / 4, b - g, r - g)) := hide (by unfold liftF; rw [if_pos hn])
    rw [decide_eq_true hn]
    obtain ⟨⟨a1, a2⟩, ⟨a3, a4⟩, a5, a6⟩ := hn
    simp only at a1 a2 a3 a4 a5 a6
    go_wp2
    refine bodyPost_ret (v := .agg #[.int .i64 ((r + 2 * g + b) / 4), .int .i64 (b - g), .int .i64 (r - g)]) (by simp [results, Try.results15, go_sem, z0, z1, z2]) rfl ⟨_, rfl, by rw [unhide hF]; rfl, Upd.of_below ((((unhide hB).setCell (by simp) _).setCell (by simp) _).setCell (by simp) _) 0 0⟩
  · have hF : Hid (liftF (r, g, b) = (0, 0, 0)) := hide (by unfold liftF; rw [if_neg hn])
    rw [decide_eq_false hn]
    clear hn
    go_wp2
    refine bodyPost_ret (v := .agg #[.int .i64 0, .int .i64 0, .int .i64 0]) (by simp [results, Try.results15, go_sem, z0, z1, z2]) rfl ⟨_, rfl, by rw [unhide hF]; rfl, Upd.of_below ((((unhide hB).setCell (by simp) _).setCell (by simp) _).setCell (by simp) _) 0 0⟩
end Go.Proofs.Ytkeplngifceegaa
