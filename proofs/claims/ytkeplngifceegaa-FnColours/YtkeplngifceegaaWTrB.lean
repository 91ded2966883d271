/- The specification's Unlift. -/
import Derived.Test.YtkeplngifceegaaWTrA
namespace Go.Proofs.Ytkeplngifceegaa
open Go.RowKit

set_option maxHeartbeats 4000000 in
set_option maxRecDepth 100000 in
theorem specUnlift (v : Value) (d : Tr) (w : World) (_hn : TrSize d ≤ 1048576) (_hR : InTr d) (hv : RdTr w v d) :
    Calls Try.prog 34 #[v] w fun e w' => ∃ u, e = .returned u ∧ OwnTr w' w.heap.size w'.heap.size u (unliftF d) ∧ Upd 0 0 w w' := by
  subst hv
  obtain ⟨a, b, c⟩ := d
  simp only [Trv]
  have hC := hide (fun W => specFar (a, b, c) 4000000 W (by omega) (by omega))
  have hD := hide (fun d W => specFar d 1000000 W (by omega) (by omega))
  have hu := Upd.of_below (((Below.refl w.heap.size w).alloc (Nat.le_refl _) (.cells #[.int .i64 a, .int .i64 b, .int .i64 c] 24)).alloc (by simp) (.cells #[.int .i64 0, .int .i64 0, .int .i64 0] 24)) 0 0
  have hs : ((w.alloc (.cells #[.int .i64 a, .int .i64 b, .int .i64 c] 24)).alloc (.cells #[.int .i64 0, .int .i64 0, .int .i64 0] 24)).heap.size = w.heap.size + 2 := by simp
  have hbx := (heldF_new w [.int .i64 a, .int .i64 b, .int .i64 c] 24).keep (Upd.of_below ((Below.refl _ _).alloc (Nat.le_refl _) (.cells #[.int .i64 0, .int .i64 0, .int .i64 0] 24)) 0 0)
  have hrs := heldF_new (w.alloc (.cells #[.int .i64 a, .int .i64 b, .int .i64 c] 24)) [.int .i64 0, .int .i64 0, .int .i64 0] 24
  have e1 : (w.alloc (.cells #[.int .i64 a, .int .i64 b, .int .i64 c] 24)).heap.size = w.heap.size + 1 := by simp
  rw [e1] at hrs
  clear e1
  replace hu := hide hu
  replace hbx := hide hbx
  replace hrs := hide hrs
  go_enter Try.func34, Try.ntmps34
  go_wp2_with fail
  generalize (w.alloc (.cells #[.int .i64 a, .int .i64 b, .int .i64 c] 24)).alloc (.cells #[.int .i64 0, .int .i64 0, .int .i64 0] 24) = w0 at hu hbx hrs hs ⊢
  refine (unhide hC _).mono ?_
  rintro e w1 ⟨rfl, hw⟩
  have hB := hide ((unhide hu).trans hw).none
  replace hbx := hide ((unhide hbx).keep hw)
  replace hrs := hide ((unhide hrs).keep hw)
  have hs1 := hw.size
  rw [hs] at hs1
  clear hw hs hu
  have c0 := (unhide hbx).1.2 0 _ rfl
  have c1 := (unhide hbx).1.2 1 _ rfl
  have c2 := (unhide hbx).1.2 2 _ rfl
  by_cases hn : Near 4000000 (a, b, c)
  case neg =>
    have hF : Hid (unliftF (a, b, c) = (0, 0, 0)) := hide (by unfold unliftF; rw [if_neg (fun h => hn h.1)])
    rw [decide_eq_false hn]
    have z0 := (unhide hrs).1.2 0 _ rfl
    have z1 := (unhide hrs).1.2 1 _ rfl
    have z2 := (unhide hrs).1.2 2 _ rfl
    have f0 := (unhide hrs).2 0
    have f1 := (unhide hrs).2 1
    have f2 := (unhide hrs).2 2
    clear hn hbx hrs hC hD
    go_wp2
    refine bodyPost_ret (v := .agg #[.int .i64 0, .int .i64 0, .int .i64 0]) (by simp [results, Try.results34, go_sem, z0, z1, z2]) rfl ⟨_, rfl, by rw [unhide hF]; rfl, Upd.of_below ((((unhide hB).setCell (by simp) _).setCell (by simp) _).setCell (by simp) _) 0 0⟩
  have hF : Hid (unliftF (a, b, c) = if Near 1000000 (c + unliftG (a, b, c), unliftG (a, b, c), b + unliftG (a, b, c)) then (c + unliftG (a, b, c), unliftG (a, b, c), b + unliftG (a, b, c)) else (0, 0, 0)) := hide (by
    unfold unliftF
    by_cases h : Near 1000000 (c + unliftG (a, b, c), unliftG (a, b, c), b + unliftG (a, b, c))
    · rw [if_pos ⟨hn, h⟩, if_pos h]
    · rw [if_neg (fun h' => h h'.2), if_neg h])
  rw [decide_eq_true hn]
  obtain ⟨⟨a1, a2⟩, ⟨a3, a4⟩, a5, a6⟩ := hn
  simp only at a1 a2 a3 a4 a5 a6
  have hG : a - (b + c) / 4 = unliftG (a, b, c) := rfl
  go_wp2_with fail
  have g1 : -8000001 ≤ unliftG (a, b, c) := by unfold unliftG; simp only; omega
  have g2 : unliftG (a, b, c) ≤ 8000001 := by unfold unliftG; simp only; omega
  clear hG
  generalize unliftG (a, b, c) = g at g1 g2 hF ⊢
  have hu2 := hide (Upd.of_below ((Below.refl w1.heap.size w1).alloc (Nat.le_refl _) (.cells #[.int .i64 (c + g), .int .i64 g, .int .i64 (b + g)] 24)) 0 0)
  have hot := hide (heldF_new w1 [.int .i64 (c + g), .int .i64 g, .int .i64 (b + g)] 24)
  replace hbx := hide ((unhide hbx).keep (unhide hu2))
  replace hrs := hide ((unhide hrs).keep (unhide hu2))
  replace hB := hide (below_upd (unhide hB) (unhide hu2) (Nat.le_refl _) (.inr (Nat.le_refl _)))
  have hs2 := (unhide hu2).size
  clear hu2 c0 c1 c2
  have hx : w.heap.size + 2 ≤ w1.heap.size := hs1
  generalize hgw : w1.heap.size = N1 at hot hx ⊢
  generalize w1.alloc (.cells #[.int .i64 (c + g), .int .i64 g, .int .i64 (b + g)] 24) = w2 at hB hot hbx hrs hs2 ⊢
  refine (unhide hD (c + g, g, b + g) _).mono ?_
  rintro e w3 ⟨rfl, hw⟩
  replace hbx := hide ((unhide hbx).keep hw)
  replace hrs := hide ((unhide hrs).keep hw)
  replace hot := hide ((unhide hot).keep hw)
  replace hB := hide (below_upd (unhide hB) hw (Nat.le_refl _) (.inr (Nat.le_refl _)))
  clear hw hs2 hD hC
  have z0 := (unhide hrs).1.2 0 _ rfl
  have z1 := (unhide hrs).1.2 1 _ rfl
  have z2 := (unhide hrs).1.2 2 _ rfl
  have f0 := (unhide hrs).2 0
  have f1 := (unhide hrs).2 1
  have f2 := (unhide hrs).2 2
  have o0 := (unhide hot).1.2 0 _ rfl
  have o1 := (unhide hot).1.2 1 _ rfl
  have o2 := (unhide hot).1.2 2 _ rfl
  clear hbx hrs hot
  by_cases hm : Near 1000000 (c + g, g, b + g)
  · replace hF := hide ((unhide hF).trans (if_pos hm))
    rw [decide_eq_true hm]
    clear hm
    go_wp2
    refine bodyPost_ret (v := .agg #[.int .i64 (c + g), .int .i64 g, .int .i64 (b + g)]) (by simp [results, Try.results34, go_sem, z0, z1, z2]) rfl ⟨_, rfl, by rw [unhide hF]; rfl, Upd.of_below ((((unhide hB).setCell (by simp) _).setCell (by simp) _).setCell (by simp) _) 0 0⟩
  · replace hF := hide ((unhide hF).trans (if_neg hm))
    rw [decide_eq_false hm]
    clear hm
    go_wp2
    refine bodyPost_ret (v := .agg #[.int .i64 0, .int .i64 0, .int .i64 0]) (by simp [results, Try.results34, go_sem, z0, z1, z2]) rfl ⟨_, rfl, by rw [unhide hF]; rfl, Upd.of_below ((((unhide hB).setCell (by simp) _).setCell (by simp) _).setCell (by simp) _) 0 0⟩
end Go.Proofs.Ytkeplngifceegaa
