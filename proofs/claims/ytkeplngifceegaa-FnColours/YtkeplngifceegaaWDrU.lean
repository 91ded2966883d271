/- The drawing of colours: l7Triple, DrawBright. -/
import Derived.Test.YtkeplngifceegaaWDrT
import Derived.Deep.Cut
namespace Go.Proofs.Ytkeplngifceegaa
open Go.RowKit

set_option maxHeartbeats 8000000 in
set_option maxRecDepth 100000 in
theorem specDrawTriple (ad : Option Addr) (cap : Nat) (zs : List Int) (w : World) (h : ArgB w ad zs) (hl : zs.length ≤ 1048576) :
    Calls Try.prog 41 #[.slice ad zs.length cap] w fun e w' => ∃ x y z, e = .returned (.agg #[.int .i64 x, .int .i64 y, .int .i64 z]) ∧ (-1000 ≤ x ∧ x ≤ 1000) ∧ (-1000 ≤ y ∧ y ≤ 1000) ∧ (-1000 ≤ z ∧ z ≤ 1000) ∧ Below w.heap.size w w' := by
  have hB0 := (Below.refl w.heap.size w).alloc (Nat.le_refl _) (.cells #[.int .i64 0, .int .i64 0, .int .i64 0] 24)
  have hrs := heldF_new w [.int .i64 0, .int .i64 0, .int .i64 0] 24
  have hs0 : (w.alloc (.cells #[.int .i64 0, .int .i64 0, .int .i64 0] 24)).heap.size = w.heap.size + 1 := by simp
  have h1 : ArgB (w.alloc (.cells #[.int .i64 0, .int .i64 0, .int .i64 0] 24)) ad zs := h.below hB0
  have hc0 := curIn_new _ ad cap zs h1
  have hB1 := hB0.alloc (by simp) (.cells #[.slice ad zs.length cap, .int .i64 0, .int .u64 0] 65)
  replace hrs := hide (hrs.keep (Upd.of_below ((Below.refl _ _).alloc (Nat.le_refl _) (.cells #[.slice ad zs.length cap, .int .i64 0, .int .u64 0] 65)) 0 0))
  rw [hs0] at hc0
  replace hc0 := hide hc0
  replace hB1 := hide hB1
  clear hB0 h h1
  go_enter Try.func41, Try.ntmps41
  go_wp2_with fail
  have hs1 : ((w.alloc (.cells #[.int .i64 0, .int .i64 0, .int .i64 0] 24)).alloc (.cells #[.slice ad zs.length cap, .int .i64 0, .int .u64 0] 65)).heap.size = w.heap.size + 2 := by simp
  clear hs0
  generalize (w.alloc (.cells #[.int .i64 0, .int .i64 0, .int .i64 0] 24)).alloc (.cells #[.slice ad zs.length cap, .int .i64 0, .int .u64 0] 65) = w0 at hrs hc0 hB1 hs1 ⊢
  refine (curTriple (w.heap.size + 1) ad cap zs 0 256 _ (unhide hc0) (by omega) hl (by omega) (by omega)).mono ?_
  rintro e w1 ⟨x, y, z, rfl, ⟨x0, x1⟩, ⟨y0, y1⟩, ⟨z0, z1⟩, hc1, ho⟩
  replace hrs := hide ((unhide hrs).only ho (by omega))
  replace hB1 := hide ((unhide hB1).trans (ho.below (by omega) (by omega)))
  have hs2 : w.heap.size + 2 ≤ w1.heap.size := by have := ho.size; omega
  replace hc1 := hide hc1
  clear ho hc0 hs1
  have hot := heldF_new w1 [.int .i64 x, .int .i64 y, .int .i64 z] 24
  have hu := (Upd.of_below ((Below.refl w1.heap.size w1).alloc (Nat.le_refl _) (.cells #[.int .i64 x, .int .i64 y, .int .i64 z] 24)) 0 0)
  replace hc1 := hide ((unhide hc1).grown ((Below.refl w1.heap.size w1).alloc (Nat.le_refl _) (.cells #[.int .i64 x, .int .i64 y, .int .i64 z] 24)))
  replace hrs := hide ((unhide hrs).keep hu)
  replace hB1 := hide (below_upd (unhide hB1) hu (Nat.le_refl _) (.inr (Nat.le_refl _)))
  replace hot := hide hot
  have hs3 : w1.heap.size < (w1.alloc (.cells #[.int .i64 x, .int .i64 y, .int .i64 z] 24)).heap.size := by simp
  replace hu := hide hu
  go_wp2_with fail
  clear hu
  generalize w1.heap.size = N1 at hs2 hs3 hot ⊢
  generalize w1.alloc (.cells #[.int .i64 x, .int .i64 y, .int .i64 z] 24) = w2 at hrs hc1 hB1 hot hs3 ⊢
  refine (curOne (w.heap.size + 1) ad cap zs _ 4 _ (unhide hc1) (by omega) hl (by omega) (by omega)).mono ?_
  rintro e w3 ⟨b, rfl, hc2, ho⟩
  replace hrs := hide ((unhide hrs).only ho (by omega))
  replace hot := hide ((unhide hot).only ho (by omega))
  replace hB1 := hide ((unhide hB1).trans (ho.below (by omega) (by omega)))
  have hs4 : N1 < w3.heap.size := by have := ho.size; omega
  replace hc2 := hide hc2
  clear ho hc1 hs3
  cases b
  case false =>
    have k0 := (unhide hrs).1.2 0 _ rfl
    have k1 := (unhide hrs).1.2 1 _ rfl
    have k2 := (unhide hrs).1.2 2 _ rfl
    have f0 := (unhide hrs).2 0
    have f1 := (unhide hrs).2 1
    have f2 := (unhide hrs).2 2
    have j0 := (unhide hot).1.2 0 _ rfl
    have j1 := (unhide hot).1.2 1 _ rfl
    have j2 := (unhide hot).1.2 2 _ rfl
    go_wp2
    refine bodyPost_ret (v := .agg #[.int .i64 x, .int .i64 y, .int .i64 z]) (by simp [results, Try.results41, go_sem, k0, k1, k2]) rfl ⟨x, y, z, rfl, by omega, by omega, by omega, ?_⟩
    exact (((unhide hB1).setCell (by simp) _).setCell (by simp) _).setCell (by simp) _
  case true =>
    go_wp2_with fail
    refine (curTriple (w.heap.size + 1) ad cap zs _ 600 _ (unhide hc2) (by omega) hl (by omega) (by omega)).mono ?_
    rintro e w4 ⟨x', y', z', rfl, ⟨x0', x1'⟩, ⟨y0', y1'⟩, ⟨z0', z1'⟩, hc3, ho⟩
    replace hrs := hide ((unhide hrs).only ho (by omega))
    replace hot := hide ((unhide hot).only ho (by omega))
    replace hB1 := hide ((unhide hB1).trans (ho.below (by omega) (by omega)))
    have hs5 : N1 < w4.heap.size := by have := ho.size; omega
    clear ho hc2 hs4 hc3
    have j0 := (unhide hot).1.2 0 _ rfl
    have j1 := (unhide hot).1.2 1 _ rfl
    have j2 := (unhide hot).1.2 2 _ rfl
    have g0 := (unhide hot).2 0
    have g1 := (unhide hot).2 1
    have g2 := (unhide hot).2 2
    go_upto_region 5 with fail
    clear j0 j1 j2 g0 g1 g2
    have hot2 := hide ((((unhide hot).set 0 (.int .i64 x') (by simp)).set 1 (.int .i64 y') (by simp)).set 2 (.int .i64 z') (by simp))
    have hrs2 := hide ((((unhide hrs).other (g' := N1) (by omega) 0 (.int .i64 x')).other (g' := N1) (by omega) 1 (.int .i64 y')).other (g' := N1) (by omega) 2 (.int .i64 z'))
    have hB2 := hide ((((unhide hB1).setCell (p := ⟨N1, 0, none⟩) (by simp; omega) (.int .i64 x')).setCell (p := ⟨N1, 1, none⟩) (by simp; omega) (.int .i64 y')).setCell (p := ⟨N1, 2, none⟩) (by simp; omega) (.int .i64 z'))
    simp only [List.set_cons_zero, List.set_cons_succ] at hot2
    clear hot hrs hB1
    generalize ((w4.setCell ⟨N1, 0, none⟩ (.int .i64 x')).setCell ⟨N1, 1, none⟩ (.int .i64 y')).setCell ⟨N1, 2, none⟩ (.int .i64 z') = w5 at hot2 hrs2 hB2 ⊢
    have hot := hot2
    have hrs := hrs2
    have hB1 := hB2
    clear hot2 hrs2 hB2
    have j0 := (unhide hot).1.2 0 _ rfl
    have j1 := (unhide hot).1.2 1 _ rfl
    have j2 := (unhide hot).1.2 2 _ rfl
    have g0 := (unhide hot).2 0
    have g1 := (unhide hot).2 1
    have g2 := (unhide hot).2 2
    go_upto_region 6 with fail
    clear j0 j1 j2 g0 g1 g2
    have hot2 := hide ((unhide hot).set 0 (.int .i64 (x' - 200)) (by simp))
    have hrs2 := hide ((unhide hrs).other (g' := N1) (by omega) 0 (.int .i64 (x' - 200)))
    have hB2 := hide ((unhide hB1).setCell (p := ⟨N1, 0, none⟩) (by simp; omega) (.int .i64 (x' - 200)))
    simp only [List.set_cons_zero] at hot2
    clear hot hrs hB1
    generalize w5.setCell ⟨N1, 0, none⟩ (.int .i64 (x' - 200)) = w6 at hot2 hrs2 hB2 ⊢
    have hot := hot2
    have hrs := hrs2
    have hB1 := hB2
    clear hot2 hrs2 hB2
    have j0 := (unhide hot).1.2 0 _ rfl
    have j1 := (unhide hot).1.2 1 _ rfl
    have j2 := (unhide hot).1.2 2 _ rfl
    have g0 := (unhide hot).2 0
    have g1 := (unhide hot).2 1
    have g2 := (unhide hot).2 2
    go_upto_region 7 with fail
    clear j0 j1 j2 g0 g1 g2
    have hot2 := hide ((unhide hot).set 2 (.int .i64 (z' - 150)) (by simp))
    have hrs2 := hide ((unhide hrs).other (g' := N1) (by omega) 2 (.int .i64 (z' - 150)))
    have hB2 := hide ((unhide hB1).setCell (p := ⟨N1, 2, none⟩) (by simp; omega) (.int .i64 (z' - 150)))
    simp only [List.set_cons_zero, List.set_cons_succ] at hot2
    clear hot hrs hB1
    generalize w6.setCell ⟨N1, 2, none⟩ (.int .i64 (z' - 150)) = w7 at hot2 hrs2 hB2 ⊢
    have hot := hot2
    have hrs := hrs2
    have hB1 := hB2
    clear hot2 hrs2 hB2
    have j0 := (unhide hot).1.2 0 _ rfl
    have j1 := (unhide hot).1.2 1 _ rfl
    have j2 := (unhide hot).1.2 2 _ rfl
    have g0 := (unhide hot).2 0
    have g1 := (unhide hot).2 1
    have g2 := (unhide hot).2 2
    have k0 := (unhide hrs).1.2 0 _ rfl
    have k1 := (unhide hrs).1.2 1 _ rfl
    have k2 := (unhide hrs).1.2 2 _ rfl
    have f0 := (unhide hrs).2 0
    have f1 := (unhide hrs).2 1
    have f2 := (unhide hrs).2 2
    go_wp2
    refine bodyPost_ret (v := .agg #[.int .i64 (x' - 200), .int .i64 y', .int .i64 (z' - 150)]) (by simp [results, Try.results41, go_sem, k0, k1, k2]) rfl ⟨_, _, _, rfl, by omega, by omega, by omega, ?_⟩
    exact (((unhide hB1).setCell (by simp) _).setCell (by simp) _).setCell (by simp) _
theorem specDrawBright (ad : Option Addr) (cap : Nat) (zs : List Int) (w : World) (h : ArgB w ad zs) (hl : zs.length ≤ 1048576) :
    Calls Try.prog 13 #[.slice ad zs.length cap] w fun e w' => ∃ x y z, e = .returned (.agg #[.int .i64 x, .int .i64 y, .int .i64 z]) ∧ (-1000 ≤ x ∧ x ≤ 1000) ∧ (-1000 ≤ y ∧ y ≤ 1000) ∧ (-1000 ≤ z ∧ z ≤ 1000) ∧ Below w.heap.size w w' := by
  have hB0 := (Below.refl w.heap.size w).alloc (Nat.le_refl _) (.cells #[.int .i64 0, .int .i64 0, .int .i64 0] 24)
  have hrs := heldF_new w [.int .i64 0, .int .i64 0, .int .i64 0] 24
  have hs0 : (w.alloc (.cells #[.int .i64 0, .int .i64 0, .int .i64 0] 24)).heap.size = w.heap.size + 1 := by simp
  have h1 : ArgB (w.alloc (.cells #[.int .i64 0, .int .i64 0, .int .i64 0] 24)) ad zs := h.below hB0
  replace h1 := hide h1
  replace hB0 := hide hB0
  replace hrs := hide hrs
  clear h
  go_enter Try.func13, Try.ntmps13
  go_wp2_with fail
  generalize w.alloc (.cells #[.int .i64 0, .int .i64 0, .int .i64 0] 24) = w0 at hrs h1 hB0 hs0 ⊢
  refine (specDrawTriple ad cap zs _ (unhide h1) hl).mono ?_
  rintro e w1 ⟨x, y, z, rfl, hx, hy, hz, hb⟩
  replace hrs := hide ((unhide hrs).keep (Upd.of_below hb 0 0))
  replace hB0 := hide ((unhide hB0).trans (hb.mono (by omega)))
  clear hb
  have k0 := (unhide hrs).1.2 0 _ rfl
  have k1 := (unhide hrs).1.2 1 _ rfl
  have k2 := (unhide hrs).1.2 2 _ rfl
  have f0 := (unhide hrs).2 0
  have f1 := (unhide hrs).2 1
  have f2 := (unhide hrs).2 2
  go_wp2
  refine bodyPost_ret (v := .agg #[.int .i64 x, .int .i64 y, .int .i64 z]) (by simp [results, Try.results13, go_sem, k0, k1, k2]) rfl ⟨x, y, z, rfl, hx, hy, hz, ?_⟩
  exact (((unhide hB0).setCell (by simp) _).setCell (by simp) _).setCell (by simp) _
end Go.Proofs.Ytkeplngifceegaa
