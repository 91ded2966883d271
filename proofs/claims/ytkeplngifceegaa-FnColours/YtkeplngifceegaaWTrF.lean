/- The program's Unbright. -/
import Derived.Test.YtkeplngifceegaaWTrE
namespace Go.Proofs.Ytkeplngifceegaa
open Go.RowKit
attribute [local go_sem] oneAt oneUpon

set_option maxHeartbeats 4000000 in
set_option maxRecDepth 100000 in
theorem implUnbright (v : Value) (d : Tr) (w : World) (_hn : TrSize d ≤ 1048576) (_hR : InTr d) (hv : RdTr w v d) :
    Calls Try.prog 18 #[v] w fun e w' => ∃ u, e = .returned u ∧ OwnTr w' w.heap.size w'.heap.size u (unbrightF d) ∧ Upd 0 0 w w' := by
  subst hv
  obtain ⟨r, g, b⟩ := d
  simp only [Trv]
  have hM := hide implUnbrightMatrix
  have hC := hide (implClipped (r, g, b))
  have hF : Hid (unbrightF (r, g, b) = (rOf (clipF r) (clipF g - 128) (clipF b - 128), gOf (clipF r) (clipF g - 128) (clipF b - 128), bOf (clipF r) (clipF g - 128) (clipF b - 128))) := hide rfl
  have cr := clipF_bd r
  have cg := clipF_bd g
  have cb := clipF_bd b
  simp only [Trv] at hC
  have hu := Upd.of_below (((Below.refl w.heap.size w).alloc (Nat.le_refl _) (.cells #[.int .i64 r, .int .i64 g, .int .i64 b] 24)).alloc (by simp) (.cells #[.int .i64 0, .int .i64 0, .int .i64 0] 24)) 0 0
  have hs : ((w.alloc (.cells #[.int .i64 r, .int .i64 g, .int .i64 b] 24)).alloc (.cells #[.int .i64 0, .int .i64 0, .int .i64 0] 24)).heap.size = w.heap.size + 2 := by simp
  have hbx := (heldF_new w [.int .i64 r, .int .i64 g, .int .i64 b] 24).keep (Upd.of_below ((Below.refl _ _).alloc (Nat.le_refl _) (.cells #[.int .i64 0, .int .i64 0, .int .i64 0] 24)) 0 0)
  have hrs := heldF_new (w.alloc (.cells #[.int .i64 r, .int .i64 g, .int .i64 b] 24)) [.int .i64 0, .int .i64 0, .int .i64 0] 24
  have e1 : (w.alloc (.cells #[.int .i64 r, .int .i64 g, .int .i64 b] 24)).heap.size = w.heap.size + 1 := by simp
  rw [e1] at hrs
  clear e1
  replace hu := hide hu
  replace hbx := hide hbx
  replace hrs := hide hrs
  generalize clipF r = R at cr hF hC
  generalize clipF g = G at cg hF hC
  generalize clipF b = B at cb hF hC
  go_enter Try.func18, Try.ntmps18
  go_wp2_with fail
  generalize (w.alloc (.cells #[.int .i64 r, .int .i64 g, .int .i64 b] 24)).alloc (.cells #[.int .i64 0, .int .i64 0, .int .i64 0] 24) = w0 at hu hbx hrs hs ⊢
  refine (unhide hC w0).mono ?_
  rintro e w1 ⟨rfl, hw⟩
  replace hu := hide ((unhide hu).trans hw)
  replace hrs := hide ((unhide hrs).keep hw)
  have hs1 : w.heap.size + 2 ≤ w1.heap.size := by have := hw.size; omega
  clear hw hs hbx hC
  have hT := hide (fun W => implTurned 0 0 359 0 88 183 0 454 0 0 (G - 128) (B - 128) _ _ _ W (fun X => implWeighed 0 0 359 0 (G - 128) (B - 128) 0 0 (359 * (B - 128)) X rfl (by omega) rfl (by omega) (by omega) (by omega) (by omega) (by omega) (by omega)) (fun X => implWeighed 0 88 183 0 (G - 128) (B - 128) 0 (88 * (G - 128)) (183 * (B - 128)) X rfl rfl rfl (by omega) (by omega) (by omega) (by omega) (by omega) (by omega)) (fun X => implWeighed 0 454 0 0 (G - 128) (B - 128) 0 (454 * (G - 128)) 0 X rfl rfl (by omega) (by omega) (by omega) (by omega) (by omega) (by omega) (by omega)))
  have hu2 := hide (Upd.of_below ((Below.refl w1.heap.size w1).alloc (Nat.le_refl _) (.cells #[.int .i64 R, .int .i64 G, .int .i64 B] 24)) 0 0)
  have hot := hide (heldF_new w1 [.int .i64 R, .int .i64 G, .int .i64 B] 24)
  simp only [Int.zero_add, Int.add_zero] at hT
  have hwg : IntKind.i64.wrap (G - 128) = G - 128 := by simp [IntKind.wrap, IntKind.bits, IntKind.signed]; omega
  have hwb : IntKind.i64.wrap (B - 128) = B - 128 := by simp [IntKind.wrap, IntKind.bits, IntKind.signed]; omega
  go_wp2_with fail
  replace hrs := hide ((unhide hrs).keep (unhide hu2))
  replace hu := hide ((unhide hu).trans (unhide hu2))
  have hs2 : w1.heap.size + 1 ≤ (w1.alloc (.cells #[.int .i64 R, .int .i64 G, .int .i64 B] 24)).heap.size := by simp
  clear hu2
  generalize w1.heap.size = N1 at hs1 hs2 hot ⊢
  generalize w1.alloc (.cells #[.int .i64 R, .int .i64 G, .int .i64 B] 24) = w2 at hu hot hrs hs2 ⊢
  have c0 := fun x : UpdT w2 => (((unhide hot).1.updT x).2 0 _ rfl)
  have c1 := fun x : UpdT w2 => (((unhide hot).1.updT x).2 1 _ rfl)
  have c2 := fun x : UpdT w2 => (((unhide hot).1.updT x).2 2 _ rfl)
  refine wp_region_float (zs := [.int .i64 0, .int .i64 0, .int .i64 0]) (t := 24) 9 10 (by kernel_rfl) (by kernel_rfl) (by kernel_rfl) (by rfl) (by intro a w; go_simp) ?_
  simp only [List.take_succ_cons, List.take_zero, List.drop_succ_cons, List.drop_zero, List.cons_append, List.nil_append, List.drop_nil]
  refine WG.step (fun K hK => ?_)
  go_simp
  refine ⟨_, fun x => unhide hM x.to, hK _ ?_⟩
  clear hK K
  refine WG.step (fun K hK => ?_)
  go_simp
  refine hK _ ?_
  clear hK K
  refine WG.step (fun K hK => ?_)
  go_simp
  refine hK _ ?_
  clear hK K
  refine WG.step (fun K hK => ?_)
  go_simp
  refine hK _ ?_
  clear hK K
  refine WG.step (fun K hK => ?_)
  go_simp
  refine hK _ ?_
  clear hK K
  refine WG.step (fun K hK => ?_)
  go_simp
  refine hK _ ?_
  clear hK K
  refine WG.step (fun K hK => ?_)
  go_simp
  refine hK _ ?_
  clear hK K
  refine WG.step (fun K hK => ?_)
  go_simp
  refine hK _ ?_
  clear hK K
  refine WG.step (fun K hK => ?_)
  go_simp
  refine ⟨_, fun x => unhide hT x.to, hK _ ?_⟩
  clear hK K
  refine WG.nil ?_
  clear c0 c1 c2 hwg hwb
  intro w3 c hw h1 h2 haw
  replace hrs := hide ((unhide hrs).keep hw)
  replace hot := hide ((unhide hot).keep hw)
  have hB := hide ((unhide hu).trans hw).none
  have h3 : w.heap.size + 2 ≤ c := by omega
  have h4 : N1 < c := by omega
  replace haw := hide haw
  clear hu hw hT hM h1 hs2
  have x0 := (unhide haw).1.2 0 _ rfl
  have x1 := (unhide haw).1.2 1 _ rfl
  have x2 := (unhide haw).1.2 2 _ rfl
  have y0 := (unhide haw).2 0
  have y1 := (unhide haw).2 1
  have y2 := (unhide haw).2 2
  have k0 := (unhide hot).1.2 0 _ rfl
  have k1 := (unhide hot).1.2 1 _ rfl
  have k2 := (unhide hot).1.2 2 _ rfl
  have b1 : -180 ≤ (359 * (B - 128) + 128) / 256 := by omega
  have b2 : (359 * (B - 128) + 128) / 256 ≤ 180 := by omega
  have b3 : -180 ≤ (88 * (G - 128) + 183 * (B - 128) + 128) / 256 := by omega
  have b4 : (88 * (G - 128) + 183 * (B - 128) + 128) / 256 ≤ 180 := by omega
  have b5 : -230 ≤ (454 * (G - 128) + 128) / 256 := by omega
  have b6 : (454 * (G - 128) + 128) / 256 ≤ 230 := by omega
  have hD := hide (fun W => implClipped (R + (359 * (B - 128) + 128) / 256, R - (88 * (G - 128) + 183 * (B - 128) + 128) / 256, R + (454 * (G - 128) + 128) / 256) W)
  simp only [Trv] at hD
  have q0 : clipF (R + (359 * (B - 128) + 128) / 256) = rOf R (G - 128) (B - 128) := rfl
  have q1 : clipF (R - (88 * (G - 128) + 183 * (B - 128) + 128) / 256) = gOf R (G - 128) (B - 128) := rfl
  have q2 : clipF (R + (454 * (G - 128) + 128) / 256) = bOf R (G - 128) (B - 128) := rfl
  rw [q0, q1, q2] at hD
  clear q0 q1 q2
  generalize (359 * (B - 128) + 128) / 256 = r1 at b1 b2 hD ⊢
  generalize (88 * (G - 128) + 183 * (B - 128) + 128) / 256 = g1 at b3 b4 hD ⊢
  generalize (454 * (G - 128) + 128) / 256 = bb1 at b5 b6 hD ⊢
  generalize rOf R (G - 128) (B - 128) = R2 at hD hF
  generalize gOf R (G - 128) (B - 128) = G2 at hD hF
  generalize bOf R (G - 128) (B - 128) = B2 at hD hF
  go_wp2_with fail
  clear x0 x1 x2 y0 y1 y2 k0 k1 k2
  have hrs2 := hide ((((unhide hrs).other (g' := c) (by omega) 0 (.int .i64 (r1))).other (g' := c) (by omega) 1 (.int .i64 (g1))).other (g' := c) (by omega) 2 (.int .i64 (bb1)))
  have hB2 := hide ((((unhide hB).setCell (p := ⟨c, 0, none⟩) (by simp; omega) (.int .i64 (r1))).setCell (p := ⟨c, 1, none⟩) (by simp; omega) (.int .i64 (g1))).setCell (p := ⟨c, 2, none⟩) (by simp; omega) (.int .i64 (bb1)))
  have hsz2 : w.heap.size + 2 ≤ (((w3.setCell ⟨c, 0, none⟩ (.int .i64 (r1))).setCell ⟨c, 1, none⟩ (.int .i64 (g1))).setCell ⟨c, 2, none⟩ (.int .i64 (bb1))).heap.size := by simp; omega
  generalize (((w3.setCell ⟨c, 0, none⟩ (.int .i64 (r1))).setCell ⟨c, 1, none⟩ (.int .i64 (g1))).setCell ⟨c, 2, none⟩ (.int .i64 (bb1))) = w4 at hrs2 hB2 hsz2 ⊢
  clear hot haw hrs hB h2 h3 h4
  refine (unhide hD w4).mono ?_
  rintro e w5 ⟨rfl, hw⟩
  replace hB2 := hide (below_upd (unhide hB2) hw (Nat.le_refl _) (.inr (Nat.le_refl _)))
  replace hrs2 := hide ((unhide hrs2).keep hw)
  have z0 := (unhide hrs2).1.2 0 _ rfl
  have z1 := (unhide hrs2).1.2 1 _ rfl
  have z2 := (unhide hrs2).1.2 2 _ rfl
  have f0 := (unhide hrs2).2 0
  have f1 := (unhide hrs2).2 1
  have f2 := (unhide hrs2).2 2
  clear hrs2 hD hw hsz2
  go_wp2
  refine bodyPost_ret (v := .agg #[.int .i64 (R2), .int .i64 (G2), .int .i64 (B2)]) (by simp [results, Try.results18, go_sem, z0, z1, z2]) rfl ⟨_, rfl, by rw [unhide hF]; rfl, Upd.of_below ((((unhide hB2).setCell (by simp) _).setCell (by simp) _).setCell (by simp) _) 0 0⟩
end Go.Proofs.Ytkeplngifceegaa
