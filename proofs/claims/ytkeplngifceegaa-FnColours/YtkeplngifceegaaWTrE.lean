/- The program's Bright and Unbright. -/
import Derived.Test.YtkeplngifceegaaWTrD
import Derived.Test.YtkeplngifceegaaWQA
namespace Go.Proofs.Ytkeplngifceegaa
open Go.RowKit
attribute [local go_sem] oneAt oneUpon

set_option maxHeartbeats 4000000 in
set_option maxRecDepth 100000 in
theorem implBright (v : Value) (d : Tr) (w : World) (_hn : TrSize d ≤ 1048576) (_hR : InTr d) (hv : RdTr w v d) :
    Calls Try.prog 17 #[v] w fun e w' => ∃ u, e = .returned u ∧ OwnTr w' w.heap.size w'.heap.size u (brightF d) ∧ Upd 0 0 w w' := by
  subst hv
  obtain ⟨r, g, b⟩ := d
  simp only [Trv]
  have hM := hide implBrightMatrix
  have hC := hide (implClipped (r, g, b))
  have hF : Hid (brightF (r, g, b) = (yOf (clipF r) (clipF g) (clipF b), cbOf (clipF r) (clipF g) (clipF b), crOf (clipF r) (clipF g) (clipF b))) := hide rfl
  have cr := clipF_bd r
  have cg := clipF_bd g
  have cb := clipF_bd b
  simp only [Trv] at hC
  have hu := Upd.of_below (((Below.refl w.heap.size w).alloc (Nat.le_refl _) (.cells #[.int .i64 r, .int .i64 g, .int .i64 b] 24)).alloc (by simp) (.cells #[.int .i64 0, .int .i64 0, .int .i64 0] 24)) 0 0
  have hs : ((w.alloc (.cells #[.int .i64 r, .int .i64 g, .int .i64 b] 24)).alloc (.cells #[.int .i64 0, .int .i64 0, .int .i64 0] 24)).heap.size = w.heap.size + 2 := by simp
  have hbx := (heldF_new w [.int .i64 r, .int .i64 g, .int .i64 b] 24).keep (Upd.of_below ((Below.refl _ _).alloc (Nat.le_refl _) (.cells #[.int .i64 0, .int .i64 0, .int .i64 0] 24)) 0 0)
  have hrs := heldF_new (w.alloc (.cells #[.int .i64 r, .int .i64 g, .int .i64 b] 24)) [.int .i64 0, .int .i64 0, .int .i64 0] 24
  have e1 : (w.alloc (.cells #[.int .i64 r, .int .i64 g, .int .i64 b] 24)).heap.size = w.heap.size + 1 := by simp
  rw [e1] at hrs
  clear e1
  replace hu := hide hu
  replace hbx := hide hbx
  replace hrs := hide hrs
  generalize clipF r = R at cr hF hC
  generalize clipF g = G at cg hF hC
  generalize clipF b = B at cb hF hC
  go_enter Try.func17, Try.ntmps17
  go_wp2_with fail
  generalize (w.alloc (.cells #[.int .i64 r, .int .i64 g, .int .i64 b] 24)).alloc (.cells #[.int .i64 0, .int .i64 0, .int .i64 0] 24) = w0 at hu hbx hrs hs ⊢
  have hT := hide (fun W => implTurned 77 150 29 (-43) (-85) 128 128 (-107) (-21) R G B _ _ _ W (fun X => implWeighed 77 150 29 R G B (77 * R) (150 * G) (29 * B) X rfl rfl rfl (by omega) (by omega) (by omega) (by omega) (by omega) (by omega)) (fun X => implWeighed (-43) (-85) 128 R G B (-43 * R) (-85 * G) (128 * B) X rfl rfl rfl (by omega) (by omega) (by omega) (by omega) (by omega) (by omega)) (fun X => implWeighed 128 (-107) (-21) R G B (128 * R) (-107 * G) (-21 * B) X rfl rfl rfl (by omega) (by omega) (by omega) (by omega) (by omega) (by omega)))
  have c0 := fun x : UpdT w0 => (((unhide hbx).1.updT x).2 0 _ rfl)
  have c1 := fun x : UpdT w0 => (((unhide hbx).1.updT x).2 1 _ rfl)
  have c2 := fun x : UpdT w0 => (((unhide hbx).1.updT x).2 2 _ rfl)
  refine wp_region_float (zs := [.int .i64 0, .int .i64 0, .int .i64 0]) (t := 24) 4 5 (by kernel_rfl) (by kernel_rfl) (by kernel_rfl) (by rfl) (by intro a w; go_simp) ?_
  simp only [List.take_succ_cons, List.take_zero, List.drop_succ_cons, List.drop_zero, List.cons_append, List.nil_append, List.drop_nil]
  refine WG.step (fun K hK => ?_)
  go_simp
  refine ⟨_, fun x => unhide hM x.to, hK _ ?_⟩
  clear hK K
  refine WG.step (fun K hK => ?_)
  go_simp
  refine hK _ ?_
  clear hK K
  refine WG.step (fun K hK => ?_)
  go_simp
  refine ⟨_, fun x => unhide hC x.to, hK _ ?_⟩
  clear hK K
  refine WG.step (fun K hK => ?_)
  go_simp
  refine ⟨_, fun x => unhide hT x.to, hK _ ?_⟩
  clear hK K
  refine WG.nil ?_
  clear c0 c1 c2
  have hsz : w.heap.size + 2 ≤ w0.heap.size := by omega
  intro w1 c hw h1 h2 hot
  replace hrs := hide ((unhide hrs).keep hw)
  have hB := hide ((unhide hu).trans hw).none
  have h3 : w.heap.size + 2 ≤ c := by omega
  replace hot := hide hot
  clear hu hw hs hbx hT hM hsz h1
  have x0 := (unhide hot).1.2 0 _ rfl
  have x1 := (unhide hot).1.2 1 _ rfl
  have x2 := (unhide hot).1.2 2 _ rfl
  have y0 := (unhide hot).2 0
  have y1 := (unhide hot).2 1
  have y2 := (unhide hot).2 2
  go_wp2_with fail
  clear x0 x1 x2 y0 y1 y2
  have hrs2 := hide ((((unhide hrs).other (g' := c) (by omega) 0 (.int .i64 ((77 * R + 150 * G + 29 * B + 128) / 256))).other (g' := c) (by omega) 1 (.int .i64 ((-43 * R + -85 * G + 128 * B + 128) / 256))).other (g' := c) (by omega) 2 (.int .i64 ((128 * R + -107 * G + -21 * B + 128) / 256)))
  have hB2 := hide ((((unhide hB).setCell (p := ⟨c, 0, none⟩) (by simp; omega) (.int .i64 ((77 * R + 150 * G + 29 * B + 128) / 256))).setCell (p := ⟨c, 1, none⟩) (by simp; omega) (.int .i64 ((-43 * R + -85 * G + 128 * B + 128) / 256))).setCell (p := ⟨c, 2, none⟩) (by simp; omega) (.int .i64 ((128 * R + -107 * G + -21 * B + 128) / 256)))
  have hsz2 : w.heap.size + 2 ≤ (((w1.setCell ⟨c, 0, none⟩ (.int .i64 ((77 * R + 150 * G + 29 * B + 128) / 256))).setCell ⟨c, 1, none⟩ (.int .i64 ((-43 * R + -85 * G + 128 * B + 128) / 256))).setCell ⟨c, 2, none⟩ (.int .i64 ((128 * R + -107 * G + -21 * B + 128) / 256))).heap.size := by simp; omega
  generalize (((w1.setCell ⟨c, 0, none⟩ (.int .i64 ((77 * R + 150 * G + 29 * B + 128) / 256))).setCell ⟨c, 1, none⟩ (.int .i64 ((-43 * R + -85 * G + 128 * B + 128) / 256))).setCell ⟨c, 2, none⟩ (.int .i64 ((128 * R + -107 * G + -21 * B + 128) / 256))) = w2 at hrs2 hB2 hsz2 ⊢
  clear hot hrs hB h2 h3
  have hD := hide (fun W => implClipped ((77 * R + 150 * G + 29 * B + 128) / 256, (-43 * R + -85 * G + 128 * B + 128) / 256 + 128, (128 * R + -107 * G + -21 * B + 128) / 256 + 128) W)
  simp only [Trv] at hD
  have q0 : clipF ((77 * R + 150 * G + 29 * B + 128) / 256) = yOf R G B := rfl
  have q1 : clipF ((-43 * R + -85 * G + 128 * B + 128) / 256 + 128) = cbOf R G B := by unfold cbOf; congr 3; omega
  have q2 : clipF ((128 * R + -107 * G + -21 * B + 128) / 256 + 128) = crOf R G B := by unfold crOf; congr 3; omega
  rw [q0, q1, q2] at hD
  clear q0 q1 q2
  refine (unhide hD w2).mono ?_
  rintro e w3 ⟨rfl, hw⟩
  replace hB2 := hide (below_upd (unhide hB2) hw (Nat.le_refl _) (.inr (Nat.le_refl _)))
  replace hrs2 := hide ((unhide hrs2).keep hw)
  have z0 := (unhide hrs2).1.2 0 _ rfl
  have z1 := (unhide hrs2).1.2 1 _ rfl
  have z2 := (unhide hrs2).1.2 2 _ rfl
  have f0 := (unhide hrs2).2 0
  have f1 := (unhide hrs2).2 1
  have f2 := (unhide hrs2).2 2
  clear hrs2 hD hw hsz2
  go_wp2
  refine bodyPost_ret (v := .agg #[.int .i64 (yOf R G B), .int .i64 (cbOf R G B), .int .i64 (crOf R G B)]) (by simp [results, Try.results17, go_sem, z0, z1, z2]) rfl ⟨_, rfl, by rw [unhide hF]; rfl, Upd.of_below ((((unhide hB2).setCell (by simp) _).setCell (by simp) _).setCell (by simp) _) 0 0⟩
end Go.Proofs.Ytkeplngifceegaa
