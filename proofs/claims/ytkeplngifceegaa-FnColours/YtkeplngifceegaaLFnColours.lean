/- The law on drawn colours, walked. -/
import Derived.Test.YtkeplngifceegaaWDrU
import Derived.Deep.Cut
import Derived.Test.YtkeplngifceegaaWByts
import Derived.Test.YtkeplngifceegaaWSzI
import Derived.StillTailTactics
import Derived.Test.YtkeplngifceegaaWTrB
import Derived.Test.YtkeplngifceegaaWTrE
import Derived.Test.YtkeplngifceegaaWTrF
import Derived.Test.YtkeplngifceegaaWTrH
namespace Go.Proofs.Ytkeplngifceegaa
open Go.RowKit
attribute [local go_sem] oneAt oneUpon

theorem trCall {P : Program} {f : FuncId} {args : Array Value} {w : World} {d : Tr} (h : Calls P f args w fun e w' => ∃ u, e = .returned u ∧ OwnTr w' w.heap.size w'.heap.size u d ∧ Upd 0 0 w w') :
    Calls P f args w fun e w' => e = .returned (.agg #[.int .i64 d.1, .int .i64 d.2.1, .int .i64 d.2.2]) ∧ Upd 0 0 w w' :=
  h.mono fun _ _ ⟨_, he, ho, hu⟩ => ⟨by rw [he, ho.form], hu⟩
theorem specClipped (n : Int) (w : World) : Calls Try.prog 21 #[.int .i64 n] w fun e w' => e = .returned (.int .i64 (clipF n)) ∧ w' = w := by
  have hC := hide (specClip n)
  go_enter Try.func21, Try.ntmps21
  go_wp2_with fail
  refine (unhide hC _).mono ?_
  rintro e w1 ⟨rfl, rfl⟩
  go_wp2
  go_ret
  exact ⟨rfl, rfl⟩
theorem argB_ofY {w : World} {ad : Option Addr} {zs : List Int} (h : ArgY w ad zs) (hR : InB zs) : ArgB w ad zs :=
  ⟨hR, fun hne => by
    obtain ⟨b, off, e, hl, hc⟩ := h hne
    exact ⟨b, off, e, hl, hc⟩⟩
set_option maxHeartbeats 8000000 in
set_option maxRecDepth 100000 in
theorem lawFnColoursB (ad : Option Addr) (cap : Nat) (zs : List Int) (w : World) (hA : ArgB w ad zs) :
    Calls Try.prog 3 #[.slice ad zs.length cap] w fun e w' => e = .returned (.bool true) ∧ Below w.heap.size w w' := by
  by_cases hl : 1048576 < zs.length
  · clear hA
    go_enter Try.func3, Try.ntmps3
    go_wp2
    go_ret
    exact ⟨rfl, Below.refl _ _⟩
  have hl' : zs.length ≤ 1048576 := by omega
  replace hA := hide hA
  go_enter Try.func3, Try.ntmps3
  go_wp2_with fail
  refine (specDrawBright ad cap zs _ (unhide hA) hl').mono ?_
  rintro e w0 ⟨x, y, z, rfl, ⟨x0, x1⟩, ⟨y0, y1⟩, ⟨z0, z1⟩, hb⟩
  clear hA hl hl'
  have hB := hide (hb.alloc hb.size (.cells #[.int .i64 x, .int .i64 y, .int .i64 z] 24))
  have h3 := hide (heldF_new w0 [.int .i64 x, .int .i64 y, .int .i64 z] 24)
  have hs0 := hb.size
  clear hb
  go_wp2_with fail
  generalize w0.heap.size = N0 at hs0 h3 ⊢
  generalize w0.alloc (.cells #[.int .i64 x, .int .i64 y, .int .i64 z] 24) = w1 at hB h3 ⊢
  have hI : InTr (x, y, z) := by unfold InTr; simp only; omega
  have hN : Near 1000000 (x, y, z) := by unfold Near; simp only; omega
  have hul := unlift_lift hN
  have hIl : InTr (liftF (x, y, z)) := by unfold liftF; rw [if_pos hN]; unfold InTr; simp only; omega
  have hLi := hide (fun W => trCall (implLift _ (x, y, z) W (Nat.zero_le _) hI rfl))
  have hLs := hide (fun W => trCall (specLift _ (x, y, z) W (Nat.zero_le _) hI rfl))
  have hUi := hide (fun W => trCall (implUnlift _ (liftF (x, y, z)) W (Nat.zero_le _) hIl rfl))
  rw [hul] at hUi
  clear hul hIl hI hN
  generalize liftF (x, y, z) = L at hLi hLs hUi
  obtain ⟨l0, l1, l2⟩ := L
  simp only [Trv] at hLi hLs hUi
  have c0 := fun x : UpdT w1 => (((unhide h3).1.updT x).2 0 _ rfl)
  have c1 := fun x : UpdT w1 => (((unhide h3).1.updT x).2 1 _ rfl)
  have c2 := fun x : UpdT w1 => (((unhide h3).1.updT x).2 2 _ rfl)
  refine wq_region_upd (by kernel_rfl) (by kernel_rfl) ?_
  refine WQ.step (fun K hK => ?_)
  go_simp
  refine hK _ ?_
  clear hK K
  refine WQ.step (fun K hK => ?_)
  go_simp
  refine ⟨_, fun x => Calls.updT x (unhide hLi x.to), hK _ ?_⟩
  clear hK K
  refine WQ.step (fun K hK => ?_)
  go_simp
  refine ⟨_, fun x => Calls.updT x (unhide hUi x.to), hK _ ?_⟩
  clear hK K
  refine WQ.step (fun K hK => ?_)
  go_simp
  refine hK _ ?_
  clear hK K
  refine WQ.step (fun K hK => ?_)
  go_simp
  refine hK _ ?_
  clear hK K
  refine WQ.step (fun K hK => ?_)
  go_simp
  refine hK _ ?_
  clear hK K
  refine WQ.step (fun K hK => ?_)
  go_simp
  refine hK _ ?_
  clear hK K
  refine WQ.step (fun K hK => ?_)
  go_simp
  refine ⟨_, fun x => Calls.updT x (unhide hLi x.to), hK _ ?_⟩
  clear hK K
  refine WQ.step (fun K hK => ?_)
  go_simp
  refine hK _ ?_
  clear hK K
  refine WQ.step (fun K hK => ?_)
  go_simp
  refine ⟨_, fun x => Calls.updT x (unhide hLs x.to), hK _ ?_⟩
  clear hK K
  refine WQ.step (fun K hK => ?_)
  go_simp
  refine hK _ ?_
  clear hK K
  refine WQ.step (fun K hK => ?_)
  go_simp
  refine hK _ ?_
  clear hK K
  refine WQ.nil ?_
  rintro _ ⟨xw, rfl⟩
  clear c0 c1 c2 hLi hLs hUi
  have hx := xw.upd
  generalize xw.to = w2 at hx ⊢
  replace h3 := hide ((unhide h3).keep hx)
  replace hB := hide (below_upd (unhide hB) hx (Nat.le_refl _) (.inr (Nat.le_refl _)))
  clear hx
  have hI : InTr (x, y, z) := by unfold InTr; simp only; omega
  have hBi := hide (fun W => trCall (implBright _ (x, y, z) W (Nat.zero_le _) hI rfl))
  have hBs := hide (fun W => trCall (specBright _ (x, y, z) W (Nat.zero_le _) hI rfl))
  have hIb : InTr (brightF (x, y, z)) := by unfold brightF InTr yOf cbOf crOf; have := clipF_bd; simp only; refine ⟨?_, ?_, ?_⟩ <;> (constructor <;> (first | (have := (clipF_bd ((77 * clipF x + 150 * clipF y + 29 * clipF z + 128) / 256)); omega) | (have := (clipF_bd ((-43 * clipF x - 85 * clipF y + 128 * clipF z + 128) / 256 + 128)); omega) | (have := (clipF_bd ((128 * clipF x - 107 * clipF y - 21 * clipF z + 128) / 256 + 128)); omega)))
  have hUi := hide (fun W => trCall (implUnbright _ (brightF (x, y, z)) W (Nat.zero_le _) hIb rfl))
  have hUs := hide (fun W => trCall (specUnbright _ (brightF (x, y, z)) W (Nat.zero_le _) hIb rfl))
  have cx := clipF_bd x
  have cy := clipF_bd y
  have cz := clipF_bd z
  have hback : unbrightF (brightF (x, y, z)) = (rOf (yOf (clipF x) (clipF y) (clipF z)) (cbOf (clipF x) (clipF y) (clipF z) - 128) (crOf (clipF x) (clipF y) (clipF z) - 128), gOf (yOf (clipF x) (clipF y) (clipF z)) (cbOf (clipF x) (clipF y) (clipF z) - 128) (crOf (clipF x) (clipF y) (clipF z) - 128), bOf (yOf (clipF x) (clipF y) (clipF z)) (cbOf (clipF x) (clipF y) (clipF z) - 128) (crOf (clipF x) (clipF y) (clipF z) - 128)) := by
    unfold unbrightF brightF
    simp only
    rw [show clipF (yOf (clipF x) (clipF y) (clipF z)) = yOf (clipF x) (clipF y) (clipF z) from clipF_in (by have := (clipF_bd ((77 * clipF x + 150 * clipF y + 29 * clipF z + 128) / 256)).1; unfold yOf; omega) (by have := (clipF_bd ((77 * clipF x + 150 * clipF y + 29 * clipF z + 128) / 256)).2; unfold yOf; omega)]
    rw [show clipF (cbOf (clipF x) (clipF y) (clipF z)) = cbOf (clipF x) (clipF y) (clipF z) from clipF_in (by have := (clipF_bd ((-43 * clipF x - 85 * clipF y + 128 * clipF z + 128) / 256 + 128)).1; unfold cbOf; omega) (by have := (clipF_bd ((-43 * clipF x - 85 * clipF y + 128 * clipF z + 128) / 256 + 128)).2; unfold cbOf; omega)]
    rw [show clipF (crOf (clipF x) (clipF y) (clipF z)) = crOf (clipF x) (clipF y) (clipF z) from clipF_in (by have := (clipF_bd ((128 * clipF x - 107 * clipF y - 21 * clipF z + 128) / 256 + 128)).1; unfold crOf; omega) (by have := (clipF_bd ((128 * clipF x - 107 * clipF y - 21 * clipF z + 128) / 256 + 128)).2; unfold crOf; omega)]
  have nr := red_near (clipF x) (clipF y) (clipF z) cx cy cz
  have ng := green_near (clipF x) (clipF y) (clipF z) cx cy cz
  have nb := blue_near (clipF x) (clipF y) (clipF z) cx cy cz
  rw [hback] at hUi hUs
  clear hback hIb hI
  have hgrey := grey_bright (clipF x) cx
  have hIg : InTr (clipF x, clipF x, clipF x) := by unfold InTr; simp only; omega
  have hGi := hide (fun W => trCall (implBright _ (clipF x, clipF x, clipF x) W (Nat.zero_le _) hIg rfl))
  rw [hgrey] at hGi
  clear hgrey hIg
  have hCl := hide (fun n W => specClipped n W)
  generalize rOf (yOf (clipF x) (clipF y) (clipF z)) (cbOf (clipF x) (clipF y) (clipF z) - 128) (crOf (clipF x) (clipF y) (clipF z) - 128) = R at nr hUi hUs
  generalize gOf (yOf (clipF x) (clipF y) (clipF z)) (cbOf (clipF x) (clipF y) (clipF z) - 128) (crOf (clipF x) (clipF y) (clipF z) - 128) = G at ng hUi hUs
  generalize bOf (yOf (clipF x) (clipF y) (clipF z)) (cbOf (clipF x) (clipF y) (clipF z) - 128) (crOf (clipF x) (clipF y) (clipF z) - 128) = B at nb hUi hUs
  generalize brightF (x, y, z) = L at hBi hBs hUi hUs
  obtain ⟨q0, q1, q2⟩ := L
  simp only [Trv] at hBi hBs hUi hUs hGi
  have c0 := (unhide h3).1.2 0 _ rfl
  have c1 := (unhide h3).1.2 1 _ rfl
  have c2 := (unhide h3).1.2 2 _ rfl
  go_wp2_with fail
  clear c0 c1 c2
  refine (unhide hBi _).mono ?_
  rintro e w3 ⟨rfl, hx⟩
  replace hB := hide (below_upd (unhide hB) hx (Nat.le_refl _) (.inr (Nat.le_refl _)))
  replace h3 := hide ((unhide h3).keep hx)
  clear hx
  have hu := Upd.of_below ((Below.refl w3.heap.size w3).alloc (Nat.le_refl _) (.cells #[.int .i64 q0, .int .i64 q1, .int .i64 q2] 24)) 0 0
  have h4 := hide (heldF_new w3 [.int .i64 q0, .int .i64 q1, .int .i64 q2] 24)
  replace h3 := hide ((unhide h3).keep hu)
  replace hB := hide (below_upd (unhide hB) hu (Nat.le_refl _) (.inr (Nat.le_refl _)))
  clear hu
  have k0 := (unhide h4).1.2 0 _ rfl
  have k1 := (unhide h4).1.2 1 _ rfl
  have k2 := (unhide h4).1.2 2 _ rfl
  go_wp2_with fail
  clear k0 k1 k2
  generalize w3.heap.size = N1 at h4 ⊢
  generalize w3.alloc (.cells #[.int .i64 q0, .int .i64 q1, .int .i64 q2] 24) = w4 at h3 h4 hB ⊢
  refine (unhide hUi _).mono ?_
  rintro e w5 ⟨rfl, hx⟩
  replace hB := hide (below_upd (unhide hB) hx (Nat.le_refl _) (.inr (Nat.le_refl _)))
  replace h3 := hide ((unhide h3).keep hx)
  replace h4 := hide ((unhide h4).keep hx)
  clear hx
  have hu := Upd.of_below ((Below.refl w5.heap.size w5).alloc (Nat.le_refl _) (.cells #[.int .i64 R, .int .i64 G, .int .i64 B] 24)) 0 0
  have h5 := hide (heldF_new w5 [.int .i64 R, .int .i64 G, .int .i64 B] 24)
  replace h3 := hide ((unhide h3).keep hu)
  replace h4 := hide ((unhide h4).keep hu)
  replace hB := hide (below_upd (unhide hB) hu (Nat.le_refl _) (.inr (Nat.le_refl _)))
  clear hu
  go_wp2_with fail
  generalize w5.heap.size = N2 at h5 ⊢
  generalize w5.alloc (.cells #[.int .i64 R, .int .i64 G, .int .i64 B] 24) = w6 at h3 h4 h5 hB ⊢
  have c30 := fun x : UpdT w6 => (((unhide h3).1.updT x).2 0 _ rfl)
  have c31 := fun x : UpdT w6 => (((unhide h3).1.updT x).2 1 _ rfl)
  have c32 := fun x : UpdT w6 => (((unhide h3).1.updT x).2 2 _ rfl)
  have c40 := fun x : UpdT w6 => (((unhide h4).1.updT x).2 0 _ rfl)
  have c41 := fun x : UpdT w6 => (((unhide h4).1.updT x).2 1 _ rfl)
  have c42 := fun x : UpdT w6 => (((unhide h4).1.updT x).2 2 _ rfl)
  have c50 := fun x : UpdT w6 => (((unhide h5).1.updT x).2 0 _ rfl)
  have c51 := fun x : UpdT w6 => (((unhide h5).1.updT x).2 1 _ rfl)
  have c52 := fun x : UpdT w6 => (((unhide h5).1.updT x).2 2 _ rfl)
  refine wq_region_upd (by kernel_rfl) (by kernel_rfl) ?_
  refine WQ.step (fun K hK => ?_)
  go_simp
  refine hK _ ?_
  clear hK K
  refine WQ.step (fun K hK => ?_)
  go_simp
  refine hK _ ?_
  clear hK K
  refine WQ.step (fun K hK => ?_)
  go_simp
  refine ⟨_, fun x => Calls.updT x (unhide hBs x.to), hK _ ?_⟩
  clear hK K
  refine WQ.step (fun K hK => ?_)
  go_simp
  refine hK _ ?_
  clear hK K
  refine WQ.step (fun K hK => ?_)
  go_simp
  refine hK _ ?_
  clear hK K
  refine WQ.step (fun K hK => ?_)
  go_simp
  refine hK _ ?_
  clear hK K
  refine WQ.step (fun K hK => ?_)
  go_simp
  refine hK _ ?_
  clear hK K
  refine WQ.step (fun K hK => ?_)
  go_simp
  refine ⟨_, fun x => Calls.updT x (unhide hUs x.to), hK _ ?_⟩
  clear hK K
  refine WQ.step (fun K hK => ?_)
  go_simp
  refine hK _ ?_
  clear hK K
  refine WQ.step (fun K hK => ?_)
  go_simp
  refine hK _ ?_
  clear hK K
  refine WQ.nil ?_
  rintro _ ⟨xv, rfl⟩
  clear c30 c31 c32 c40 c41 c42 c50 c51 c52
  have hx := xv.upd
  generalize xv.to = w7 at hx ⊢
  replace h3 := hide ((unhide h3).keep hx)
  replace h5 := hide ((unhide h5).keep hx)
  replace hB := hide (below_upd (unhide hB) hx (Nat.le_refl _) (.inr (Nat.le_refl _)))
  clear hx h4
  clear hBi hBs hUi hUs
  have c0 := (unhide h3).1.2 0 _ rfl
  have c1 := (unhide h3).1.2 1 _ rfl
  have c2 := (unhide h3).1.2 2 _ rfl
  go_upto_region 11 with fail
  clear c0 c1 c2
  have hu := Upd.of_below ((Below.refl w7.heap.size w7).alloc (Nat.le_refl _) (.cells #[.int .i64 x, .int .i64 y, .int .i64 z] 3)) 0 0
  have h6 := hide (heldF_new w7 [.int .i64 x, .int .i64 y, .int .i64 z] 3)
  replace h3 := hide ((unhide h3).keep hu)
  replace h5 := hide ((unhide h5).keep hu)
  replace hB := hide (below_upd (unhide hB) hu (Nat.le_refl _) (.inr (Nat.le_refl _)))
  clear hu
  generalize w7.heap.size = N3 at h6 ⊢
  generalize w7.alloc (.cells #[.int .i64 x, .int .i64 y, .int .i64 z] 3) = w8 at h3 h5 h6 hB ⊢
  have c0 := (unhide h5).1.2 0 _ rfl
  have c1 := (unhide h5).1.2 1 _ rfl
  have c2 := (unhide h5).1.2 2 _ rfl
  go_upto_region 12 with fail
  clear c0 c1 c2
  have hu := Upd.of_below ((Below.refl w8.heap.size w8).alloc (Nat.le_refl _) (.cells #[.int .i64 R, .int .i64 G, .int .i64 B] 3)) 0 0
  have h7 := hide (heldF_new w8 [.int .i64 R, .int .i64 G, .int .i64 B] 3)
  replace h3 := hide ((unhide h3).keep hu)
  replace h6 := hide ((unhide h6).keep hu)
  replace hB := hide (below_upd (unhide hB) hu (Nat.le_refl _) (.inr (Nat.le_refl _)))
  clear hu h5
  generalize w8.heap.size = N4 at h7 ⊢
  generalize w8.alloc (.cells #[.int .i64 R, .int .i64 G, .int .i64 B] 3) = w9 at h3 h6 h7 hB ⊢
  go_wp2_with fail
  go_loopw [59] (fun i wr => ∃ k : Nat, k ≤ 3 ∧ i = .int .i64 k ∧ Hid (HeldF wr N0 [.int .i64 x, .int .i64 y, .int .i64 z]) ∧ Hid (HeldF wr N3 [.int .i64 x, .int .i64 y, .int .i64 z]) ∧ Hid (HeldF wr N4 [.int .i64 R, .int .i64 G, .int .i64 B]) ∧ Hid (Below w.heap.size w wr)) (fun i _ => 3 - (intOf i).toNat)
  case atStart => exact ⟨0, by omega, rfl, h3, h6, h7, hB⟩
  case round =>
    clear h3 h6 h7 hB
    obtain ⟨k, hk, rfl, h3, h6, h7, hB⟩ := hrel
    rcases (by omega : k = 0 ∨ k = 1 ∨ k = 2 ∨ k = 3) with h | h | h | h
    · subst h
      have hCv := hide (unhide hCl x)
      have hw : IntKind.i64.wrap (clipF x - R) = clipF x - R := by simp [IntKind.wrap, IntKind.bits, IntKind.signed]; omega
      have q1 : decide (clipF x - R < -2) = false := by simp; omega
      have q2 : decide (2 < clipF x - R) = false := by simp; omega
      have a0 := (unhide h6).1.2 0 _ rfl
      have b0 := (unhide h7).1.2 0 _ rfl
      go_wp2_with fail
      refine wp_region_still_lit (by kernel_rfl) (by kernel_rfl) ?_
      iterate 4 still_step
      still_call (unhide hCv _)
      iterate 6 still_step
      refine wpStill_nil ?_
      go_wp2
      go_round
      case rel => exact ⟨0 + 1, by omega, rfl, hide ((unhide h3).keep (Upd.drew1 _)), hide ((unhide h6).keep (Upd.drew1 _)), hide ((unhide h7).keep (Upd.drew1 _)), hide (below_drewN (unhide hB) 1)⟩
      case measure => simp [intOf]
    · subst h
      have hCv := hide (unhide hCl y)
      have hw : IntKind.i64.wrap (clipF y - G) = clipF y - G := by simp [IntKind.wrap, IntKind.bits, IntKind.signed]; omega
      have q1 : decide (clipF y - G < -2) = false := by simp; omega
      have q2 : decide (2 < clipF y - G) = false := by simp; omega
      have a0 := (unhide h6).1.2 1 _ rfl
      have b0 := (unhide h7).1.2 1 _ rfl
      go_wp2_with fail
      refine wp_region_still_lit (by kernel_rfl) (by kernel_rfl) ?_
      iterate 4 still_step
      still_call (unhide hCv _)
      iterate 6 still_step
      refine wpStill_nil ?_
      go_wp2
      go_round
      case rel => exact ⟨1 + 1, by omega, rfl, hide ((unhide h3).keep (Upd.drew1 _)), hide ((unhide h6).keep (Upd.drew1 _)), hide ((unhide h7).keep (Upd.drew1 _)), hide (below_drewN (unhide hB) 1)⟩
      case measure => simp [intOf]
    · subst h
      have hCv := hide (unhide hCl z)
      have hw : IntKind.i64.wrap (clipF z - B) = clipF z - B := by simp [IntKind.wrap, IntKind.bits, IntKind.signed]; omega
      have q1 : decide (clipF z - B < -2) = false := by simp; omega
      have q2 : decide (2 < clipF z - B) = false := by simp; omega
      have a0 := (unhide h6).1.2 2 _ rfl
      have b0 := (unhide h7).1.2 2 _ rfl
      go_wp2_with fail
      refine wp_region_still_lit (by kernel_rfl) (by kernel_rfl) ?_
      iterate 4 still_step
      still_call (unhide hCv _)
      iterate 6 still_step
      refine wpStill_nil ?_
      go_wp2
      go_round
      case rel => exact ⟨2 + 1, by omega, rfl, hide ((unhide h3).keep (Upd.drew1 _)), hide ((unhide h6).keep (Upd.drew1 _)), hide ((unhide h7).keep (Upd.drew1 _)), hide (below_drewN (unhide hB) 1)⟩
      case measure => simp [intOf]
    · subst h
      have c0 := (unhide h3).1.2 0 _ rfl
      go_wp2_with fail
      refine (unhide hCl x _).mono ?_
      rintro e wz ⟨rfl, rfl⟩
      go_wp2_with fail
      refine (unhide hGi _).mono ?_
      rintro e wy ⟨rfl, hx⟩
      replace hB := hide (below_upd (unhide hB) hx (Nat.le_refl _) (.inr (Nat.le_refl _)))
      replace hB := hide ((unhide hB).alloc (unhide hB).size (.cells #[.int .i64 (clipF x), .int .i64 128, .int .i64 128] 24))
      clear hx h3 h6 h7 c0
      go_wp2
      go_ret
      exact ⟨rfl, unhide hB⟩
theorem lawFnColours (ad : Option Addr) (cap : Nat) (zs : List Int) (w : World) (hA : ArgY w ad zs) (hR : InB zs) :
    Calls Try.prog 3 #[.slice ad zs.length cap] w fun e w' => e = .returned (.bool true) ∧ Below w.heap.size w w' :=
  lawFnColoursB ad cap zs w (argB_ofY hA hR)
end Go.Proofs.Ytkeplngifceegaa
