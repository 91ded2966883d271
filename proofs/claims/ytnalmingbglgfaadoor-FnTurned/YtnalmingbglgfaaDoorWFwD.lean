/- The program's waves forward and back; the specification's for any list. -/
import Derived.Test.YtnalmingbglgfaaDoorWSqE
import Derived.Test.YtnalmingbglgfaaDoorWQB
import Derived.Test.YtnalmingbglgfaaDoorWFwC
namespace Go.Proofs.YtnalmingbglgfaaDoor
open Go.RowKit
attribute [local go_sem] oneAt oneUpon

theorem mT_sq : sqc mT = sqc (tab (fun p => mZ (p / 8) (p % 8))) := by rw [← mT_tab]
theorem load_sq {w : World} {g : Nat} {xs : List Int} (h : SqAt w g xs) : (loadVar 33 ⟨g, 0, none⟩).run Tryd.prog w = .ok (.agg (sqc xs)) w :=
  run_loadVar_row w g 33 33 (sqc xs) (0, 0) _ h.1 Tryd.underlying33 rfl (by rw [sqc_size, h.2]; exact sizeSq)
theorem setRow_upd {w : World} {g : Nat} (cs : Array Value) : Upd g (g + 1) w (w.setRow g cs) :=
  ⟨rfl, rfl, rfl, by simp [World.setRow], fun k _ hk => setRow_other w g k cs (by omega)⟩
theorem fwd_mid_inR {zs : List Int} (h : BlOk zs) : InR (-1100000) 1100000 (tmul zs (flipL mT) 512 1024) :=
  tmul_inR (K := 32768) (L := 4017) h.1 mT_flip_length (fun j hj => by have := h.2 j hj; omega) (flipL_inR mT_length mT_inR) (by omega) (by omega) (by omega) (by omega)
theorem inv_mid_inR {zs : List Int} (h : BlOk zs) : InR (-1100000) 1100000 (tmul (flipL mT) zs 512 1024) :=
  tmul_inR (K := 4017) (L := 32768) mT_flip_length h.1 (flipL_inR mT_length mT_inR) (fun j hj => by have := h.2 j hj; omega) (by omega) (by omega) (by omega) (by omega)
theorem flipL_length (A : List Int) : (flipL A).length = 64 := by simp [flipL]
theorem tmul_length (A B : List Int) (h d : Int) : (tmul A B h d).length = 64 := by simp [tmul]

set_option maxHeartbeats 4000000 in
theorem specForward (v : Value) (zs : List Int) (w : World) (hn : zs.length ≤ 1048576) (_hR : InI zs) (hv : RdC w v zs) :
    Calls Tryd.prog 10 #[v] w fun e w' => ∃ u, e = .returned u ∧ OwnI w' w.heap.size w'.heap.size u (forwardF zs) ∧ Upd 0 0 w w' := by
  obtain ⟨ad, cap, rfl, _, _, hA⟩ := hv
  have hB := hide (specL8Block ad cap zs w hn hA)
  by_cases h1 : BlOk zs
  case neg =>
    rw [blB_no h1] at hB
    have hE : forwardF zs = [] := by unfold forwardF; rw [blB_no h1]; rfl
    rw [hE]
    clear h1 hE
    go_enter Tryd.func10, Tryd.ntmps10
    go_wp2_with fail
    refine (unhide hB).mono ?_
    rintro e w1 ⟨rfl, hu⟩
    replace hu := hide hu
    clear hB
    go_wp2
    go_ret
    exact ⟨_, rfl, own_nilI _ _ _, unhide hu⟩
  rw [blB_yes h1] at hB
  have hE : forwardF zs = fwdL zs := by unfold forwardF; rw [blB_yes h1]; rfl
  rw [hE]
  have hC := hide (fun X (h : ArgI X ad zs) => specL8Forward ad cap zs X h1 h)
  clear h1 hE
  go_enter Tryd.func10, Tryd.ntmps10
  go_wp2_with fail
  refine (unhide hB).mono ?_
  rintro e w1 ⟨rfl, hu⟩
  have hC1 := hide (unhide hC w1 (hA.below hu.none))
  replace hu := hide hu
  clear hB hC
  go_wp2_with fail
  refine (unhide hC1).mono ?_
  rintro e w3 ⟨v, rfl, ho, hu3⟩
  have ho' := hide (own_mono ho (unhide hu).size (Nat.le_refl _))
  replace hu := hide ((unhide hu).trans hu3)
  clear hC1 hu3 ho
  obtain ⟨a, c, rfl, _⟩ := readK_of_own (unhide ho')
  go_wp2
  go_ret
  exact ⟨_, rfl, unhide ho', unhide hu⟩
set_option maxHeartbeats 4000000 in
theorem specInverse (v : Value) (zs : List Int) (w : World) (hn : zs.length ≤ 1048576) (_hR : InI zs) (hv : RdC w v zs) :
    Calls Tryd.prog 16 #[v] w fun e w' => ∃ u, e = .returned u ∧ OwnI w' w.heap.size w'.heap.size u (inverseF zs) ∧ Upd 0 0 w w' := by
  obtain ⟨ad, cap, rfl, _, _, hA⟩ := hv
  have hB := hide (specL8Block ad cap zs w hn hA)
  by_cases h1 : BlOk zs
  case neg =>
    rw [blB_no h1] at hB
    have hE : inverseF zs = [] := by unfold inverseF; rw [blB_no h1]; rfl
    rw [hE]
    clear h1 hE
    go_enter Tryd.func16, Tryd.ntmps16
    go_wp2_with fail
    refine (unhide hB).mono ?_
    rintro e w1 ⟨rfl, hu⟩
    replace hu := hide hu
    clear hB
    go_wp2
    go_ret
    exact ⟨_, rfl, own_nilI _ _ _, unhide hu⟩
  rw [blB_yes h1] at hB
  have hE : inverseF zs = invL zs := by unfold inverseF; rw [blB_yes h1]; rfl
  rw [hE]
  have hC := hide (fun X (h : ArgI X ad zs) => specL8Inverse ad cap zs X h1 h)
  clear h1 hE
  go_enter Tryd.func16, Tryd.ntmps16
  go_wp2_with fail
  refine (unhide hB).mono ?_
  rintro e w1 ⟨rfl, hu⟩
  have hC1 := hide (unhide hC w1 (hA.below hu.none))
  replace hu := hide hu
  clear hB hC
  go_wp2_with fail
  refine (unhide hC1).mono ?_
  rintro e w3 ⟨v, rfl, ho, hu3⟩
  have ho' := hide (own_mono ho (unhide hu).size (Nat.le_refl _))
  replace hu := hide ((unhide hu).trans hu3)
  clear hC1 hu3 ho
  obtain ⟨a, c, rfl, _⟩ := readK_of_own (unhide ho')
  go_wp2
  go_ret
  exact ⟨_, rfl, unhide ho', unhide hu⟩
set_option maxHeartbeats 16000000 in
set_option maxRecDepth 1000000 in
theorem implForward (v : Value) (zs : List Int) (w : World) (hTb : Held w 0 [.int .i64 2896, .int .i64 4017, .int .i64 3784, .int .i64 3406, .int .i64 2896, .int .i64 2276, .int .i64 1567, .int .i64 799]) (hn : zs.length ≤ 1048576) (_hR : InI zs) (hv : RdC w v zs) :
    Calls Tryd.prog 8 #[v] w fun e w' => ∃ u, e = .returned u ∧ OwnI w' w.heap.size w'.heap.size u (forwardF zs) ∧ Upd 0 0 w w' := by
  obtain ⟨ad, cap, rfl, hcap, hcap2, hA⟩ := hv
  have hB := hide (implGoodBlock ad cap zs w hn hA)
  by_cases h1 : BlOk zs
  case neg =>
    rw [blB_no h1] at hB
    have hE : forwardF zs = [] := by unfold forwardF; rw [blB_no h1]; rfl
    rw [hE]
    clear h1 hE hTb
    go_enter Tryd.func8, Tryd.ntmps8
    go_wp2_with fail
    refine (unhide hB).mono ?_
    rintro e w1 ⟨rfl, hu⟩
    replace hu := hide hu
    clear hB
    go_wp2
    go_ret
    exact ⟨_, rfl, own_nilI _ _ _, unhide hu⟩
  rw [blB_yes h1] at hB
  have hE : forwardF zs = tmul mT (tmul zs (flipL mT) 512 1024) 32768 65536 := by unfold forwardF; rw [blB_yes h1]; rfl
  rw [hE]
  clear hE
  obtain ⟨hl, hbd⟩ := h1
  have hQ := hide (fun X (h : ArgI X ad zs) => implSquareOf ad cap zs X hl (by omega) hcap2 h)
  have hFl := hide (fun X => implFlipped mT X mT_length)
  have hT10 := hide (fun X => implTimes10 zs (flipL mT) 32768 4017 131629056 X hl (flipL_length _) (fun j hj => by have := hbd j hj; omega) (flipL_inR mT_length mT_inR) (by omega) (by omega) (by omega))
  have hT16 := hide (fun X => implTimes16 mT (tmul zs (flipL mT) 512 1024) 4017 1100000 4418700000 X mT_length (tmul_length _ _ _ _) mT_inR (fwd_mid_inR ⟨hl, hbd⟩) (by omega) (by omega) (by omega))
  have hMl : Hid ((tmul zs (flipL mT) 512 1024).length = 64) := hide (tmul_length _ _ _ _)
  have hMs : (sqc (tmul zs (flipL mT) 512 1024)).size = 64 := by rw [sqc_size]; exact tmul_length _ _ _ _
  have hTs : (sqc mT).size = 64 := by rw [sqc_size]; exact mT_length
  have hLs := hide (fun X => implList (tmulZ mT (tmul zs (flipL mT) 512 1024) 32768 65536) X)
  change Hid (∀ X, Calls Tryd.prog 23 #[.agg (sqc (tmul mT (tmul zs (flipL mT) 512 1024) 32768 65536))] X fun e w' => ∃ v, e = .returned v ∧ OwnI w' X.heap.size w'.heap.size v (tmul mT (tmul zs (flipL mT) 512 1024) 32768 65536) ∧ Upd 0 0 X w') at hLs
  generalize tmul mT (tmul zs (flipL mT) 512 1024) 32768 65536 = res at hT16 hLs ⊢
  generalize (tmul zs (flipL mT) 512 1024) = mid at hT10 hT16 hMl hMs
  rw [hl] at hB ⊢
  replace hA := hide hA
  clear hbd hn hcap hcap2
  have hz := zeroSq
  go_enter Tryd.func8, Tryd.ntmps8
  go_wp2_with fail
  refine (unhide hB).mono ?_
  rintro e w1 ⟨rfl, hu⟩
  have hM1 := hide (implWaveMatrix w1 (hTb.keep hu))
  replace hA := hide ((unhide hA).below hu.none)
  replace hu := hide hu
  clear hB hTb
  go_wp2_with fail
  refine (unhide hM1).mono ?_
  rintro e w2 ⟨rfl, hu2⟩
  replace hA := hide ((unhide hA).below hu2.none)
  replace hu := hide ((unhide hu).trans hu2)
  have hu2s := hide ((unhide hu).size)
  clear hu2 hM1
  have hst := run_storeCells_new (P := Tryd.prog) w2 33 (sqc zq) (sqc mT) (by rw [sqc_size, mT_length]; exact sizeSq) (by rw [sqc_size, sqc_size]; rfl) (sqc_one _)
  have hWv := hide (sqAt_new w2 mT mT_length)
  have hu3 := Upd.of_below ((Below.refl w2.heap.size w2).alloc (Nat.le_refl _) (.cells (sqc mT) 33)) 0 0
  replace hA := hide ((unhide hA).below hu3.none)
  replace hu := hide ((unhide hu).trans hu3)
  have hw2 : w.heap.size ≤ w2.heap.size := unhide hu2s
  clear hu3
  go_upto_region 4 with fail
  generalize w2.alloc (.cells (sqc mT) 33) = w3 at hA hWv hu ⊢
  clear hst
  obtain ⟨N2, hN2⟩ : ∃ N2, w2.heap.size = N2 := ⟨_, rfl⟩
  rw [hN2] at hWv ⊢
  clear hN2 hw2 hu2s
  have hld := fun x : UpdT w3 => load_sq ((unhide hWv).keep x.upd)
  refine wp_region_float (zs := ints zq) (t := 33) 5 6 (by kernel_rfl) (by kernel_rfl) (by kernel_rfl) (by rfl) (by intro a w; go_simp; rfl) ?_
  simp only [List.take_succ_cons, List.take_zero, List.drop_succ_cons, List.drop_zero, List.cons_append, List.nil_append, List.drop_nil]
  refine WG.step (fun K hK => ?_)
  go_simp
  refine hK _ ?_
  clear hK K
  refine WG.step (fun K hK => ?_)
  go_simp
  refine ⟨_, fun x => unhide hQ x.to ((unhide hA).below x.upd.none), hK _ ?_⟩
  clear hK K
  refine WG.load_var rfl 33 (.tmp 3) rfl ⟨N2, 0, none⟩ rfl _ hld ?_
  refine WG.step (fun K hK => ?_)
  go_simp
  refine ⟨_, fun x => unhide hFl x.to, hK _ ?_⟩
  clear hK K
  refine WG.step (fun K hK => ?_)
  go_simp
  refine ⟨_, fun x => unhide hT10 x.to, hK _ ?_⟩
  clear hK K
  refine WG.nil ?_
  intro w4 c5 hu4 hc1 hc2 hrow
  refine wpList_store_row rfl 33 (.tmp 4) (.tmp 13) rfl c5 (sqc mid) rfl rfl 33 (sqc zq) hrow (by rw [sqc_size, unhide hMl]; exact sizeSq) (by rw [sqc_size, sqc_size, unhide hMl]; rfl) (sqc_one _) ?_
  have hMd : Hid (SqAt (w4.setRow c5 (sqc mid)) c5 mid) := hide ⟨setRow_heap w4 _ _ _ _ _ hrow, unhide hMl⟩
  have hN2 : N2 < w3.heap.size := (unhide hWv).lt
  replace hWv := hide (((unhide hWv).keep hu4).upd (setRow_upd (w := w4) (g := c5) (sqc mid)) (.inl (by omega)))
  have h4 := (unhide hu).trans hu4
  have hws := (unhide hu).size
  replace hu := hide (⟨h4.os, h4.tape, h4.output, by have := h4.size; simpa [World.setRow] using this, fun k hk hn => (setRow_other w4 c5 k (sqc mid) (by omega)).trans (h4.block k hk hn)⟩ : Upd 0 0 w (w4.setRow c5 (sqc mid)))
  clear h4 hws
  clear hld hz hrow hu4
  generalize w4.setRow c5 (sqc mid) = w5 at hMd hWv hu ⊢
  go_upto_region 5 with fail
  refine wp_region_lit ?_
  refine wpList_load_row rfl 33 (.tmp 3) rfl N2 rfl 33 (sqc mT) (0, 0) _ (unhide hWv).1 Tryd.underlying33 rfl (by rw [sqc_size, mT_length]; exact sizeSq) ?_
  refine wpList_load_row rfl 33 (.tmp 4) rfl c5 rfl 33 (sqc mid) (0, 0) _ (unhide hMd).1 Tryd.underlying33 rfl (by rw [sqc_size, (unhide hMl)]; exact sizeSq) ?_
  clear hWv hMd
  go_wp2_with fail
  refine (unhide hT16 w5).mono ?_
  rintro e w6 ⟨rfl, hu6⟩
  replace hu := hide ((unhide hu).trans hu6)
  clear hu6
  go_wp2_with fail
  refine (unhide hLs w6).mono ?_
  rintro e w7 ⟨u, rfl, ho, hu7⟩
  have ho' := hide (own_mono ho (unhide hu).size (Nat.le_refl _))
  replace hu := hide ((unhide hu).trans hu7)
  clear ho hu7
  obtain ⟨a', c', rfl, _⟩ := readK_of_own (unhide ho')
  go_wp2
  go_ret
  exact ⟨_, rfl, unhide ho', unhide hu⟩
set_option maxHeartbeats 16000000 in
set_option maxRecDepth 1000000 in
theorem implInverse (v : Value) (zs : List Int) (w : World) (hTb : Held w 0 [.int .i64 2896, .int .i64 4017, .int .i64 3784, .int .i64 3406, .int .i64 2896, .int .i64 2276, .int .i64 1567, .int .i64 799]) (hn : zs.length ≤ 1048576) (_hR : InI zs) (hv : RdC w v zs) :
    Calls Tryd.prog 11 #[v] w fun e w' => ∃ u, e = .returned u ∧ OwnI w' w.heap.size w'.heap.size u (inverseF zs) ∧ Upd 0 0 w w' := by
  obtain ⟨ad, cap, rfl, hcap, hcap2, hA⟩ := hv
  have hB := hide (implGoodBlock ad cap zs w hn hA)
  by_cases h1 : BlOk zs
  case neg =>
    rw [blB_no h1] at hB
    have hE : inverseF zs = [] := by unfold inverseF; rw [blB_no h1]; rfl
    rw [hE]
    clear h1 hE hTb
    go_enter Tryd.func11, Tryd.ntmps11
    go_wp2_with fail
    refine (unhide hB).mono ?_
    rintro e w1 ⟨rfl, hu⟩
    replace hu := hide hu
    clear hB
    go_wp2
    go_ret
    exact ⟨_, rfl, own_nilI _ _ _, unhide hu⟩
  rw [blB_yes h1] at hB
  have hE : inverseF zs = tmul (tmul (flipL mT) zs 512 1024) mT 32768 65536 := by unfold inverseF; rw [blB_yes h1]; rfl
  rw [hE]
  clear hE
  obtain ⟨hl, hbd⟩ := h1
  have hQ := hide (fun X (h : ArgI X ad zs) => implSquareOf ad cap zs X hl (by omega) hcap2 h)
  have hFl := hide (fun X => implFlipped mT X mT_length)
  have hT10 := hide (fun X => implTimes10 (flipL mT) zs 4017 32768 131629056 X (flipL_length _) hl (flipL_inR mT_length mT_inR) (fun j hj => by have := hbd j hj; omega) (by omega) (by omega) (by omega))
  have hT16 := hide (fun X => implTimes16 (tmul (flipL mT) zs 512 1024) mT 1100000 4017 4418700000 X (tmul_length _ _ _ _) mT_length (inv_mid_inR ⟨hl, hbd⟩) mT_inR (by omega) (by omega) (by omega))
  have hMl : Hid ((tmul (flipL mT) zs 512 1024).length = 64) := hide (tmul_length _ _ _ _)
  have hMs : (sqc (tmul (flipL mT) zs 512 1024)).size = 64 := by rw [sqc_size]; exact tmul_length _ _ _ _
  have hTs : (sqc mT).size = 64 := by rw [sqc_size]; exact mT_length
  have hLs := hide (fun X => implList (tmulZ (tmul (flipL mT) zs 512 1024) mT 32768 65536) X)
  change Hid (∀ X, Calls Tryd.prog 23 #[.agg (sqc (tmul (tmul (flipL mT) zs 512 1024) mT 32768 65536))] X fun e w' => ∃ v, e = .returned v ∧ OwnI w' X.heap.size w'.heap.size v (tmul (tmul (flipL mT) zs 512 1024) mT 32768 65536) ∧ Upd 0 0 X w') at hLs
  generalize tmul (tmul (flipL mT) zs 512 1024) mT 32768 65536 = res at hT16 hLs ⊢
  generalize (tmul (flipL mT) zs 512 1024) = mid at hT10 hT16 hMl hMs
  rw [hl] at hB ⊢
  replace hA := hide hA
  clear hbd hn hcap hcap2
  have hz := zeroSq
  go_enter Tryd.func11, Tryd.ntmps11
  go_wp2_with fail
  refine (unhide hB).mono ?_
  rintro e w1 ⟨rfl, hu⟩
  have hM1 := hide (implWaveMatrix w1 (hTb.keep hu))
  replace hA := hide ((unhide hA).below hu.none)
  replace hu := hide hu
  clear hB hTb
  go_wp2_with fail
  refine (unhide hM1).mono ?_
  rintro e w2 ⟨rfl, hu2⟩
  replace hA := hide ((unhide hA).below hu2.none)
  replace hu := hide ((unhide hu).trans hu2)
  have hu2s := hide ((unhide hu).size)
  clear hu2 hM1
  have hst := run_storeCells_new (P := Tryd.prog) w2 33 (sqc zq) (sqc mT) (by rw [sqc_size, mT_length]; exact sizeSq) (by rw [sqc_size, sqc_size]; rfl) (sqc_one _)
  have hWv := hide (sqAt_new w2 mT mT_length)
  have hu3 := Upd.of_below ((Below.refl w2.heap.size w2).alloc (Nat.le_refl _) (.cells (sqc mT) 33)) 0 0
  replace hA := hide ((unhide hA).below hu3.none)
  replace hu := hide ((unhide hu).trans hu3)
  have hw2 : w.heap.size ≤ w2.heap.size := unhide hu2s
  clear hu3
  go_upto_region 4 with fail
  generalize w2.alloc (.cells (sqc mT) 33) = w3 at hA hWv hu ⊢
  clear hst
  obtain ⟨N2, hN2⟩ : ∃ N2, w2.heap.size = N2 := ⟨_, rfl⟩
  rw [hN2] at hWv ⊢
  clear hN2 hw2 hu2s
  refine wp_region_lit ?_
  refine wpList_load_row rfl 33 (.tmp 3) rfl N2 rfl 33 (sqc mT) (0, 0) _ (unhide hWv).1 Tryd.underlying33 rfl (by rw [sqc_size, mT_length]; exact sizeSq) ?_
  go_wp2_with fail
  refine (unhide hFl w3).mono ?_
  rintro e wa ⟨rfl, hua⟩
  replace hA := hide ((unhide hA).below hua.none)
  replace hWv := hide ((unhide hWv).keep hua)
  replace hu := hide ((unhide hu).trans hua)
  clear hua
  go_wp2_with fail
  refine (unhide hQ wa (unhide hA)).mono ?_
  rintro e wb ⟨rfl, hub⟩
  replace hWv := hide ((unhide hWv).keep hub)
  replace hu := hide ((unhide hu).trans hub)
  clear hub hA
  go_wp2_with fail
  refine (unhide hT10 wb).mono ?_
  rintro e w4 ⟨rfl, hu4⟩
  replace hWv := hide ((unhide hWv).keep hu4)
  replace hu := hide ((unhide hu).trans hu4)
  clear hu4
  have hst := run_storeCells_new (P := Tryd.prog) w4 33 (sqc zq) (sqc mid) (by rw [sqc_size, unhide hMl]; exact sizeSq) (by rw [sqc_size, sqc_size, unhide hMl]; rfl) (sqc_one _)
  have hMd := hide (sqAt_new w4 mid (unhide hMl))
  have hu5 := Upd.of_below ((Below.refl w4.heap.size w4).alloc (Nat.le_refl _) (.cells (sqc mid) 33)) 0 0
  replace hWv := hide ((unhide hWv).keep hu5)
  replace hu := hide ((unhide hu).trans hu5)
  clear hu5
  go_upto_region 5 with fail
  generalize w4.alloc (.cells (sqc mid) 33) = w5 at hMd hWv hu ⊢
  clear hst hz
  obtain ⟨c5, hc5⟩ : ∃ c5, w4.heap.size = c5 := ⟨_, rfl⟩
  rw [hc5] at hMd ⊢
  clear hc5
  skip
  refine wp_region_lit ?_
  refine wpList_load_row rfl 33 (.tmp 4) rfl c5 rfl 33 (sqc mid) (0, 0) _ (unhide hMd).1 Tryd.underlying33 rfl (by rw [sqc_size, (unhide hMl)]; exact sizeSq) ?_
  refine wpList_load_row rfl 33 (.tmp 3) rfl N2 rfl 33 (sqc mT) (0, 0) _ (unhide hWv).1 Tryd.underlying33 rfl (by rw [sqc_size, mT_length]; exact sizeSq) ?_
  clear hWv hMd
  go_wp2_with fail
  refine (unhide hT16 w5).mono ?_
  rintro e w6 ⟨rfl, hu6⟩
  replace hu := hide ((unhide hu).trans hu6)
  clear hu6
  go_wp2_with fail
  refine (unhide hLs w6).mono ?_
  rintro e w7 ⟨u, rfl, ho, hu7⟩
  have ho' := hide (own_mono ho (unhide hu).size (Nat.le_refl _))
  replace hu := hide ((unhide hu).trans hu7)
  clear ho hu7
  obtain ⟨a', c', rfl, _⟩ := readK_of_own (unhide ho')
  go_wp2
  go_ret
  exact ⟨_, rfl, unhide ho', unhide hu⟩
end Go.Proofs.YtnalmingbglgfaaDoor
