/- Coarse and fine small blocks: both sides. -/
import Derived.Test.YtpofmcepjmbmcaaDoorWSkC
import Derived.Test.YtpofmcepjmbmcaaDoorWSkD
import Derived.Test.YtpofmcepjmbmcaaDoorWRowI
namespace Go.Proofs.YtpofmcepjmbmcaaDoor
open Go.RowKit

/-- The program's answer under way. -/
structure ScSt (W wr : World) (ys : List Int) : Prop where
  out : RowI wr W.heap.size 16 (ints ys)
  bel : Below W.heap.size W wr
theorem ScSt.upd {W wr wx : World} {ys : List Int} (h : ScSt W wr ys) (u : Upd 0 0 wr wx) : ScSt W wx ys :=
  ⟨h.out.keep u, below_upd h.bel u (Nat.le_refl _) (.inr (Nat.zero_le _))⟩
theorem ScSt.put {W wr : World} {ys : List Int} (h : ScSt W wr ys) (k : Nat) (x : Int) : ScSt W (wr.setCell ⟨W.heap.size, k, none⟩ (.int .i64 x)) (ys.set k x) :=
  ⟨by have := h.out.set k (.int .i64 x); rw [show (ints ys).set k (.int .i64 x) = ints (ys.set k x) by unfold ints; rw [List.map_set]] at this; exact this, h.bel.setCell (p := ⟨W.heap.size, k, none⟩) (Nat.le_refl _) _⟩
theorem implGoodStep (s : Int) (w : World) : Calls Tryd.prog 100 #[.int .i64 s] w fun e w' => e = .returned (.bool (stB s)) ∧ w' = w := by
  by_cases h0 : 0 ≤ s
  · by_cases h1 : s ≤ 40
    · have hE : Hid (stB s = true) := hide (stB_iff.2 ⟨h0, h1⟩)
      go_enter Tryd.func100, Tryd.ntmps100
      go_wp2
      go_ret
      exact ⟨by rw [unhide hE]; rfl, rfl⟩
    · have hE : Hid (stB s = false) := hide (Bool.eq_false_iff.2 (fun h => h1 (stB_iff.1 h).2))
      go_enter Tryd.func100, Tryd.ntmps100
      go_wp2
      go_ret
      exact ⟨by rw [unhide hE]; rfl, rfl⟩
  · have hE : Hid (stB s = false) := hide (Bool.eq_false_iff.2 (fun h => h0 (stB_iff.1 h).1))
    go_enter Tryd.func100, Tryd.ntmps100
    go_wp2
    go_ret
    exact ⟨by rw [unhide hE]; rfl, rfl⟩
set_option maxHeartbeats 16000000 in
set_option maxRecDepth 100000 in
theorem implSmallScaledCoarse (ad : Option Addr) (cap : Nat) (zs : List Int) (s : Int) (w : World) (hn : zs.length ≤ 1048576) (hA : ArgI w ad zs) (hTb : Held w 0 (ints coT)) :
    Calls Tryd.prog 66 #[.slice ad zs.length cap, .int .i64 s, .func (.func 67) #[] #[]] w fun e w' => ∃ v, e = .returned v ∧ OwnI w' w.heap.size w'.heap.size v (smScaled smCo zs s) ∧ Upd 0 0 w w' := by
  have hB := hide (implGoodSmall ad cap zs w hn hA)
  have hS := hide (fun X => implGoodStep s X)
  by_cases h1 : SmOk zs
  case neg =>
    rw [smB_no h1] at hB
    rw [smScaled_no (fun h => h1 h.1)]
    clear hS h1
    go_enter Tryd.func66, Tryd.ntmps66
    go_wp2_with fail
    refine (unhide hB).mono ?_
    rintro e w1 ⟨rfl, hu⟩
    replace hu := hide hu
    clear hB
    go_wp2
    go_ret
    exact ⟨_, rfl, own_nilI _ _ _, unhide hu⟩
  rw [smB_yes h1] at hB
  by_cases h2 : 0 ≤ s ∧ s ≤ 40
  case neg =>
    rw [show stB s = false from Bool.eq_false_iff.2 (fun h => h2 (stB_iff.1 h))] at hS
    rw [smScaled_no (fun h => h2 h.2)]
    clear h1 h2
    go_enter Tryd.func66, Tryd.ntmps66
    go_wp2_with fail
    refine (unhide hB).mono ?_
    rintro e w1 ⟨rfl, hu⟩
    replace hu := hide hu
    clear hB
    go_wp2_with (go_at_call 100; refine (unhide hS _).mono ?_; rintro e wz ⟨rfl, hwz⟩; subst wz)
    go_ret
    exact ⟨_, rfl, own_nilI _ _ _, unhide hu⟩
  rw [stB_iff.2 h2] at hS
  obtain ⟨o16, hmk⟩ := mkRowI 16 (by omega)
  have hmk1 : ∀ X : World, (Instr.makeSlice 23 (.int .i64 16) (.int .i64 16)).run Tryd.prog X = .ok (.slice (some ⟨X.heap.size, 0, none⟩) 16 16) (X.alloc o16) := fun X => (hmk X).1
  have hE := hide (smScaled_yes (g := smCo) h1 h2)
  have hl := h1.1
  have hz := hide (smOk_inR h1)
  have hZ := hide (fun (x : Int) (p : Nat) (X : World) (hx : -65536 ≤ x ∧ x ≤ 65536) (hp : p < 16) (h : Held X 0 (ints coT)) => implSmallCoarseZ x p s X hx hp h2 h)
  rw [hl] at hB ⊢
  clear h1 h2 hn
  replace hl := hide hl
  replace hA := hide hA
  replace hTb := hide hTb
  go_enter Tryd.func66, Tryd.ntmps66
  go_wp2_with fail
  refine (unhide hB).mono ?_
  rintro e w1 ⟨rfl, hu⟩
  clear hB
  have hA1 := hide ((unhide hA).below hu.none)
  have hTb1 := hide ((unhide hTb).keep hu)
  replace hu := hide hu
  have hN0 : Hid (ScSt w1 (w1.alloc o16) (tab16 (prt (fun p => smCo (zs.getD p 0) p s.toNat) id 0 0))) := hide ⟨by rw [prt_zero]; exact (hmk w1).2, (Below.refl _ w1).alloc (Nat.le_refl _) _⟩
  clear hmk hA hTb
  go_wp2_with (go_at_call 100; refine (unhide hS _).mono ?_; rintro e wz ⟨rfl, hwz⟩; subst wz)
  generalize w1.alloc o16 = w2 at hN0 ⊢
  clear hmk1
  generalize hf : (fun p => smCo (zs.getD p 0) p s.toNat) = f at hN0 hE
  have hF : Hid (∀ p, f p = smCo (zs.getD p 0) p s.toNat) := hide (fun p => by rw [← hf])
  clear hf
  go_loopw [21] (fun i wr => ∃ k : Nat, k ≤ 16 ∧ i = .int .i64 (k : Int) ∧ Hid (ScSt w1 wr (tab16 (prt f id k 0)))) (fun i _ => 16 - (intOf i).toNat)
  case atStart => exact ⟨0, by omega, rfl, hN0⟩
  case round =>
    clear hN0
    obtain ⟨k, hk, rfl, hN⟩ := hrel
    by_cases hklt : k < 16
    · have hkb : decide ((k : Int) < 16) = true := decide_eq_true (by omega)
      obtain ⟨bb, off, hse, hbl, hcl⟩ := (unhide hA1) (ne_of_lt_length (k := 0) (by have := unhide hl; omega))
      have hck : wr.cell? ⟨bb, off + k, none⟩ = some (.int .i64 (zs.getD k 0)) := ((unhide hN).bel.cell (by simpa using hbl)).trans (hcl k (by have := unhide hl; omega))
      subst hse
      have hx := unhide hz k (by have := unhide hl; omega)
      have hFk := unhide hF k
      have hC := hide (unhide hZ (zs.getD k 0) k wr hx hklt ((unhide hTb1).keep (Upd.of_below (unhide hN).bel 0 0)))
      generalize smCo (zs.getD k 0) k s.toNat = y at hFk hC
      generalize zs.getD k 0 = x at hck hC hx
      have k0 : (0 : Int) ≤ (k : Int) := by omega
      have k1 : (k : Int) < 16 := by omega
      have hset := prt_set f id k 0 y k hklt rfl (fun _ _ e => e)
      have hnext := prt_next f id k y (fun i _ e => by have e2 : i = k := e; rw [e2]; exact hFk)
      clear hcl hbl hFk hx
      go_wp2_with fail
      refine (unhide hC).mono ?_
      rintro e w3 ⟨rfl, hu3⟩
      have hN3 := (unhide hN).upd hu3
      have hput := hide (hN3.put k y)
      rw [hset, hnext] at hput
      obtain ⟨old, hdst⟩ := hN3.out.has k hklt
      have hfz := hN3.out.frozen k
      clear hN hN3 hC hu3 hset hnext
      go_wp2_with fail
      go_roundw
      case rel => exact ⟨k + 1, by omega, by go_num, hput⟩
      case measure => simp [intOf]; omega
    · obtain rfl : k = 16 := by omega
      have hN2 := unhide hN
      rw [prt_done f id (fun k hk => hk)] at hN2
      have hlt := hN2.out.lt
      have hO2 : Hid (OwnI wr w.heap.size wr.heap.size (.slice (some ⟨w1.heap.size, 0, none⟩) 16 16) (tab16 f)) := hide (by
        have h := own_mono hN2.out.own (unhide hu).size (Nat.succ_le_of_lt hlt)
        unfold OwnI
        rw [tab16_length]
        exact h)
      have hU := hide ((unhide hu).trans (Upd.of_below hN2.bel 0 0))
      clear hN2 hN hlt
      go_wp2
      go_ret
      exact ⟨_, rfl, by rw [unhide hE]; exact unhide hO2, unhide hU⟩
theorem implSmallCoarse (v0 : Value) (zs : List Int) (s : Int) (w : World) (hTb : Held w 0 (ints coT)) (hn : zs.length ≤ 1048576) (_hR : InI zs) (hv : RdI w v0 zs) (_hl : -9223372036854775808 ≤ s) (_hh : s ≤ 9223372036854775807) :
    Calls Tryd.prog 25 #[v0, .int .i64 s] w fun e w' => ∃ v, e = .returned v ∧ OwnI w' w.heap.size w'.heap.size v (smScaled smCo zs s) ∧ Upd 0 0 w w' := by
  obtain ⟨ad, cap, rfl, hA⟩ := hv
  have hS := hide (implSmallScaledCoarse ad cap zs s w hn hA hTb)
  clear hA hTb
  go_enter Tryd.func25, Tryd.ntmps25
  go_wp2_with fail
  refine (unhide hS).mono ?_
  rintro e w3 ⟨v, rfl, ho, hu⟩
  clear hS
  obtain ⟨a, c, rfl, _⟩ := readK_of_own ho
  replace ho := hide ho
  replace hu := hide hu
  go_wp2
  go_ret
  exact ⟨_, rfl, unhide ho, unhide hu⟩
theorem specSmallCoarse (v0 : Value) (zs : List Int) (s : Int) (w : World) (hn : zs.length ≤ 1048576) (_hR : InI zs) (hv : RdI w v0 zs) (_hl : -9223372036854775808 ≤ s) (_hh : s ≤ 9223372036854775807) :
    Calls Tryd.prog 27 #[v0, .int .i64 s] w fun e w' => ∃ v, e = .returned v ∧ OwnI w' w.heap.size w'.heap.size v (smScaled smCo zs s) ∧ Upd 0 0 w w' := by
  obtain ⟨ad, cap, rfl, hA⟩ := hv
  have hB := hide (specL13Small ad cap zs w hn hA)
  by_cases h1 : SmOk zs
  case neg =>
    rw [smB_no h1] at hB
    rw [smScaled_no (fun h => h1 h.1)]
    clear h1
    go_enter Tryd.func27, Tryd.ntmps27
    go_wp2_with fail
    refine (unhide hB).mono ?_
    rintro e w1 ⟨rfl, hw⟩
    subst hw
    clear hB
    go_wp2
    go_ret
    exact ⟨_, rfl, own_nilI _ _ _, Upd.refl 0 0 _⟩
  rw [smB_yes h1] at hB
  by_cases h2 : 0 ≤ s ∧ s ≤ 40
  case neg =>
    rw [smScaled_no (fun h => h2 h.2)]
    clear h1
    by_cases h3 : s < 0
    · go_enter Tryd.func27, Tryd.ntmps27
      go_wp2_with fail
      refine (unhide hB).mono ?_
      rintro e w1 ⟨rfl, hw⟩
      subst hw
      clear hB
      go_wp2
      go_ret
      exact ⟨_, rfl, own_nilI _ _ _, Upd.refl 0 0 _⟩
    · have h4 : 40 < s := by omega
      replace h2 := hide h2
      go_enter Tryd.func27, Tryd.ntmps27
      go_wp2_with fail
      refine (unhide hB).mono ?_
      rintro e w1 ⟨rfl, hw⟩
      subst hw
      clear hB
      go_wp2
      go_ret
      exact ⟨_, rfl, own_nilI _ _ _, Upd.refl 0 0 _⟩
  have hE := hide (smScaled_yes (g := smCo) h1 h2)
  have hC := hide (specL13Coarse ad cap zs s w h1.1 (smOk_inR h1) h2 hA)
  rw [h1.1] at hB ⊢
  obtain ⟨s0, s1⟩ := h2
  clear h1
  go_enter Tryd.func27, Tryd.ntmps27
  go_wp2_with fail
  refine (unhide hB).mono ?_
  rintro e w1 ⟨rfl, hw⟩
  subst hw
  clear hB
  go_wp2_with fail
  refine (unhide hC).mono ?_
  rintro e w3 ⟨u, rfl, ho, hu3⟩
  replace hu := hide hu3
  replace ho := hide ho
  clear hC
  obtain ⟨a, c, rfl, _⟩ := readK_of_own (unhide ho)
  go_wp2
  go_ret
  exact ⟨_, rfl, by rw [unhide hE]; exact unhide ho, unhide hu⟩
set_option maxHeartbeats 16000000 in
set_option maxRecDepth 100000 in
theorem implSmallScaledFine (ad : Option Addr) (cap : Nat) (zs : List Int) (s : Int) (w : World) (hn : zs.length ≤ 1048576) (hA : ArgI w ad zs) (hTb : Held w 2 (ints fiT)) :
    Calls Tryd.prog 66 #[.slice ad zs.length cap, .int .i64 s, .func (.func 78) #[] #[]] w fun e w' => ∃ v, e = .returned v ∧ OwnI w' w.heap.size w'.heap.size v (smScaled smFi zs s) ∧ Upd 0 0 w w' := by
  have hB := hide (implGoodSmall ad cap zs w hn hA)
  have hS := hide (fun X => implGoodStep s X)
  by_cases h1 : SmOk zs
  case neg =>
    rw [smB_no h1] at hB
    rw [smScaled_no (fun h => h1 h.1)]
    clear hS h1
    go_enter Tryd.func66, Tryd.ntmps66
    go_wp2_with fail
    refine (unhide hB).mono ?_
    rintro e w1 ⟨rfl, hu⟩
    replace hu := hide hu
    clear hB
    go_wp2
    go_ret
    exact ⟨_, rfl, own_nilI _ _ _, unhide hu⟩
  rw [smB_yes h1] at hB
  by_cases h2 : 0 ≤ s ∧ s ≤ 40
  case neg =>
    rw [show stB s = false from Bool.eq_false_iff.2 (fun h => h2 (stB_iff.1 h))] at hS
    rw [smScaled_no (fun h => h2 h.2)]
    clear h1 h2
    go_enter Tryd.func66, Tryd.ntmps66
    go_wp2_with fail
    refine (unhide hB).mono ?_
    rintro e w1 ⟨rfl, hu⟩
    replace hu := hide hu
    clear hB
    go_wp2_with (go_at_call 100; refine (unhide hS _).mono ?_; rintro e wz ⟨rfl, hwz⟩; subst wz)
    go_ret
    exact ⟨_, rfl, own_nilI _ _ _, unhide hu⟩
  rw [stB_iff.2 h2] at hS
  obtain ⟨o16, hmk⟩ := mkRowI 16 (by omega)
  have hmk1 : ∀ X : World, (Instr.makeSlice 23 (.int .i64 16) (.int .i64 16)).run Tryd.prog X = .ok (.slice (some ⟨X.heap.size, 0, none⟩) 16 16) (X.alloc o16) := fun X => (hmk X).1
  have hE := hide (smScaled_yes (g := smFi) h1 h2)
  have hl := h1.1
  have hz := hide (smOk_inR h1)
  have hZ := hide (fun (x : Int) (p : Nat) (X : World) (hx : -65536 ≤ x ∧ x ≤ 65536) (hp : p < 16) (h : Held X 2 (ints fiT)) => implSmallFineZ x p s X hx hp h2 h)
  rw [hl] at hB ⊢
  clear h1 h2 hn
  replace hl := hide hl
  replace hA := hide hA
  replace hTb := hide hTb
  go_enter Tryd.func66, Tryd.ntmps66
  go_wp2_with fail
  refine (unhide hB).mono ?_
  rintro e w1 ⟨rfl, hu⟩
  clear hB
  have hA1 := hide ((unhide hA).below hu.none)
  have hTb1 := hide ((unhide hTb).keep hu)
  replace hu := hide hu
  have hN0 : Hid (ScSt w1 (w1.alloc o16) (tab16 (prt (fun p => smFi (zs.getD p 0) p s.toNat) id 0 0))) := hide ⟨by rw [prt_zero]; exact (hmk w1).2, (Below.refl _ w1).alloc (Nat.le_refl _) _⟩
  clear hmk hA hTb
  go_wp2_with (go_at_call 100; refine (unhide hS _).mono ?_; rintro e wz ⟨rfl, hwz⟩; subst wz)
  generalize w1.alloc o16 = w2 at hN0 ⊢
  clear hmk1
  generalize hf : (fun p => smFi (zs.getD p 0) p s.toNat) = f at hN0 hE
  have hF : Hid (∀ p, f p = smFi (zs.getD p 0) p s.toNat) := hide (fun p => by rw [← hf])
  clear hf
  go_loopw [21] (fun i wr => ∃ k : Nat, k ≤ 16 ∧ i = .int .i64 (k : Int) ∧ Hid (ScSt w1 wr (tab16 (prt f id k 0)))) (fun i _ => 16 - (intOf i).toNat)
  case atStart => exact ⟨0, by omega, rfl, hN0⟩
  case round =>
    clear hN0
    obtain ⟨k, hk, rfl, hN⟩ := hrel
    by_cases hklt : k < 16
    · have hkb : decide ((k : Int) < 16) = true := decide_eq_true (by omega)
      obtain ⟨bb, off, hse, hbl, hcl⟩ := (unhide hA1) (ne_of_lt_length (k := 0) (by have := unhide hl; omega))
      have hck : wr.cell? ⟨bb, off + k, none⟩ = some (.int .i64 (zs.getD k 0)) := ((unhide hN).bel.cell (by simpa using hbl)).trans (hcl k (by have := unhide hl; omega))
      subst hse
      have hx := unhide hz k (by have := unhide hl; omega)
      have hFk := unhide hF k
      have hC := hide (unhide hZ (zs.getD k 0) k wr hx hklt ((unhide hTb1).keep (Upd.of_below (unhide hN).bel 0 0)))
      generalize smFi (zs.getD k 0) k s.toNat = y at hFk hC
      generalize zs.getD k 0 = x at hck hC hx
      have k0 : (0 : Int) ≤ (k : Int) := by omega
      have k1 : (k : Int) < 16 := by omega
      have hset := prt_set f id k 0 y k hklt rfl (fun _ _ e => e)
      have hnext := prt_next f id k y (fun i _ e => by have e2 : i = k := e; rw [e2]; exact hFk)
      clear hcl hbl hFk hx
      go_wp2_with fail
      refine (unhide hC).mono ?_
      rintro e w3 ⟨rfl, hu3⟩
      have hN3 := (unhide hN).upd hu3
      have hput := hide (hN3.put k y)
      rw [hset, hnext] at hput
      obtain ⟨old, hdst⟩ := hN3.out.has k hklt
      have hfz := hN3.out.frozen k
      clear hN hN3 hC hu3 hset hnext
      go_wp2_with fail
      go_roundw
      case rel => exact ⟨k + 1, by omega, by go_num, hput⟩
      case measure => simp [intOf]; omega
    · obtain rfl : k = 16 := by omega
      have hN2 := unhide hN
      rw [prt_done f id (fun k hk => hk)] at hN2
      have hlt := hN2.out.lt
      have hO2 : Hid (OwnI wr w.heap.size wr.heap.size (.slice (some ⟨w1.heap.size, 0, none⟩) 16 16) (tab16 f)) := hide (by
        have h := own_mono hN2.out.own (unhide hu).size (Nat.succ_le_of_lt hlt)
        unfold OwnI
        rw [tab16_length]
        exact h)
      have hU := hide ((unhide hu).trans (Upd.of_below hN2.bel 0 0))
      clear hN2 hN hlt
      go_wp2
      go_ret
      exact ⟨_, rfl, by rw [unhide hE]; exact unhide hO2, unhide hU⟩
theorem implSmallFine (v0 : Value) (zs : List Int) (s : Int) (w : World) (hTb : Held w 2 (ints fiT)) (hn : zs.length ≤ 1048576) (_hR : InI zs) (hv : RdI w v0 zs) (_hl : -9223372036854775808 ≤ s) (_hh : s ≤ 9223372036854775807) :
    Calls Tryd.prog 30 #[v0, .int .i64 s] w fun e w' => ∃ v, e = .returned v ∧ OwnI w' w.heap.size w'.heap.size v (smScaled smFi zs s) ∧ Upd 0 0 w w' := by
  obtain ⟨ad, cap, rfl, hA⟩ := hv
  have hS := hide (implSmallScaledFine ad cap zs s w hn hA hTb)
  clear hA hTb
  go_enter Tryd.func30, Tryd.ntmps30
  go_wp2_with fail
  refine (unhide hS).mono ?_
  rintro e w3 ⟨v, rfl, ho, hu⟩
  clear hS
  obtain ⟨a, c, rfl, _⟩ := readK_of_own ho
  replace ho := hide ho
  replace hu := hide hu
  go_wp2
  go_ret
  exact ⟨_, rfl, unhide ho, unhide hu⟩
theorem specSmallFine (v0 : Value) (zs : List Int) (s : Int) (w : World) (hn : zs.length ≤ 1048576) (_hR : InI zs) (hv : RdI w v0 zs) (_hl : -9223372036854775808 ≤ s) (_hh : s ≤ 9223372036854775807) :
    Calls Tryd.prog 41 #[v0, .int .i64 s] w fun e w' => ∃ v, e = .returned v ∧ OwnI w' w.heap.size w'.heap.size v (smScaled smFi zs s) ∧ Upd 0 0 w w' := by
  obtain ⟨ad, cap, rfl, hA⟩ := hv
  have hB := hide (specL13Small ad cap zs w hn hA)
  by_cases h1 : SmOk zs
  case neg =>
    rw [smB_no h1] at hB
    rw [smScaled_no (fun h => h1 h.1)]
    clear h1
    go_enter Tryd.func41, Tryd.ntmps41
    go_wp2_with fail
    refine (unhide hB).mono ?_
    rintro e w1 ⟨rfl, hw⟩
    subst hw
    clear hB
    go_wp2
    go_ret
    exact ⟨_, rfl, own_nilI _ _ _, Upd.refl 0 0 _⟩
  rw [smB_yes h1] at hB
  by_cases h2 : 0 ≤ s ∧ s ≤ 40
  case neg =>
    rw [smScaled_no (fun h => h2 h.2)]
    clear h1
    by_cases h3 : s < 0
    · go_enter Tryd.func41, Tryd.ntmps41
      go_wp2_with fail
      refine (unhide hB).mono ?_
      rintro e w1 ⟨rfl, hw⟩
      subst hw
      clear hB
      go_wp2
      go_ret
      exact ⟨_, rfl, own_nilI _ _ _, Upd.refl 0 0 _⟩
    · have h4 : 40 < s := by omega
      replace h2 := hide h2
      go_enter Tryd.func41, Tryd.ntmps41
      go_wp2_with fail
      refine (unhide hB).mono ?_
      rintro e w1 ⟨rfl, hw⟩
      subst hw
      clear hB
      go_wp2
      go_ret
      exact ⟨_, rfl, own_nilI _ _ _, Upd.refl 0 0 _⟩
  have hE := hide (smScaled_yes (g := smFi) h1 h2)
  have hC := hide (specL13Fine ad cap zs s w h1.1 (smOk_inR h1) h2 hA)
  rw [h1.1] at hB ⊢
  obtain ⟨s0, s1⟩ := h2
  clear h1
  go_enter Tryd.func41, Tryd.ntmps41
  go_wp2_with fail
  refine (unhide hB).mono ?_
  rintro e w1 ⟨rfl, hw⟩
  subst hw
  clear hB
  go_wp2_with fail
  refine (unhide hC).mono ?_
  rintro e w3 ⟨u, rfl, ho, hu3⟩
  replace hu := hide hu3
  replace ho := hide ho
  clear hC
  obtain ⟨a, c, rfl, _⟩ := readK_of_own (unhide ho)
  go_wp2
  go_ret
  exact ⟨_, rfl, by rw [unhide hE]; exact unhide ho, unhide hu⟩
end Go.Proofs.YtpofmcepjmbmcaaDoor
