/- The texts behind FnSmall, part 2: what each of them says stands at its head. -/
import Derived.Test.YtpofmcepjmbmcaaDoorGSmall1
import Derived.ProofKit
import Derived.OpenShut
import Derived.Test.YtpofmcepjmbmcaaDoorRows
import Derived.Stop.Joined
import Derived.LaidMore
/- Small blocks back: the program's walk. -/
namespace Go.Proofs.YtpofmcepjmbmcaaDoor
open Go.RowKit

theorem implRnd6 (n : Int) (w : World) (h0 : -1152921504606846976 ≤ n) (h1 : n ≤ 1152921504606846976) : Calls Tryd.prog 77 #[.int .i64 n, .int .i64 6] w fun e w' => e = .returned (.int .i64 ((n + 32) / 64)) ∧ w' = w := by
  go_enter Tryd.func77, Tryd.ntmps77
  go_wp2
  go_ret
  exact ⟨rfl, rfl⟩
/-- The first k numbers are f's, the others t's. -/
def mixZ (f t : Nat → Int) (k p : Nat) : Int := if p < k then f p else t p
theorem mix_set (f t : Nat → Int) (k : Nat) (_hk : k < 16) : (tab16 (mixZ f t k)).set k (f k) = tab16 (mixZ f t (k + 1)) := by
  refine List.ext_getElem? (fun i => ?_)
  by_cases hi : i < 16
  · by_cases e : k = i
    · subst e
      rw [List.getElem?_set_self (by simpa using hi)]
      unfold tab16
      rw [List.getElem?_map, List.getElem?_range hi]
      simp [mixZ]
    · rw [List.getElem?_set_ne e]
      unfold tab16
      rw [List.getElem?_map, List.getElem?_map, List.getElem?_range hi]
      simp only [mixZ, Option.map_some]
      by_cases h : i < k
      · rw [if_pos h, if_pos (by omega)]
      · rw [if_neg h, if_neg (by omega)]
  · rw [List.getElem?_eq_none (by simp; omega), List.getElem?_eq_none (by simp; omega)]
theorem mix_zero (f t : Nat → Int) : tab16 (mixZ f t 0) = tab16 t := tab16_congr (fun k _ => by simp [mixZ])
theorem mix_all (f t : Nat → Int) : tab16 (mixZ f t 16) = tab16 f := tab16_congr (fun k hk => by simp [mixZ, hk])
theorem ints_setB (xs : List Int) (k : Nat) (x : Int) : (ints xs).set k (.int .i64 x) = ints (xs.set k x) := by unfold ints; rw [List.map_set]
theorem own_atB {e : TypeId} {s : Nat} {w : World} {a b : Nat} {v : Value} {n : Nat} {xs : List Value} (h : Own e s w a b v n xs) (hn : 0 < n) : ∃ g cp, v = .slice (some ⟨g, 0, none⟩) n cp ∧ a ≤ g ∧ g < b := by
  rcases h.1.2 with ⟨_, h0⟩ | ⟨g, cp, cur, e, h1, _⟩
  · omega
  · exact ⟨g, cp, e, h1, h.2 g (by rw [e]; rfl)⟩
set_option maxHeartbeats 16000000 in
set_option maxRecDepth 100000 in
theorem implSmallInverse (v : Value) (zs : List Int) (w : World) (hn : zs.length ≤ 1048576) (_hR : InI zs) (hv : RdC w v zs) :
    Calls Tryd.prog 29 #[v] w fun e w' => ∃ u, e = .returned u ∧ OwnI w' w.heap.size w'.heap.size u (smInv zs) ∧ Upd 0 0 w w' := by
  obtain ⟨ad, cap, rfl, hc, hc2, hA⟩ := hv
  have hB := hide (implGoodSmall ad cap zs w hn hA)
  by_cases h1 : SmOk zs
  case neg =>
    rw [smB_no h1] at hB
    rw [smInv_no h1]
    clear h1
    go_enter Tryd.func29, Tryd.ntmps29
    go_wp2_with fail
    refine (unhide hB).mono ?_
    rintro e w1 ⟨rfl, hu⟩
    replace hu := hide hu
    clear hB
    go_wp2
    go_ret
    exact ⟨_, rfl, own_nilI _ _ _, unhide hu⟩
  rw [smB_yes h1] at hB
  have hE := hide (smInv_yes h1)
  have hl := h1.1
  have hz := hide (smOk_inR h1)
  have hz2 := hide (back_inR hl (smOk_inR h1))
  have hz3 := hide (back_inR (turn4_length backS zs) (back_inR hl (smOk_inR h1)))
  rw [hl] at hB hc ⊢
  clear h1
  go_enter Tryd.func29, Tryd.ntmps29
  go_wp2_with fail
  refine (unhide hB).mono ?_
  rintro e w1 ⟨rfl, hu⟩
  clear hB
  have hC := hide (implSmallBlockOf ad cap zs w1 hl hc hc2 (hA.below hu.none))
  replace hl := hide hl
  replace hu := hide hu
  clear hc hc2 hA
  go_wp2_with fail
  refine (unhide hC).mono ?_
  rintro e w2 ⟨rfl, hu2⟩
  replace hu := hide ((unhide hu).trans hu2)
  clear hC hu2
  have hC := hide (implTurnedBack zs w2 (unhide hl) (inR_wide (unhide hz) (by omega) (by omega)))
  go_wp2_with fail
  refine (unhide hC).mono ?_
  rintro e w3 ⟨rfl, hu2⟩
  replace hu := hide ((unhide hu).trans hu2)
  clear hC hu2
  have hC := hide (implTurnedBack (turn4 backS zs) w3 (turn4_length _ _) (inR_wide (unhide hz2) (by omega) (by omega)))
  go_wp2_with fail
  refine (unhide hC).mono ?_
  rintro e w4 ⟨rfl, hu2⟩
  replace hu := hide ((unhide hu).trans hu2)
  clear hC hu2
  have hC := hide (implSmList (turnZ backS (turn4 backS zs)) w4)
  go_wp2_with fail
  refine (unhide hC).mono ?_
  rintro e w5 ⟨u, rfl, ho, hu2⟩
  have hsz := (unhide hu).size
  replace hu := hide ((unhide hu).trans hu2)
  clear hC hu2
  have ho1 : Own 3 1 w5 w4.heap.size w5.heap.size u 16 (ints (tab16 (turnZ backS (turn4 backS zs)))) := by
    have h := ho
    unfold OwnI at h
    rw [tabN_length] at h
    exact h
  obtain ⟨g, cp, rfl, hg1, hg2⟩ := own_atB ho1 (by omega)
  have hT : Hid (∀ p, p < 16 → -1048581 ≤ turnZ backS (turn4 backS zs) p ∧ turnZ backS (turn4 backS zs) p ≤ 1048581) := hide (fun p hp => by
    have h := unhide hz3 p (by simpa using hp)
    rw [show (turn4 backS (turn4 backS zs)).getD p 0 = turnZ backS (turn4 backS zs) p from tab16_getD _ _ hp] at h
    omega)
  have hF : Hid (∀ p, p < 16 → smInvZ zs p = (turnZ backS (turn4 backS zs) p + 32) / 64) := hide (fun p hp => by
    unfold smInvZ
    rw [show (turn4 backS (turn4 backS zs)).getD p 0 = turnZ backS (turn4 backS zs) p from tab16_getD _ _ hp])
  have hrow0 : Hid (w5.ownsRow w4.heap.size 3 1 (.slice (some ⟨g, 0, none⟩) 16 cp) 16 (ints (tab16 (mixZ (smInvZ zs) (turnZ backS (turn4 backS zs)) 0)))) := hide (by rw [mix_zero]; exact ho1.1)
  have hb0 : Hid (Below w4.heap.size w5 w5) := hide (Below.refl _ _)
  generalize turnZ backS (turn4 backS zs) = T at hT hF hrow0
  clear ho ho1 hz hz2 hz3 hl
  go_wp2_with fail
  go_loopw [16] (fun i wr => ∃ k : Nat, k ≤ 16 ∧ i = .int .i64 (k : Int) ∧ Hid (wr.ownsRow w4.heap.size 3 1 (.slice (some ⟨g, 0, none⟩) 16 cp) 16 (ints (tab16 (mixZ (smInvZ zs) T k)))) ∧ Hid (Below w4.heap.size w5 wr)) (fun i _ => 16 - (intOf i).toNat)
  case atStart => exact ⟨0, by omega, rfl, hrow0, hb0⟩
  case round =>
    clear hrow0 hb0
    obtain ⟨k, hk, rfl, hrow, hbel⟩ := hrel
    by_cases hklt : k < 16
    · have hkb : decide ((k : Int) < 16) = true := decide_eq_true (by omega)
      have hck : wr.cell? ⟨g, k, none⟩ = some (.int .i64 (T k)) := by
        rw [World.ownsRow.cellAt (unhide hrow) k (by omega)]
        unfold ints tab16
        rw [List.getElem?_map, List.getElem?_map, List.getElem?_range hklt]
        simp [mixZ]
      have hfz := World.ownsRow.frozenAt (unhide hrow) k
      have hst := hide ((World.ownsRow.stored (unhide hrow) k (.int .i64 (smInvZ zs k))).1)
      rw [ints_setB, mix_set _ _ k hklt] at hst
      have hb2 := hide ((unhide hbel).setCell (p := ⟨g, k, none⟩) hg1 (.int .i64 (smInvZ zs k)))
      have hv := unhide hF k hklt
      obtain ⟨t0, t1⟩ := unhide hT k hklt
      rw [hv] at hst hb2
      have hR := hide (fun W => implRnd6 (T k) W (by omega) (by omega))
      generalize (T k + 32) / 64 = y at hst hb2 hR
      generalize T k = x at hck t0 t1 hR
      have k0 : (0 : Int) ≤ (k : Int) := by omega
      have k1 : (k : Int) < 16 := by omega
      clear hrow hbel hv
      go_wp2_with (go_at_call 77; refine (unhide hR _).mono ?_; rintro e wz ⟨rfl, hwz⟩; subst wz)
      go_roundw
      case rel => exact ⟨k + 1, by omega, by go_num, hst, hb2⟩
      case measure => simp [intOf]; omega
    · obtain rfl : k = 16 := by omega
      have hO : OwnI wr w.heap.size wr.heap.size (.slice (some ⟨g, 0, none⟩) 16 cp) (tab16 (smInvZ zs)) := by
        have h := unhide hrow
        rw [mix_all] at h
        have h2 : OwnI wr w4.heap.size wr.heap.size (.slice (some ⟨g, 0, none⟩) 16 cp) (tab16 (smInvZ zs)) := by
          unfold OwnI
          rw [tab16_length]
          exact Own.of h
        exact own_mono h2 hsz (Nat.le_refl _)
      replace hO := hide hO
      have hU := hide (Upd.of_below (((unhide hu).below (Nat.le_refl _) (.inr (Nat.zero_le _))).trans ((unhide hbel).mono hsz)) 0 0)
      clear hrow hbel
      go_wp2
      go_ret
      exact ⟨_, rfl, by rw [unhide hE]; exact unhide hO, unhide hU⟩
end Go.Proofs.YtpofmcepjmbmcaaDoor

/- The walks of the laws' own comparing of lists of ints and of byte strings. -/
namespace Go.Proofs.YtpofmcepjmbmcaaDoor
open Go.RowKit

set_option maxHeartbeats 1000000 in
theorem wInts_rd (u v : Value) (zs : List Int) (w : World) (hn : zs.length ≤ 1048576) (hu : RdI w u zs) (hv : RdI w v zs) :
    Calls Tryd.prog 13 #[u, v] w fun e w' => e = .returned (.bool true) ∧ Upd 0 0 w w' := by
  obtain ⟨ad, cap, rfl, hA⟩ := hu
  obtain ⟨ad', cap', rfl, hA'⟩ := hv
  replace hA := hide hA
  replace hA' := hide hA'
  go_enter Tryd.func13, Tryd.ntmps13
  go_wp2
  go_loopw [13] (fun i wr => ∃ k : Nat, k ≤ zs.length ∧ i = .int .i64 k ∧ ∃ nq, wr = w.drewN nq) (fun i _ => zs.length - (intOf i).toNat)
  case atStart => exact ⟨0, Nat.zero_le _, rfl, 0, rfl⟩
  case round =>
    obtain ⟨k, hk, rfl, nq, rfl⟩ := hrel
    by_cases hlt : k < zs.length
    · obtain ⟨b, off, rfl, hbl, hc⟩ := (unhide hA) (ne_of_lt_length hlt)
      obtain ⟨b', off', rfl, hbl', hc'⟩ := (unhide hA') (ne_of_lt_length hlt)
      have hck := hc k hlt
      have hck' := hc' k hlt
      clear hc hc' hA hA'
      generalize zs.getD k 0 = x at hck hck'
      go_wp2
      go_quiet (fail)
      go_wp2
      go_roundw
      case rel => exact ⟨k + 1, by omega, by go_num, _, rfl⟩
      case measure => simp [intOf]; omega
    · have hkl : k = zs.length := by omega
      subst hkl
      go_wp2
      go_ret
      exact ⟨rfl, (Upd.refl 0 0 _).drewN _⟩

end Go.Proofs.YtpofmcepjmbmcaaDoor

/- The law on drawn small blocks, forward, coarse, fine and back, walked. -/
namespace Go.Proofs.YtpofmcepjmbmcaaDoor
open Go.RowKit

theorem inR_inI16 {lo hi : Int} {xs : List Int} (h : InR lo hi xs) (hl : -9223372036854775808 ≤ lo) (hh : hi ≤ 9223372036854775807) : InI xs := by
  intro j
  by_cases hj : j < xs.length
  · have := h j hj; omega
  · rw [List.getD_eq_getElem?_getD, List.getElem?_eq_none (by omega)]; simp
def TbS (w : World) : Prop := Held w 1 (ints smW) ∧ Held w 0 (ints coT) ∧ Held w 2 (ints fiT)
theorem TbS.keep {w w' : World} (h : TbS w) (u : Upd 0 0 w w') : TbS w' := ⟨h.1.keep u, h.2.1.keep u, h.2.2.keep u⟩
set_option maxHeartbeats 8000000 in
set_option maxRecDepth 100000 in
theorem lawFnSmallB (ad : Option Addr) (cap : Nat) (zs : List Int) (w : World) (hTb : TbS w) (hA : ArgB w ad zs) :
    Calls Tryd.prog 5 #[.slice ad zs.length cap] w fun e w' => e = .returned (.bool true) ∧ Below w.heap.size w w' := by
  by_cases hl : 1048576 < zs.length
  · clear hA
    go_enter Tryd.func5, Tryd.ntmps5
    go_wp2
    go_ret
    exact ⟨rfl, Below.refl _ _⟩
  have hl' : zs.length ≤ 1048576 := by omega
  replace hA := hide hA
  replace hTb := hide hTb
  go_enter Tryd.func5, Tryd.ntmps5
  go_wp2_with fail
  refine (specDrawSmallCoarse ad cap zs _ (unhide hA) hl').mono ?_
  rintro e w1 ⟨v, xs, s, rfl, hxl, hxr, hxv, hs, hB⟩
  replace hTb := hide ((unhide hTb).keep (Upd.of_below hB 0 0))
  clear hA hl hl'
  obtain ⟨adx, capx, rfl, hX⟩ := hxv
  replace hB := hide hB
  replace hX := hide hX
  replace hxr := hide hxr
  replace hxl := hide hxl
  go_wp2_with fail
  refine (specSmall16 _ xs w1 (by have := unhide hxl; omega) (unhide hxr) ⟨_, _, rfl, unhide hX⟩).mono ?_
  rintro e w2 ⟨v2, rfl, hO, hu⟩
  have hsr := smallL_inR xs
  have hsl : (smallL xs).length = 16 ∨ (smallL xs).length = 15 := by unfold smallL; rw [List.length_map]; exact unhide hxl
  generalize smallL xs = bs at hO hsr hsl
  replace hTb := hide ((unhide hTb).keep hu)
  replace hB := hide (below_upd (unhide hB) hu (Nat.le_refl _) (.inr (Nat.zero_le _)))
  have hI := hide (inR_inI16 hsr (by omega) (by omega))
  have hbn : bs.length ≤ 1048576 := by omega
  obtain ⟨adb, capb, rfl, _⟩ := readK_of_own hO
  replace hO := hide hO
  clear hu hX hxr hxl
  have hFi := hide (fun (W : World) (a : Held W 1 (ints smW)) (b : RdC W (.slice adb bs.length capb) bs) => implSmallForward (.slice adb bs.length capb) bs W a hbn (unhide hI) b)
  have hFs := hide (fun (W : World) (b : RdC W (.slice adb bs.length capb) bs) => specSmallForward (.slice adb bs.length capb) bs W hbn (unhide hI) b)
  by_cases hg : bs.length = 16 ∧ 0 ≤ s ∧ s ≤ 40
  case neg =>
    have hCe := hide (fun g => small_none hg g)
    have hFI := hide (inR_inI16 (smFwd_inR hsr) (by omega) (by omega))
    have hFn := smFwd_len bs
    generalize smFwd bs = fs at hFi hFs hCe hFI hFn
    have hCi := hide (fun (v : Value) (W : World) (a : Held W 0 (ints coT)) (b : RdI W v fs) => implSmallCoarse v fs s W a hFn (unhide hFI) b (by omega) (by omega))
    have hCs := hide (fun (v : Value) (W : World) (b : RdI W v fs) => specSmallCoarse v fs s W hFn (unhide hFI) b (by omega) (by omega))
    rw [unhide hCe smCo] at hCi hCs
    clear hCe hsr hsl hg
    replace hbn := hide hbn
    replace hFn := hide hFn
    go_wp2_with fail
    refine (unhide hFi w2 (unhide hTb).1 (OwnI.rc (unhide hO))).mono ?_
    rintro e w3 ⟨v3, rfl, hO3, hu3⟩
    obtain ⟨ad3, cap3, rfl, _⟩ := readK_of_own hO3
    replace hO3 := hide hO3
    replace hO := hide ((unhide hO).keep hu3)
    replace hTb := hide ((unhide hTb).keep hu3)
    replace hB := hide (below_upd (unhide hB) hu3 (Nat.le_refl _) (.inr (Nat.zero_le _)))
    clear hu3 hFi
    go_wp2_with fail
    refine (unhide hCi _ w3 (unhide hTb).2.1 (OwnI.rd (unhide hO3))).mono ?_
    rintro e w4 ⟨v4, rfl, hO4, hu4⟩
    obtain ⟨ad4, cap4, rfl, hA4⟩ := readK_of_own hO4
    replace hO4 := hide hO4
    replace hO := hide ((unhide hO).keep hu4)
    replace hTb := hide ((unhide hTb).keep hu4)
    replace hB := hide (below_upd (unhide hB) hu4 (Nat.le_refl _) (.inr (Nat.zero_le _)))
    clear hu4 hCi hO3 hA4
    go_wp2_with fail
    refine (unhide hFs w4 (OwnI.rc (unhide hO))).mono ?_
    rintro e w5 ⟨v5, rfl, hO5, hu5⟩
    obtain ⟨ad5, cap5, rfl, _⟩ := readK_of_own hO5
    replace hO5 := hide hO5
    replace hO4 := hide ((unhide hO4).keep hu5)
    replace hB := hide (below_upd (unhide hB) hu5 (Nat.le_refl _) (.inr (Nat.zero_le _)))
    clear hu5 hFs hO hTb
    go_wp2_with fail
    refine (unhide hCs _ w5 (OwnI.rd (unhide hO5))).mono ?_
    rintro e w6 ⟨v6, rfl, hO6, hu6⟩
    obtain ⟨ad6, cap6, rfl, hA6⟩ := readK_of_own hO6
    replace hO6 := hide hO6
    replace hO4 := hide ((unhide hO4).keep hu6)
    replace hB := hide (below_upd (unhide hB) hu6 (Nat.le_refl _) (.inr (Nat.zero_le _)))
    clear hu6 hCs hO5 hA6
    go_wp2_with fail
    refine (wInts_rd _ _ [] w6 (by simp) (OwnI.rd (unhide hO4)) (OwnI.rd (unhide hO6))).mono ?_
    rintro e w7 ⟨rfl, hu7⟩
    replace hB := hide (below_upd (unhide hB) hu7 (Nat.le_refl _) (.inr (Nat.zero_le _)))
    clear hu7 hO4 hO6
    go_wp2
    go_ret
    exact ⟨rfl, unhide hB⟩
  obtain ⟨hb, hs0⟩ := hg
  obtain ⟨e1, k1, e2, k2, e3, k3⟩ := small_all hb hsr s hs0
  have hnear := hide (fun p (hp : p < 16) => small_back hb hsr s.toNat (by omega) p hp)
  have hFI := hide (inR_inI16 k1.2 (by omega) (by omega))
  have hCI := hide (inR_inI16 k2.2 (by omega) (by omega))
  have hTI := hide (inR_inI16 k3.2 (by omega) (by omega))
  have e4 := smInv_yes k3
  rw [e1] at hFi hFs
  have hFl := k1.1
  have hCl := k2.1
  have hTl := k3.1
  generalize turn4 sumS (turn4 sumS bs) = fs at hFi hFs e2 hFI hFl
  generalize coW bs s = cs at e2 e3 hCI hCl
  generalize tab16 (thruZ bs s.toNat) = ts at e3 e4 hTI hTl hnear
  have hCi := hide (fun (v : Value) (W : World) (a : Held W 0 (ints coT)) (b : RdI W v fs) => implSmallCoarse v fs s W a (by omega) (unhide hFI) b (by omega) (by omega))
  have hCs := hide (fun (v : Value) (W : World) (b : RdI W v fs) => specSmallCoarse v fs s W (by omega) (unhide hFI) b (by omega) (by omega))
  have hGi := hide (fun (v : Value) (W : World) (a : Held W 2 (ints fiT)) (b : RdI W v cs) => implSmallFine v cs s W a (by omega) (unhide hCI) b (by omega) (by omega))
  have hVi := hide (fun (v : Value) (W : World) (b : RdC W v ts) => implSmallInverse v ts W (by omega) (unhide hTI) b)
  have hSb := hide (fun W => specSmallBound s W hs0)
  rw [e2] at hCi hCs
  rw [e3] at hGi
  rw [e4] at hVi
  rw [hb] at hFi hFs ⊢
  have hb' := hide hb
  have hFl' := hide hFl
  have hCl' := hide hCl
  have hTl' := hide hTl
  have hsr' := hide hsr
  have hbd : Hid (0 ≤ smBound s.toNat ∧ smBound s.toNat ≤ 1000000) := hide (by
    have h := unhide hnear 0 (by omega)
    have hX := pow_fP (s.toNat / 6) (by omega)
    have hm := mul_in (20 + 4 * ((s.toNat % 6 : Nat) : Int)) (2 ^ (s.toNat / 6)) 40 64 ⟨by omega, by omega⟩ ⟨by omega, hX.2⟩
    unfold smBound
    generalize (20 + 4 * ((s.toNat % 6 : Nat) : Int)) * 2 ^ (s.toNat / 6) = P at *
    omega)
  clear e1 e2 e3 e4 k1 k2 k3 hFl hCl hTl hb hsr hbn hI hsl
  go_wp2_with fail
  refine (unhide hFi w2 (unhide hTb).1 (by have h := OwnI.rc (unhide hO); rw [unhide hb'] at h; exact h)).mono ?_
  rintro e w3 ⟨v3, rfl, hO3, hu3⟩
  obtain ⟨ad3, cap3, rfl, _⟩ := readK_of_own hO3
  replace hO3 := hide hO3
  replace hO := hide ((unhide hO).keep hu3)
  replace hTb := hide ((unhide hTb).keep hu3)
  replace hB := hide (below_upd (unhide hB) hu3 (Nat.le_refl _) (.inr (Nat.zero_le _)))
  clear hu3 hFi
  go_wp2_with fail
  refine (unhide hCi _ w3 (unhide hTb).2.1 (OwnI.rd (unhide hO3))).mono ?_
  rintro e w4 ⟨v4, rfl, hO4, hu4⟩
  obtain ⟨ad4, cap4, rfl, _⟩ := readK_of_own hO4
  replace hO4 := hide hO4
  replace hO := hide ((unhide hO).keep hu4)
  replace hTb := hide ((unhide hTb).keep hu4)
  replace hB := hide (below_upd (unhide hB) hu4 (Nat.le_refl _) (.inr (Nat.zero_le _)))
  clear hu4 hCi hO3
  go_wp2_with fail
  refine (unhide hFs w4 (by have h := OwnI.rc (unhide hO); rw [unhide hb'] at h; exact h)).mono ?_
  rintro e w5 ⟨v5, rfl, hO5, hu5⟩
  obtain ⟨ad5, cap5, rfl, _⟩ := readK_of_own hO5
  replace hO5 := hide hO5
  replace hO4 := hide ((unhide hO4).keep hu5)
  replace hO := hide ((unhide hO).keep hu5)
  replace hTb := hide ((unhide hTb).keep hu5)
  replace hB := hide (below_upd (unhide hB) hu5 (Nat.le_refl _) (.inr (Nat.zero_le _)))
  clear hu5 hFs
  go_wp2_with fail
  refine (unhide hCs _ w5 (OwnI.rd (unhide hO5))).mono ?_
  rintro e w6 ⟨v6, rfl, hO6, hu6⟩
  obtain ⟨ad6, cap6, rfl, _⟩ := readK_of_own hO6
  replace hO6 := hide hO6
  replace hO4 := hide ((unhide hO4).keep hu6)
  replace hO := hide ((unhide hO).keep hu6)
  replace hTb := hide ((unhide hTb).keep hu6)
  replace hB := hide (below_upd (unhide hB) hu6 (Nat.le_refl _) (.inr (Nat.zero_le _)))
  clear hu6 hCs hO5
  go_wp2_with fail
  refine (wInts_rd _ _ cs w6 (by have := unhide hCl'; omega) (OwnI.rd (unhide hO4)) (OwnI.rd (unhide hO6))).mono ?_
  rintro e w7 ⟨rfl, hu7⟩
  replace hO4 := hide ((unhide hO4).keep hu7)
  replace hO := hide ((unhide hO).keep hu7)
  replace hTb := hide ((unhide hTb).keep hu7)
  replace hB := hide (below_upd (unhide hB) hu7 (Nat.le_refl _) (.inr (Nat.zero_le _)))
  clear hu7 hO6
  rw [unhide hCl']
  go_wp2_with fail
  refine (unhide hGi (.slice ad4 16 cap4) w7 (unhide hTb).2.2 (by have h := OwnI.rd (unhide hO4); rw [unhide hCl'] at h; exact h)).mono ?_
  rintro e w8 ⟨v8, rfl, hO8, hu8⟩
  obtain ⟨ad8, cap8, rfl, _⟩ := readK_of_own hO8
  replace hO8 := hide hO8
  replace hO := hide ((unhide hO).keep hu8)
  replace hB := hide (below_upd (unhide hB) hu8 (Nat.le_refl _) (.inr (Nat.zero_le _)))
  clear hu8 hGi hO4 hTb
  go_wp2_with fail
  refine (unhide hVi _ w8 (OwnI.rc (unhide hO8))).mono ?_
  rintro e w9 ⟨v9, rfl, hO9, hu9⟩
  obtain ⟨ad9, cap9, rfl, hA9⟩ := readK_of_own hO9
  replace hO := hide ((unhide hO).keep hu9)
  replace hB := hide (below_upd (unhide hB) hu9 (Nat.le_refl _) (.inr (Nat.zero_le _)))
  clear hu9 hVi hO8 hO9
  replace hA9 := hide hA9
  have hAb : Hid (ArgI w9 adb bs) := hide (by
    obtain ⟨a, c, e, hA⟩ := readK_of_own (unhide hO)
    simp only [Value.slice.injEq] at e
    rw [e.1]; exact hA)
  clear hO
  rw [tab16_length]
  have hAt : Hid (∀ k, k < 16 → (tab16 (smInvZ ts)).getD k 0 = smInvZ ts k) := hide (fun k hk => tab16_getD _ k hk)
  go_wp2_with fail
  go_loopw [42] (fun i wr => ∃ k : Nat, k ≤ 16 ∧ i = .int .i64 k ∧ ∃ nq, wr = w9.drewN nq) (fun i _ => 16 - (intOf i).toNat)
  case atStart => exact ⟨0, Nat.zero_le _, rfl, 0, rfl⟩
  case round =>
    obtain ⟨k, hk, rfl, nq, rfl⟩ := hrel
    by_cases hlt : k < 16
    · have hkb : decide ((k : Int) < 16) = true := decide_eq_true (by omega)
      obtain ⟨bx, ox, rfl, _, hcx⟩ := (unhide hAb) (ne_of_lt_length (k := k) (by rw [unhide hb']; exact hlt))
      obtain ⟨bt, ot, rfl, _, hct⟩ := (unhide hA9) (ne_of_lt_length (k := k) (by rw [tab16_length]; exact hlt))
      have kx := hcx k (by rw [unhide hb']; exact hlt)
      have kt := hct k (by rw [tab16_length]; exact hlt)
      rw [unhide hAt k hlt] at kt
      have rx := unhide hsr' k (by rw [unhide hb']; exact hlt)
      have hd := unhide hnear k hlt
      clear hcx hct
      have hbk := unhide hbd
      generalize bs.getD k 0 = x at kx rx hd
      generalize smInvZ ts k = t at kt hd
      generalize smBound s.toNat = B at hd hSb hbk
      obtain ⟨x0, x1⟩ := rx
      obtain ⟨d0, d1⟩ := hd
      obtain ⟨B0, B1⟩ := hbk
      have hw1 : IntKind.i64.wrap (t - x) = t - x := wrapB (by omega)
      have hkI : (0 : Int) ≤ (k : Int) := by omega
      have hkL : (k : Int) < 16 := by omega
      obtain ⟨d, hdd⟩ : ∃ d, t - x = d := ⟨_, rfl⟩
      rw [hdd] at hw1 d0 d1
      clear hAb hA9 hnear hsr' hB hAt hbd
      by_cases hneg : d < 0
      · go_wp2_with fail
        go_quiet (fail)
        replace hdd := hide hdd
        go_wp2_with (go_at_call 31; refine (unhide hSb _).mono ?_; rintro e wz ⟨rfl, hwz⟩; subst wz)
        go_roundw
        case rel => exact ⟨k + 1, by omega, by go_num, _, rfl⟩
        case measure => simp [intOf]; omega
      · go_wp2_with fail
        go_quiet (fail)
        replace hdd := hide hdd
        go_wp2_with (go_at_call 31; refine (unhide hSb _).mono ?_; rintro e wz ⟨rfl, hwz⟩; subst wz)
        go_roundw
        case rel => exact ⟨k + 1, by omega, by go_num, _, rfl⟩
        case measure => simp [intOf]; omega
    · have hkl : k = 16 := by omega
      subst hkl
      go_wp2
      go_ret
      exact ⟨rfl, below_drewN (unhide hB) nq⟩
theorem lawFnSmall (ad : Option Addr) (cap : Nat) (zs : List Int) (w : World) (hT1 : Held w 1 (ints smW)) (hT2 : Held w 0 (ints coT)) (hT3 : Held w 2 (ints fiT)) (hA : ArgY w ad zs) (hR : InB zs) :
    Calls Tryd.prog 5 #[.slice ad zs.length cap] w fun e w' => e = .returned (.bool true) ∧ Below w.heap.size w w' :=
  lawFnSmallB ad cap zs w ⟨hT1, hT2, hT3⟩ ⟨hR, fun hne => by
    obtain ⟨b, off, e, hl, hc⟩ := hA hne
    exact ⟨b, off, e, hl, hc⟩⟩
end Go.Proofs.YtpofmcepjmbmcaaDoor

/- Opening an argument that is a byte string or a list of ints: what the form's reading of it says of cells. -/
namespace Go.Proofs.YtpofmcepjmbmcaaDoor
open Go.ChangeShapes Go.WideShapes Go.ChangeAt Go.RowKit

theorem Tryd.own : ownKnob Tryd.prog.godebug = none := by kernel_rfl
theorem Tryd.laidOut : laidOutB Tryd.prog = true := by kernel_rfl
theorem cellsY : Tryd.prog.cellsOf 5 = 1 := by kernel_rfl
theorem cellsI : Tryd.prog.cellsOf 3 = 1 := by kernel_rfl
theorem i64_of_wf {x : Int} (h : (Lit.int .i64 x).wf = true) : -9223372036854775808 ≤ x ∧ x ≤ 9223372036854775807 := by
  simp [Lit.wf, IntKind.min, IntKind.max, IntKind.signed, IntKind.bits] at h
  exact ⟨by omega, by omega⟩
theorem u64_of_wf {x : Int} (h : (Lit.int .u64 x).wf = true) : 0 ≤ x ∧ x ≤ 18446744073709551615 := by
  simp [Lit.wf, IntKind.min, IntKind.max, IntKind.signed, IntKind.bits] at h
  exact ⟨by omega, by omega⟩
theorem u8_of_wf {x : Int} (h : (Lit.int .u8 x).wf = true) : 0 ≤ x ∧ x < 256 := by
  simp [Lit.wf, IntKind.min, IntKind.max, IntKind.signed, IntKind.bits] at h
  exact ⟨by omega, by omega⟩

set_option maxRecDepth 100000 in
theorem open_byts {H : Type} {enc : TypeId × Value → H} {W : World} {base : Nat} {v : Value} {d : DataW H} {p : List MemPlace}
    (hv : Value.okWide Tryd.prog W .any base 22 v) (h0 : DataW.Trod enc Tryd.prog W 0 (fun _ => true) true 22 v d p) (hlt : ∀ x ∈ p, x.block < W.heap.size) :
    ∃ ad cap zs, v = .slice ad zs.length cap ∧ ArgY W ad zs ∧ InB zs := by
  obtain ⟨a0, len, cap, rfl⟩ := okWide_slice Tryd.underlying22 hv
  obtain ⟨fuel, hf⟩ := h0
  rcases open_ints Tryd.underlying22 Tryd.underlying5 cellsY hf with ⟨hcs, hx⟩ | ⟨a, len', cap', zs, hcs, _, hl, hm, hz, hx, hcell, hwz⟩
  · simp [Value.cells] at hcs
    obtain ⟨rfl, rfl, rfl⟩ := hcs
    exact ⟨none, 0, [], rfl, fun h => absurd rfl h, fun j => by simp⟩
  · simp [Value.cells] at hcs
    obtain ⟨rfl, rfl, rfl⟩ := hcs
    simp only [Prod.mk.injEq] at hx
    obtain ⟨rfl, rfl⟩ := hx
    simp only [if_true] at hz
    have hlen : (zs.take len).length = len := by rw [List.length_take]; omega
    have hget : ∀ j, j < len → (zs.take len).getD j 0 = zs.getD j 0 := fun j hj => by
      rw [List.getD_eq_getElem?_getD, List.getD_eq_getElem?_getD, List.getElem?_take, if_pos hj]
    refine ⟨some a, cap, zs.take len, by rw [hlen], ?_, ?_⟩
    · intro hne
      have hpos : 0 < len := by
        rcases Nat.eq_zero_or_pos len with h | h
        · subst h; simp at hne
        · exact h
      obtain ⟨b, off, spot⟩ := a
      have hspot : spot = none := by simpa [Addr.add] using World.cell?_spot (hcell 0 (by omega))
      subst hspot
      refine ⟨b, off, rfl, hlt (.cell b off) (MemPlace.mem_row.2 ⟨0, by omega, by simp⟩), fun j hj => ?_⟩
      rw [hget j (by omega), ← add_plain]
      exact hcell j (by omega)
    · intro j
      by_cases hj : j < len
      · rw [hget j hj, List.getD_eq_getElem?_getD, List.getElem?_eq_getElem (by omega)]
        exact u8_of_wf (hwz _ (List.getElem_mem _))
      · rw [List.getD_eq_getElem?_getD, List.getElem?_eq_none (by omega)]; simp

set_option maxRecDepth 100000 in
theorem open_intl {H : Type} {enc : TypeId × Value → H} {W : World} {base : Nat} {v : Value} {d : DataW H} {p : List MemPlace}
    (hv : Value.okWide Tryd.prog W .any base 23 v) (h0 : DataW.Trod enc Tryd.prog W 0 (fun _ => true) true 23 v d p) (hlt : ∀ x ∈ p, x.block < W.heap.size) :
    ∃ ad cap zs, v = .slice ad zs.length cap ∧ ArgI W ad zs ∧ InI zs := by
  obtain ⟨a0, len, cap, rfl⟩ := okWide_slice Tryd.underlying23 hv
  obtain ⟨fuel, hf⟩ := h0
  rcases open_ints Tryd.underlying23 Tryd.underlying3 cellsI hf with ⟨hcs, hx⟩ | ⟨a, len', cap', zs, hcs, _, hl, hm, hz, hx, hcell, hwz⟩
  · simp [Value.cells] at hcs
    obtain ⟨rfl, rfl, rfl⟩ := hcs
    exact ⟨none, 0, [], rfl, fun h => absurd rfl h, fun j => by simp⟩
  · simp [Value.cells] at hcs
    obtain ⟨rfl, rfl, rfl⟩ := hcs
    simp only [Prod.mk.injEq] at hx
    obtain ⟨rfl, rfl⟩ := hx
    simp only [if_true] at hz
    have hlen : (zs.take len).length = len := by rw [List.length_take]; omega
    have hget : ∀ j, j < len → (zs.take len).getD j 0 = zs.getD j 0 := fun j hj => by
      rw [List.getD_eq_getElem?_getD, List.getD_eq_getElem?_getD, List.getElem?_take, if_pos hj]
    refine ⟨some a, cap, zs.take len, by rw [hlen], ?_, ?_⟩
    · intro hne
      have hpos : 0 < len := by
        rcases Nat.eq_zero_or_pos len with h | h
        · subst h; simp at hne
        · exact h
      obtain ⟨b, off, spot⟩ := a
      have hspot : spot = none := by simpa [Addr.add] using World.cell?_spot (hcell 0 (by omega))
      subst hspot
      refine ⟨b, off, rfl, hlt (.cell b off) (MemPlace.mem_row.2 ⟨0, by omega, by simp⟩), fun j hj => ?_⟩
      rw [hget j (by omega), ← add_plain]
      exact hcell j (by omega)
    · intro j
      by_cases hj : j < len
      · rw [hget j hj, List.getD_eq_getElem?_getD, List.getElem?_eq_getElem (by omega)]
        exact i64_of_wf (hwz _ (List.getElem_mem _))
      · rw [List.getD_eq_getElem?_getD, List.getElem?_eq_none (by omega)]; simp
end Go.Proofs.YtpofmcepjmbmcaaDoor

/- What a listed table of rows of numbers says of cells. -/
namespace Go.Proofs.YtpofmcepjmbmcaaDoor
open Go.ChangeShapes Go.WideShapes Go.ChangeAt Go.RowKit

theorem lits_ints1 {H : Type} {enc : TypeId × Value → H} {W : World} {base : Nat} {spare : Nat → Bool} {held : Bool} {t : TypeId} {n fuel : Nat} {cs : List Value} {y : DataW H × List MemPlace} {zs : List Int}
    (ht : Tryd.prog.underlying t = some (.array n 3)) (h : DataW.trod enc Tryd.prog W base spare held fuel t cs = some y) (hy : y.1 = .agg (zs.map fun z => .lit (.int .i64 z))) (hn : zs.length = n) :
    ∀ (j : Nat) (z : Int), zs[j]? = some z → cs[j]? = some (Value.int .i64 z) := by
  obtain ⟨xs, k, _, rfl, hl, hxl, hel⟩ := DataW.trod_array ht h
  simp only [DataW.agg.injEq] at hy
  intro j z hz
  have hlen : xs.length = zs.length := by have := congrArg List.length hy; simpa using this
  have hj : j < xs.length := by have := (List.getElem?_eq_some_iff.1 hz).1; omega
  have hj2 := hel j (by omega)
  rw [List.getElem?_eq_getElem hj, cellsI] at hj2
  obtain ⟨m, q, q2, _⟩ := DataW.trod_int Tryd.underlying3 hj2
  have hv : xs[j].1 = .lit (.int .i64 z) := by
    have h1 := congrArg (fun l => l[j]?) hy
    simp only [List.getElem?_map, List.getElem?_eq_getElem hj, hz, Option.map_some, Option.some.injEq] at h1
    exact h1
  have hm : m = z := by
    have := q2
    rw [this] at hv
    simpa using hv
  subst hm
  have h3 : ((cs.drop (j * 1)).take 1)[0]? = some (Value.int .i64 m) := by rw [q]; rfl
  rw [List.getElem?_take, if_pos (by omega), List.getElem?_drop] at h3
  simpa using h3
theorem lits_rows {H : Type} {enc : TypeId × Value → H} {W : World} {base : Nat} {spare : Nat → Bool} {held : Bool} {t e : TypeId} {n m fuel : Nat} {cs : List Value} {y : DataW H × List MemPlace} {zss : List (List Int)}
    (ht : Tryd.prog.underlying t = some (.array n e)) (he : Tryd.prog.underlying e = some (.array m 3)) (hm : Tryd.prog.cellsOf e = m)
    (h : DataW.trod enc Tryd.prog W base spare held fuel t cs = some y) (hy : y.1 = .agg (zss.map fun zs => .agg (zs.map fun z => .lit (.int .i64 z)))) (hz : ∀ zs ∈ zss, zs.length = m) (hn : zss.length = n) :
    ∀ (i j : Nat) (z : Int) (zs : List Int), zss[i]? = some zs → zs[j]? = some z → cs[i * m + j]? = some (Value.int .i64 z) := by
  obtain ⟨xs, k, _, rfl, hl, hxl, hel⟩ := DataW.trod_array ht h
  simp only [DataW.agg.injEq] at hy
  intro i j z zs hzs hjz
  have hlen : xs.length = zss.length := by have := congrArg List.length hy; simpa using this
  have hi : i < xs.length := by have := (List.getElem?_eq_some_iff.1 hzs).1; omega
  have hi2 := hel i (by omega)
  rw [List.getElem?_eq_getElem hi, hm] at hi2
  have hv : xs[i].1 = .agg (zs.map fun z => .lit (.int .i64 z)) := by
    have h1 := congrArg (fun l => l[i]?) hy
    simp only [List.getElem?_map, List.getElem?_eq_getElem hi, hzs, Option.map_some, Option.some.injEq] at h1
    exact h1
  have hzl := hz zs (List.mem_of_getElem? hzs)
  have hc := lits_ints1 he hi2 hv hzl j z hjz
  have hjm : j < m := by have := (List.getElem?_eq_some_iff.1 hjz).1; omega
  rw [List.getElem?_take, if_pos hjm, List.getElem?_drop] at hc
  exact hc
end Go.Proofs.YtpofmcepjmbmcaaDoor

/- What the listed table of the small waves says of cells. -/
namespace Go.Proofs.YtpofmcepjmbmcaaDoor
open Go.ChangeShapes Go.WideShapes Go.ChangeAt Go.RowKit

theorem smwGlobal : Tryd.prog.globalNamed "loop.example/g00016/impl.smallWaves" = some 1 := by kernel_rfl
theorem smwGlobalT : (Tryd.prog.globals[1]?).map (·.type) = some 79 := by kernel_rfl
theorem laid_smw {W : World} (h : laidMetH Tryd.prog [("loop.example/g00016/impl.smallWaves", Rows.laid_loop_example_g00016_impl_smallWaves)] W) : Held W 1 (ints smW) := by
  rw [MakeChecks.laidMetH_plain _ _ _ (by kernel_rfl)] at h
  obtain ⟨ps, ⟨g0, t0, cs0, f0, p0, q0, hg0, ht0, hv0, hd0, _, _⟩, _, _⟩ := h
  obtain rfl := Option.some.inj (smwGlobal.symm.trans hg0)
  obtain rfl := Option.some.inj (smwGlobalT.symm.trans ht0)
  have hc := lits_rows (zss := [[1, 1, 1, 1], [2, 1, -1, -2], [1, -1, -1, 1], [1, -2, 2, -1]]) (m := 4) Tryd.underlying79 Tryd.underlying78 (by kernel_rfl) hd0 rfl (by decide) rfl
  have hcell := fun o => World.var?_cell hg0 hv0 o
  refine ⟨?_, fun j v hj => ?_⟩
  · have h0 := hc 0 0 _ _ rfl rfl
    have h1 := hcell 0
    rw [show cs0[0]? = some (Value.int .i64 1) by simpa using h0] at h1
    exact World.block_lt_of_cell? _ _ h1
  · rw [hcell j]
    have hlt : j < 16 := by
      have := (List.getElem?_eq_some_iff.1 hj).1
      simpa [ints, smW] using this
    rw [← hj]
    rcases (show j = 0 ∨ j = 1 ∨ j = 2 ∨ j = 3 ∨ j = 4 ∨ j = 5 ∨ j = 6 ∨ j = 7 ∨ j = 8 ∨ j = 9 ∨ j = 10 ∨ j = 11 ∨ j = 12 ∨ j = 13 ∨ j = 14 ∨ j = 15 by omega) with e | e | e | e | e | e | e | e | e | e | e | e | e | e | e | e <;> subst e
    · exact (show cs0[0]? = some (.int .i64 1) by simpa using hc 0 0 _ _ rfl rfl)
    · exact (show cs0[1]? = some (.int .i64 1) by simpa using hc 0 1 _ _ rfl rfl)
    · exact (show cs0[2]? = some (.int .i64 1) by simpa using hc 0 2 _ _ rfl rfl)
    · exact (show cs0[3]? = some (.int .i64 1) by simpa using hc 0 3 _ _ rfl rfl)
    · exact (show cs0[4]? = some (.int .i64 2) by simpa using hc 1 0 _ _ rfl rfl)
    · exact (show cs0[5]? = some (.int .i64 1) by simpa using hc 1 1 _ _ rfl rfl)
    · exact (show cs0[6]? = some (.int .i64 (-1)) by simpa using hc 1 2 _ _ rfl rfl)
    · exact (show cs0[7]? = some (.int .i64 (-2)) by simpa using hc 1 3 _ _ rfl rfl)
    · exact (show cs0[8]? = some (.int .i64 1) by simpa using hc 2 0 _ _ rfl rfl)
    · exact (show cs0[9]? = some (.int .i64 (-1)) by simpa using hc 2 1 _ _ rfl rfl)
    · exact (show cs0[10]? = some (.int .i64 (-1)) by simpa using hc 2 2 _ _ rfl rfl)
    · exact (show cs0[11]? = some (.int .i64 1) by simpa using hc 2 3 _ _ rfl rfl)
    · exact (show cs0[12]? = some (.int .i64 1) by simpa using hc 3 0 _ _ rfl rfl)
    · exact (show cs0[13]? = some (.int .i64 (-2)) by simpa using hc 3 1 _ _ rfl rfl)
    · exact (show cs0[14]? = some (.int .i64 2) by simpa using hc 3 2 _ _ rfl rfl)
    · exact (show cs0[15]? = some (.int .i64 (-1)) by simpa using hc 3 3 _ _ rfl rfl)
end Go.Proofs.YtpofmcepjmbmcaaDoor

/- What the listed tables of factors say of cells. -/
namespace Go.Proofs.YtpofmcepjmbmcaaDoor
open Go.ChangeShapes Go.WideShapes Go.ChangeAt Go.RowKit

theorem cofGlobal : Tryd.prog.globalNamed "loop.example/g00016/impl.coarseFactors" = some 0 := by kernel_rfl
theorem cofGlobalT : (Tryd.prog.globals[0]?).map (·.type) = some 97 := by kernel_rfl
theorem laid_cof {W : World} (h : laidMetH Tryd.prog [("loop.example/g00016/impl.coarseFactors", Rows.laid_loop_example_g00016_impl_coarseFactors)] W) : Held W 0 (ints coT) := by
  rw [MakeChecks.laidMetH_plain _ _ _ (by kernel_rfl)] at h
  obtain ⟨ps, ⟨g0, t0, cs0, f0, p0, q0, hg0, ht0, hv0, hd0, _, _⟩, _, _⟩ := h
  obtain rfl := Option.some.inj (cofGlobal.symm.trans hg0)
  obtain rfl := Option.some.inj (cofGlobalT.symm.trans ht0)
  have hc := lits_rows (zss := [[13107, 5243, 8066], [11916, 4660, 7490], [10082, 4194, 6554], [9362, 3647, 5825], [8192, 3355, 5243], [7282, 2893, 4559]]) (m := 3) Tryd.underlying97 Tryd.underlying96 (by kernel_rfl) hd0 rfl (by decide) rfl
  have hcell := fun o => World.var?_cell hg0 hv0 o
  refine ⟨?_, fun j v hj => ?_⟩
  · have h0 := hc 0 0 _ _ rfl rfl
    have h1 := hcell 0
    rw [show cs0[0]? = some (Value.int .i64 13107) by simpa using h0] at h1
    exact World.block_lt_of_cell? _ _ h1
  · rw [hcell j]
    have hlt : j < 18 := by
      have := (List.getElem?_eq_some_iff.1 hj).1
      simpa [ints, coT] using this
    rw [← hj]
    rcases (show j = 0 ∨ j = 1 ∨ j = 2 ∨ j = 3 ∨ j = 4 ∨ j = 5 ∨ j = 6 ∨ j = 7 ∨ j = 8 ∨ j = 9 ∨ j = 10 ∨ j = 11 ∨ j = 12 ∨ j = 13 ∨ j = 14 ∨ j = 15 ∨ j = 16 ∨ j = 17 by omega) with e | e | e | e | e | e | e | e | e | e | e | e | e | e | e | e | e | e <;> subst e
    · exact (show cs0[0]? = some (.int .i64 13107) by simpa using hc 0 0 _ _ rfl rfl)
    · exact (show cs0[1]? = some (.int .i64 5243) by simpa using hc 0 1 _ _ rfl rfl)
    · exact (show cs0[2]? = some (.int .i64 8066) by simpa using hc 0 2 _ _ rfl rfl)
    · exact (show cs0[3]? = some (.int .i64 11916) by simpa using hc 1 0 _ _ rfl rfl)
    · exact (show cs0[4]? = some (.int .i64 4660) by simpa using hc 1 1 _ _ rfl rfl)
    · exact (show cs0[5]? = some (.int .i64 7490) by simpa using hc 1 2 _ _ rfl rfl)
    · exact (show cs0[6]? = some (.int .i64 10082) by simpa using hc 2 0 _ _ rfl rfl)
    · exact (show cs0[7]? = some (.int .i64 4194) by simpa using hc 2 1 _ _ rfl rfl)
    · exact (show cs0[8]? = some (.int .i64 6554) by simpa using hc 2 2 _ _ rfl rfl)
    · exact (show cs0[9]? = some (.int .i64 9362) by simpa using hc 3 0 _ _ rfl rfl)
    · exact (show cs0[10]? = some (.int .i64 3647) by simpa using hc 3 1 _ _ rfl rfl)
    · exact (show cs0[11]? = some (.int .i64 5825) by simpa using hc 3 2 _ _ rfl rfl)
    · exact (show cs0[12]? = some (.int .i64 8192) by simpa using hc 4 0 _ _ rfl rfl)
    · exact (show cs0[13]? = some (.int .i64 3355) by simpa using hc 4 1 _ _ rfl rfl)
    · exact (show cs0[14]? = some (.int .i64 5243) by simpa using hc 4 2 _ _ rfl rfl)
    · exact (show cs0[15]? = some (.int .i64 7282) by simpa using hc 5 0 _ _ rfl rfl)
    · exact (show cs0[16]? = some (.int .i64 2893) by simpa using hc 5 1 _ _ rfl rfl)
    · exact (show cs0[17]? = some (.int .i64 4559) by simpa using hc 5 2 _ _ rfl rfl)
theorem fifGlobal : Tryd.prog.globalNamed "loop.example/g00016/impl.fineFactors" = some 2 := by kernel_rfl
theorem fifGlobalT : (Tryd.prog.globals[2]?).map (·.type) = some 97 := by kernel_rfl
theorem laid_fif {W : World} (h : laidMetH Tryd.prog [("loop.example/g00016/impl.fineFactors", Rows.laid_loop_example_g00016_impl_fineFactors)] W) : Held W 2 (ints fiT) := by
  rw [MakeChecks.laidMetH_plain _ _ _ (by kernel_rfl)] at h
  obtain ⟨ps, ⟨g0, t0, cs0, f0, p0, q0, hg0, ht0, hv0, hd0, _, _⟩, _, _⟩ := h
  obtain rfl := Option.some.inj (fifGlobal.symm.trans hg0)
  obtain rfl := Option.some.inj (fifGlobalT.symm.trans ht0)
  have hc := lits_rows (zss := [[10, 16, 13], [11, 18, 14], [13, 20, 16], [14, 23, 18], [16, 25, 20], [18, 29, 23]]) (m := 3) Tryd.underlying97 Tryd.underlying96 (by kernel_rfl) hd0 rfl (by decide) rfl
  have hcell := fun o => World.var?_cell hg0 hv0 o
  refine ⟨?_, fun j v hj => ?_⟩
  · have h0 := hc 0 0 _ _ rfl rfl
    have h1 := hcell 0
    rw [show cs0[0]? = some (Value.int .i64 10) by simpa using h0] at h1
    exact World.block_lt_of_cell? _ _ h1
  · rw [hcell j]
    have hlt : j < 18 := by
      have := (List.getElem?_eq_some_iff.1 hj).1
      simpa [ints, fiT] using this
    rw [← hj]
    rcases (show j = 0 ∨ j = 1 ∨ j = 2 ∨ j = 3 ∨ j = 4 ∨ j = 5 ∨ j = 6 ∨ j = 7 ∨ j = 8 ∨ j = 9 ∨ j = 10 ∨ j = 11 ∨ j = 12 ∨ j = 13 ∨ j = 14 ∨ j = 15 ∨ j = 16 ∨ j = 17 by omega) with e | e | e | e | e | e | e | e | e | e | e | e | e | e | e | e | e | e <;> subst e
    · exact (show cs0[0]? = some (.int .i64 10) by simpa using hc 0 0 _ _ rfl rfl)
    · exact (show cs0[1]? = some (.int .i64 16) by simpa using hc 0 1 _ _ rfl rfl)
    · exact (show cs0[2]? = some (.int .i64 13) by simpa using hc 0 2 _ _ rfl rfl)
    · exact (show cs0[3]? = some (.int .i64 11) by simpa using hc 1 0 _ _ rfl rfl)
    · exact (show cs0[4]? = some (.int .i64 18) by simpa using hc 1 1 _ _ rfl rfl)
    · exact (show cs0[5]? = some (.int .i64 14) by simpa using hc 1 2 _ _ rfl rfl)
    · exact (show cs0[6]? = some (.int .i64 13) by simpa using hc 2 0 _ _ rfl rfl)
    · exact (show cs0[7]? = some (.int .i64 20) by simpa using hc 2 1 _ _ rfl rfl)
    · exact (show cs0[8]? = some (.int .i64 16) by simpa using hc 2 2 _ _ rfl rfl)
    · exact (show cs0[9]? = some (.int .i64 14) by simpa using hc 3 0 _ _ rfl rfl)
    · exact (show cs0[10]? = some (.int .i64 23) by simpa using hc 3 1 _ _ rfl rfl)
    · exact (show cs0[11]? = some (.int .i64 18) by simpa using hc 3 2 _ _ rfl rfl)
    · exact (show cs0[12]? = some (.int .i64 16) by simpa using hc 4 0 _ _ rfl rfl)
    · exact (show cs0[13]? = some (.int .i64 25) by simpa using hc 4 1 _ _ rfl rfl)
    · exact (show cs0[14]? = some (.int .i64 20) by simpa using hc 4 2 _ _ rfl rfl)
    · exact (show cs0[15]? = some (.int .i64 18) by simpa using hc 5 0 _ _ rfl rfl)
    · exact (show cs0[16]? = some (.int .i64 29) by simpa using hc 5 1 _ _ rfl rfl)
    · exact (show cs0[17]? = some (.int .i64 23) by simpa using hc 5 2 _ _ rfl rfl)
end Go.Proofs.YtpofmcepjmbmcaaDoor

/- What three listed tables say, each by itself. -/
namespace Go.Proofs.YtpofmcepjmbmcaaDoor
open Go.ChangeShapes Go.WideShapes Go.ChangeAt Go.RowKit

theorem laid_head {P : Program} {n : String} {d : DataW Unit} {r : List (String × DataW Unit)} {W : World} (h : laidMet P ((n, d) :: r) W) : laidMet P [(n, d)] W := by
  obtain ⟨ps, ⟨g, t, cs, f, p, q, h1, h2, h3, h4, h5, rfl⟩, hn, hc⟩ := h
  refine ⟨_, ⟨g, t, cs, f, p, [], h1, h2, h3, h4, rfl, rfl⟩, ?_, fun b off hm => hc b off ?_⟩
  · rw [List.append_nil]
    exact hn.sublist (List.sublist_append_left _ _)
  · rw [List.append_nil] at hm
    exact List.mem_append_left _ hm
theorem laid_tail {P : Program} {n : String} {d : DataW Unit} {r : List (String × DataW Unit)} {W : World} (h : laidMet P ((n, d) :: r) W) : laidMet P r W := by
  obtain ⟨ps, ⟨g, t, cs, f, p, q, h1, h2, h3, h4, h5, rfl⟩, hn, hc⟩ := h
  exact ⟨q, h5, hn.sublist (List.sublist_append_right _ _), fun b off hm => hc b off (List.mem_append_right _ hm)⟩
abbrev three_laid : List (String × DataW Unit) := [("loop.example/g00016/impl.smallWaves", Rows.laid_loop_example_g00016_impl_smallWaves), ("loop.example/g00016/impl.coarseFactors", Rows.laid_loop_example_g00016_impl_coarseFactors), ("loop.example/g00016/impl.fineFactors", Rows.laid_loop_example_g00016_impl_fineFactors)]
theorem three_met {W : World} (h : laidMetH Tryd.prog three_laid W) : laidMet Tryd.prog three_laid W := by
  rw [MakeChecks.laidMetH_plain _ _ _ (by kernel_rfl)] at h
  exact h
theorem laid3_smw {W : World} (h : laidMetH Tryd.prog three_laid W) : Held W 1 (ints smW) :=
  laid_smw (by rw [MakeChecks.laidMetH_plain _ _ _ (by kernel_rfl)]; exact laid_head (three_met h))
theorem laid3_cof {W : World} (h : laidMetH Tryd.prog three_laid W) : Held W 0 (ints coT) :=
  laid_cof (by rw [MakeChecks.laidMetH_plain _ _ _ (by kernel_rfl)]; exact laid_head (laid_tail (three_met h)))
theorem laid3_fif {W : World} (h : laidMetH Tryd.prog three_laid W) : Held W 2 (ints fiT) :=
  laid_fif (by rw [MakeChecks.laidMetH_plain _ _ _ (by kernel_rfl)]; exact laid_head (laid_tail (laid_tail (three_met h))))
end Go.Proofs.YtpofmcepjmbmcaaDoor
