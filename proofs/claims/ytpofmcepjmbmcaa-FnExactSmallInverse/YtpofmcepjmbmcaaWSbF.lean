/- Small blocks back: the program's walk. -/
import Derived.Test.YtpofmcepjmbmcaaWSbE
namespace Go.Proofs.Ytpofmcepjmbmcaa
open Go.RowKit

theorem implRnd6 (n : Int) (w : World) (h0 : -1152921504606846976 ≤ n) (h1 : n ≤ 1152921504606846976) : Calls Try.prog 76 #[.int .i64 n, .int .i64 6] w fun e w' => e = .returned (.int .i64 ((n + 32) / 64)) ∧ w' = w := by
  go_enter Try.func76, Try.ntmps76
  go_wp2
  go_ret
  exact ⟨rfl, rfl⟩
/-- The first k numbers are f's, the others t's. -/
def mixZ (f t : Nat → Int) (k p : Nat) : Int := if p < k then f p else t p
theorem mix_set (f t : Nat → Int) (k : Nat) (_hk : k < 16) : (tab16 (mixZ f t k)).set k (f k) = tab16 (mixZ f t (k + 1)) := by
  refine List.ext_getElem? (fun i => ?_)
  by_cases hi : i < 16
  · by_cases e : k = i
    · subst e
      rw [List.getElem?_set_self (by simpa using hi)]
      unfold tab16
      rw [List.getElem?_map, List.getElem?_range hi]
      simp [mixZ]
    · rw [List.getElem?_set_ne e]
      unfold tab16
      rw [List.getElem?_map, List.getElem?_map, List.getElem?_range hi]
      simp only [mixZ, Option.map_some]
      by_cases h : i < k
      · rw [if_pos h, if_pos (by omega)]
      · rw [if_neg h, if_neg (by omega)]
  · rw [List.getElem?_eq_none (by simp; omega), List.getElem?_eq_none (by simp; omega)]
theorem mix_zero (f t : Nat → Int) : tab16 (mixZ f t 0) = tab16 t := tab16_congr (fun k _ => by simp [mixZ])
theorem mix_all (f t : Nat → Int) : tab16 (mixZ f t 16) = tab16 f := tab16_congr (fun k hk => by simp [mixZ, hk])
theorem ints_setB (xs : List Int) (k : Nat) (x : Int) : (ints xs).set k (.int .i64 x) = ints (xs.set k x) := by unfold ints; rw [List.map_set]
theorem own_atB {e : TypeId} {s : Nat} {w : World} {a b : Nat} {v : Value} {n : Nat} {xs : List Value} (h : Own e s w a b v n xs) (hn : 0 < n) : ∃ g cp, v = .slice (some ⟨g, 0, none⟩) n cp ∧ a ≤ g ∧ g < b := by
  rcases h.1.2 with ⟨_, h0⟩ | ⟨g, cp, cur, e, h1, _⟩
  · omega
  · exact ⟨g, cp, e, h1, h.2 g (by rw [e]; rfl)⟩
set_option maxHeartbeats 16000000 in
set_option maxRecDepth 100000 in
theorem implSmallInverse (v : Value) (zs : List Int) (w : World) (hn : zs.length ≤ 1048576) (_hR : InI zs) (hv : RdC w v zs) :
    Calls Try.prog 28 #[v] w fun e w' => ∃ u, e = .returned u ∧ OwnI w' w.heap.size w'.heap.size u (smInv zs) ∧ Upd 0 0 w w' := by
  obtain ⟨ad, cap, rfl, hc, hc2, hA⟩ := hv
  have hB := hide (implGoodSmall ad cap zs w hn hA)
  by_cases h1 : SmOk zs
  case neg =>
    rw [smB_no h1] at hB
    rw [smInv_no h1]
    clear h1
    go_enter Try.func28, Try.ntmps28
    go_wp2_with fail
    refine (unhide hB).mono ?_
    rintro e w1 ⟨rfl, hu⟩
    replace hu := hide hu
    clear hB
    go_wp2
    go_ret
    exact ⟨_, rfl, own_nilI _ _ _, unhide hu⟩
  rw [smB_yes h1] at hB
  have hE := hide (smInv_yes h1)
  have hl := h1.1
  have hz := hide (smOk_inR h1)
  have hz2 := hide (back_inR hl (smOk_inR h1))
  have hz3 := hide (back_inR (turn4_length backS zs) (back_inR hl (smOk_inR h1)))
  rw [hl] at hB hc ⊢
  clear h1
  go_enter Try.func28, Try.ntmps28
  go_wp2_with fail
  refine (unhide hB).mono ?_
  rintro e w1 ⟨rfl, hu⟩
  clear hB
  have hC := hide (implSmallBlockOf ad cap zs w1 hl hc hc2 (hA.below hu.none))
  replace hl := hide hl
  replace hu := hide hu
  clear hc hc2 hA
  go_wp2_with fail
  refine (unhide hC).mono ?_
  rintro e w2 ⟨rfl, hu2⟩
  replace hu := hide ((unhide hu).trans hu2)
  clear hC hu2
  have hC := hide (implTurnedBack zs w2 (unhide hl) (inR_wide (unhide hz) (by omega) (by omega)))
  go_wp2_with fail
  refine (unhide hC).mono ?_
  rintro e w3 ⟨rfl, hu2⟩
  replace hu := hide ((unhide hu).trans hu2)
  clear hC hu2
  have hC := hide (implTurnedBack (turn4 backS zs) w3 (turn4_length _ _) (inR_wide (unhide hz2) (by omega) (by omega)))
  go_wp2_with fail
  refine (unhide hC).mono ?_
  rintro e w4 ⟨rfl, hu2⟩
  replace hu := hide ((unhide hu).trans hu2)
  clear hC hu2
  have hC := hide (implSmList (turnZ backS (turn4 backS zs)) w4)
  go_wp2_with fail
  refine (unhide hC).mono ?_
  rintro e w5 ⟨u, rfl, ho, hu2⟩
  have hsz := (unhide hu).size
  replace hu := hide ((unhide hu).trans hu2)
  clear hC hu2
  have ho1 : Own 3 1 w5 w4.heap.size w5.heap.size u 16 (ints (tab16 (turnZ backS (turn4 backS zs)))) := by
    have h := ho
    unfold OwnI at h
    rw [tabN_length] at h
    exact h
  obtain ⟨g, cp, rfl, hg1, hg2⟩ := own_atB ho1 (by omega)
  have hT : Hid (∀ p, p < 16 → -1048581 ≤ turnZ backS (turn4 backS zs) p ∧ turnZ backS (turn4 backS zs) p ≤ 1048581) := hide (fun p hp => by
    have h := unhide hz3 p (by simpa using hp)
    rw [show (turn4 backS (turn4 backS zs)).getD p 0 = turnZ backS (turn4 backS zs) p from tab16_getD _ _ hp] at h
    omega)
  have hF : Hid (∀ p, p < 16 → smInvZ zs p = (turnZ backS (turn4 backS zs) p + 32) / 64) := hide (fun p hp => by
    unfold smInvZ
    rw [show (turn4 backS (turn4 backS zs)).getD p 0 = turnZ backS (turn4 backS zs) p from tab16_getD _ _ hp])
  have hrow0 : Hid (w5.ownsRow w4.heap.size 3 1 (.slice (some ⟨g, 0, none⟩) 16 cp) 16 (ints (tab16 (mixZ (smInvZ zs) (turnZ backS (turn4 backS zs)) 0)))) := hide (by rw [mix_zero]; exact ho1.1)
  have hb0 : Hid (Below w4.heap.size w5 w5) := hide (Below.refl _ _)
  generalize turnZ backS (turn4 backS zs) = T at hT hF hrow0
  clear ho ho1 hz hz2 hz3 hl
  go_wp2_with fail
  go_loopw [16] (fun i wr => ∃ k : Nat, k ≤ 16 ∧ i = .int .i64 (k : Int) ∧ Hid (wr.ownsRow w4.heap.size 3 1 (.slice (some ⟨g, 0, none⟩) 16 cp) 16 (ints (tab16 (mixZ (smInvZ zs) T k)))) ∧ Hid (Below w4.heap.size w5 wr)) (fun i _ => 16 - (intOf i).toNat)
  case atStart => exact ⟨0, by omega, rfl, hrow0, hb0⟩
  case round =>
    clear hrow0 hb0
    obtain ⟨k, hk, rfl, hrow, hbel⟩ := hrel
    by_cases hklt : k < 16
    · have hkb : decide ((k : Int) < 16) = true := decide_eq_true (by omega)
      have hck : wr.cell? ⟨g, k, none⟩ = some (.int .i64 (T k)) := by
        rw [World.ownsRow.cellAt (unhide hrow) k (by omega)]
        unfold ints tab16
        rw [List.getElem?_map, List.getElem?_map, List.getElem?_range hklt]
        simp [mixZ]
      have hfz := World.ownsRow.frozenAt (unhide hrow) k
      have hst := hide ((World.ownsRow.stored (unhide hrow) k (.int .i64 (smInvZ zs k))).1)
      rw [ints_setB, mix_set _ _ k hklt] at hst
      have hb2 := hide ((unhide hbel).setCell (p := ⟨g, k, none⟩) hg1 (.int .i64 (smInvZ zs k)))
      have hv := unhide hF k hklt
      obtain ⟨t0, t1⟩ := unhide hT k hklt
      rw [hv] at hst hb2
      have hR := hide (fun W => implRnd6 (T k) W (by omega) (by omega))
      generalize (T k + 32) / 64 = y at hst hb2 hR
      generalize T k = x at hck t0 t1 hR
      have k0 : (0 : Int) ≤ (k : Int) := by omega
      have k1 : (k : Int) < 16 := by omega
      clear hrow hbel hv
      go_wp2_with (go_at_call 76; refine (unhide hR _).mono ?_; rintro e wz ⟨rfl, hwz⟩; subst wz)
      go_roundw
      case rel => exact ⟨k + 1, by omega, by go_num, hst, hb2⟩
      case measure => simp [intOf]; omega
    · obtain rfl : k = 16 := by omega
      have hO : OwnI wr w.heap.size wr.heap.size (.slice (some ⟨g, 0, none⟩) 16 cp) (tab16 (smInvZ zs)) := by
        have h := unhide hrow
        rw [mix_all] at h
        have h2 : OwnI wr w4.heap.size wr.heap.size (.slice (some ⟨g, 0, none⟩) 16 cp) (tab16 (smInvZ zs)) := by
          unfold OwnI
          rw [tab16_length]
          exact Own.of h
        exact own_mono h2 hsz (Nat.le_refl _)
      replace hO := hide hO
      have hU := hide (Upd.of_below (((unhide hu).below (Nat.le_refl _) (.inr (Nat.zero_le _))).trans ((unhide hbel).mono hsz)) 0 0)
      clear hrow hbel
      go_wp2
      go_ret
      exact ⟨_, rfl, by rw [unhide hE]; exact unhide hO, unhide hU⟩
end Go.Proofs.Ytpofmcepjmbmcaa
