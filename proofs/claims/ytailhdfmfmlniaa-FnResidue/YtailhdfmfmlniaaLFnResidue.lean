/- The law on residues of drawn lists, walked. -/
import Derived.Test.YtailhdfmfmlniaaWToC
import Derived.Test.YtailhdfmfmlniaaWReX
import Derived.Test.YtailhdfmfmlniaaWReE
import Derived.Test.YtailhdfmfmlniaaWLiD
import Derived.Test.YtailhdfmfmlniaaWDw
namespace Go.Proofs.Ytailhdfmfmlniaa
open Go.RowKit

theorem argB_ofYR {w : World} {ad : Option Addr} {zs : List Int} (h : ArgY w ad zs) (hR : InB zs) : ArgB w ad zs :=
  ⟨hR, fun hne => by
    obtain ⟨b, off, e, hl, hc⟩ := h hne
    exact ⟨b, off, e, hl, hc⟩⟩
theorem below_updR {B : Nat} {x w w' : World} (h : Below B x w) (hx : B ≤ x.heap.size) (k : Upd 0 0 w w') : Below B x w' := below_upd h k hx (.inr (Nat.zero_le _))
theorem inI_nil : InI [] := fun j => by simp
theorem resF_inI (o : Int) (xs : List Int) : InI (resF o xs) := by
  by_cases h : (0 ≤ o ∧ o ≤ 4) ∧ LsOk (-67108864) 67108863 xs
  · obtain ⟨p, rfl⟩ := Int.eq_ofNat_of_zero_le h.1.1
    rw [resF_yes (by have := h.1.2; omega) h.2]
    exact (resL_inR h.2.2 p (by have := h.1.2; omega)).int (by omega) (by omega)
  · rw [resF_no h]; exact inI_nil
theorem rst_resF (o : Nat) (xs : List Int) (ho : o ≤ 4) (h : 0 < (resF (o : Int) xs).length) : rstF (o : Int) (resF (o : Int) xs) = xs := by
  by_cases hok : LsOk (-67108864) 67108863 xs
  · exact rstF_resF ho hok
  · rw [resF_no (fun h' => hok h'.2)] at h; simp at h
theorem turF_pair {f : Int → Int → Int → Int} {way : Int} {xs ys : List Int} (h : (turF f way xs ys).length ≠ 0) : PairOk (-67108864) 67108863 way xs ys := by
  by_cases hp : PairOk (-67108864) 67108863 way xs ys
  · exact hp
  · rw [turF_no hp] at h; simp at h
theorem turA_inI (way : Int) (xs ys : List Int) : InI (turF turA way xs ys) := by
  by_cases hp : PairOk (-67108864) 67108863 way xs ys
  · rw [turF_yes hp]
    refine InR.int (lo := -67108864) (hi := 67108863) (fun j hj => ?_) (by omega) (by omega)
    rw [two_length] at hj
    rw [two_getD _ _ _ _ _ hj]
    exact turA_bd way _ _ (hp.2.2.1.2 j hj) (hp.2.2.2.2 j (by rw [← hp.2.1]; exact hj))
  · rw [turF_no hp]; exact inI_nil
theorem turB_inI (way : Int) (xs ys : List Int) : InI (turF turB way xs ys) := by
  by_cases hp : PairOk (-67108864) 67108863 way xs ys
  · rw [turF_yes hp]
    refine InR.int (lo := -134217728) (hi := 134217728) (fun j hj => ?_) (by omega) (by omega)
    rw [two_length] at hj
    rw [two_getD _ _ _ _ _ hj]
    exact turB_bd way _ _ (hp.2.2.1.2 j hj) (hp.2.2.2.2 j (by rw [← hp.2.1]; exact hj))
  · rw [turF_no hp]; exact inI_nil
set_option maxHeartbeats 32000000 in
set_option maxRecDepth 100000 in
theorem lawFnResidueB (ad : Option Addr) (cap : Nat) (zs : List Int) (w : World) (hA : ArgB w ad zs) :
    Calls Try.prog 4 #[.slice ad zs.length cap] w fun e w' => e = .returned (.bool true) ∧ Below w.heap.size w w' := by
  by_cases hl : 1048576 < zs.length
  · clear hA
    go_enter Try.func4, Try.ntmps4
    go_wp2
    go_ret
    exact ⟨rfl, Below.refl _ _⟩
  have hl' : zs.length ≤ 1048576 := by omega
  have hdT := hide (fun W (b : Below w.heap.size w W) => specDrawTurn ad cap zs W ⟨hA.1, fun hne => by
    obtain ⟨b', off, e, h1, h2⟩ := hA.2 hne
    exact ⟨b', off, e, Nat.lt_of_lt_of_le h1 b.size, fun j hj => (b.cell (by simpa using h1)).trans (h2 j hj)⟩⟩ hl')
  have hdR := hide (specDrawResidue ad cap zs w hA hl')
  clear hA hl'
  go_enter Try.func4, Try.ntmps4
  go_wp2_with fail
  refine (unhide hdR).mono ?_
  rintro e w1 ⟨o, v, xs, rfl, hxl, hR, hO, hB⟩
  have hI := hide (hR.int (by omega) (by omega))
  have hX := hide (rdX_of_own hO)
  replace hB := hide hB
  clear hR hO hdR
  obtain ⟨adv, capv, rfl, _⟩ := (unhide hX).rd
  go_wp2_with fail
  go_loopw [5, 6] (fun i _ wr => ∃ k : Nat, k ≤ 5 ∧ i = .int .i64 k ∧ Hid (RdX wr (.slice adv xs.length capv) xs) ∧ Hid (Below w.heap.size w wr)) (fun i _ _ => 5 - (intOf i).toNat)
  case atStart => exact ⟨0, by omega, rfl, hX, hB⟩
  case round =>
    clear hX hB
    obtain ⟨k, hk, rfl, hX, hB⟩ := hrel
    by_cases hlt : k ≤ 4
    · have q1 : decide ((k : Int) ≤ 4) = true := decide_eq_true (by omega)
      have q2 : decide (k ≤ 4) = true := decide_eq_true hlt
      have hrl := resF_len (k : Int) xs
      have hrI := hide (resF_inI (k : Int) xs)
      have hrr := hide (rst_resF k xs hlt)
      go_wp2_with fail
      refine (implResidue (k : Int) _ xs wr (by omega) (by omega) (by omega) (unhide hI) (unhide hX)).mono ?_
      rintro e w2 ⟨r1, rfl, hO1, hu⟩
      replace hX := hide ((unhide hX).below hu.none)
      replace hB := hide (below_updR (unhide hB) (Nat.le_refl _) hu)
      have hX1 := hide (rdX_of_own hO1)
      clear hu hO1
      obtain ⟨ad1, cap1, rfl, _⟩ := (unhide hX1).rd
      go_wp2_with fail
      refine (specResidueX (k : Int) _ xs w2 (by omega) (by omega) (by omega) (unhide hI) (unhide hX)).mono ?_
      rintro e w3 ⟨r2, rfl, hO2, hu⟩
      replace hX := hide ((unhide hX).below hu.none)
      replace hX1 := hide ((unhide hX1).below hu.none)
      replace hB := hide (below_updR (unhide hB) (Nat.le_refl _) hu)
      have hX2 := hide (rdX_of_own hO2)
      clear hu hO2
      go_wp2_with fail
      refine (wInts_rd _ _ (resF (k : Int) xs) w3 (by omega) (unhide hX1).rd (unhide hX2).rd).mono ?_
      rintro e w4 ⟨rfl, hu⟩
      replace hX := hide ((unhide hX).below hu.none)
      replace hX1 := hide ((unhide hX1).below hu.none)
      replace hB := hide (below_updR (unhide hB) (Nat.le_refl _) hu)
      clear hu hX2
      by_cases h0 : 0 < (resF (k : Int) xs).length
      · have hrr2 := hide (unhide hrr h0)
        have q3 : decide ((0 : Int) < ((resF (k : Int) xs).length : Int)) = true := decide_eq_true (by omega)
        have hRes := hide (implRestore (k : Int) _ (resF (k : Int) xs) w4 (by omega) (by omega) (by omega) (unhide hrI) (unhide hX1))
        rw [unhide hrr2] at hRes
        clear hrr hrr2 hrI hX1
        generalize resF (k : Int) xs = rr at hrl h0 q3 hRes ⊢
        go_wp2_with fail
        refine (unhide hRes).mono ?_
        rintro e w5 ⟨r3, rfl, hO3, hu⟩
        replace hX := hide ((unhide hX).below hu.none)
        replace hB := hide (below_updR (unhide hB) (Nat.le_refl _) hu)
        have hX3 := hide (rdX_of_own hO3)
        clear hu hO3 hRes
        go_wp2_with fail
        refine (wInts_rd _ _ xs w5 (by omega) (unhide hX3).rd (unhide hX).rd).mono ?_
        rintro e w6 ⟨rfl, hu⟩
        replace hX := hide ((unhide hX).below hu.none)
        replace hB := hide (below_updR (unhide hB) (Nat.le_refl _) hu)
        clear hu hX3
        go_wp2
        go_roundw
        case rel => exact ⟨k + 1, by omega, by go_num, hX, hB⟩
        case measure => simp [intOf]; omega
      · have q3 : decide ((0 : Int) < ((resF (k : Int) xs).length : Int)) = false := decide_eq_false (by omega)
        have h00 : (resF (k : Int) xs).length = 0 := by omega
        clear hrr hrI
        generalize resF (k : Int) xs = rr at hrl h0 q3 h00 hX1 ⊢
        rw [h00]
        replace h00 := hide h00
        clear hX1 hrl h0 q3
        go_wp2
        go_roundw
        case rel => exact ⟨k + 1, by omega, by go_num, hX, hB⟩
        case measure => simp [intOf]; omega
    · have hk5 : k = 5 := by omega
      subst hk5
      clear hX hI
      go_wp2_with fail
      refine (unhide hdT wr (unhide hB)).mono ?_
      rintro e w2 ⟨way, va, ys, vb, us, rfl, hway, hyl, hul, hRy, hRu, hY, hU, hB2⟩
      replace hB := hide ((unhide hB).trans (hB2.mono (unhide hB).size))
      have hYI := hide (hRy.int (by omega) (by omega))
      have hUI := hide (hRu.int (by omega) (by omega))
      obtain ⟨ady, capy, rfl, hAy⟩ := hY
      obtain ⟨adu, capu, rfl, hAu⟩ := hU
      replace hAy := hide hAy
      replace hAu := hide hAu
      clear hB2 hRy hRu hdT
      have hT := hide (implTurn way _ ys _ us w2 (by omega) (by omega) (by omega) (unhide hYI) ⟨ady, capy, rfl, unhide hAy⟩ (by omega) (unhide hUI) ⟨adu, capu, rfl, unhide hAu⟩)
      have hlA := turF_len turA way ys us
      have hlB := turF_len turB way ys us
      have hAI := hide (turA_inI way ys us)
      have hBI := hide (turB_inI way ys us)
      have hun : Hid ((turF turA way ys us).length ≠ 0 → untF untA way (turF turA way ys us) (turF turB way ys us) = ys ∧ untF untB way (turF turA way ys us) (turF turB way ys us) = us) := hide (fun h => unt_tur (turF_pair h))
      generalize turF turA way ys us = A at hT hlA hAI hun
      generalize turF turB way ys us = C at hT hlB hBI hun
      go_wp2_with fail
      refine (unhide hT).mono ?_
      rintro e w3 ⟨vx, vz, rfl, ⟨a1, b1, a2, b2, _, _, _, _, _, hO1, hO2⟩, hu⟩
      replace hAy := hide ((unhide hAy).below hu.none)
      replace hAu := hide ((unhide hAu).below hu.none)
      replace hB := hide (below_updR (unhide hB) (Nat.le_refl _) hu)
      obtain ⟨adx, capx, rfl, hAx⟩ := OwnI.rd hO1
      obtain ⟨adz, capz, rfl, hAz⟩ := OwnI.rd hO2
      replace hAx := hide hAx
      replace hAz := hide hAz
      clear hO1 hO2 hu hT
      by_cases h0 : A.length = 0
      · have q3 : ((A.length : Int) == 0) = true := by rw [beq_iff_eq]; omega
        clear hun
        replace h0 := hide h0
        go_wp2
        go_ret
        exact ⟨rfl, unhide hB⟩
      have q3 : ((A.length : Int) == 0) = false := by rw [beq_eq_false_iff_ne]; omega
      obtain ⟨e1, e2⟩ := unhide hun h0
      have hT2 := hide (implUnturn way _ A _ C w3 (by omega) (by omega) hlA (unhide hAI) ⟨adx, capx, rfl, unhide hAx⟩ hlB (unhide hBI) ⟨adz, capz, rfl, unhide hAz⟩)
      rw [e1, e2] at hT2
      clear hun e1 e2 h0
      go_wp2_with fail
      refine (unhide hT2).mono ?_
      rintro e w4 ⟨vp, vq, rfl, ⟨a3, b3, a4, b4, _, _, _, _, _, hO1, hO2⟩, hu⟩
      replace hAy := hide ((unhide hAy).below hu.none)
      replace hAu := hide ((unhide hAu).below hu.none)
      replace hB := hide (below_updR (unhide hB) (Nat.le_refl _) hu)
      obtain ⟨adp, capp, rfl, hAp⟩ := OwnI.rd hO1
      obtain ⟨adq, capq, rfl, hAq⟩ := OwnI.rd hO2
      replace hAp := hide hAp
      replace hAq := hide hAq
      clear hO1 hO2 hu hT2 hAx hAz
      go_wp2_with fail
      refine (wInts_rd _ _ ys w4 (by omega) ⟨adp, capp, rfl, unhide hAp⟩ ⟨ady, capy, rfl, unhide hAy⟩).mono ?_
      rintro e w5 ⟨rfl, hu⟩
      replace hAq := hide ((unhide hAq).below hu.none)
      replace hAu := hide ((unhide hAu).below hu.none)
      replace hB := hide (below_updR (unhide hB) (Nat.le_refl _) hu)
      clear hu hAp hAy
      go_wp2_with fail
      refine (wInts_rd _ _ us w5 (by omega) ⟨adq, capq, rfl, unhide hAq⟩ ⟨adu, capu, rfl, unhide hAu⟩).mono ?_
      rintro e w6 ⟨rfl, hu⟩
      replace hB := hide (below_updR (unhide hB) (Nat.le_refl _) hu)
      clear hu hAq hAu
      go_wp2
      go_ret
      exact ⟨rfl, unhide hB⟩
theorem lawFnResidue (ad : Option Addr) (cap : Nat) (zs : List Int) (w : World) (hA : ArgY w ad zs) (hR : InB zs) :
    Calls Try.prog 4 #[.slice ad zs.length cap] w fun e w' => e = .returned (.bool true) ∧ Below w.heap.size w w' :=
  lawFnResidueB ad cap zs w (argB_ofYR hA hR)
end Go.Proofs.Ytailhdfmfmlniaa
