/- What a plan costs: the specification's walk. -/
import Derived.Test.YtailhdfmfmlniaaWPcB
import Derived.Test.YtailhdfmfmlniaaWReB
import Derived.Test.YtailhdfmfmlniaaWPa
import Derived.Test.YtailhdfmfmlniaaWHeld
namespace Go.Proofs.Ytailhdfmfmlniaa
open Go.RowKit

theorem costF_noL {o p : Int} {ks xs : List Int} (h : lsB (-67108864) 67108863 xs = false) : costF o p ks xs = -1 := costF_no (fun h' => by rw [lsB_yes h'.1] at h; cases h)
theorem costF_noC {o p : Int} {ks xs : List Int} (h : ¬ CutOk o p xs.length) : costF o p ks xs = -1 := costF_no (fun h' => h h'.2.1)
theorem costF_noK {o : Int} {P : Nat} {ks xs : List Int} (h : ¬ ((ks.length : Int) = 2 ^ P)) : costF o (P : Int) ks xs = -1 := costF_no (fun h' => h (by have := h'.2.2.1; rwa [Int.toNat_natCast] at this))
theorem costF_noR {o p : Int} {ks xs : List Int} (k : Nat) (hk : k < ks.length) (h : ¬ (0 ≤ ks.getD k 0 ∧ ks.getD k 0 ≤ 25)) : costF o p ks xs = -1 := costF_no (fun h' => h (h'.2.2.2 k hk))
abbrev pac (o p : Int) (v : Value) : List Value := [.int .i64 o, .int .i64 p, v]
theorem pow16 (P : Nat) (h : P ≤ 4) : (1 : Int) ≤ 2 ^ P ∧ (2 : Int) ^ P ≤ 16 := by
  rcases (show P = 0 ∨ P = 1 ∨ P = 2 ∨ P = 3 ∨ P = 4 by omega) with e | e | e | e | e <;> subst e <;> decide
set_option maxHeartbeats 16000000 in
set_option maxRecDepth 100000 in
theorem specPlanCost (v : Value) (d : Pa) (v1 : Value) (xs : List Int) (w : World) (hn : PaSize d ≤ 1048576) (_hR : InPa d) (hv : RdPa w v d) (hn1 : xs.length ≤ 1048576) (_hR1 : InI xs) (hv1 : RdX w v1 xs) :
    Calls Try.prog 31 #[v, v1] w fun e w' => e = .returned (.int .i64 (costF d.1 d.2.1 d.2.2 xs)) ∧ Upd 0 0 w w' := by
  obtain ⟨v0, rfl, hK⟩ := hv
  obtain ⟨o, p, ks⟩ := d
  simp only [Pav, PaSize] at hn hK ⊢
  obtain ⟨adk, capk, rfl, hAk⟩ := hK
  obtain ⟨ad, cap, rfl, hA⟩ := hv1.rd
  have hbx := hide (heldF_new w (pac o p (.slice adk ks.length capk)) 45)
  have hU := hide (Upd.of_below ((Below.refl w.heap.size w).alloc (Nat.le_refl _) (.cells #[.int .i64 o, .int .i64 p, .slice adk ks.length capk] 45)) 0 0)
  have hC := hide (fun W (u : Upd 0 0 w W) => specL10List ad cap xs W hn1 (hA.below u.none))
  have hD := hide (fun W => specL10Parts o p xs.length W hn1)
  have hE := hide (fun (W : World) (u : Upd 0 0 w W) (p : Nat) (hp : p ≤ 4) (hok : LsOk (-67108864) 67108863 xs) => specL10Residue p ad cap xs W hp hok (hA.below u.none))
  have hAk0 := hide hAk
  clear hA hv1 hAk
  by_cases hok : LsOk (-67108864) 67108863 xs
  case neg =>
    rw [costF_noL (lsB_no hok)]
    rw [lsB_no hok] at hC
    clear hok hE hD
    go_enter Try.func31, Try.ntmps31
    go_wp2_with fail
    refine (unhide hC _ (unhide hU)).mono ?_
    rintro e w1 ⟨rfl, hu⟩
    replace hU := hide ((unhide hU).trans hu)
    go_wp2
    go_ret
    exact ⟨rfl, unhide hU⟩
  rw [lsB_yes hok] at hC
  by_cases hcut : CutOk o p xs.length
  case neg =>
    rw [costF_noC hcut]
    rw [decide_eq_false hcut] at hD
    clear hok hE hcut
    go_enter Try.func31, Try.ntmps31
    go_wp2_with fail
    change Hid (HeldF (w.alloc (.cells #[.int .i64 o, .int .i64 p, .slice adk ks.length capk] 45)) w.heap.size (pac o p (.slice adk ks.length capk))) at hbx
    generalize w.alloc (.cells #[.int .i64 o, .int .i64 p, .slice adk ks.length capk] 45) = w0 at hbx hU ⊢
    refine (unhide hC _ (unhide hU)).mono ?_
    rintro e w1 ⟨rfl, hu⟩
    replace hU := hide ((unhide hU).trans hu)
    replace hbx := hide ((unhide hbx).keep hu)
    clear hu
    have p0 := (unhide hbx).1.2 0 _ rfl
    have p1 := (unhide hbx).1.2 1 _ rfl
    go_wp2_with fail
    refine (unhide hD _).mono ?_
    rintro e w2 ⟨rfl, rfl⟩
    go_wp2
    go_ret
    exact ⟨rfl, unhide hU⟩
  rw [decide_eq_true hcut] at hD
  obtain ⟨O, rfl⟩ := Int.eq_ofNat_of_zero_le hcut.1.1
  obtain ⟨P, rfl⟩ := Int.eq_ofNat_of_zero_le hcut.2.2.1.1
  have hO4 : O ≤ 4 := by have := hcut.1.2; omega
  have hP4 : P ≤ 4 := by have := hcut.2.2.1.2; omega
  have hp := pow16 P hP4
  by_cases hkl : (ks.length : Int) = 2 ^ P
  case neg =>
    rw [costF_noK hkl]
    have q : ((ks.length : Int) != (2 : Int) ^ P) = true := by rw [bne_iff_ne]; exact hkl
    clear hok hE hcut hkl
    go_enter Try.func31, Try.ntmps31
    go_wp2_with fail
    change Hid (HeldF (w.alloc (.cells #[.int .i64 (O : Int), .int .i64 (P : Int), .slice adk ks.length capk] 45)) w.heap.size (pac (O : Int) (P : Int) (.slice adk ks.length capk))) at hbx
    generalize w.alloc (.cells #[.int .i64 (O : Int), .int .i64 (P : Int), .slice adk ks.length capk] 45) = w0 at hbx hU ⊢
    refine (unhide hC _ (unhide hU)).mono ?_
    rintro e w1 ⟨rfl, hu⟩
    replace hU := hide ((unhide hU).trans hu)
    replace hbx := hide ((unhide hbx).keep hu)
    clear hu
    have p0 := (unhide hbx).1.2 0 _ rfl
    have p1 := (unhide hbx).1.2 1 _ rfl
    have p2 := (unhide hbx).1.2 2 _ rfl
    go_wp2_with fail
    refine (unhide hD _).mono ?_
    rintro e w2 ⟨rfl, rfl⟩
    go_wp2
    go_ret
    exact ⟨rfl, unhide hU⟩
  have q : ((ks.length : Int) != (2 : Int) ^ P) = false := by rw [bne_eq_false_iff_eq]; exact hkl
  have hks16 : ks.length ≤ 16 := by omega
  have hk2 : ks.length = 2 ^ P := by
    have : ((ks.length : Nat) : Int) = ((2 ^ P : Nat) : Int) := by rw [hkl, Int.natCast_pow]; rfl
    omega
  have hcn := (cutOk_of (O : Int) P xs.length hcut.1 hcut.2.1 hP4).1 hcut
  obtain ⟨N, hN⟩ : ∃ N, xs.length = N := ⟨_, rfl⟩
  obtain ⟨each, hea⟩ : ∃ each, N / 2 ^ P = each := ⟨_, rfl⟩
  have hoe : O ≤ each := by have := hcn.2; rw [hN, hea] at this; omega
  have hpl : Hid (∀ i, i < ks.length → (i + 1) * each ≤ N) := hide (fun i hi => by rw [← hea]; exact parts_le (by rw [← hN]; exact hcn.1) i (by omega))
  have hrg : Hid (∀ k, k < ks.length → ¬ (0 ≤ ks.getD k 0 ∧ ks.getD k 0 ≤ 25) → costF (O : Int) (P : Int) ks xs = -1) := hide (fun k hk h => costF_noR k hk h)
  have hyes : Hid ((∀ j, j < ks.length → 0 ≤ ks.getD j 0 ∧ ks.getD j 0 ≤ 25) → costF (O : Int) (P : Int) ks xs = costTo O P ks xs ks.length) := hide (fun h => costF_yes ⟨hok, hcut, ⟨by rw [Int.toNat_natCast]; exact hkl, fun j hj => h j hj⟩⟩)
  obtain ⟨T, hT⟩ : ∃ T, costTo O P ks xs = T := ⟨_, rfl⟩
  have hT0 : Hid (T 0 = 6 + 26 * (O : Int)) := hide (by rw [← hT]; unfold costTo accZ; omega)
  have hTs : Hid (∀ i, T (i + 1) = T i + (5 + keyC (ks.getD i 0).toNat (partZ (resL O xs) O each i))) := hide (fun i => by rw [← hT, costTo_succ, hN, hea])
  have hrI := hide (resL_inR hok.2 O hO4)
  have hrl : Hid ((resL O xs).length = N) := hide (by rw [resL_length, hN])
  have hN4 : N ≤ 4000 := by rw [← hN]; exact hok.1
  rw [hT] at hyes
  replace hE := hide (fun (W : World) (u : Upd 0 0 w W) => unhide hE W u O hO4 hok)
  replace hea := hide hea
  rw [hN] at hD hC hE ⊢
  generalize costF (O : Int) (P : Int) ks xs = R at hrg hyes ⊢
  generalize resL O xs = r at hTs hrI hrl hE
  have hPz : Hid (∀ i, i < ks.length → (partZ r O each i).length ≤ 4000 ∧ InR (-1073741824) 1073741824 (partZ r O each i)) := hide (fun i hi => ⟨by
    have h1 := unhide hpl i hi
    rw [partZ_length _ _ _ _ (by rw [unhide hrl]; exact h1)]; omega, partZ_inR (unhide hrI) _ _ _⟩)
  replace hN := hide hN
  replace hT := hide hT
  clear hok hcut hkl hcn hk2
  go_enter Try.func31, Try.ntmps31
  go_wp2_with fail
  change Hid (HeldF (w.alloc (.cells #[.int .i64 (O : Int), .int .i64 (P : Int), .slice adk ks.length capk] 45)) w.heap.size (pac (O : Int) (P : Int) (.slice adk ks.length capk))) at hbx
  generalize w.alloc (.cells #[.int .i64 (O : Int), .int .i64 (P : Int), .slice adk ks.length capk] 45) = w0 at hbx hU ⊢
  refine (unhide hC _ (unhide hU)).mono ?_
  rintro e w1 ⟨rfl, hu⟩
  replace hU := hide ((unhide hU).trans hu)
  replace hbx := hide ((unhide hbx).keep hu)
  clear hu hC
  have p0 := (unhide hbx).1.2 0 _ rfl
  have p1 := (unhide hbx).1.2 1 _ rfl
  have p2 := (unhide hbx).1.2 2 _ rfl
  go_wp2_with fail
  refine (unhide hD _).mono ?_
  rintro e w2 ⟨rfl, rfl⟩
  clear hD
  go_wp2_with fail
  refine (unhide hE _ (unhide hU)).mono ?_
  rintro e w3 ⟨vr, rfl, how, hu⟩
  replace hU := hide ((unhide hU).trans hu)
  replace hbx := hide ((unhide hbx).keep hu)
  have hrX := hide (rdX_of_own how)
  clear hu hE p0 p1 p2 how
  have p0 := (unhide hbx).1.2 0 _ rfl
  have p2 := (unhide hbx).1.2 2 _ rfl
  go_wp2
  clear p0 p2
  go_loopw [6, 7, 8, 43] (fun s _ _ i wr => ∃ k : Nat, k ≤ ks.length ∧ i = .int .i64 k ∧ s = .int .i64 (T k) ∧ Hid (Upd 0 0 w wr) ∧ Hid (HeldF wr w.heap.size (pac (O : Int) (P : Int) (.slice adk ks.length capk))) ∧ Hid (RdX wr vr r) ∧ Hid (∀ j, j < k → 0 ≤ ks.getD j 0 ∧ ks.getD j 0 ≤ 25) ∧ Hid (0 ≤ T k ∧ T k ≤ 200 + k * 8589934697000)) (fun _ _ _ i _ => ks.length - (intOf i).toNat)
  case atStart => exact ⟨0, Nat.zero_le _, rfl, by rw [unhide hT0], hU, hbx, hrX, hide (fun j hj => by omega), hide (by rw [unhide hT0]; omega)⟩
  case round =>
    clear hU hbx hrX
    obtain ⟨k, hk, rfl, rfl, hU, hbx, hrX, hgd, hTb⟩ := hrel
    by_cases hlt : k < ks.length
    · obtain ⟨bb, off, rfl, hbl, hc⟩ := (unhide hAk0) (ne_of_lt_length hlt)
      have hck := ((unhide hU).none.cell (p := ⟨bb, off + k, none⟩) (by simpa using hbl)).trans (hc k hlt)
      have hrgk := hide (unhide hrg k hlt)
      have hgd2 : Hid ((0 ≤ ks.getD k 0 ∧ ks.getD k 0 ≤ 25) → ∀ j, j < k + 1 → 0 ≤ ks.getD j 0 ∧ ks.getD j 0 ≤ 25) := hide (fun h j hj => by
        rcases Nat.lt_or_eq_of_le (Nat.le_of_lt_succ hj) with h' | h'
        · exact unhide hgd j h'
        · subst h'; exact h)
      have hTk := unhide hTs k
      obtain ⟨zl, zr⟩ := unhide hPz k hlt
      have hpart := hide (specL10Part O P k N each vr r wr hP4 hoe (unhide hea) (unhide hpl k hlt) hN4 (by omega) (unhide hrl) (unhide hrX))
      have kI : (0 : Int) ≤ (k : Int) := by omega
      have kL : (k : Int) < (ks.length : Int) := by omega
      have p0 := (unhide hbx).1.2 0 _ rfl
      have p1 := (unhide hbx).1.2 1 _ rfl
      generalize partZ r O each k = z at hTk zl zr hpart
      generalize ks.getD k 0 = ke at hck hrgk hgd2 hTk
      clear hc hbl
      by_cases y1 : ke < 0
      · have hB := hide (unhide hrgk (fun h => by have := h.1; omega))
        clear hrgk hgd2 hTk hpart
        go_wp2
        go_ret
        exact ⟨by rw [unhide hB]; rfl, unhide hU⟩
      by_cases y2 : 25 < ke
      · have hB := hide (unhide hrgk (fun h => by have := h.2; omega))
        clear hrgk hgd2 hTk hpart
        go_wp2
        go_ret
        exact ⟨by rw [unhide hB]; rfl, unhide hU⟩
      obtain ⟨K, rfl⟩ := Int.eq_ofNat_of_zero_le (show 0 ≤ ke by omega)
      rw [Int.toNat_natCast] at hTk
      have hK25 : K ≤ 25 := by omega
      have hgd3 := hide (unhide hgd2 (by omega))
      have hkb := keyC_bd K z hK25 zl zr
      have hKC := hide (fun ad' cap' W (h : ArgI W ad' z) => specL10KeyCost K ad' cap' z W hK25 zl zr h)
      clear hrgk hgd2 hgd
      have hc2 : keyC K z ≤ 8589934696000 := by
        have : (z.length : Int) * 2147483674 ≤ 4000 * 2147483674 := Int.mul_le_mul_of_nonneg_right (by omega) (by omega)
        omega
      have hc1 : -5 ≤ keyC K z := by have := hkb.1; omega
      clear hkb
      generalize keyC K z = c at hTk hc1 hc2 hKC
      obtain ⟨b1, b2⟩ := unhide hTb
      have hTb2 : Hid (0 ≤ T (k + 1) ∧ T (k + 1) ≤ 200 + ((k + 1 : Nat) : Int) * 8589934697000) := hide (by rw [hTk]; omega)
      generalize hs2 : T (k + 1) = s2 at hTk
      have hs3 : Hid (T (k + 1) = s2) := hide hs2
      clear hs2 hTb zr
      generalize T k = s at hTk b1 b2 ⊢
      have b3 : s ≤ 200000000000000 := by omega
      clear b2
      go_wp2_with fail
      refine (unhide hpart).mono ?_
      rintro e w5 ⟨u, rfl, hru, rfl⟩
      obtain ⟨adu, capu, rfl, hAu⟩ := hru
      have hKC2 := hide (unhide hKC adu capu w5 hAu)
      clear hAu hKC hpart
      go_wp2_with fail
      refine (unhide hKC2).mono ?_
      rintro e w6 ⟨rfl, rfl⟩
      go_wp2
      go_roundw
      case rel => exact ⟨k + 1, by omega, by go_num, by rw [unhide hs3, hTk], hU, hbx, hrX, hgd3, hTb2⟩
      case measure => simp [intOf]; omega
    · have hkl : k = ks.length := by omega
      subst hkl
      have hR := hide (unhide hyes (unhide hgd))
      go_wp2
      go_ret
      exact ⟨by rw [unhide hR]; rfl, unhide hU⟩
end Go.Proofs.Ytailhdfmfmlniaa
