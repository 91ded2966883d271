/- The law on drawn blocks, forward and back, walked. -/
import Derived.Test.YtnalmingbglgfaaDoorWSml
import Derived.Test.YtnalmingbglgfaaDoorWFwD
import Derived.Test.YtnalmingbglgfaaDoorWDw
import Derived.Test.YtnalmingbglgfaaDoorWByts
namespace Go.Proofs.YtnalmingbglgfaaDoor
open Go.RowKit

theorem inR_inI {lo hi : Int} {xs : List Int} (h : InR lo hi xs) (hl : -9223372036854775808 ≤ lo) (hh : hi ≤ 9223372036854775807) : InI xs := by
  intro j
  by_cases hj : j < xs.length
  · have := h j hj; omega
  · rw [List.getD_eq_getElem?_getD, List.getElem?_eq_none (by omega)]; simp
set_option maxHeartbeats 4000000 in
set_option maxRecDepth 100000 in
theorem lawFnTurnedB (ad : Option Addr) (cap : Nat) (zs : List Int) (w : World) (hTb : Held w 0 [.int .i64 2896, .int .i64 4017, .int .i64 3784, .int .i64 3406, .int .i64 2896, .int .i64 2276, .int .i64 1567, .int .i64 799]) (hA : ArgB w ad zs) :
    Calls Tryd.prog 3 #[.slice ad zs.length cap] w fun e w' => e = .returned (.bool true) ∧ Below w.heap.size w w' := by
  by_cases hl : 1048576 < zs.length
  · clear hA
    go_enter Tryd.func3, Tryd.ntmps3
    go_wp2
    go_ret
    exact ⟨rfl, Below.refl _ _⟩
  have hl' : zs.length ≤ 1048576 := by omega
  replace hA := hide hA
  replace hTb := hide hTb
  go_enter Tryd.func3, Tryd.ntmps3
  go_wp2_with fail
  refine (specDrawForward ad cap zs _ (unhide hA) hl').mono ?_
  rintro e w1 ⟨v, xs, rfl, hxl, hxr, hxv, hB⟩
  replace hTb := hide ((unhide hTb).keep (Upd.of_below hB 0 0))
  clear hA hl hl'
  obtain ⟨adx, capx, rfl, hX⟩ := hxv
  replace hB := hide hB
  replace hX := hide hX
  replace hxr := hide hxr
  replace hxl := hide hxl
  go_wp2_with fail
  refine (specSmall _ xs w1 (by have := unhide hxl; omega) (unhide hxr) ⟨_, _, rfl, unhide hX⟩).mono ?_
  rintro e w2 ⟨v2, rfl, hO, hu⟩
  have hsr := smallL_inR xs
  have hsl : (smallL xs).length = 64 ∨ (smallL xs).length = 63 := by unfold smallL; rw [List.length_map]; exact unhide hxl
  generalize smallL xs = bs at hO hsr hsl
  replace hTb := hide ((unhide hTb).keep hu)
  replace hB := hide (below_upd (unhide hB) hu (Nat.le_refl _) (.inr (Nat.zero_le _)))
  have hI := hide (inR_inI hsr (by omega) (by omega))
  have hbn : bs.length ≤ 1048576 := by omega
  obtain ⟨adb, capb, rfl, _⟩ := readK_of_own hO
  replace hO := hide hO
  clear hu hX hxr hxl
  rcases hsl with hb | hb
  case inr =>
    have hE : forwardF bs = [] := by unfold forwardF; rw [blB_no (fun h => by have := h.1; omega)]; rfl
    go_wp2_with fail
    have hF := hide (implForward _ bs w2 (unhide hTb) hbn (unhide hI) (OwnI.rc (unhide hO)))
    rw [hE, hb] at hF
    replace hb := hide hb
    refine (unhide hF).mono ?_
    rintro e w3 ⟨v3, rfl, hO3, hu3⟩
    obtain ⟨ad3, cap3, rfl, _⟩ := readK_of_own hO3
    replace hB := hide (below_upd (unhide hB) hu3 (Nat.le_refl _) (.inr (Nat.zero_le _)))
    clear hO3 hu3 hF hE
    go_wp2
    go_ret
    exact ⟨rfl, unhide hB⟩
  have hok := fwd_ok bs hb hsr
  have hbk : BlOk bs := ⟨hb, fun j hj => by have := hsr j hj; omega⟩
  have hE1 : forwardF bs = fwdL bs := by unfold forwardF; rw [blB_yes hbk]; rfl
  have hE2 : inverseF (fwdL bs) = invL (fwdL bs) := by unfold inverseF; rw [blB_yes hok]; rfl
  have hnear := hide (turned_list bs hb hsr)
  have hFi := hide (fun (W : World) (a : Held W 0 [.int .i64 2896, .int .i64 4017, .int .i64 3784, .int .i64 3406, .int .i64 2896, .int .i64 2276, .int .i64 1567, .int .i64 799]) (b : RdC W (.slice adb bs.length capb) bs) => implForward (.slice adb bs.length capb) bs W a hbn (unhide hI) b)
  have hFs := hide (fun (W : World) (b : RdC W (.slice adb bs.length capb) bs) => specForward (.slice adb bs.length capb) bs W hbn (unhide hI) b)
  have hGi := hide (fun (v : Value) (W : World) (a : Held W 0 [.int .i64 2896, .int .i64 4017, .int .i64 3784, .int .i64 3406, .int .i64 2896, .int .i64 2276, .int .i64 1567, .int .i64 799]) (b : RdC W v (fwdL bs)) => implInverse v (fwdL bs) W a (by rw [hok.1]; omega) (inR_inI hok.2 (by omega) (by omega)) b)
  rw [hE1] at hFi hFs
  rw [hE2] at hGi
  have hil : (invL (fwdL bs)).length = 64 := by simp [invL, tmul]
  have hir := hide (show InR (-1000000000) 1000000000 (invL (fwdL bs)) from fun j hj => by
    have h1 := unhide hnear j (by omega)
    have h2 := hsr j (by omega)
    omega)
  obtain ⟨hfl, _⟩ := hok
  generalize invL (fwdL bs) = rs at hGi hnear hil hir
  generalize fwdL bs = fs at hFi hFs hGi hfl
  rw [hb] at hFi hFs ⊢
  have hb' := hide hb
  have hfl' := hide hfl
  have hil' := hide hil
  have hsr' := hide hsr
  clear hE1 hE2 hbk hfl hil hb hsr hbn hI
  go_wp2_with fail
  refine (unhide hFi w2 (unhide hTb) (by have h := OwnI.rc (unhide hO); rw [unhide hb'] at h; exact h)).mono ?_
  rintro e w3 ⟨v3, rfl, hO3, hu3⟩
  obtain ⟨ad3, cap3, rfl, _⟩ := readK_of_own hO3
  replace hO3 := hide hO3
  replace hO := hide ((unhide hO).keep hu3)
  replace hTb := hide ((unhide hTb).keep hu3)
  replace hB := hide (below_upd (unhide hB) hu3 (Nat.le_refl _) (.inr (Nat.zero_le _)))
  rw [unhide hfl']
  clear hu3 hFi
  go_wp2_with fail
  refine (unhide hFs w3 (by have h := OwnI.rc (unhide hO); rw [unhide hb'] at h; exact h)).mono ?_
  rintro e w4 ⟨v4, rfl, hO4, hu4⟩
  obtain ⟨ad4, cap4, rfl, hA4⟩ := readK_of_own hO4
  replace hO3 := hide ((unhide hO3).keep hu4)
  replace hO := hide ((unhide hO).keep hu4)
  replace hTb := hide ((unhide hTb).keep hu4)
  replace hB := hide (below_upd (unhide hB) hu4 (Nat.le_refl _) (.inr (Nat.zero_le _)))
  clear hu4 hFs hO4
  rw [unhide hfl']
  replace hA4 := hide hA4
  go_wp2_with fail
  refine (wInts_rd (.slice ad3 64 cap3) (.slice ad4 64 cap4) fs w4 (by rw [unhide hfl']; omega) (by have h := OwnI.rc (unhide hO3); rw [unhide hfl'] at h; exact h.rd) ⟨ad4, cap4, by rw [unhide hfl'], unhide hA4⟩).mono ?_
  rintro e w5 ⟨rfl, hu5⟩
  replace hO3 := hide ((unhide hO3).keep hu5)
  replace hO := hide ((unhide hO).keep hu5)
  replace hTb := hide ((unhide hTb).keep hu5)
  replace hB := hide (below_upd (unhide hB) hu5 (Nat.le_refl _) (.inr (Nat.zero_le _)))
  clear hu5 hA4
  go_wp2_with fail
  refine (unhide hGi (.slice ad3 64 cap3) w5 (unhide hTb) (by have h := OwnI.rc (unhide hO3); rw [unhide hfl'] at h; exact h)).mono ?_
  rintro e w6 ⟨v6, rfl, hO6, hu6⟩
  obtain ⟨ad6, cap6, rfl, hA6⟩ := readK_of_own hO6
  replace hO := hide ((unhide hO).keep hu6)
  replace hB := hide (below_upd (unhide hB) hu6 (Nat.le_refl _) (.inr (Nat.zero_le _)))
  clear hu6 hGi hO6 hO3 hTb
  replace hA6 := hide hA6
  have hAb : Hid (ArgI w6 adb bs) := hide (by
    obtain ⟨a, c, e, hA⟩ := readK_of_own (unhide hO)
    simp only [Value.slice.injEq] at e
    rw [e.1]; exact hA)
  clear hO
  rw [unhide hil']
  go_wp2_with fail
  go_loopw [35] (fun i wr => ∃ k : Nat, k ≤ 64 ∧ i = .int .i64 k ∧ ∃ nq, wr = w6.drewN nq) (fun i _ => 64 - (intOf i).toNat)
  case atStart => exact ⟨0, Nat.zero_le _, rfl, 0, rfl⟩
  case round =>
    obtain ⟨k, hk, rfl, nq, rfl⟩ := hrel
    by_cases hlt : k < 64
    · obtain ⟨bx, ox, rfl, _, hcx⟩ := (unhide hAb) (ne_of_lt_length (k := k) (by rw [unhide hb']; exact hlt))
      obtain ⟨bt, ot, rfl, _, hct⟩ := (unhide hA6) (ne_of_lt_length (k := k) (by rw [unhide hil']; exact hlt))
      have kx := hcx k (by rw [unhide hb']; exact hlt)
      have kt := hct k (by rw [unhide hil']; exact hlt)
      have rx := unhide hsr' k (by rw [unhide hb']; exact hlt)
      have rt := unhide hir k (by rw [unhide hil']; exact hlt)
      have hd := unhide hnear k hlt
      clear hcx hct
      generalize bs.getD k 0 = x at kx rx hd
      generalize rs.getD k 0 = t at kt rt hd
      obtain ⟨x0, x1⟩ := rx
      obtain ⟨t0, t1⟩ := rt
      obtain ⟨d0, d1⟩ := hd
      have hw1 : IntKind.i64.wrap (t - x) = t - x := by simp [IntKind.wrap, IntKind.bits, IntKind.signed]; omega
      have hkI : (0 : Int) ≤ (k : Int) := by omega
      have hkL : (k : Int) < 64 := by omega
      clear hAb hA6 hnear hir hsr' hB
      go_wp2_with fail
      go_quiet (fail)
      go_wp2
      go_roundw
      case rel => exact ⟨k + 1, by omega, by go_num, _, rfl⟩
      case measure => simp [intOf]; omega
    · have hkl : k = 64 := by omega
      subst hkl
      go_wp2
      go_ret
      exact ⟨rfl, below_drewN (unhide hB) nq⟩
theorem lawFnTurned (ad : Option Addr) (cap : Nat) (zs : List Int) (w : World) (hTb : Held w 0 [.int .i64 2896, .int .i64 4017, .int .i64 3784, .int .i64 3406, .int .i64 2896, .int .i64 2276, .int .i64 1567, .int .i64 799]) (hA : ArgY w ad zs) (hR : InB zs) :
    Calls Tryd.prog 3 #[.slice ad zs.length cap] w fun e w' => e = .returned (.bool true) ∧ Below w.heap.size w w' :=
  lawFnTurnedB ad cap zs w hTb ⟨hR, fun hne => by
    obtain ⟨b, off, e, hl, hc⟩ := hA hne
    exact ⟨b, off, e, hl, hc⟩⟩
end Go.Proofs.YtnalmingbglgfaaDoor
