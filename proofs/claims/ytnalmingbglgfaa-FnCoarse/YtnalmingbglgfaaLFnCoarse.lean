/- The law on coarse and fine numbers of drawn blocks, walked. -/
import Derived.Test.YtnalmingbglgfaaWDc
import Derived.Test.YtnalmingbglgfaaWClp
import Derived.Test.YtnalmingbglgfaaW8E
import Derived.Test.YtnalmingbglgfaaW8F
namespace Go.Proofs.Ytnalmingbglgfaa
open Go.RowKit

theorem argB_ofY8 {w : World} {ad : Option Addr} {zs : List Int} (h : ArgY w ad zs) (hR : InB zs) : ArgB w ad zs :=
  ⟨hR, fun hne => by
    obtain ⟨b, off, e, hl, hc⟩ := h hne
    exact ⟨b, off, e, hl, hc⟩⟩
theorem rd_slice {w : World} {ad : Option Addr} {cap : Nat} {zs : List Int} (h : ArgI w ad zs) : RdI w (.slice ad zs.length cap) zs := ⟨ad, cap, rfl, h⟩
theorem below_upd0 {B : Nat} {x w w' : World} (h : Below B x w) (hx : B ≤ x.heap.size) (k : Upd 0 0 w w') : Below B x w' := below_upd h k hx (.inr (Nat.zero_le _))
set_option maxHeartbeats 32000000 in
set_option maxRecDepth 100000 in
theorem lawFnCoarseB (ad : Option Addr) (cap : Nat) (zs : List Int) (w : World) (hA : ArgB w ad zs) :
    Calls Try.prog 4 #[.slice ad zs.length cap] w fun e w' => e = .returned (.bool true) ∧ Below w.heap.size w w' := by
  by_cases hl : 1048576 < zs.length
  · clear hA
    go_enter Try.func4, Try.ntmps4
    go_wp2
    go_ret
    exact ⟨rfl, Below.refl _ _⟩
  have hl' : zs.length ≤ 1048576 := by omega
  replace hA := hide hA
  go_enter Try.func4, Try.ntmps4
  go_wp2_with fail
  refine (specDrawCoarse ad cap zs _ (unhide hA) hl').mono ?_
  rintro e w1 ⟨v, xs, u, ts, rfl, hxl, hxr, hxv, htl, htr, htv, hB⟩
  clear hA hl hl'
  obtain ⟨adx, capx, rfl, hX⟩ := hxv
  obtain ⟨adt, capt, rfl, hT⟩ := htv
  have hxn : xs.length ≤ 1048576 := by omega
  have htn : ts.length ≤ 1048576 := by omega
  have hxI := hide (hxr.inI (by omega) (by omega))
  have htI := hide (htr.inI (by omega) (by omega))
  replace hX := hide hX
  replace hT := hide hT
  replace hB := hide hB
  replace hxr := hide hxr
  replace htr := hide htr
  replace hxl := hide hxl
  replace htl := hide htl
  go_wp2_with fail
  refine (implCoarse _ xs _ ts w1 hxn (unhide hxI) (rd_slice (unhide hX)) htn (unhide htI) (rd_slice (unhide hT))).mono ?_
  rintro e w2 ⟨v2, rfl, hO, hu⟩
  obtain ⟨adc, capc, rfl, hC0⟩ := readK_of_own hO
  have hC := hide hC0
  replace hX := hide ((unhide hX).below hu.none)
  replace hT := hide ((unhide hT).below hu.none)
  replace hB := hide (below_upd0 (unhide hB) (Nat.le_refl _) hu)
  clear hO hu hC0
  go_wp2_with fail
  refine (specCoarse _ xs _ ts w2 hxn (unhide hxI) (rd_slice (unhide hX)) htn (unhide htI) (rd_slice (unhide hT))).mono ?_
  rintro e w3 ⟨v3, rfl, hO, hu⟩
  obtain ⟨ads, caps, rfl, hS0⟩ := readK_of_own hO
  have hS := hide hS0
  replace hX := hide ((unhide hX).below hu.none)
  replace hT := hide ((unhide hT).below hu.none)
  replace hC := hide ((unhide hC).below hu.none)
  replace hB := hide (below_upd0 (unhide hB) (Nat.le_refl _) hu)
  clear hO hu hS0
  have hcn := twoF_len coarseZ xs ts
  go_wp2_with fail
  refine (wInts_rd _ _ (twoF coarseZ xs ts) w3 hcn (rd_slice (unhide hC)) (rd_slice (unhide hS))).mono ?_
  rintro e w4 ⟨rfl, hu⟩
  replace hX := hide ((unhide hX).below hu.none)
  replace hT := hide ((unhide hT).below hu.none)
  replace hC := hide ((unhide hC).below hu.none)
  replace hB := hide (below_upd0 (unhide hB) (Nat.le_refl _) hu)
  clear hu hS
  by_cases hok : BlOk xs ∧ ScOk ts
  case neg =>
    rw [twoF_no hok]
    rw [twoF_no hok] at hC
    clear hok hcn hC hX hT
    go_wp2
    go_ret
    exact ⟨rfl, unhide hB⟩
  obtain ⟨h1, h2⟩ := hok
  have hcb := twoF_ok (g := coarseZ) h1 h2 (fun n t hn ht => coarseZ_bd n t hn ht.1)
  have hcE := hide (twoF_yes (g := coarseZ) h1 h2)
  generalize twoF coarseZ xs ts = cs at hcb hcE hC hcn ⊢
  have hfb := twoF_ok (g := fineZ) hcb h2 (fun n t hn ht => cutZ_bd _ _ _ (by omega))
  have hfE := hide (twoF_yes (g := fineZ) hcb h2)
  have hFi := hide (fun (W : World) a1 a2 => implFine (.slice adc cs.length capc) cs (.slice adt ts.length capt) ts W hcn (hcb.2.inI (by omega) (by omega)) a1 htn (unhide htI) a2)
  generalize twoF fineZ cs ts = fs at hfb hfE hFi
  have hfn : fs.length ≤ 1048576 := by rw [hfb.1]; omega
  have hCo := hide (fun (W : World) a c a1 a2 => implCoarse (.slice a fs.length c) fs (.slice adt ts.length capt) ts W hfn (hfb.2.inI (by omega) (by omega)) a1 htn (unhide htI) a2)
  have hgE := hide (twoF_yes (g := coarseZ) hfb h2)
  have hgb := twoF_ok (g := coarseZ) hfb h2 (fun n t hn ht => coarseZ_bd n t hn ht.1)
  generalize twoF coarseZ fs ts = gs at hgE hCo hgb
  -- numbers at a place
  have hat : Hid (∀ k, k < 64 → cs.getD k 0 = coarseZ (xs.getD k 0) (ts.getD k 0) ∧ fs.getD k 0 = fineZ (cs.getD k 0) (ts.getD k 0) ∧ gs.getD k 0 = coarseZ (fs.getD k 0) (ts.getD k 0)) := hide (fun k hk => by
    refine ⟨?_, ?_, ?_⟩
    · rw [unhide hcE, tab_getD _ k hk]
    · rw [unhide hfE, tab_getD _ k hk]
    · rw [unhide hgE, tab_getD _ k hk])
  obtain ⟨xl, xr⟩ := h1
  obtain ⟨tl, tr⟩ := h2
  obtain ⟨cl, cr⟩ := hcb
  obtain ⟨fl, fr⟩ := hfb
  obtain ⟨gl, gr⟩ := hgb
  rw [cl, tl] at hFi
  rw [fl, tl] at hCo
  rw [cl, xl, tl]
  replace xr := hide xr
  replace tr := hide tr
  replace cr := hide cr
  replace fr := hide fr
  have xl' := hide xl
  have tl' := hide tl
  have cl' := hide cl
  have fl' := hide fl
  have gl' := hide gl
  clear xl tl cl fl gl gr hcE hfE hgE hcn hfn hxn htn
  go_wp2_with fail
  refine (unhide hFi w4 ⟨adc, capc, by rw [unhide cl'], unhide hC⟩ ⟨adt, capt, by rw [unhide tl'], unhide hT⟩).mono ?_
  rintro e w5 ⟨v5, rfl, hO, hu⟩
  obtain ⟨adf, capf, rfl, hF0⟩ := readK_of_own hO
  have hF := hide hF0
  rw [unhide fl']
  replace hX := hide ((unhide hX).below hu.none)
  replace hT := hide ((unhide hT).below hu.none)
  replace hC := hide ((unhide hC).below hu.none)
  replace hB := hide (below_upd0 (unhide hB) (Nat.le_refl _) hu)
  clear hO hu hF0 hFi
  go_wp2_with fail
  go_loopw [37] (fun i wr => ∃ k : Nat, k ≤ 64 ∧ i = .int .i64 k ∧ ∃ nq, wr = w5.drewN nq) (fun i _ => 64 - (intOf i).toNat)
  case atStart => exact ⟨0, Nat.zero_le _, rfl, 0, rfl⟩
  case round =>
    obtain ⟨k, hk, rfl, nq, rfl⟩ := hrel
    by_cases hlt : k < 64
    · obtain ⟨bx, ox, rfl, _, hcx⟩ := (unhide hX) (ne_of_lt_length (k := k) (by rw [unhide xl']; exact hlt))
      obtain ⟨bt, ot, rfl, _, hct⟩ := (unhide hT) (ne_of_lt_length (k := k) (by rw [unhide tl']; exact hlt))
      obtain ⟨bc, oc, rfl, _, hcc⟩ := (unhide hC) (ne_of_lt_length (k := k) (by rw [unhide cl']; exact hlt))
      obtain ⟨bf, of', rfl, _, hcf⟩ := (unhide hF) (ne_of_lt_length (k := k) (by rw [unhide fl']; exact hlt))
      have kx := hcx k (by rw [unhide xl']; exact hlt)
      have kt := hct k (by rw [unhide tl']; exact hlt)
      have kc := hcc k (by rw [unhide cl']; exact hlt)
      have kf := hcf k (by rw [unhide fl']; exact hlt)
      have rx := unhide xr k (by rw [unhide xl']; exact hlt)
      have rt := unhide tr k (by rw [unhide tl']; exact hlt)
      have rc := unhide cr k (by rw [unhide cl']; exact hlt)
      have rf := unhide fr k (by rw [unhide fl']; exact hlt)
      obtain ⟨e1, e2, _⟩ := unhide hat k hlt
      clear hcx hct hcc hcf
      generalize xs.getD k 0 = x at kx rx e1
      generalize ts.getD k 0 = t at kt rt e1 e2
      generalize cs.getD k 0 = c at kc rc e1 e2
      generalize fs.getD k 0 = f at kf rf e2
      obtain ⟨x0, x1⟩ := rx
      obtain ⟨t0, t1⟩ := rt
      obtain ⟨c0, c1⟩ := rc
      obtain ⟨f0, f1⟩ := rf
      have hnear := coarse_near x t t0
      rw [← e1] at hnear
      obtain ⟨P, hP⟩ : ∃ P, c * t = P := ⟨_, rfl⟩
      have hP0 : -8355840 ≤ P := by
        have h1 : -32768 * t ≤ c * t := Int.mul_le_mul_of_nonneg_right c0 (by omega)
        rw [hP] at h1; omega
      have hP1 : P ≤ 8355840 := by
        have h1 : c * t ≤ 32768 * t := Int.mul_le_mul_of_nonneg_right (by omega) (by omega)
        rw [hP] at h1; omega
      rw [hP] at hnear
      have e3 : f = cutZ (-32768) 32767 P := by rw [e2]; unfold fineZ; rw [hP]
      obtain ⟨D, hD⟩ : ∃ D, (if f - x < 0 then -(f - x) else f - x) = D := ⟨_, rfl⟩
      have hDb : 0 ≤ D ∧ D ≤ 65535 := by rw [← hD]; split <;> omega
      have hDt : ¬ (32767 < P ∨ P < -32768) → 2 * D ≤ t := fun h => by
        have : f = P := by rw [e3]; unfold cutZ; rw [if_neg (by omega), if_neg (by omega)]
        subst this
        rw [← hD]; split <;> omega
      obtain ⟨D0, D1⟩ := hDb
      have hw1 : IntKind.i64.wrap (f - x) = f - x := wrapB (by omega)
      have hkI : (0 : Int) ≤ (k : Int) := by omega
      have hkL : (k : Int) < 64 := by omega
      replace e1 := hide e1
      replace e2 := hide e2
      replace e3 := hide e3
      replace hnear := hide hnear
      replace hDt := hide hDt
      clear hX hT hC hF hCo hat xr tr cr fr xl' tl' cl' fl' gl' hB
      go_wp2_with fail
      go_quiet (fail)
      by_cases hneg : f - x < 0
      · rw [if_pos hneg] at hD
        have hn2 : -(f - x) = D := hD
        have hw4 : IntKind.i64.wrap (-(f - x)) = D := by rw [hn2]; exact wrapB (by omega)
        go_wp2_with fail
        have hw2 : IntKind.i64.wrap P = P := wrapB (by omega)
        have hw3 : IntKind.i64.wrap (2 * D) = 2 * D := wrapB (by omega)
        by_cases p1 : 32767 < P
        · have q1 : decide (P ≤ 32767) = false := decide_eq_false (by omega)
          go_quiet (fail)
          go_wp2
          go_roundw
          case rel => exact ⟨k + 1, by omega, by go_num, _, rfl⟩
          case measure => simp [intOf]; omega
        · have q1 : decide (P ≤ 32767) = true := decide_eq_true (by omega)
          by_cases p2 : P < -32768
          · have q2 : decide (P ≥ -32768) = false := decide_eq_false (by omega)
            have q3 : decide (-32768 ≤ P) = false := decide_eq_false (by omega)
            go_quiet (fail)
            go_wp2
            go_roundw
            case rel => exact ⟨k + 1, by omega, by go_num, _, rfl⟩
            case measure => simp [intOf]; omega
          · have q2 : decide (P ≥ -32768) = true := decide_eq_true (by omega)
            have q3 : decide (-32768 ≤ P) = true := decide_eq_true (by omega)
            have hdt := unhide hDt (by omega)
            have q4 : decide (t < 2 * D) = false := decide_eq_false (by omega)
            go_quiet (fail)
            go_wp2
            go_roundw
            case rel => exact ⟨k + 1, by omega, by go_num, _, rfl⟩
            case measure => simp [intOf]; omega
      · rw [if_neg hneg] at hD
        subst hD
        go_wp2_with fail
        have hw2 : IntKind.i64.wrap P = P := wrapB (by omega)
        have hw3 : IntKind.i64.wrap (2 * (f - x)) = 2 * (f - x) := wrapB (by omega)
        by_cases p1 : 32767 < P
        · have q1 : decide (P ≤ 32767) = false := decide_eq_false (by omega)
          go_quiet (fail)
          go_wp2
          go_roundw
          case rel => exact ⟨k + 1, by omega, by go_num, _, rfl⟩
          case measure => simp [intOf]; omega
        · have q1 : decide (P ≤ 32767) = true := decide_eq_true (by omega)
          by_cases p2 : P < -32768
          · have q2 : decide (P ≥ -32768) = false := decide_eq_false (by omega)
            have q3 : decide (-32768 ≤ P) = false := decide_eq_false (by omega)
            go_quiet (fail)
            go_wp2
            go_roundw
            case rel => exact ⟨k + 1, by omega, by go_num, _, rfl⟩
            case measure => simp [intOf]; omega
          · have q2 : decide (P ≥ -32768) = true := decide_eq_true (by omega)
            have q3 : decide (-32768 ≤ P) = true := decide_eq_true (by omega)
            have hdt := unhide hDt (by omega)
            have q4 : decide (t < 2 * (f - x)) = false := decide_eq_false (by omega)
            go_quiet (fail)
            go_wp2
            go_roundw
            case rel => exact ⟨k + 1, by omega, by go_num, _, rfl⟩
            case measure => simp [intOf]; omega
    · have hkl : k = 64 := by omega
      subst hkl
      replace hX := hide ((unhide hX).below (below_drewN (Below.refl _ _) nq))
      replace hT := hide ((unhide hT).below (below_drewN (Below.refl _ _) nq))
      replace hC := hide ((unhide hC).below (below_drewN (Below.refl _ _) nq))
      replace hF := hide ((unhide hF).below (below_drewN (Below.refl _ _) nq))
      replace hB := hide (below_drewN (unhide hB) nq)
      generalize w5.drewN nq = w6 at hX hT hC hF hB ⊢
      go_wp2_with fail
      refine (unhide hCo w6 adf capf ⟨adf, capf, by rw [unhide fl'], unhide hF⟩ ⟨adt, capt, by rw [unhide tl'], unhide hT⟩).mono ?_
      rintro e w7 ⟨v7, rfl, hO, hu⟩
      obtain ⟨adg, capg, rfl, hG0⟩ := readK_of_own hO
      have hG := hide hG0
      rw [unhide gl']
      replace hT := hide ((unhide hT).below hu.none)
      replace hC := hide ((unhide hC).below hu.none)
      replace hB := hide (below_upd0 (unhide hB) (Nat.le_refl _) hu)
      clear hO hu hG0 hCo hX hF
      by_cases hcl : ∃ k, k < 64 ∧ (32767 < cs.getD k 0 * ts.getD k 0 ∨ cs.getD k 0 * ts.getD k 0 < -32768)
      · have hcl2 := hide hcl
        clear hcl
        go_wp2_with fail
        refine (wInts_any (.slice adg 64 capg) (.slice adc 64 capc) gs cs w7 (by rw [unhide gl']; omega) (by rw [unhide gl', unhide cl']) ⟨adg, capg, by rw [unhide gl'], unhide hG⟩ ⟨adc, capc, by rw [unhide cl'], unhide hC⟩).mono ?_
        rintro e w8 ⟨b, rfl, hu⟩
        replace hT := hide ((unhide hT).below hu.none)
        replace hC := hide ((unhide hC).below hu.none)
        replace hB := hide (below_upd0 (unhide hB) (Nat.le_refl _) hu)
        clear hu
        cases b
        · go_wp2_with fail
          refine (specClips (.slice adc 64 capc) (.slice adt 64 capt) cs ts w8 (unhide cl') (unhide tl') (unhide cr) (unhide tr) ⟨adc, capc, by rw [unhide cl'], unhide hC⟩ ⟨adt, capt, by rw [unhide tl'], unhide hT⟩ (unhide hcl2)).mono ?_
          rintro e w9 ⟨rfl, hw9⟩
          subst hw9
          go_wp2
          go_ret
          exact ⟨rfl, unhide hB⟩
        · go_wp2
          go_ret
          exact ⟨rfl, unhide hB⟩
      · have hge : gs = cs := by
          refine List.ext_getElem (by rw [unhide gl', unhide cl']) (fun k hk1 hk2 => ?_)
          have hk : k < 64 := by rw [unhide gl'] at hk1; exact hk1
          obtain ⟨e1, e2, e3⟩ := unhide hat k hk
          have hno : ¬ (32767 < cs.getD k 0 * ts.getD k 0 ∨ cs.getD k 0 * ts.getD k 0 < -32768) := fun h => hcl ⟨k, hk, h⟩
          have e4 : fs.getD k 0 = cs.getD k 0 * ts.getD k 0 := by
            rw [e2]; unfold fineZ cutZ; rw [if_neg (by omega), if_neg (by omega)]
          rw [e4, coarse_fine _ _ (unhide tr k (by rw [unhide tl']; exact hk)).1] at e3
          rw [List.getD_eq_getElem?_getD, List.getElem?_eq_getElem hk1, List.getD_eq_getElem?_getD, List.getElem?_eq_getElem hk2] at e3
          exact e3
        clear hcl
        subst hge
        go_wp2_with fail
        refine (wInts_rd (.slice adg 64 capg) (.slice adc 64 capc) gs w7 (by rw [unhide gl']; omega) ⟨adg, capg, by rw [unhide gl'], unhide hG⟩ ⟨adc, capc, by rw [unhide gl'], unhide hC⟩).mono ?_
        rintro e w8 ⟨rfl, hu⟩
        replace hB := hide (below_upd0 (unhide hB) (Nat.le_refl _) hu)
        clear hu
        go_wp2
        go_ret
        exact ⟨rfl, unhide hB⟩
theorem lawFnCoarse (ad : Option Addr) (cap : Nat) (zs : List Int) (w : World) (hA : ArgY w ad zs) (hR : InB zs) :
    Calls Try.prog 4 #[.slice ad zs.length cap] w fun e w' => e = .returned (.bool true) ∧ Below w.heap.size w w' :=
  lawFnCoarseB ad cap zs w (argB_ofY8 hA hR)
end Go.Proofs.Ytnalmingbglgfaa
