/- The specification's waves of a block, forward and back. -/
import Derived.Test.YtnalmingbglgfaaDoorWFwA
import Derived.Test.YtnalmingbglgfaaDoorWInts
import Derived.Test.YtnalmingbglgfaaDoorWUpd2
import Derived.Test.YtnalmingbglgfaaDoorWAppI
import Derived.Test.YtnalmingbglgfaaDoorW8A
namespace Go.Proofs.YtnalmingbglgfaaDoor
open Go.RowKit

theorem cell_updT {w : World} {p : Addr} {v : Value} (h : w.cell? p = some v) (hp : p.block < w.heap.size) (X : UpdT w) : X.to.cell? p = some v := (X.upd.none.cell hp).trans h
theorem wrapW {n : Int} (h : -9223372036854775808 ≤ n ∧ n ≤ 9223372036854775807) : IntKind.i64.wrap n = n := by
  simp [IntKind.wrap, IntKind.bits, IntKind.signed]; omega
/-- What a nest of loops keeps: its own row of 64 numbers, part of them filled. -/
structure NestSt (W wr : World) (f : Nat → Int) (P : Nat → Prop) (xs : List Int) : Prop where
  own : wr.ownsRow W.heap.size 3 1 (.slice (some ⟨W.heap.size, 0, none⟩) 64 64) 64 (ints xs)
  fil : Fil f P xs
  bel : Below W.heap.size W wr
theorem NestSt.upd {W wr wx : World} {f : Nat → Int} {P : Nat → Prop} {xs : List Int} (h : NestSt W wr f P xs) (u : Upd 0 0 wr wx) : NestSt W wx f P xs :=
  ⟨((Own.of h.own).keep u).1, h.fil, below_upd h.bel u (Nat.le_refl _) (.inr (Nat.zero_le _))⟩
theorem NestSt.put {W wr : World} {f : Nat → Int} {P Q : Nat → Prop} {xs : List Int} (h : NestSt W wr f P xs) {q : Nat} (hq : q < 64) {x : Int} (hx : x = f q) (hP : ∀ p, p < 64 → Q p → p = q ∨ P p) : NestSt W (wr.setCell ⟨W.heap.size, q, none⟩ (.int .i64 x)) f Q (xs.set q x) := by
  refine ⟨?_, h.fil.set hq hx hP, h.bel.setCell (p := ⟨W.heap.size, q, none⟩) (Nat.le_refl _) _⟩
  have h1 := (h.own.stored q (.int .i64 x)).1
  have e : (ints xs).set q (.int .i64 x) = ints (xs.set q x) := by unfold ints; rw [List.map_set]
  rw [e] at h1
  exact h1
theorem NestSt.at {W wr : World} {f : Nat → Int} {P : Nat → Prop} {xs : List Int} (h : NestSt W wr f P xs) {k : Nat} (hk : k < 64) : (∃ u, wr.cell? ⟨W.heap.size, k, none⟩ = some u) ∧ wr.frozen? ⟨W.heap.size, k, none⟩ = false :=
  ⟨by rw [h.own.cellAt k (by omega)]; exact ⟨_, List.getElem?_eq_getElem (by have := h.own.1; omega)⟩, h.own.frozenAt k⟩
theorem NestSt.done {W wr : World} {f : Nat → Int} {P : Nat → Prop} {xs : List Int} (h : NestSt W wr f P xs) (hP : ∀ p, p < 64 → P p) : OwnI wr W.heap.size wr.heap.size (.slice (some ⟨W.heap.size, 0, none⟩) 64 64) (tab f) := by
  have e := h.fil.all hP
  have h1 := h.own
  rw [e] at h1
  unfold OwnI
  rw [tab_length]
  exact Own.of h1
theorem NestSt.weak {W wr : World} {f : Nat → Int} {P Q : Nat → Prop} {xs : List Int} (h : NestSt W wr f P xs) (hP : ∀ p, p < 64 → Q p → P p) : NestSt W wr f Q xs := ⟨h.own, h.fil.weak hP, h.bel⟩

theorem mT_flip_length : (flipL mT).length = 64 := by simp [flipL]
set_option maxHeartbeats 64000000 in
set_option maxRecDepth 100000 in
theorem specL8Forward (ad : Option Addr) (cap : Nat) (zs : List Int) (w : World) (hz : BlOk zs) (hA : ArgI w ad zs) :
    Calls Tryd.prog 25 #[.slice ad zs.length cap] w fun e w' => ∃ v, e = .returned v ∧ OwnI w' w.heap.size w'.heap.size v (fwdL zs) ∧ Upd 0 0 w w' := by
  obtain ⟨i0, hi, hz0, hz1, hz2⟩ := info_parts infoI
  obtain ⟨hzl, hzr⟩ := hz
  have hzl' := hide hzl
  have hzr' : Hid (InR (-32768) 32768 zs) := hide (fun j hj => by have := hzr j hj; omega)
  have hmid : Hid (InR (-1100000) 1100000 (tab (tmulZ zs (flipL mT) 512 1024))) := hide (tmul_inR (K := 32768) (L := 4017) hzl mT_flip_length (fun j hj => by have := hzr j hj; omega) (flipL_inR mT_length mT_inR) (by omega) (by omega) (by omega) (by omega))
  have hres : Hid (fwdL zs = tab (tmulZ mT (tab (tmulZ zs (flipL mT) 512 1024)) 32768 65536)) := hide rfl
  have hml : Hid ((tab (tmulZ zs (flipL mT) 512 1024)).length = 64) := hide (by simp)
  replace hA := hide hA
  rw [hzl]
  clear hzl hzr
  go_enter Tryd.func25, Tryd.ntmps25
  go_wp2_with (at_make; refine wpList_make_full _ rfl _ _ 23 rfl w.heap.size 3 i0 (.int .i64 0) 1 Tryd.underlying23 hi hz0 hz1 .i64 .i64 _ _ 64 rfl rfl (by omega) (by omega) (by rw [hz2]; omega) (by unfold maxLen; omega) (Nat.le_refl _) ?_; intro w1 hown hgrow)
  have hN0 : NestSt w w1 (tmulZ zs (flipL mT) 512 1024) (fun p => p < 8 * 0 + 0) (List.replicate 64 0) := ⟨by rw [show ints (List.replicate 64 0) = List.replicate 64 (.int .i64 0) by unfold ints; simp]; simpa [toList_madeCells_one, Value.cells] using hown, ⟨by simp, fun p hp h => by omega⟩, (Below.refl w.heap.size w).grown hgrow (Nat.le_refl _) (by simp)⟩
  replace hN0 := hide hN0
  clear hown hgrow
  go_loopw [4] (fun i wr => ∃ (a : Nat) (xs : List Int), a ≤ 8 ∧ i = .int .i64 (a : Int) ∧ Hid (NestSt w wr (tmulZ zs (flipL mT) 512 1024) (fun p => p < 8 * a + 0) xs)) (fun i _ => 8 - (intOf i).toNat)
  case atStart => exact ⟨0, List.replicate 64 0, by omega, rfl, hN0⟩
  case round =>
    clear hN0
    obtain ⟨a, xs, ha, rfl, hN⟩ := hrel
    by_cases halt : a < 8
    · have hab : decide ((a : Int) < 8) = true := decide_eq_true (by omega)
      go_wp2_with fail
      go_loopw [5] (fun i wr => ∃ (b : Nat) (xs : List Int), b ≤ 8 ∧ i = .int .i64 (b : Int) ∧ Hid (NestSt w wr (tmulZ zs (flipL mT) 512 1024) (fun p => p < 8 * a + b) xs)) (fun i _ => 8 - (intOf i).toNat)
      case atStart => exact ⟨0, xs, by omega, rfl, hN⟩
      case round =>
        clear hN
        obtain ⟨b, xs, hb, rfl, hN⟩ := hrel
        by_cases hblt : b < 8
        · have hbb : decide ((b : Int) < 8) = true := decide_eq_true (by omega)
          have hf : Hid ((tmulZ zs (flipL mT) 512 1024) (8 * a + b) = (sumN (fun c => mZ b c * zs.getD (8 * a + c) 0) 8 + 512) / 1024) := hide (by unfold tmulZ; congr 2; refine sumN_congr (fun i hi => ?_); unfold tmulT; rw [show (8 * a + b) / 8 = a by omega, show (8 * a + b) % 8 = b by omega, flip_m b i hblt hi, Int.mul_comm])
          have hT := hide (fun c (hc : c < 8) => prod_within (mZ_bd b c (by omega) (by omega)) ((unhide hzr') (8 * a + c) (by rw [unhide hzl']; omega)) (by omega))
          have hS0 : Hid (((512 : Int)) = 512 + sumN (fun c => mZ b c * zs.getD (8 * a + c) 0) 0) := hide rfl
          go_wp2_with fail
          go_loopw [6, 7] (fun s i wr => ∃ (c : Nat) (S : Int), c ≤ 8 ∧ s = .int .i64 S ∧ i = .int .i64 (c : Int) ∧ Hid (S = 512 + sumN (fun c => mZ b c * zs.getD (8 * a + c) 0) c) ∧ Hid (NestSt w wr (tmulZ zs (flipL mT) 512 1024) (fun p => p < 8 * a + b) xs)) (fun _ i _ => 8 - (intOf i).toNat)
          case atStart => exact ⟨0, 512, by omega, rfl, rfl, hS0, hN⟩
          case round =>
            clear hN hS0
            obtain ⟨c, S, hc, rfl, rfl, hS, hN⟩ := hrel
            have hSb := sumN_within (n := c) (fun i hi => unhide hT i (by omega))
            rw [show sumN _ c = S - 512 by have := unhide hS; omega] at hSb
            have hSb2 : -1053033000 ≤ S ∧ S ≤ 1053033000 := by
              have h9 : (c : Int) * (4017 * 32768) ≤ 8 * (4017 * 32768) := Int.mul_le_mul_of_nonneg_right (by omega) (by omega)
              omega
            clear hSb
            obtain ⟨S0, S1⟩ := hSb2
            by_cases hclt : c < 8
            · have hstep : Hid (512 + sumN (fun c => mZ b c * zs.getD (8 * a + c) 0) (c + 1) = S + mZ b c * zs.getD (8 * a + c) 0) := hide (by have e : sumN (fun c => mZ b c * zs.getD (8 * a + c) 0) (c + 1) = sumN (fun c => mZ b c * zs.getD (8 * a + c) 0) c + mZ b c * zs.getD (8 * a + c) 0 := rfl; have := unhide hS; omega)
              have hTc := unhide hT c hclt
              obtain ⟨bb, off, hse, hbl, hcl⟩ := (unhide hA) (ne_of_lt_length (k := 0) (by rw [unhide hzl']; omega))
              have hck : wr.cell? ⟨bb, off + (8 * a + c), none⟩ = some (.int .i64 (zs.getD (8 * a + c) 0)) := ((unhide hN).bel.cell (by simpa using hbl)).trans (hcl _ (by rw [unhide hzl']; omega))
              have hbw : bb < wr.heap.size := Nat.lt_of_lt_of_le hbl (unhide hN).bel.size
              have hse2 := hse; subst hse2
              have hM := hide (fun X => specL8M b c X (by omega) (by omega))
              generalize mZ b c = m at hM hstep hTc
              generalize zs.getD (8 * a + c) 0 = x at hck hstep hTc
              obtain ⟨P, hP⟩ : ∃ P, m * x = P := ⟨_, rfl⟩
              rw [hP] at hstep hTc
              obtain ⟨T0, T1⟩ := hTc
              obtain ⟨q, hq⟩ : ∃ q, 8 * a + c = q := ⟨_, rfl⟩
              have hq1 : 8 * (a : Int) + (c : Int) = (q : Int) := by omega
              rw [hq] at hck
              have hq2 : q < 64 := by omega
              clear hq
              have w1 : IntKind.i64.wrap (8 * (a : Int)) = 8 * (a : Int) := wrapW (by omega)
              have w2 : IntKind.i64.wrap (q : Int) = (q : Int) := wrapW (by omega)
              have w3 : IntKind.i64.wrap P = P := wrapW (by omega)
              have w4 : IntKind.i64.wrap (S + P) = S + P := wrapW (by omega)
              have hqI : (0 : Int) ≤ (q : Int) := by omega
              have hqL : (q : Int) < 64 := by omega
              have hqN : (q : Int).toNat = q := by omega
              have hcX := fun X : UpdT wr => cell_updT hck (by simpa using hbw) X
              clear hck hcl hbl hbw
              go_wp2_with fail
              refine wq_region_upd (by kernel_rfl) (by kernel_rfl) ?_
              refine WQ.step (fun K hK => ?_)
              go_simp
              refine hK _ ?_
              clear hK K
              refine WQ.step (fun K hK => ?_)
              go_simp
              refine hK _ ?_
              clear hK K
              refine WQ.step (fun K hK => ?_)
              go_simp
              refine hK _ ?_
              clear hK K
              refine WQ.step (fun K hK => ?_)
              go_simp
              refine ⟨_, fun X => Calls.updT X (unhide hM X.to), hK _ ?_⟩
              clear hK K
              refine WQ.step (fun K hK => ?_)
              go_simp
              refine hK _ ?_
              clear hK K
              refine WQ.step (fun K hK => ?_)
              go_simp
              refine hK _ ?_
              clear hK K
              refine WQ.step (fun K hK => ?_)
              go_simp
              refine hK _ ?_
              clear hK K
              refine WQ.step (fun K hK => ?_)
              go_simp
              refine hK _ ?_
              clear hK K
              refine WQ.step (fun K hK => ?_)
              go_simp
              refine hK _ ?_
              clear hK K
              refine WQ.step (fun K hK => ?_)
              go_simp
              refine hK _ ?_
              clear hK K
              refine WQ.step (fun K hK => ?_)
              go_simp
              refine hK _ ?_
              clear hK K
              refine WQ.step (fun K hK => ?_)
              go_simp
              refine hK _ ?_
              clear hK K
              refine WQ.step (fun K hK => ?_)
              go_simp
              refine hK _ ?_
              clear hK K
              refine WQ.step (fun K hK => ?_)
              go_simp
              refine hK _ ?_
              clear hK K
              refine WQ.nil ?_
              rintro _ ⟨X, rfl⟩
              have hX := X.upd
              clear hcX
              generalize X.to = wt at hX ⊢
              have hN2 := hide ((unhide hN).upd hX)
              have hS2 := hide (unhide hstep).symm
              clear hX hN hS hstep hM
              go_wp2_with fail
              go_roundw
              case rel => exact ⟨c + 1, S + P, by omega, rfl, by go_num, hS2, hN2⟩
              case measure => simp [intOf]; omega
            · have hc8 : c = 8 := by omega
              subst hc8
              have hfq : Hid (S / 1024 = (tmulZ zs (flipL mT) 512 1024) (8 * a + b)) := hide (by rw [unhide hf, unhide hS, Int.add_comm])
              obtain ⟨q, hq⟩ : ∃ q, 8 * a + b = q := ⟨_, rfl⟩
              have hq1 : 8 * (a : Int) + (b : Int) = (q : Int) := by omega
              rw [hq] at hfq
              have hq2 : q < 64 := by omega
              obtain ⟨⟨uu, hdst⟩, hfz⟩ := (unhide hN).at hq2
              have hput := hide ((unhide hN).put (Q := fun p => p < 8 * a + (b + 1)) hq2 (unhide hfq) (fun p hp hQ => by omega))
              clear hq hN hfq hf hS hT
              go_wp2_with fail
              go_roundw
              case rel => exact ⟨b + 1, _, by omega, by go_num, hput⟩
              case measure => simp [intOf]; omega
        · have hb8 : b = 8 := by omega
          subst hb8
          have hN2 := hide ((unhide hN).weak (Q := fun p => p < 8 * (a + 1) + 0) (fun p hp hQ => by omega))
          clear hN
          go_wp2_with fail
          go_roundw
          case rel => exact ⟨a + 1, xs, by omega, by go_num, hN2⟩
          case measure => simp [intOf]; omega
    · have ha8 : a = 8 := by omega
      subst ha8
      have hbel2 := (unhide hN).bel
      have hO := (unhide hN).done (fun p hp => by omega)
      obtain ⟨adm, capm, hve, hAm0⟩ := readK_of_own hO
      simp only [Value.slice.injEq] at hve
      obtain ⟨rfl, hjunk, rfl⟩ := hve
      clear hjunk
      have hAm := hide hAm0
      clear hO hAm0 hN
      replace hbel2 := hide hbel2
      go_wp2_with (at_make; refine wpList_make_full _ rfl _ _ 23 rfl wr.heap.size 3 i0 (.int .i64 0) 1 Tryd.underlying23 hi hz0 hz1 .i64 .i64 _ _ 64 rfl rfl (by omega) (by omega) (by rw [hz2]; omega) (by unfold maxLen; omega) (Nat.le_refl _) ?_; intro w3 hown hgrow)
      have hN1 : NestSt wr w3 (tmulZ mT (tab (tmulZ zs (flipL mT) 512 1024)) 32768 65536) (fun p => p % 8 < 0 ∨ (p % 8 = 0 ∧ p / 8 < 0)) (List.replicate 64 0) := ⟨by rw [show ints (List.replicate 64 0) = List.replicate 64 (.int .i64 0) by unfold ints; simp]; simpa [toList_madeCells_one, Value.cells] using hown, ⟨by simp, fun p hp h => by omega⟩, (Below.refl wr.heap.size wr).grown hgrow (Nat.le_refl _) (by simp)⟩
      replace hN1 := hide hN1
      have hwm : w.heap.size < wr.heap.size := by
        obtain ⟨bb, off, hse, hbl, _⟩ := (unhide hAm) (ne_of_lt_length (k := 0) (by rw [unhide hml]; omega))
        simp only [Option.some.injEq, Addr.mk.injEq, and_true] at hse
        obtain ⟨rfl, rfl⟩ := hse
        exact hbl
      obtain ⟨WM, hWM⟩ : ∃ W : World, wr = W := ⟨_, rfl⟩
      obtain ⟨gm, hgm⟩ : ∃ g, w.heap.size = g := ⟨_, rfl⟩
      have hbel3 : Hid (Below w.heap.size w WM) := by rw [hWM] at hbel2; exact hbel2
      rw [hWM] at hAm hN1 ⊢
      clear hown hgrow hbel2 hwm
      clear hWM
      generalize hMid : tab (tmulZ zs (flipL mT) 512 1024) = mid at *
      replace hgm := hide hgm
      rw [unhide hgm] at hAm ⊢
      go_wp2_with fail
      go_loopw [9] (fun i wr => ∃ (a : Nat) (xs : List Int), a ≤ 8 ∧ i = .int .i64 (a : Int) ∧ Hid (NestSt WM wr (tmulZ mT mid 32768 65536) (fun p => p % 8 < a ∨ (p % 8 = a ∧ p / 8 < 0)) xs)) (fun i _ => 8 - (intOf i).toNat)
      case atStart => exact ⟨0, List.replicate 64 0, by omega, rfl, hN1⟩
      case round =>
        clear hN1
        obtain ⟨a, xs, ha, rfl, hN⟩ := hrel
        by_cases halt : a < 8
        · have hab : decide ((a : Int) < 8) = true := decide_eq_true (by omega)
          go_wp2_with fail
          go_loopw [10] (fun i wr => ∃ (b : Nat) (xs : List Int), b ≤ 8 ∧ i = .int .i64 (b : Int) ∧ Hid (NestSt WM wr (tmulZ mT mid 32768 65536) (fun p => p % 8 < a ∨ (p % 8 = a ∧ p / 8 < b)) xs)) (fun i _ => 8 - (intOf i).toNat)
          case atStart => exact ⟨0, xs, by omega, rfl, hN⟩
          case round =>
            clear hN
            obtain ⟨b, xs, hb, rfl, hN⟩ := hrel
            by_cases hblt : b < 8
            · have hbb : decide ((b : Int) < 8) = true := decide_eq_true (by omega)
              have hf : Hid ((tmulZ mT mid 32768 65536) (8 * b + a) = (sumN (fun c => mZ b c * mid.getD (8 * c + a) 0) 8 + 32768) / 65536) := hide (by unfold tmulZ; congr 2; refine sumN_congr (fun i hi => ?_); unfold tmulT; rw [show (8 * b + a) / 8 = b by omega, show (8 * b + a) % 8 = a by omega]; rfl)
              have hT := hide (fun c (hc : c < 8) => prod_within (mZ_bd b c (by omega) (by omega)) ((unhide hmid) (8 * c + a) (by rw [unhide hml]; omega)) (by omega))
              have hS0 : Hid (((32768 : Int)) = 32768 + sumN (fun c => mZ b c * mid.getD (8 * c + a) 0) 0) := hide rfl
              go_wp2_with fail
              go_loopw [11, 12] (fun s i wr => ∃ (c : Nat) (S : Int), c ≤ 8 ∧ s = .int .i64 S ∧ i = .int .i64 (c : Int) ∧ Hid (S = 32768 + sumN (fun c => mZ b c * mid.getD (8 * c + a) 0) c) ∧ Hid (NestSt WM wr (tmulZ mT mid 32768 65536) (fun p => p % 8 < a ∨ (p % 8 = a ∧ p / 8 < b)) xs)) (fun _ i _ => 8 - (intOf i).toNat)
              case atStart => exact ⟨0, 32768, by omega, rfl, rfl, hS0, hN⟩
              case round =>
                clear hN hS0
                obtain ⟨c, S, hc, rfl, rfl, hS, hN⟩ := hrel
                have hSb := sumN_within (n := c) (fun i hi => unhide hT i (by omega))
                rw [show sumN _ c = S - 32768 by have := unhide hS; omega] at hSb
                have hSb2 : -35349632768 ≤ S ∧ S ≤ 35349632768 := by
                  have h9 : (c : Int) * (4017 * 1100000) ≤ 8 * (4017 * 1100000) := Int.mul_le_mul_of_nonneg_right (by omega) (by omega)
                  omega
                clear hSb
                obtain ⟨S0, S1⟩ := hSb2
                by_cases hclt : c < 8
                · have hstep : Hid (32768 + sumN (fun c => mZ b c * mid.getD (8 * c + a) 0) (c + 1) = S + mZ b c * mid.getD (8 * c + a) 0) := hide (by have e : sumN (fun c => mZ b c * mid.getD (8 * c + a) 0) (c + 1) = sumN (fun c => mZ b c * mid.getD (8 * c + a) 0) c + mZ b c * mid.getD (8 * c + a) 0 := rfl; have := unhide hS; omega)
                  have hTc := unhide hT c hclt
                  obtain ⟨bb, off, hse, hbl, hcl⟩ := (unhide hAm) (ne_of_lt_length (k := 0) (by rw [unhide hml]; omega))
                  have hck : wr.cell? ⟨bb, off + (8 * c + a), none⟩ = some (.int .i64 (mid.getD (8 * c + a) 0)) := ((unhide hN).bel.cell (by simpa using hbl)).trans (hcl _ (by rw [unhide hml]; omega))
                  have hbw : bb < wr.heap.size := Nat.lt_of_lt_of_le hbl (unhide hN).bel.size
                  simp only [Option.some.injEq, Addr.mk.injEq, and_true] at hse
                  obtain ⟨rfl, rfl⟩ := hse
                  rw [Nat.zero_add] at hck
                  have hM := hide (fun X => specL8M b c X (by omega) (by omega))
                  generalize mZ b c = m at hM hstep hTc
                  generalize mid.getD (8 * c + a) 0 = x at hck hstep hTc
                  obtain ⟨P, hP⟩ : ∃ P, m * x = P := ⟨_, rfl⟩
                  rw [hP] at hstep hTc
                  obtain ⟨T0, T1⟩ := hTc
                  obtain ⟨q, hq⟩ : ∃ q, 8 * c + a = q := ⟨_, rfl⟩
                  have hq1 : 8 * (c : Int) + (a : Int) = (q : Int) := by omega
                  rw [hq] at hck
                  have hq2 : q < 64 := by omega
                  clear hq
                  have w1 : IntKind.i64.wrap (8 * (c : Int)) = 8 * (c : Int) := wrapW (by omega)
                  have w2 : IntKind.i64.wrap (q : Int) = (q : Int) := wrapW (by omega)
                  have w3 : IntKind.i64.wrap P = P := wrapW (by omega)
                  have w4 : IntKind.i64.wrap (S + P) = S + P := wrapW (by omega)
                  have hqI : (0 : Int) ≤ (q : Int) := by omega
                  have hqL : (q : Int) < 64 := by omega
                  have hqN : (q : Int).toNat = q := by omega
                  have hcX := fun X : UpdT wr => cell_updT hck (by simpa using hbw) X
                  clear hck hcl hbl hbw
                  go_wp2_with fail
                  refine wq_region_upd (by kernel_rfl) (by kernel_rfl) ?_
                  refine WQ.step (fun K hK => ?_)
                  go_simp
                  refine hK _ ?_
                  clear hK K
                  refine WQ.step (fun K hK => ?_)
                  go_simp
                  refine hK _ ?_
                  clear hK K
                  refine WQ.step (fun K hK => ?_)
                  go_simp
                  refine hK _ ?_
                  clear hK K
                  refine WQ.step (fun K hK => ?_)
                  go_simp
                  refine ⟨_, fun X => Calls.updT X (unhide hM X.to), hK _ ?_⟩
                  clear hK K
                  refine WQ.step (fun K hK => ?_)
                  go_simp
                  refine hK _ ?_
                  clear hK K
                  refine WQ.step (fun K hK => ?_)
                  go_simp
                  refine hK _ ?_
                  clear hK K
                  refine WQ.step (fun K hK => ?_)
                  go_simp
                  refine hK _ ?_
                  clear hK K
                  refine WQ.step (fun K hK => ?_)
                  go_simp
                  refine hK _ ?_
                  clear hK K
                  refine WQ.step (fun K hK => ?_)
                  go_simp
                  refine hK _ ?_
                  clear hK K
                  refine WQ.step (fun K hK => ?_)
                  go_simp
                  refine hK _ ?_
                  clear hK K
                  refine WQ.step (fun K hK => ?_)
                  go_simp
                  refine hK _ ?_
                  clear hK K
                  refine WQ.step (fun K hK => ?_)
                  go_simp
                  refine hK _ ?_
                  clear hK K
                  refine WQ.step (fun K hK => ?_)
                  go_simp
                  refine hK _ ?_
                  clear hK K
                  refine WQ.step (fun K hK => ?_)
                  go_simp
                  refine hK _ ?_
                  clear hK K
                  refine WQ.nil ?_
                  rintro _ ⟨X, rfl⟩
                  have hX := X.upd
                  clear hcX
                  generalize X.to = wt at hX ⊢
                  have hN2 := hide ((unhide hN).upd hX)
                  have hS2 := hide (unhide hstep).symm
                  clear hX hN hS hstep hM
                  go_wp2_with fail
                  go_roundw
                  case rel => exact ⟨c + 1, S + P, by omega, rfl, by go_num, hS2, hN2⟩
                  case measure => simp [intOf]; omega
                · have hc8 : c = 8 := by omega
                  subst hc8
                  have hfq : Hid (S / 65536 = (tmulZ mT mid 32768 65536) (8 * b + a)) := hide (by rw [unhide hf, unhide hS, Int.add_comm])
                  obtain ⟨q, hq⟩ : ∃ q, 8 * b + a = q := ⟨_, rfl⟩
                  have hq1 : 8 * (b : Int) + (a : Int) = (q : Int) := by omega
                  rw [hq] at hfq
                  have hq2 : q < 64 := by omega
                  obtain ⟨⟨uu, hdst⟩, hfz⟩ := (unhide hN).at hq2
                  have hput := hide ((unhide hN).put (Q := fun p => p % 8 < a ∨ (p % 8 = a ∧ p / 8 < (b + 1))) hq2 (unhide hfq) (fun p hp hQ => by omega))
                  clear hq hN hfq hf hS hT
                  go_wp2_with fail
                  go_roundw
                  case rel => exact ⟨b + 1, _, by omega, by go_num, hput⟩
                  case measure => simp [intOf]; omega
            · have hb8 : b = 8 := by omega
              subst hb8
              have hN2 := hide ((unhide hN).weak (Q := fun p => p % 8 < (a + 1) ∨ (p % 8 = (a + 1) ∧ p / 8 < 0)) (fun p hp hQ => by omega))
              clear hN
              go_wp2_with fail
              go_roundw
              case rel => exact ⟨a + 1, xs, by omega, by go_num, hN2⟩
              case measure => simp [intOf]; omega
        · have ha8 : a = 8 := by omega
          subst ha8
          have hbel4 := (unhide hN).bel
          have hO := (unhide hN).done (fun p hp => by omega)
          have hO2 := hide (own_mono hO (unhide hbel3).size (Nat.le_refl _))
          have hb5 := hide (Upd.of_below ((unhide hbel3).trans (hbel4.mono (unhide hbel3).size)) 0 0)
          clear hO hbel4 hN
          go_wp2
          go_ret
          exact ⟨_, rfl, by rw [unhide hres]; exact unhide hO2, unhide hb5⟩
end Go.Proofs.YtnalmingbglgfaaDoor
