/- The program's squares: turned over, multiplied. -/
import Derived.Test.YtnalmingbglgfaaDoorWSqB
namespace Go.Proofs.YtnalmingbglgfaaDoor
open Go.RowKit

theorem implRnd10 (n : Int) (w : World) (h0 : -1152921504606846976 ≤ n) (h1 : n ≤ 1152921504606846976) : Calls Tryd.prog 31 #[.int .i64 n, .int .i64 10] w fun e w' => e = .returned (.int .i64 ((n + 512) / 1024)) ∧ w' = w := by
  go_enter Tryd.func31, Tryd.ntmps31
  go_wp2
  go_ret
  exact ⟨rfl, rfl⟩
theorem implRnd16 (n : Int) (w : World) (h0 : -1152921504606846976 ≤ n) (h1 : n ≤ 1152921504606846976) : Calls Tryd.prog 31 #[.int .i64 n, .int .i64 16] w fun e w' => e = .returned (.int .i64 ((n + 32768) / 65536)) ∧ w' = w := by
  go_enter Tryd.func31, Tryd.ntmps31
  go_wp2
  go_ret
  exact ⟨rfl, rfl⟩
/-- New blocks: squares one behind the other. -/
theorem sqs2 (w : World) (A B : List Int) (hA : A.length = 64) (hB : B.length = 64) :
    SqAt ((w.alloc (.cells (sqc A) 33)).alloc (.cells (sqc B) 33)) w.heap.size A ∧ SqAt ((w.alloc (.cells (sqc A) 33)).alloc (.cells (sqc B) 33)) (w.heap.size + 1) B := by
  refine ⟨(sqAt_new w _ hA).keep (Upd.of_below ((Below.refl _ _).alloc (Nat.le_refl _) _) 0 0), ?_⟩
  have h1 := sqAt_new (w.alloc (.cells (sqc A) 33)) B hB
  rw [show (w.alloc (.cells (sqc A) 33)).heap.size = w.heap.size + 1 by simp] at h1
  exact h1
theorem sqs3 (w : World) (A B C : List Int) (hA : A.length = 64) (hB : B.length = 64) (hC : C.length = 64) :
    SqAt (((w.alloc (.cells (sqc A) 33)).alloc (.cells (sqc B) 33)).alloc (.cells (sqc C) 33)) w.heap.size A ∧ SqAt (((w.alloc (.cells (sqc A) 33)).alloc (.cells (sqc B) 33)).alloc (.cells (sqc C) 33)) (w.heap.size + 1) B ∧ SqAt (((w.alloc (.cells (sqc A) 33)).alloc (.cells (sqc B) 33)).alloc (.cells (sqc C) 33)) (w.heap.size + 2) C := by
  obtain ⟨h1, h2⟩ := sqs2 w A B hA hB
  have u := Upd.of_below ((Below.refl ((w.alloc (.cells (sqc A) 33)).alloc (.cells (sqc B) 33)).heap.size ((w.alloc (.cells (sqc A) 33)).alloc (.cells (sqc B) 33))).alloc (Nat.le_refl _) (.cells (sqc C) 33)) 0 0
  refine ⟨h1.keep u, h2.keep u, ?_⟩
  have h3 := sqAt_new ((w.alloc (.cells (sqc A) 33)).alloc (.cells (sqc B) 33)) C hC
  rw [show ((w.alloc (.cells (sqc A) 33)).alloc (.cells (sqc B) 33)).heap.size = w.heap.size + 2 by simp] at h3
  exact h3
theorem sqs4 (w : World) (A B C D : List Int) (hA : A.length = 64) (hB : B.length = 64) (hC : C.length = 64) (hD : D.length = 64) (w0 : World) (hw : w0 = ((((w.alloc (.cells (sqc A) 33)).alloc (.cells (sqc B) 33)).alloc (.cells (sqc C) 33)).alloc (.cells (sqc D) 33))) :
    SqAt w0 w.heap.size A ∧ SqAt w0 (w.heap.size + 1) B ∧ SqAt w0 (w.heap.size + 2) C ∧ SqAt w0 (w.heap.size + 3) D ∧ Below w.heap.size w w0 := by
  subst hw
  obtain ⟨h1, h2, h3⟩ := sqs3 w A B C hA hB hC
  have hb : Below w.heap.size w (((w.alloc (.cells (sqc A) 33)).alloc (.cells (sqc B) 33)).alloc (.cells (sqc C) 33)) := (((Below.refl _ w).alloc (Nat.le_refl _) _).alloc (by simp) _).alloc (by simp; omega) _
  have hsz : (((w.alloc (.cells (sqc A) 33)).alloc (.cells (sqc B) 33)).alloc (.cells (sqc C) 33)).heap.size = w.heap.size + 3 := by simp
  generalize ((w.alloc (.cells (sqc A) 33)).alloc (.cells (sqc B) 33)).alloc (.cells (sqc C) 33) = w3 at h1 h2 h3 hb hsz ⊢
  have u := Upd.of_below ((Below.refl w3.heap.size w3).alloc (Nat.le_refl _) (.cells (sqc D) 33)) 0 0
  have h4 := sqAt_new w3 D hD
  rw [hsz] at h4
  exact ⟨h1.keep u, h2.keep u, h3.keep u, h4, hb.alloc (by omega) _⟩

set_option maxHeartbeats 16000000 in
set_option maxRecDepth 1000000 in
theorem implFlipped (A : List Int) (w : World) (hA : A.length = 64) : Calls Tryd.prog 22 #[.agg (sqc A)] w fun e w' => e = .returned (.agg (sqc (flipL A))) ∧ Upd 0 0 w w' := by
  have hz := zeroSq
  have hsq := hide (sqs3 w A zq zq hA zq_len zq_len)
  have hbw : Hid (Below w.heap.size w (((w.alloc (.cells (sqc A) 33)).alloc (.cells (sqc zq) 33)).alloc (.cells (sqc zq) 33))) := hide ((((Below.refl _ w).alloc (Nat.le_refl _) _).alloc (by simp) _).alloc (by simp; omega) _)
  show Calls Tryd.prog 22 #[.agg (sqc A)] w fun e w' => e = .returned (.agg (sqc (tab (flipZ A)))) ∧ Upd 0 0 w w'
  go_enter Tryd.func22, Tryd.ntmps22
  go_wp2_with fail
  generalize ((w.alloc (.cells (sqc A) 33)).alloc (.cells (sqc zq) 33)).alloc (.cells (sqc zq) 33) = w0 at hsq hbw ⊢
  obtain ⟨hS, hZ, hN⟩ := unhide hsq
  have hN : Hid (SqSt w w0 (w.heap.size + 2) (flipZ A) (fun p => p < 8 * 0 + 0) zq) := hide ⟨hN, ⟨zq_len, fun p hp h => by omega⟩, unhide hbw, by omega⟩
  replace hS := hide hS
  replace hZ := hide hZ
  clear hsq hbw hz
  go_loopw [6] (fun i wr => ∃ (a : Nat) (xs : List Int), a ≤ 8 ∧ i = .int .i64 (a : Int) ∧ Hid (SqSt w wr (w.heap.size + 2) (flipZ A) (fun p => p < 8 * a + 0) xs) ∧ Hid (SqAt wr w.heap.size A) ∧ Hid (SqAt wr (w.heap.size + 1) zq)) (fun i _ => 8 - (intOf i).toNat)
  case atStart => exact ⟨0, zq, by omega, rfl, hN, hS, hZ⟩
  case round =>
    clear hN hZ hS
    obtain ⟨a, xs, ha, rfl, hN, hS, hZ⟩ := hrel
    by_cases halt : a < 8
    · have hab : decide ((a : Int) < 8) = true := decide_eq_true (by omega)
      go_wp2_with fail
      go_loopw [9] (fun i wr => ∃ (b : Nat) (xs : List Int), b ≤ 8 ∧ i = .int .i64 (b : Int) ∧ Hid (SqSt w wr (w.heap.size + 2) (flipZ A) (fun p => p < 8 * a + b) xs) ∧ Hid (SqAt wr w.heap.size A) ∧ Hid (SqAt wr (w.heap.size + 1) zq)) (fun i _ => 8 - (intOf i).toNat)
      case atStart => exact ⟨0, xs, by omega, rfl, hN, hS, hZ⟩
      case round =>
        clear hN hZ hS
        obtain ⟨b, xs, hb, rfl, hN, hS, hZ⟩ := hrel
        by_cases hblt : b < 8
        · have hbb : decide ((b : Int) < 8) = true := decide_eq_true (by omega)
          have hq2 : a * 8 + b < 64 := by omega
          have hck := (unhide hS).cell (j := b * 8 + a) (by omega)
          have hput := hide ((unhide hN).put (Q := fun p => p < 8 * a + (b + 1)) hq2 (x := A.getD (b * 8 + a) 0) (by unfold flipZ; rw [show (a * 8 + b) / 8 = a by omega, show (a * 8 + b) % 8 = b by omega, Nat.mul_comm b 8]) (fun p hp hQ => by omega))
          have hZ2 := hide ((unhide hZ).other (a := ⟨w.heap.size + 2, a * 8 + b, none⟩) (by simp) (.int .i64 (A.getD (b * 8 + a) 0)))
          have hS2 := hide ((unhide hS).other (a := ⟨w.heap.size + 2, a * 8 + b, none⟩) (by simp) (.int .i64 (A.getD (b * 8 + a) 0)))
          have hdst := (unhide hN).row.cell hq2
          have hfz := (unhide hN).row.frozen (a * 8 + b)
          generalize xs.getD (a * 8 + b) 0 = old at hdst
          generalize A.getD (b * 8 + a) 0 = y at hck hput hZ2 hS2
          have ha0 : (0 : Int) ≤ (a : Int) := by omega
          have ha1 : (a : Int) < 8 := by omega
          have hb0 : (0 : Int) ≤ (b : Int) := by omega
          have hb1 : (b : Int) < 8 := by omega
          clear hN hZ hS
          go_wp2_with fail
          refine wp_region_still_tail 9 (by kernel_rfl) (by kernel_rfl) ?_
          simp only [List.take_succ_cons, List.take_zero, List.drop_succ_cons, List.drop_zero]
          iterate 9 still_step
          refine wpStill_nil ?_
          go_wp2_with fail
          go_roundw
          case rel => exact ⟨b + 1, _, by omega, by go_num, hide ((unhide hput).upd (Upd.drew1 _)), hide ((unhide hS2).keep (Upd.drew1 _)), hide ((unhide hZ2).keep (Upd.drew1 _))⟩
          case measure => simp [intOf]; omega
        · have hb8 : b = 8 := by omega
          subst hb8
          have hN2 := hide ((unhide hN).weak (Q := fun p => p < 8 * (a + 1) + 0) (fun p hp hQ => by omega))
          clear hN
          go_wp2_with fail
          go_roundw
          case rel => exact ⟨a + 1, xs, by omega, by go_num, hN2, hS, hZ⟩
          case measure => simp [intOf]; omega
    · have ha8 : a = 8 := by omega
      subst ha8
      have hbel := hide (unhide hN).bel
      have hdn := hide ((unhide hN).done (fun p hp => by omega))
      clear hN hS
      go_upto_region 11 with fail
      refine wp_region_lit ?_
      refine wpList_load_row rfl 33 (.tmp 3) rfl (w.heap.size + 2) rfl 33 (sqc (tab (flipZ A))) (0, 0) _ (unhide hdn).1 Tryd.underlying33 rfl (by rw [sqc_size]; exact sizeSq) ?_
      refine wpList_store_row rfl 33 (.tmp 2) (.tmp 23) rfl (w.heap.size + 1) (sqc (tab (flipZ A))) rfl rfl 33 (sqc zq) (unhide hZ).1 (by rw [sqc_size]; exact sizeSq) (by rw [sqc_size, sqc_size]; rfl) (sqc_one _) ?_
      have hres : (wr.setRow (w.heap.size + 1) (sqc (tab (flipZ A)))).heap[w.heap.size + 1]? = some (.cells (sqc (tab (flipZ A))) 33 (0, 0)) := setRow_heap wr _ _ _ _ _ (unhide hZ).1
      replace hres := hide hres
      have hb2 := hide (below_setRow (unhide hbel) (show w.heap.size ≤ w.heap.size + 1 by omega) (sqc (tab (flipZ A))))
      clear hdn hZ hbel
      go_wp2_with fail
      refine bodyPost_ret (v := .agg (sqc (tab (flipZ A)))) (results_cell_row rfl _ _ (w.heap.size + 1) 33 (sqc (tab (flipZ A))) (0, 0) _ rfl (unhide hres) Tryd.underlying33 rfl (by rw [sqc_size]; exact sizeSq)) rfl ⟨rfl, Upd.of_below (unhide hb2) 0 0⟩
set_option maxHeartbeats 16000000 in
set_option maxRecDepth 1000000 in
theorem implTimes10 (A B : List Int) (K L Q : Int) (w : World) (hA : A.length = 64) (hB : B.length = 64) (kA : InR (-K) K A) (kB : InR (-L) L B) (hL : 0 ≤ L) (hKL : K * L = Q) (hQ : 0 ≤ Q ∧ Q ≤ 100000000000) :
    Calls Tryd.prog 21 #[.agg (sqc A), .agg (sqc B), .int .i64 10] w fun e w' => e = .returned (.agg (sqc (tmul A B 512 1024))) ∧ Upd 0 0 w w' := by
  have hz := zeroSq
  have hsq := hide (sqs4 w A B zq zq hA hB zq_len zq_len)
  have hT : Hid (∀ p i, p < 64 → i < 8 → -Q ≤ tmulT A B p i ∧ tmulT A B p i ≤ Q) := hide (fun p i hp hi => by
    have := prod_within (kA (8 * (p / 8) + i) (by omega)) (kB (8 * i + p % 8) (by omega)) hL
    rw [hKL] at this
    exact this)
  obtain ⟨hQ0, hQ1⟩ := hQ
  clear kA kB hKL hL
  show Calls Tryd.prog 21 #[.agg (sqc A), .agg (sqc B), .int .i64 10] w fun e w' => e = .returned (.agg (sqc (tab (tmulZ A B 512 1024)))) ∧ Upd 0 0 w w'
  go_enter Tryd.func21, Tryd.ntmps21
  go_wp2_with fail
  obtain ⟨w0, hw0⟩ : ∃ w0, w0 = (((w.alloc (.cells (sqc A) 33)).alloc (.cells (sqc B) 33)).alloc (.cells (sqc zq) 33)).alloc (.cells (sqc zq) 33) := ⟨_, rfl⟩
  obtain ⟨hS, hB2, hZ, hN, hbw⟩ := unhide hsq w0 hw0
  rw [← hw0]
  clear hw0
  have hN : Hid (SqSt w w0 (w.heap.size + 3) (tmulZ A B 512 1024) (fun p => p < 8 * 0 + 0) zq) := hide ⟨hN, ⟨zq_len, fun p hp h => by omega⟩, hbw, by omega⟩
  replace hS := hide (⟨hS, hB2, hZ⟩ : SqAt w0 w.heap.size A ∧ SqAt w0 (w.heap.size + 1) B ∧ SqAt w0 (w.heap.size + 2) zq)
  clear hsq hbw hz hB2 hZ
  go_loopw [12] (fun i wr => ∃ (a : Nat) (xs : List Int), a ≤ 8 ∧ i = .int .i64 (a : Int) ∧ Hid (SqSt w wr (w.heap.size + 3) (tmulZ A B 512 1024) (fun p => p < 8 * a + 0) xs) ∧ Hid (SqAt wr w.heap.size A ∧ SqAt wr (w.heap.size + 1) B ∧ SqAt wr (w.heap.size + 2) zq)) (fun i _ => 8 - (intOf i).toNat)
  case atStart => exact ⟨0, zq, by omega, rfl, hN, hS⟩
  case round =>
    clear hN hS
    obtain ⟨a, xs, ha, rfl, hN, hS⟩ := hrel
    by_cases halt : a < 8
    · have hab : decide ((a : Int) < 8) = true := decide_eq_true (by omega)
      go_wp2_with fail
      go_loopw [15] (fun i wr => ∃ (b : Nat) (xs : List Int), b ≤ 8 ∧ i = .int .i64 (b : Int) ∧ Hid (SqSt w wr (w.heap.size + 3) (tmulZ A B 512 1024) (fun p => p < 8 * a + b) xs) ∧ Hid (SqAt wr w.heap.size A ∧ SqAt wr (w.heap.size + 1) B ∧ SqAt wr (w.heap.size + 2) zq)) (fun i _ => 8 - (intOf i).toNat)
      case atStart => exact ⟨0, xs, by omega, rfl, hN, hS⟩
      case round =>
        clear hN hS
        obtain ⟨b, xs, hb, rfl, hN, hS⟩ := hrel
        have ha0 : (0 : Int) ≤ (a : Int) := by omega
        have ha1 : (a : Int) < 8 := by omega
        by_cases hblt : b < 8
        · have hbb : decide ((b : Int) < 8) = true := decide_eq_true (by omega)
          have hb0 : (0 : Int) ≤ (b : Int) := by omega
          have hb1 : (b : Int) < 8 := by omega
          have hq2 : a * 8 + b < 64 := by omega
          have hTi : Hid (∀ i, tmulT A B (a * 8 + b) i = A.getD (a * 8 + i) 0 * B.getD (i * 8 + b) 0) := hide (fun i => by unfold tmulT; rw [show (a * 8 + b) / 8 = a by omega, show (a * 8 + b) % 8 = b by omega, Nat.mul_comm 8 a, Nat.mul_comm 8 i])
          have hS0 : Hid (((0 : Int)) = sumN (tmulT A B (a * 8 + b)) 0) := hide rfl
          go_wp2_with fail
          have hfr : Hid (∀ nq, SqSt w (wr.drewN nq) (w.heap.size + 3) (tmulZ A B 512 1024) (fun p => p < 8 * a + b) xs ∧ SqAt (wr.drewN nq) w.heap.size A ∧ SqAt (wr.drewN nq) (w.heap.size + 1) B ∧ SqAt (wr.drewN nq) (w.heap.size + 2) zq) := hide (fun nq => ⟨(unhide hN).upd ((Upd.refl 0 0 _).drewN nq), (unhide hS).1.keep ((Upd.refl 0 0 _).drewN nq), (unhide hS).2.1.keep ((Upd.refl 0 0 _).drewN nq), (unhide hS).2.2.keep ((Upd.refl 0 0 _).drewN nq)⟩)
          clear hN hS
          obtain ⟨wo, hwo⟩ : ∃ wo : World, wo = wr := ⟨_, rfl⟩
          rw [← hwo] at hfr ⊢
          clear hwo
          go_loopw [10, 18] (fun s i wx => ∃ (c : Nat) (S : Int), c ≤ 8 ∧ s = .int .i64 S ∧ i = .int .i64 (c : Int) ∧ Hid (S = sumN (tmulT A B (a * 8 + b)) c) ∧ ∃ nq, wx = wo.drewN nq) (fun _ i _ => 8 - (intOf i).toNat)
          case atStart => exact ⟨0, 0, by omega, rfl, rfl, hS0, 0, rfl⟩
          case round =>
            clear hS0
            obtain ⟨c, S, hc, rfl, rfl, hS, nq, rfl⟩ := hrel
            obtain ⟨hN, hsA, hsB, hZ⟩ := unhide hfr nq
            generalize hwx : wo.drewN nq = wx at hN hsA hsB hZ ⊢
            replace hwx := hide hwx
            have hSb := sumN_within (f := tmulT A B (a * 8 + b)) (K := Q) (n := c) (fun i hi => unhide hT _ i hq2 (by omega))
            rw [← unhide hS] at hSb
            have hSb2 : -800000000000 ≤ S ∧ S ≤ 800000000000 := by
              have h9 : (c : Int) * Q ≤ 8 * Q := Int.mul_le_mul_of_nonneg_right (by omega) hQ0
              omega
            clear hSb
            obtain ⟨S0, S1⟩ := hSb2
            by_cases hclt : c < 8
            · have hstep : Hid (sumN (tmulT A B (a * 8 + b)) (c + 1) = S + A.getD (a * 8 + c) 0 * B.getD (c * 8 + b) 0) := hide (by rw [unhide hS, ← unhide hTi c]; rfl)
              have hTc := unhide hT _ c hq2 hclt
              rw [unhide hTi c] at hTc
              have hk1 : wx.cell? ⟨w.heap.size, a * 8 + c, none⟩ = some (.int .i64 (A.getD (a * 8 + c) 0)) := hsA.cell (j := a * 8 + c) (by omega)
              have hk2 : wx.cell? ⟨w.heap.size + 1, c * 8 + b, none⟩ = some (.int .i64 (B.getD (c * 8 + b) 0)) := hsB.cell (j := c * 8 + b) (by omega)
              generalize A.getD (a * 8 + c) 0 = x at hk1 hstep hTc
              generalize B.getD (c * 8 + b) 0 = y at hk2 hstep hTc
              obtain ⟨P, hP⟩ : ∃ P, x * y = P := ⟨_, rfl⟩
              rw [hP] at hstep hTc
              obtain ⟨T0, T1⟩ := hTc
              have w3 : IntKind.i64.wrap P = P := wrapQ (by omega)
              have w4 : IntKind.i64.wrap (S + P) = S + P := wrapQ (by omega)
              have hc0 : (0 : Int) ≤ (c : Int) := by omega
              have hc1 : (c : Int) < 8 := by omega
              have hs2 := hide (unhide hstep).symm
              clear hN hsA hsB hZ hstep hS
              go_wp2_with fail
              refine wp_region_still_lit (by kernel_rfl) (by kernel_rfl) ?_
              iterate 14 still_step
              refine wpStill_nil ?_
              go_wp2_with fail
              go_roundw
              case rel => exact ⟨c + 1, S + P, by omega, rfl, by go_num, hs2, nq + 1, by rw [← unhide hwx]; rfl⟩
              case measure => simp [intOf]; omega
            · have hc8 : c = 8 := by omega
              subst hc8
              have hR := hide (fun W => implRnd10 S W (by omega) (by omega))
              have hput := hide (hN.put (Q := fun p => p < 8 * a + (b + 1)) hq2 (x := (S + 512) / 1024) (by unfold tmulZ; rw [unhide hS]) (fun p hp hQ => by omega))
              have hA9 := hide (hsA.other (a := ⟨w.heap.size + 3, a * 8 + b, none⟩) (by simp) (.int .i64 ((S + 512) / 1024)))
              have hB9 := hide (hsB.other (a := ⟨w.heap.size + 3, a * 8 + b, none⟩) (by simp) (.int .i64 ((S + 512) / 1024)))
              have hZ9 := hide (hZ.other (a := ⟨w.heap.size + 3, a * 8 + b, none⟩) (by simp) (.int .i64 ((S + 512) / 1024)))
              have hdst := hN.row.cell hq2
              have hfz := hN.row.frozen (a * 8 + b)
              generalize xs.getD (a * 8 + b) 0 = old at hdst
              generalize (S + 512) / 1024 = y at hput hA9 hB9 hZ9 hR
              clear hN hsA hsB hZ hfr hS hTi
              go_wp2_with fail
              refine wp_region_still_tail 7 (by kernel_rfl) (by kernel_rfl) ?_
              simp only [List.take_succ_cons, List.take_zero, List.drop_succ_cons, List.drop_zero]
              iterate 4 still_step
              still_call (unhide hR _)
              iterate 2 still_step
              refine wpStill_nil ?_
              go_wp2_with fail
              go_roundw
              case rel => exact ⟨b + 1, _, by omega, by go_num, hide ((unhide hput).upd (Upd.drew1 _)), hide ⟨(unhide hA9).keep (Upd.drew1 _), (unhide hB9).keep (Upd.drew1 _), (unhide hZ9).keep (Upd.drew1 _)⟩⟩
              case measure => simp [intOf]; omega
        · have hb8 : b = 8 := by omega
          subst hb8
          have hN2 := hide ((unhide hN).weak (Q := fun p => p < 8 * (a + 1) + 0) (fun p hp hQ => by omega))
          clear hN
          go_wp2_with fail
          go_roundw
          case rel => exact ⟨a + 1, xs, by omega, by go_num, hN2, hS⟩
          case measure => simp [intOf]; omega
    · have ha8 : a = 8 := by omega
      subst ha8
      have hbel := hide (unhide hN).bel
      have hdn := hide ((unhide hN).done (fun p hp => by omega))
      have hZ := hide (unhide hS).2.2
      clear hN hS
      go_upto_region 17 with fail
      refine wp_region_lit ?_
      refine wpList_load_row rfl 33 (.tmp 7) rfl (w.heap.size + 3) rfl 33 (sqc (tab (tmulZ A B 512 1024))) (0, 0) _ (unhide hdn).1 Tryd.underlying33 rfl (by rw [sqc_size]; exact sizeSq) ?_
      refine wpList_store_row rfl 33 (.tmp 6) (.tmp 44) rfl (w.heap.size + 2) (sqc (tab (tmulZ A B 512 1024))) rfl rfl 33 (sqc zq) (unhide hZ).1 (by rw [sqc_size]; exact sizeSq) (by rw [sqc_size, sqc_size]; rfl) (sqc_one _) ?_
      have hres : (wr.setRow (w.heap.size + 2) (sqc (tab (tmulZ A B 512 1024)))).heap[w.heap.size + 2]? = some (.cells (sqc (tab (tmulZ A B 512 1024))) 33 (0, 0)) := setRow_heap wr _ _ _ _ _ (unhide hZ).1
      replace hres := hide hres
      have hb2 := hide (below_setRow (unhide hbel) (show w.heap.size ≤ w.heap.size + 2 by omega) (sqc (tab (tmulZ A B 512 1024))))
      clear hdn hZ hbel
      go_wp2_with fail
      refine bodyPost_ret (v := .agg (sqc (tab (tmulZ A B 512 1024)))) (results_cell_row rfl _ _ (w.heap.size + 2) 33 (sqc (tab (tmulZ A B 512 1024))) (0, 0) _ rfl (unhide hres) Tryd.underlying33 rfl (by rw [sqc_size]; exact sizeSq)) rfl ⟨rfl, Upd.of_below (unhide hb2) 0 0⟩
set_option maxHeartbeats 16000000 in
set_option maxRecDepth 1000000 in
theorem implTimes16 (A B : List Int) (K L Q : Int) (w : World) (hA : A.length = 64) (hB : B.length = 64) (kA : InR (-K) K A) (kB : InR (-L) L B) (hL : 0 ≤ L) (hKL : K * L = Q) (hQ : 0 ≤ Q ∧ Q ≤ 100000000000) :
    Calls Tryd.prog 21 #[.agg (sqc A), .agg (sqc B), .int .i64 16] w fun e w' => e = .returned (.agg (sqc (tmul A B 32768 65536))) ∧ Upd 0 0 w w' := by
  have hz := zeroSq
  have hsq := hide (sqs4 w A B zq zq hA hB zq_len zq_len)
  have hT : Hid (∀ p i, p < 64 → i < 8 → -Q ≤ tmulT A B p i ∧ tmulT A B p i ≤ Q) := hide (fun p i hp hi => by
    have := prod_within (kA (8 * (p / 8) + i) (by omega)) (kB (8 * i + p % 8) (by omega)) hL
    rw [hKL] at this
    exact this)
  obtain ⟨hQ0, hQ1⟩ := hQ
  clear kA kB hKL hL
  show Calls Tryd.prog 21 #[.agg (sqc A), .agg (sqc B), .int .i64 16] w fun e w' => e = .returned (.agg (sqc (tab (tmulZ A B 32768 65536)))) ∧ Upd 0 0 w w'
  go_enter Tryd.func21, Tryd.ntmps21
  go_wp2_with fail
  obtain ⟨w0, hw0⟩ : ∃ w0, w0 = (((w.alloc (.cells (sqc A) 33)).alloc (.cells (sqc B) 33)).alloc (.cells (sqc zq) 33)).alloc (.cells (sqc zq) 33) := ⟨_, rfl⟩
  obtain ⟨hS, hB2, hZ, hN, hbw⟩ := unhide hsq w0 hw0
  rw [← hw0]
  clear hw0
  have hN : Hid (SqSt w w0 (w.heap.size + 3) (tmulZ A B 32768 65536) (fun p => p < 8 * 0 + 0) zq) := hide ⟨hN, ⟨zq_len, fun p hp h => by omega⟩, hbw, by omega⟩
  replace hS := hide (⟨hS, hB2, hZ⟩ : SqAt w0 w.heap.size A ∧ SqAt w0 (w.heap.size + 1) B ∧ SqAt w0 (w.heap.size + 2) zq)
  clear hsq hbw hz hB2 hZ
  go_loopw [12] (fun i wr => ∃ (a : Nat) (xs : List Int), a ≤ 8 ∧ i = .int .i64 (a : Int) ∧ Hid (SqSt w wr (w.heap.size + 3) (tmulZ A B 32768 65536) (fun p => p < 8 * a + 0) xs) ∧ Hid (SqAt wr w.heap.size A ∧ SqAt wr (w.heap.size + 1) B ∧ SqAt wr (w.heap.size + 2) zq)) (fun i _ => 8 - (intOf i).toNat)
  case atStart => exact ⟨0, zq, by omega, rfl, hN, hS⟩
  case round =>
    clear hN hS
    obtain ⟨a, xs, ha, rfl, hN, hS⟩ := hrel
    by_cases halt : a < 8
    · have hab : decide ((a : Int) < 8) = true := decide_eq_true (by omega)
      go_wp2_with fail
      go_loopw [15] (fun i wr => ∃ (b : Nat) (xs : List Int), b ≤ 8 ∧ i = .int .i64 (b : Int) ∧ Hid (SqSt w wr (w.heap.size + 3) (tmulZ A B 32768 65536) (fun p => p < 8 * a + b) xs) ∧ Hid (SqAt wr w.heap.size A ∧ SqAt wr (w.heap.size + 1) B ∧ SqAt wr (w.heap.size + 2) zq)) (fun i _ => 8 - (intOf i).toNat)
      case atStart => exact ⟨0, xs, by omega, rfl, hN, hS⟩
      case round =>
        clear hN hS
        obtain ⟨b, xs, hb, rfl, hN, hS⟩ := hrel
        have ha0 : (0 : Int) ≤ (a : Int) := by omega
        have ha1 : (a : Int) < 8 := by omega
        by_cases hblt : b < 8
        · have hbb : decide ((b : Int) < 8) = true := decide_eq_true (by omega)
          have hb0 : (0 : Int) ≤ (b : Int) := by omega
          have hb1 : (b : Int) < 8 := by omega
          have hq2 : a * 8 + b < 64 := by omega
          have hTi : Hid (∀ i, tmulT A B (a * 8 + b) i = A.getD (a * 8 + i) 0 * B.getD (i * 8 + b) 0) := hide (fun i => by unfold tmulT; rw [show (a * 8 + b) / 8 = a by omega, show (a * 8 + b) % 8 = b by omega, Nat.mul_comm 8 a, Nat.mul_comm 8 i])
          have hS0 : Hid (((0 : Int)) = sumN (tmulT A B (a * 8 + b)) 0) := hide rfl
          go_wp2_with fail
          have hfr : Hid (∀ nq, SqSt w (wr.drewN nq) (w.heap.size + 3) (tmulZ A B 32768 65536) (fun p => p < 8 * a + b) xs ∧ SqAt (wr.drewN nq) w.heap.size A ∧ SqAt (wr.drewN nq) (w.heap.size + 1) B ∧ SqAt (wr.drewN nq) (w.heap.size + 2) zq) := hide (fun nq => ⟨(unhide hN).upd ((Upd.refl 0 0 _).drewN nq), (unhide hS).1.keep ((Upd.refl 0 0 _).drewN nq), (unhide hS).2.1.keep ((Upd.refl 0 0 _).drewN nq), (unhide hS).2.2.keep ((Upd.refl 0 0 _).drewN nq)⟩)
          clear hN hS
          obtain ⟨wo, hwo⟩ : ∃ wo : World, wo = wr := ⟨_, rfl⟩
          rw [← hwo] at hfr ⊢
          clear hwo
          go_loopw [10, 18] (fun s i wx => ∃ (c : Nat) (S : Int), c ≤ 8 ∧ s = .int .i64 S ∧ i = .int .i64 (c : Int) ∧ Hid (S = sumN (tmulT A B (a * 8 + b)) c) ∧ ∃ nq, wx = wo.drewN nq) (fun _ i _ => 8 - (intOf i).toNat)
          case atStart => exact ⟨0, 0, by omega, rfl, rfl, hS0, 0, rfl⟩
          case round =>
            clear hS0
            obtain ⟨c, S, hc, rfl, rfl, hS, nq, rfl⟩ := hrel
            obtain ⟨hN, hsA, hsB, hZ⟩ := unhide hfr nq
            generalize hwx : wo.drewN nq = wx at hN hsA hsB hZ ⊢
            replace hwx := hide hwx
            have hSb := sumN_within (f := tmulT A B (a * 8 + b)) (K := Q) (n := c) (fun i hi => unhide hT _ i hq2 (by omega))
            rw [← unhide hS] at hSb
            have hSb2 : -800000000000 ≤ S ∧ S ≤ 800000000000 := by
              have h9 : (c : Int) * Q ≤ 8 * Q := Int.mul_le_mul_of_nonneg_right (by omega) hQ0
              omega
            clear hSb
            obtain ⟨S0, S1⟩ := hSb2
            by_cases hclt : c < 8
            · have hstep : Hid (sumN (tmulT A B (a * 8 + b)) (c + 1) = S + A.getD (a * 8 + c) 0 * B.getD (c * 8 + b) 0) := hide (by rw [unhide hS, ← unhide hTi c]; rfl)
              have hTc := unhide hT _ c hq2 hclt
              rw [unhide hTi c] at hTc
              have hk1 : wx.cell? ⟨w.heap.size, a * 8 + c, none⟩ = some (.int .i64 (A.getD (a * 8 + c) 0)) := hsA.cell (j := a * 8 + c) (by omega)
              have hk2 : wx.cell? ⟨w.heap.size + 1, c * 8 + b, none⟩ = some (.int .i64 (B.getD (c * 8 + b) 0)) := hsB.cell (j := c * 8 + b) (by omega)
              generalize A.getD (a * 8 + c) 0 = x at hk1 hstep hTc
              generalize B.getD (c * 8 + b) 0 = y at hk2 hstep hTc
              obtain ⟨P, hP⟩ : ∃ P, x * y = P := ⟨_, rfl⟩
              rw [hP] at hstep hTc
              obtain ⟨T0, T1⟩ := hTc
              have w3 : IntKind.i64.wrap P = P := wrapQ (by omega)
              have w4 : IntKind.i64.wrap (S + P) = S + P := wrapQ (by omega)
              have hc0 : (0 : Int) ≤ (c : Int) := by omega
              have hc1 : (c : Int) < 8 := by omega
              have hs2 := hide (unhide hstep).symm
              clear hN hsA hsB hZ hstep hS
              go_wp2_with fail
              refine wp_region_still_lit (by kernel_rfl) (by kernel_rfl) ?_
              iterate 14 still_step
              refine wpStill_nil ?_
              go_wp2_with fail
              go_roundw
              case rel => exact ⟨c + 1, S + P, by omega, rfl, by go_num, hs2, nq + 1, by rw [← unhide hwx]; rfl⟩
              case measure => simp [intOf]; omega
            · have hc8 : c = 8 := by omega
              subst hc8
              have hR := hide (fun W => implRnd16 S W (by omega) (by omega))
              have hput := hide (hN.put (Q := fun p => p < 8 * a + (b + 1)) hq2 (x := (S + 32768) / 65536) (by unfold tmulZ; rw [unhide hS]) (fun p hp hQ => by omega))
              have hA9 := hide (hsA.other (a := ⟨w.heap.size + 3, a * 8 + b, none⟩) (by simp) (.int .i64 ((S + 32768) / 65536)))
              have hB9 := hide (hsB.other (a := ⟨w.heap.size + 3, a * 8 + b, none⟩) (by simp) (.int .i64 ((S + 32768) / 65536)))
              have hZ9 := hide (hZ.other (a := ⟨w.heap.size + 3, a * 8 + b, none⟩) (by simp) (.int .i64 ((S + 32768) / 65536)))
              have hdst := hN.row.cell hq2
              have hfz := hN.row.frozen (a * 8 + b)
              generalize xs.getD (a * 8 + b) 0 = old at hdst
              generalize (S + 32768) / 65536 = y at hput hA9 hB9 hZ9 hR
              clear hN hsA hsB hZ hfr hS hTi
              go_wp2_with fail
              refine wp_region_still_tail 7 (by kernel_rfl) (by kernel_rfl) ?_
              simp only [List.take_succ_cons, List.take_zero, List.drop_succ_cons, List.drop_zero]
              iterate 4 still_step
              still_call (unhide hR _)
              iterate 2 still_step
              refine wpStill_nil ?_
              go_wp2_with fail
              go_roundw
              case rel => exact ⟨b + 1, _, by omega, by go_num, hide ((unhide hput).upd (Upd.drew1 _)), hide ⟨(unhide hA9).keep (Upd.drew1 _), (unhide hB9).keep (Upd.drew1 _), (unhide hZ9).keep (Upd.drew1 _)⟩⟩
              case measure => simp [intOf]; omega
        · have hb8 : b = 8 := by omega
          subst hb8
          have hN2 := hide ((unhide hN).weak (Q := fun p => p < 8 * (a + 1) + 0) (fun p hp hQ => by omega))
          clear hN
          go_wp2_with fail
          go_roundw
          case rel => exact ⟨a + 1, xs, by omega, by go_num, hN2, hS⟩
          case measure => simp [intOf]; omega
    · have ha8 : a = 8 := by omega
      subst ha8
      have hbel := hide (unhide hN).bel
      have hdn := hide ((unhide hN).done (fun p hp => by omega))
      have hZ := hide (unhide hS).2.2
      clear hN hS
      go_upto_region 17 with fail
      refine wp_region_lit ?_
      refine wpList_load_row rfl 33 (.tmp 7) rfl (w.heap.size + 3) rfl 33 (sqc (tab (tmulZ A B 32768 65536))) (0, 0) _ (unhide hdn).1 Tryd.underlying33 rfl (by rw [sqc_size]; exact sizeSq) ?_
      refine wpList_store_row rfl 33 (.tmp 6) (.tmp 44) rfl (w.heap.size + 2) (sqc (tab (tmulZ A B 32768 65536))) rfl rfl 33 (sqc zq) (unhide hZ).1 (by rw [sqc_size]; exact sizeSq) (by rw [sqc_size, sqc_size]; rfl) (sqc_one _) ?_
      have hres : (wr.setRow (w.heap.size + 2) (sqc (tab (tmulZ A B 32768 65536)))).heap[w.heap.size + 2]? = some (.cells (sqc (tab (tmulZ A B 32768 65536))) 33 (0, 0)) := setRow_heap wr _ _ _ _ _ (unhide hZ).1
      replace hres := hide hres
      have hb2 := hide (below_setRow (unhide hbel) (show w.heap.size ≤ w.heap.size + 2 by omega) (sqc (tab (tmulZ A B 32768 65536))))
      clear hdn hZ hbel
      go_wp2_with fail
      refine bodyPost_ret (v := .agg (sqc (tab (tmulZ A B 32768 65536)))) (results_cell_row rfl _ _ (w.heap.size + 2) 33 (sqc (tab (tmulZ A B 32768 65536))) (0, 0) _ rfl (unhide hres) Tryd.underlying33 rfl (by rw [sqc_size]; exact sizeSq)) rfl ⟨rfl, Upd.of_below (unhide hb2) 0 0⟩
end Go.Proofs.YtnalmingbglgfaaDoor
