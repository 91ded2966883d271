/- The program's means of samples. -/
import Derived.Test.YtkeplngifceegaaWShA
import Derived.StillTailTactics
namespace Go.Proofs.Ytkeplngifceegaa
open Go.RowKit

set_option maxHeartbeats 8000000 in
set_option maxRecDepth 100000 in
theorem implMeanFrom (W H x y b : Nat) (ad : Option Addr) (cap : Nat) (zs : List Int) (w : World) (hp : PlOk W H zs) (hx : x < W) (hy : y < H) (hb : b = 2 ∨ b = 4) (hA : ArgI w ad zs) :
    Calls Try.prog 54 #[.agg #[.int .i64 (W : Int), .int .i64 (H : Int), .slice ad zs.length cap], .int .i64 (x : Int), .int .i64 (y : Int), .int .i64 (b : Int)] w fun e w' => e = .returned (.int .i64 (meanF zs W H b x y)) ∧ Upd 0 0 w w' := by
  obtain ⟨nx1, nx2, nx3, nx4⟩ := manyF_bd (b := b) hx (by omega)
  obtain ⟨ny1, ny2, ny3, ny4⟩ := manyF_bd (b := b) hy (by omega)
  have hM : Hid (meanF zs W H b x y = (boxSum zs W x (manyF W b x) y (manyF H b y) + ((manyF W b x * manyF H b y / 2 : Nat) : Int)) / ((manyF W b x * manyF H b y : Nat) : Int)) := hide rfl
  generalize meanF zs W H b x y = M at hM ⊢
  generalize manyF W b x = nx at nx1 nx2 nx3 nx4 hM
  generalize manyF H b y = ny at ny1 ny2 ny3 ny4 hM
  obtain ⟨hW1, hW2⟩ := hp.w
  obtain ⟨hH1, hH2⟩ := hp.h
  have hb4 : b ≤ 4 := by omega
  have hb1 : 1 ≤ b := by omega
  have hbx := heldF_new w [.int .i64 (W : Int), .int .i64 (H : Int), .slice ad zs.length cap] 31
  have hB0 := (Below.refl w.heap.size w).alloc (Nat.le_refl _) (.cells #[.int .i64 (W : Int), .int .i64 (H : Int), .slice ad zs.length cap] 31)
  replace hA := hide hA
  replace hbx := hide hbx
  have hB := hide hB0
  clear hB0 hb
  obtain ⟨R, hR⟩ : ∃ R, R = x + nx := ⟨_, rfl⟩
  obtain ⟨T, hT⟩ : ∃ T, T = y + ny := ⟨_, rfl⟩
  have hmx : (if (W : Int) < (x : Int) + (b : Int) then (W : Int) else (x : Int) + (b : Int)) = (R : Int) := by split <;> omega
  have hmy : (if (H : Int) < (y : Int) + (b : Int) then (H : Int) else (y : Int) + (b : Int)) = (T : Int) := by split <;> omega
  have hnx4 : nx ≤ 4 := by omega
  have hny4 : ny ≤ 4 := by omega
  obtain ⟨N, hN⟩ : ∃ N, nx * ny = N := ⟨_, rfl⟩
  have hN1 : 1 ≤ N := by rw [← hN]; exact Nat.mul_le_mul nx1 ny1
  have hN2 : N ≤ 16 := by rw [← hN]; exact Nat.mul_le_mul hnx4 hny4
  rw [hN] at hM
  have eN : (R : Int) - (x : Int) = (nx : Int) := by omega
  have eM : (T : Int) - (y : Int) = (ny : Int) := by omega
  have eP : (nx : Int) * (ny : Int) = (N : Int) := by rw [← hN]; simp
  clear hN nx4 ny4
  have hRW : R ≤ W := by omega
  have hTH : T ≤ H := by omega
  replace hR := hide hR
  replace hT := hide hT
  have r1 : IntKind.i64.wrap ((x : Int) + (b : Int)) = (x : Int) + (b : Int) := by simp [IntKind.wrap, IntKind.bits, IntKind.signed]; omega
  have r2 : IntKind.i64.wrap ((y : Int) + (b : Int)) = (y : Int) + (b : Int) := by simp [IntKind.wrap, IntKind.bits, IntKind.signed]; omega
  go_enter Try.func54, Try.ntmps54
  go_wp2_with fail
  generalize w.alloc (.cells #[.int .i64 (W : Int), .int .i64 (H : Int), .slice ad zs.length cap] 31) = w0 at hbx hB ⊢
  have c0 := (unhide hbx).1.2 0 _ rfl
  have c1 := (unhide hbx).1.2 1 _ rfl
  have c2 := (unhide hbx).1.2 2 _ rfl
  refine wp_region_still_lit (by kernel_rfl) (by kernel_rfl) ?_
  iterate 14 still_step
  refine wpStill_nil ?_
  clear hmx hmy r1 r2
  have hS0 := hide (fun m => boxSum_bd hp.s W x nx y m hnx4)
  have hS1 := hide (fun j n => rowSum_bd hp.s W j x n)
  have e2 : (N : Int) / 2 = ((N / 2 : Nat) : Int) := by omega
  obtain ⟨N2, hN2e⟩ : ∃ N2, N / 2 = N2 := ⟨_, rfl⟩
  rw [hN2e] at hM e2
  have hN28 : N2 ≤ 8 := by omega
  replace hN2e := hide hN2e
  have hbl : Hid (Upd 0 0 w w0.drew) := hide (Upd.of_below (below_drewN (unhide hB) 1) 0 0)
  have hxd := hide ((unhide hbx).keep (Upd.drew1 w0))
  have hAt := hide (fun (x' y' : Nat) (W' : World) (h : ArgI W' ad zs) (h1 : x' < W) (h2 : y' < H) => implPlAt W H x' y' ad cap zs W' hp h1 h2 h)
  have hA1 : Hid (ArgI w0.drew ad zs) := hide ((unhide hA).below (below_drewN (unhide hB) 1))
  clear c0 c1 c2 hB hbx
  go_wp2_with fail
  have hHel : Hid (HeldF w0.drew w.heap.size [.int .i64 (W : Int), .int .i64 (H : Int), .slice ad zs.length cap] ∧ Upd 0 0 w w0.drew ∧ ArgI w0.drew ad zs) := hide ⟨unhide hxd, unhide hbl, unhide hA1⟩
  clear hxd hbl hA1
  go_loopw [12, 13] (fun s r wr => ∃ (j : Nat) (Sv : Int), s = .int .i64 Sv ∧ r = .int .i64 (j : Int) ∧ y ≤ j ∧ j ≤ T ∧ Hid (Sv = (N2 : Int) + boxSum zs W x nx y (j - y)) ∧ Hid (HeldF wr w.heap.size [.int .i64 (W : Int), .int .i64 (H : Int), .slice ad zs.length cap] ∧ Upd 0 0 w wr ∧ ArgI wr ad zs)) (fun _ r _ => T - (intOf r).toNat)
  case atStart => exact ⟨y, N2, rfl, rfl, Nat.le_refl _, by have := unhide hT; omega, hide (by rw [Nat.sub_self]; unfold boxSum; omega), hHel⟩
  case round =>
    clear hHel
    obtain ⟨j, Sv, rfl, rfl, hj0, hj1, hSv, hHel⟩ := hrel
    have hSb : 0 ≤ Sv ∧ Sv ≤ 10000 := by
      have h1 := unhide hS0 (j - y)
      have h2 := unhide hSv
      have h3 := unhide hT
      generalize boxSum zs W x nx y (j - y) = q at h1 h2
      omega
    obtain ⟨s0, s1⟩ := hSb
    by_cases hjT : j < T
    · have hstep : Hid (boxSum zs W x nx y (j + 1 - y) = boxSum zs W x nx y (j - y) + rowSum zs W j x nx) := hide (by
        rw [show j + 1 - y = (j - y) + 1 by omega]
        show boxSum zs W x nx y (j - y) + rowSum zs W (y + (j - y)) x nx = _
        rw [show y + (j - y) = j by omega])
      go_wp2_with fail
      go_loopw [12, 14] (fun s c wr => ∃ (i : Nat) (Sw : Int), s = .int .i64 Sw ∧ c = .int .i64 (i : Int) ∧ x ≤ i ∧ i ≤ R ∧ Hid (Sw = Sv + rowSum zs W j x (i - x)) ∧ Hid (HeldF wr w.heap.size [.int .i64 (W : Int), .int .i64 (H : Int), .slice ad zs.length cap] ∧ Upd 0 0 w wr ∧ ArgI wr ad zs)) (fun _ c _ => R - (intOf c).toNat)
      case atStart => exact ⟨x, Sv, rfl, rfl, Nat.le_refl _, by have := unhide hR; omega, hide (by rw [Nat.sub_self]; unfold rowSum; omega), hHel⟩
      case round =>
        clear hHel
        obtain ⟨i, Sw, rfl, rfl, hi0, hi1, hSw, hHel⟩ := hrel
        have hSb : 0 ≤ Sw ∧ Sw ≤ 12000 := by
          have h1 := unhide hS1 j (i - x)
          have h2 := unhide hSw
          have h3 := unhide hR
          generalize rowSum zs W j x (i - x) = q at h1 h2
          omega
        obtain ⟨t0, t1⟩ := hSb
        by_cases hiR : i < R
        · have hst2 : Hid (rowSum zs W j x (i + 1 - x) = rowSum zs W j x (i - x) + zs.getD (j * W + i) 0) := hide (by
            rw [show i + 1 - x = (i - x) + 1 by omega]
            show rowSum zs W j x (i - x) + zs.getD (j * W + (x + (i - x))) 0 = _
            rw [show x + (i - x) = i by omega])
          have hA2 := hide (unhide hAt i j _ (unhide hHel).2.2 (by omega) (by omega))
          have hv := smp_bd hp.s (j * W + i)
          generalize zs.getD (j * W + i) 0 = v at hst2 hA2 hv
          obtain ⟨v0, v1⟩ := hv
          have c0 := (unhide hHel).1.1.2 0 _ rfl
          have c1 := (unhide hHel).1.1.2 1 _ rfl
          have c2 := (unhide hHel).1.1.2 2 _ rfl
          go_wp2_with fail
          refine (unhide hA2).mono ?_
          rintro e wz ⟨rfl, hz⟩
          have hHel2 : Hid (HeldF wz w.heap.size [.int .i64 (W : Int), .int .i64 (H : Int), .slice ad zs.length cap] ∧ Upd 0 0 w wz ∧ ArgI wz ad zs) := hide ⟨(unhide hHel).1.keep hz, (unhide hHel).2.1.trans hz, (unhide hHel).2.2.below (hz.below (Nat.le_refl _) (.inr (Nat.zero_le _)))⟩
          clear c0 c1 c2 hA2 hz hHel
          go_wp2
          go_roundw
          case rel => exact ⟨i + 1, Sw + v, rfl, by go_num, by omega, by omega, hide (by rw [unhide hst2, unhide hSw]; omega), hHel2⟩
          case measure => simp [intOf]; omega
        · have hie : i = R := by omega
          subst hie
          have hen : Hid (Sw = (N2 : Int) + boxSum zs W x nx y (j + 1 - y)) := hide (by
            rw [unhide hstep, unhide hSw, unhide hSv, show i - x = nx by have := unhide hR; omega]; omega)
          go_wp2
          go_roundw
          case rel => exact ⟨j + 1, Sw, rfl, by go_num, by omega, by omega, hen, hHel⟩
          case measure => simp [intOf]; omega
    · have hje : j = T := by omega
      subst hje
      have hen : Hid (Sv / (N : Int) = M) := hide (by
        rw [unhide hM, unhide hSv, show j - y = ny by have := unhide hT; omega, Int.add_comm])
      have hU := hide (unhide hHel).2.1
      clear hHel hSv
      have hq : (N : Int) ≠ 0 := by omega
      go_wp2
      go_ret
      exact ⟨ret_int (unhide hen), unhide hU⟩
end Go.Proofs.Ytkeplngifceegaa
