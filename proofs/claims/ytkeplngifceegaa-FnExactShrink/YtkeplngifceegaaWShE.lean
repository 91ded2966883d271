/- The specification's Shrink: the walk of l7Shrink. -/
import Derived.Test.YtkeplngifceegaaWShD
import Derived.Test.YtkeplngifceegaaWQM
import Derived.Test.YtkeplngifceegaaWAppI
import Derived.Deep.DeepCutAuto
namespace Go.Proofs.Ytkeplngifceegaa
open Go.RowKit
attribute [local go_sem] oneAt oneUpon

/-- What the loops of the specification keep: a plane in block c that grows, the argument's box, the answer's. -/
structure AccSt (w wr : World) (c : Nat) (W H sw sh : Int) (ad : Option Addr) (n cap : Nat) (L : List Int) (ad2 : Option Addr) (cp : Nat) : Prop where
  o : HeldF wr c [.int .i64 sw, .int .i64 sh, .slice ad2 L.length cp]
  r : wr.ownsRow (c + 1) 3 1 (.slice ad2 L.length cp) L.length (ints L)
  b : HeldF wr w.heap.size [.int .i64 W, .int .i64 H, .slice ad n cap]
  z : HeldF wr (w.heap.size + 1) [.int .i64 0, .int .i64 0, .slice none 0 0]
  k : Below w.heap.size w wr
theorem mod_row {y sw x : Nat} (h : x < sw) : (y * sw + x) % sw = x ∧ (y * sw + x) / sw = y := by
  constructor
  · rw [Nat.add_comm, Nat.add_mul_mod_self_right, Nat.mod_eq_of_lt h]
  · rw [Nat.add_comm, Nat.add_mul_div_right _ _ (by omega), Nat.div_eq_of_lt h, Nat.zero_add]
set_option maxHeartbeats 8000000 in
set_option maxRecDepth 100000 in
theorem specL7Shrink (W H b : Nat) (ad : Option Addr) (cap : Nat) (zs : List Int) (w : World) (hp : PlOk W H zs) (hb : b = 2 ∨ b = 4) (hA : ArgI w ad zs) :
    Calls Try.prog 60 #[.agg #[.int .i64 (W : Int), .int .i64 (H : Int), .slice ad zs.length cap], .int .i64 (b : Int)] w fun e w' => ∃ u, e = .returned u ∧ OwnPl w' w.heap.size w'.heap.size u (((stepsF W b : Nat) : Int), ((stepsF H b : Nat) : Int), shrinkL zs W H b (stepsF W b * stepsF H b)) ∧ Upd 0 0 w w' := by
  have hB0 := (((Below.refl w.heap.size w).alloc (Nat.le_refl _) (.cells #[.int .i64 (W : Int), .int .i64 (H : Int), .slice ad zs.length cap] 31)).alloc (by simp) (.cells #[.int .i64 0, .int .i64 0, .slice none 0 0] 31))
  have hs0 : ((w.alloc (.cells #[.int .i64 (W : Int), .int .i64 (H : Int), .slice ad zs.length cap] 31)).alloc (.cells #[.int .i64 0, .int .i64 0, .slice none 0 0] 31)).heap.size = w.heap.size + 2 := by simp
  have hbx := (heldF_new w [.int .i64 (W : Int), .int .i64 (H : Int), .slice ad zs.length cap] 31).keep (Upd.of_below ((Below.refl _ _).alloc (Nat.le_refl _) (.cells #[.int .i64 0, .int .i64 0, .slice none 0 0] 31)) 0 0)
  have hrs := heldF_new (w.alloc (.cells #[.int .i64 (W : Int), .int .i64 (H : Int), .slice ad zs.length cap] 31)) [.int .i64 0, .int .i64 0, .slice none 0 0] 31
  have e1 : (w.alloc (.cells #[.int .i64 (W : Int), .int .i64 (H : Int), .slice ad zs.length cap] 31)).heap.size = w.heap.size + 1 := by simp
  rw [e1] at hrs
  clear e1
  obtain ⟨W1, W2⟩ := hp.w
  obtain ⟨H1, H2⟩ := hp.h
  obtain ⟨sw1, sw2⟩ := stepsF_bd hb W1
  obtain ⟨sh1, sh2⟩ := stepsF_bd hb H1
  have hlt1 := hide (fun i (h : i < stepsF W b) => stepsF_lt hb h)
  have hlt2 := hide (fun i (h : i < stepsF H b) => stepsF_lt hb h)
  have hL : Hid (∀ k, shrinkL zs W H b (k + 1) = shrinkL zs W H b k ++ [meanF zs W H b (k % stepsF W b * b) (k / stepsF W b * b)]) := hide (fun k => shrinkL_succ zs W H b k)
  have eW : ((W : Int) + (b : Int) - 1).tdiv (b : Int) = ((stepsF W b : Nat) : Int) := by
    rw [Int.tdiv_eq_ediv_of_nonneg (by omega)]; unfold stepsF; rcases hb with rfl | rfl <;> omega
  have eH : ((H : Int) + (b : Int) - 1).tdiv (b : Int) = ((stepsF H b : Nat) : Int) := by
    rw [Int.tdiv_eq_ediv_of_nonneg (by omega)]; unfold stepsF; rcases hb with rfl | rfl <;> omega
  generalize stepsF W b = sw at *
  generalize stepsF H b = sh at *
  have hb0 : ¬ b = 0 := by omega
  have hb4 : b ≤ 4 := by omega
  have hb1 : 1 ≤ b := by omega
  replace hb := hide hb
  replace hB0 := hide hB0
  replace hbx := hide hbx
  replace hrs := hide hrs
  replace hA := hide hA
  have r1 : IntKind.i64.wrap ((W : Int) + (b : Int)) = (W : Int) + (b : Int) := by simp [IntKind.wrap, IntKind.bits, IntKind.signed]; omega
  have r2 : IntKind.i64.wrap ((H : Int) + (b : Int)) = (H : Int) + (b : Int) := by simp [IntKind.wrap, IntKind.bits, IntKind.signed]; omega
  have r3 : IntKind.i64.wrap ((W : Int) + (b : Int) - 1) = (W : Int) + (b : Int) - 1 := by simp [IntKind.wrap, IntKind.bits, IntKind.signed]; omega
  have r4 : IntKind.i64.wrap ((H : Int) + (b : Int) - 1) = (H : Int) + (b : Int) - 1 := by simp [IntKind.wrap, IntKind.bits, IntKind.signed]; omega
  have r5 : IntKind.i64.wrap (sw : Int) = (sw : Int) := by simp [IntKind.wrap, IntKind.bits, IntKind.signed]; omega
  have r6 : IntKind.i64.wrap (sh : Int) = (sh : Int) := by simp [IntKind.wrap, IntKind.bits, IntKind.signed]; omega
  go_enter Try.func60, Try.ntmps60
  go_wp2_with fail
  generalize (w.alloc (.cells #[.int .i64 (W : Int), .int .i64 (H : Int), .slice ad zs.length cap] 31)).alloc (.cells #[.int .i64 0, .int .i64 0, .slice none 0 0] 31) = w0 at hB0 hs0 hbx hrs ⊢
  have c0 := fun X : UpdT w0 => (((unhide hbx).1.updT X).2 0 _ rfl)
  have c1 := fun X : UpdT w0 => (((unhide hbx).1.updT X).2 1 _ rfl)
  refine wp_region_float (zs := [.int .i64 0, .int .i64 0, .slice none 0 0]) (t := 31) 15 16 (by kernel_rfl) (by kernel_rfl) (by kernel_rfl) (by rfl) (by intro a w; go_simp) ?_
  simp only [List.take_succ_cons, List.take_zero, List.drop_succ_cons, List.drop_zero, List.cons_append, List.nil_append, List.drop_nil]
  iterate 15
    refine WG.step (fun K hK => ?_)
    go_simp
    refine hK _ ?_
    clear hK K
  refine WG.nil ?_
  clear c0 c1 r1 r2 r3 r4 r5 r6 eW eH
  intro w1 c hw h1 h2 hot
  have hc : w.heap.size + 2 ≤ c := by omega
  replace hbx := hide ((unhide hbx).keep hw)
  replace hrs := hide ((unhide hrs).keep hw)
  replace hB0 := hide (below_upd (unhide hB0) hw (Nat.le_refl _) (.inr (Nat.le_refl _)))
  clear hw h1 hs0
  have x0 := hot.1.2 0 _ rfl
  have x1 := hot.1.2 1 _ rfl
  have x2 := hot.1.2 2 _ rfl
  have y0 := hot.2 0
  have y1 := hot.2 1
  have y2 := hot.2 2
  replace hot := hide hot
  go_upto_region 2 with fail
  have hot2 := (((unhide hot).set 0 (.int .i64 (sw : Int)) (by simp)).set 1 (.int .i64 (sh : Int)) (by simp)).set 2 (.slice none 0 0) (by simp)
  simp only [List.set_cons_zero, List.set_cons_succ] at hot2
  have hbx2 := (((unhide hbx).other (g' := c) (by omega) 0 (.int .i64 (sw : Int))).other (g' := c) (by omega) 1 (.int .i64 (sh : Int))).other (g' := c) (by omega) 2 (.slice none 0 0)
  have hrs2 := (((unhide hrs).other (g' := c) (by omega) 0 (.int .i64 (sw : Int))).other (g' := c) (by omega) 1 (.int .i64 (sh : Int))).other (g' := c) (by omega) 2 (.slice none 0 0)
  have hB2 := (((unhide hB0).setCell (p := ⟨c, 0, none⟩) (show w.heap.size ≤ c by omega) (.int .i64 (sw : Int))).setCell (p := ⟨c, 1, none⟩) (show w.heap.size ≤ c by omega) (.int .i64 (sh : Int))).setCell (p := ⟨c, 2, none⟩) (show w.heap.size ≤ c by omega) (.slice none 0 0)
  clear x0 x1 x2 y0 y1 y2 hot hbx hrs hB0 h2
  generalize ((w1.setCell ⟨c, 0, none⟩ (.int .i64 (sw : Int))).setCell ⟨c, 1, none⟩ (.int .i64 (sh : Int))).setCell ⟨c, 2, none⟩ (.slice none 0 0) = w2 at hot2 hbx2 hrs2 hB2 ⊢
  have hSt : Hid (AccSt w w2 c W H sw sh ad zs.length cap (shrinkL zs W H b 0) none 0) := hide ⟨hot2, World.ownsRow_nil _ _ _ _, hbx2, hrs2, hB2⟩
  clear hot2 hbx2 hrs2 hB2
  have hlen : zs.length ≤ 4096 := by have := hp.m; have := hp.l; omega
  have hNN : Hid (∀ y x, y < sh → x < sw → y * sw + x < sh * sw) := hide (fun y x hy hx => by
    have h1 : (y + 1) * sw ≤ sh * sw := Nat.mul_le_mul hy (Nat.le_refl _)
    rw [Nat.add_mul, Nat.one_mul] at h1
    omega)
  have hNN4 : sh * sw ≤ 4096 := by
    have := Nat.mul_le_mul sh2 sw2
    have h2 := hp.m
    rw [Nat.mul_comm W H] at h2
    omega
  have hgo_round_y : True := trivial
  go_wp2_with fail
  go_loopw [6] (fun s wr => ∃ (y m : Nat) (ad2 : Option Addr) (cp : Nat), s = .int .i64 (y : Int) ∧ y ≤ sh ∧ Hid (m = y * sw) ∧ Hid (AccSt w wr c W H sw sh ad zs.length cap (shrinkL zs W H b m) ad2 cp)) (fun s _ => sh - (intOf s).toNat)
  case atStart => exact ⟨0, 0, none, 0, rfl, Nat.zero_le _, hide (by simp), hSt⟩
  case round =>
    clear hSt
    obtain ⟨y, m, ad2, cp, rfl, hy, hm, hSt⟩ := hrel
    have d1 := (unhide hSt).o.1.2 1 _ rfl
    by_cases hyl : y < sh
    · go_wp2_with fail
      clear d1
      go_loopw [7] (fun s wr => ∃ (x : Nat) (ad2 : Option Addr) (cp : Nat), s = .int .i64 (x : Int) ∧ x ≤ sw ∧ Hid (AccSt w wr c W H sw sh ad zs.length cap (shrinkL zs W H b (m + x)) ad2 cp)) (fun s _ => sw - (intOf s).toNat)
      case atStart => exact ⟨0, ad2, cp, rfl, Nat.zero_le _, hSt⟩
      case round =>
        clear hSt
        obtain ⟨x, ad2, cp, rfl, hx, hSt⟩ := hrel
        have d0 := (unhide hSt).o.1.2 0 _ rfl
        by_cases hxl : x < sw
        · have hx0 := unhide hlt1 _ hxl
          have hy0 := unhide hlt2 _ hyl
          obtain ⟨X0, hX0⟩ : ∃ k, x * b = k := ⟨_, rfl⟩
          obtain ⟨Y0, hY0⟩ : ∃ k, y * b = k := ⟨_, rfl⟩
          have e1 : (x : Int) * (b : Int) = (X0 : Int) := by rw [← hX0]; simp
          have e2 : (y : Int) * (b : Int) = (Y0 : Int) := by rw [← hY0]; simp
          have hnew : Hid (shrinkL zs W H b (m + (x + 1)) = shrinkL zs W H b (m + x) ++ [meanF zs W H b X0 Y0]) := hide (by
            have := unhide hL (m + x)
            rw [unhide hm, (mod_row hxl).1, (mod_row hxl).2, hX0, hY0] at this
            rw [unhide hm]; exact this)
          have hml : m + x < 4096 := by have := unhide hNN y x hyl hxl; rw [← unhide hm] at this; omega
          rw [hX0] at hx0
          rw [hY0] at hy0
          replace hX0 := hide hX0
          replace hY0 := hide hY0
          obtain ⟨nx1, nx2, nx3, nx4⟩ := manyF_bd (b := b) hx0 hb1
          obtain ⟨ny1, ny2, ny3, ny4⟩ := manyF_bd (b := b) hy0 hb1
          have hM : Hid (meanF zs W H b X0 Y0 = (boxSum zs W X0 (manyF W b X0) Y0 (manyF H b Y0) + ((manyF W b X0 * manyF H b Y0 / 2 : Nat) : Int)) / ((manyF W b X0 * manyF H b Y0 : Nat) : Int)) := hide rfl
          generalize meanF zs W H b X0 Y0 = M at hM hnew
          generalize manyF W b X0 = nx at nx1 nx2 nx3 nx4 hM
          generalize manyF H b Y0 = ny at ny1 ny2 ny3 ny4 hM
          obtain ⟨R, hR⟩ : ∃ R, R = X0 + nx := ⟨_, rfl⟩
          obtain ⟨T, hT⟩ : ∃ T, T = Y0 + ny := ⟨_, rfl⟩
          have hR2 : R = min (X0 + b) W := by omega
          have hT2 : T = min (Y0 + b) H := by omega
          have hnx4 : nx ≤ 4 := by omega
          have hny4 : ny ≤ 4 := by omega
          have hS0 := hide (fun m => boxSum_bd hp.s W X0 nx Y0 m hnx4)
          have hS1 := hide (fun j n => rowSum_bd hp.s W j X0 n)
          have hsm := hide (smp_bd hp.s)
          have hRW : R ≤ W := by omega
          have hTH : T ≤ H := by omega
          have hX0R : X0 ≤ R := by omega
          have hY0T : Y0 ≤ T := by omega
          have hRX4 : R ≤ X0 + 4 := by omega
          have hTY4 : T ≤ Y0 + 4 := by omega
          replace hR := hide hR
          replace hT := hide hT
          replace hR2 := hide hR2
          replace hT2 := hide hT2
          clear nx4 ny4
          have a0 := (unhide hSt).b.1.2 0 _ rfl
          have a1 := (unhide hSt).b.1.2 1 _ rfl
          have a2 := (unhide hSt).b.1.2 2 _ rfl
          have hAr := hide ((unhide hA).below (unhide hSt).k)
          go_wp2_with fail
          go_loop [8, 9, 10] (fun s n j => ∃ (Sv : Int) (nv jv : Nat), s = .int .i64 Sv ∧ n = .int .i64 (nv : Int) ∧ j = .int .i64 (jv : Int) ∧ Y0 ≤ jv ∧ jv ≤ T ∧ Hid (Sv = boxSum zs W X0 nx Y0 (jv - Y0)) ∧ Hid (nv = nx * (jv - Y0)) ∧ nv ≤ 16) (fun _ _ j => T - (intOf j).toNat)
          case atStart => exact ⟨0, 0, Y0, rfl, rfl, rfl, Nat.le_refl _, hY0T, hide (by rw [Nat.sub_self]; rfl), hide (by rw [Nat.sub_self]; rfl), by omega⟩
          case round =>
            obtain ⟨Sv, nv, jv, rfl, rfl, rfl, hj0, hj1, hSv, hnv, hnv2⟩ := hrel
            have hSb : 0 ≤ Sv ∧ Sv ≤ 4080 := by
              have h1 := unhide hS0 (jv - Y0)
              have h2 := unhide hSv
              generalize boxSum zs W X0 nx Y0 (jv - Y0) = q at h1 h2
              omega
            obtain ⟨s0, s1⟩ := hSb
            by_cases hjT : jv < T
            · have hstep : Hid (boxSum zs W X0 nx Y0 (jv + 1 - Y0) = boxSum zs W X0 nx Y0 (jv - Y0) + rowSum zs W jv X0 nx) := hide (by
                rw [show jv + 1 - Y0 = (jv - Y0) + 1 by omega]
                show boxSum zs W X0 nx Y0 (jv - Y0) + rowSum zs W (Y0 + (jv - Y0)) X0 nx = _
                rw [show Y0 + (jv - Y0) = jv by omega])
              have hnst : Hid (nx * (jv + 1 - Y0) = nv + nx) := hide (by rw [unhide hnv, show jv + 1 - Y0 = (jv - Y0) + 1 by omega, Nat.mul_add, Nat.mul_one])
              have hnv3 : nv + nx ≤ 16 := by rw [← unhide hnst]; exact Nat.mul_le_mul hnx4 (show jv + 1 - Y0 ≤ 4 by omega)
              have t1 : (jv : Int) < (Y0 : Int) + (b : Int) := by have := unhide hT2; omega
              have t2 : (jv : Int) < (H : Int) := by omega
              obtain ⟨m2, hm2⟩ : ∃ k, jv * W = k := ⟨_, rfl⟩
              have e3 : (jv : Int) * (W : Int) = (m2 : Int) := by rw [← hm2]; simp
              have hm2l : m2 + W ≤ zs.length := by
                have h1 : (jv + 1) * W ≤ H * W := Nat.mul_le_mul (by omega) (Nat.le_refl _)
                rw [Nat.add_mul, Nat.one_mul, hm2, Nat.mul_comm H W, ← hp.l] at h1
                exact h1
              replace hm2 := hide hm2
              go_wp2_with fail
              clear t1 t2
              go_loop [8, 9, 11] (fun s n i => ∃ (Sw : Int) (nw iv : Nat), s = .int .i64 Sw ∧ n = .int .i64 (nw : Int) ∧ i = .int .i64 (iv : Int) ∧ X0 ≤ iv ∧ iv ≤ R ∧ Hid (Sw = Sv + rowSum zs W jv X0 (iv - X0)) ∧ nw = nv + (iv - X0)) (fun _ _ i => R - (intOf i).toNat)
              case atStart => exact ⟨Sv, nv, X0, rfl, rfl, rfl, Nat.le_refl _, hX0R, hide (by rw [Nat.sub_self]; unfold rowSum; omega), by omega⟩
              case round =>
                obtain ⟨Sw, nw, iv, rfl, rfl, rfl, hi0, hi1, hSw, hnw⟩ := hrel
                have hSb : 0 ≤ Sw ∧ Sw ≤ 6000 := by
                  have h1 := unhide hS1 jv (iv - X0)
                  have h2 := unhide hSw
                  generalize rowSum zs W jv X0 (iv - X0) = q at h1 h2
                  omega
                obtain ⟨v0, v1⟩ := hSb
                have hnw2 : nw ≤ 20 := by omega
                replace hnw := hide hnw
                by_cases hiR : iv < R
                · have hst2 : Hid (rowSum zs W jv X0 (iv + 1 - X0) = rowSum zs W jv X0 (iv - X0) + zs.getD (m2 + iv) 0) := hide (by
                    rw [show iv + 1 - X0 = (iv - X0) + 1 by omega]
                    show rowSum zs W jv X0 (iv - X0) + zs.getD (jv * W + (X0 + (iv - X0))) 0 = _
                    rw [show X0 + (iv - X0) = iv by omega, unhide hm2])
                  have hil : m2 + iv < zs.length := by omega
                  have t1 : (iv : Int) < (X0 : Int) + (b : Int) := by have := unhide hR2; omega
                  have t2 : (iv : Int) < (W : Int) := by omega
                  obtain ⟨bb, off, hade, hbl, hcl⟩ := (unhide hAr) (ne_of_lt_length hil)
                  have hck := hcl (m2 + iv) hil
                  have hv := unhide hsm (m2 + iv)
                  generalize zs.getD (m2 + iv) 0 = v at hst2 hck hv
                  obtain ⟨hv0, hv1⟩ := hv
                  have k1 : (0 : Int) ≤ (m2 : Int) + (iv : Int) := by omega
                  have k2 : (m2 : Int) + (iv : Int) < (zs.length : Int) := by omega
                  have k3 : ((m2 : Int) + (iv : Int)).toNat = m2 + iv := by omega
                  clear hcl hbl
                  rw [hade] at a2
                  go_wp2
                  go_round
                  case rel => exact ⟨Sw + v, nw + 1, iv + 1, rfl, by go_num, by go_num, by omega, by omega, hide (by rw [unhide hst2, unhide hSw]; omega), by have := unhide hnw; omega⟩
                  case measure => simp [intOf]; omega
                · have hie : iv = R := by omega
                  have hen : Hid (Sw = boxSum zs W X0 nx Y0 (jv + 1 - Y0)) := hide (by
                    rw [unhide hstep, unhide hSw, unhide hSv, show iv - X0 = nx by have := unhide hR; omega])
                  have hnn : nw = nv + nx := by have := unhide hR; have := unhide hnw; omega
                  have hex : ¬ ((iv : Int) < (X0 : Int) + (b : Int)) ∨ ((iv : Int) < (X0 : Int) + (b : Int)) ∧ ¬ ((iv : Int) < (W : Int)) := by
                    have := unhide hR2; omega
                  replace hie := hide hie
                  replace hnn := hide hnn
                  clear hiR
                  rcases hex with t1 | ⟨t1, t2⟩
                  · go_wp2
                    go_round
                    case rel => exact ⟨Sw, nw, jv + 1, rfl, rfl, by go_num, by omega, by omega, hen, hide (by rw [unhide hnst, unhide hnn]), by rw [unhide hnn]; exact hnv3⟩
                    case measure => simp [intOf]; omega
                  · go_wp2
                    go_round
                    case rel => exact ⟨Sw, nw, jv + 1, rfl, rfl, by go_num, by omega, by omega, hen, hide (by rw [unhide hnst, unhide hnn]), by rw [unhide hnn]; exact hnv3⟩
                    case measure => simp [intOf]; omega
            · have hje : jv = T := by omega
              have hex : ¬ ((jv : Int) < (Y0 : Int) + (b : Int)) ∨ ((jv : Int) < (Y0 : Int) + (b : Int)) ∧ ¬ ((jv : Int) < (H : Int)) := by
                have := unhide hT2; omega
              have hny : jv - Y0 = ny := by have := unhide hT; omega
              have hN1 : 1 ≤ nv := by rw [unhide hnv, hny]; exact Nat.mul_le_mul nx1 ny1
              have hen : Hid ((Sv + ((nv / 2 : Nat) : Int)) / (nv : Int) = M) := hide (by
                rw [unhide hM, unhide hSv, unhide hnv, hny])
              obtain ⟨n2, hn2⟩ : ∃ k, nv / 2 = k := ⟨_, rfl⟩
              rw [hn2] at hen
              have f1 : (nv : Int).tdiv 2 = (n2 : Int) := by rw [Int.tdiv_eq_ediv_of_nonneg (by omega)]; omega
              have f2 : (Sv + (n2 : Int)).tdiv (nv : Int) = M := by rw [Int.tdiv_eq_ediv_of_nonneg (by omega)]; exact unhide hen
              have hM0 : 0 ≤ M := by rw [← unhide hen]; exact Int.ediv_nonneg (by omega) (by omega)
              have hM1 : M ≤ 5000 := by
                rw [← unhide hen]
                exact Int.le_trans (Int.ediv_le_self _ (by omega)) (by omega)
              have g1 : IntKind.i64.wrap (n2 : Int) = (n2 : Int) := by simp [IntKind.wrap, IntKind.bits, IntKind.signed]; omega
              have g2 : IntKind.i64.wrap (Sv + (n2 : Int)) = Sv + (n2 : Int) := by simp [IntKind.wrap, IntKind.bits, IntKind.signed]; omega
              have g3 : IntKind.i64.wrap M = M := by simp [IntKind.wrap, IntKind.bits, IntKind.signed]; omega
              have g4 : ¬ nv = 0 := by omega
              replace hn2 := hide hn2
              replace hje := hide hje
              replace hny := hide hny
              clear hjT hen
              go_upto_region 11 with fail
              go_cut [54] (fun s54 wx => s54 = .bool false ∧ wx = wr)
              case first =>
                clear f1 f2 g1 g2 g3 g4
                rcases hex with t1 | ⟨t1, t2⟩
                · go_wp2
                  go_meet
                  exact ⟨rfl, rfl⟩
                · go_wp2
                  go_meet
                  exact ⟨rfl, rfl⟩
              case rest =>
                obtain ⟨rfl, rfl⟩ := hcut
                clear hex
                obtain ⟨C, hCe⟩ : ∃ C, shrinkL zs W H b (m + x) = C := ⟨_, rfl⟩
                have hCl : C.length = m + x := by rw [← hCe, shrinkL_length]
                rw [hCe] at hSt hnew
                replace hCe := hide hCe
                have hCb : C.length ≤ 5000 := by omega
                replace hCl := hide hCl
                obtain ⟨ho, hr, hbb, hz, hk⟩ := unhide hSt
                have p4 := ho.1.2 2 _ rfl
                have hOd := hide hr
                have pBd := hide ho
                have bBd := hide hbb
                have zBd := hide hz
                have kBd := hide hk
                have hsX : c < wc.heap.size := ho.1.1
                obtain ⟨iI, hI, hI0, hI1, hI2⟩ := info_parts infoI
                have q2 := fun X : UpdT wc => (((unhide pBd).1.updT X).2 2 _ rfl)
                clear hSt ho hr hbb hz hk a0 a1 a2 hAr d0 p4
                go_wp2_with fail
                refine wp_region_make 8 9 (fun k => .slice (some ⟨k, 0, none⟩) 1 1) [.int .i64 M] 3 (by kernel_rfl) (by kernel_rfl) (by kernel_rfl) (by rfl) (WM.of ?_)
                simp only [List.take_succ_cons, List.take_zero, List.drop_succ_cons, List.drop_zero, List.drop_nil]
                iterate 8
                  refine WG.step (fun K hK => ?_)
                  go_simp
                  refine hK _ ?_
                  clear hK K
                refine WG.nil ⟨fun X => ?_, ?_⟩
                · go_simp
                refine WG.nil ?_
                clear q2 f1 f2 g1 g2 g3 g4
                intro w5 k hw h1 h2 hnk
                have pB5 := hide ((unhide pBd).keep hw)
                have bB5 := hide ((unhide bBd).keep hw)
                have zB5 := hide ((unhide zBd).keep hw)
                have kB5 := hide (below_upd (unhide kBd) hw (Nat.le_refl _) (.inr (Nat.le_refl _)))
                have hO5 := hide ((Own.of (unhide hOd)).keep hw).1
                have hs5 : c < w5.heap.size := by have := hw.size; omega
                have hrn : Hid (RdJ w5 (.slice (some ⟨k, 0, none⟩) 1 1) [M]) := hide (.inr ⟨k, 0, 1, rfl, h2, fun j hj => by
                  have hj0 : j = 0 := by simp at hj; omega
                  subst hj0
                  exact hnk.1.2 0 _ rfl⟩)
                clear hw h1 h2 hnk pBd bBd zBd kBd hOd
                refine wpList_appI rfl (.tmp 90) (.tmp 97) rfl (c + 1) (.slice ad2 C.length cp) C rfl (unhide hO5) _ [M] rfl (unhide hrn) (by simp; omega) (by omega) ?_
                (intro v6 w6 ho6 hg6 _; have hu6 := upd_of_grownI hg6 (unhide hO5); have pB6 := hide ((unhide pB5).upd hu6 (.inl (Nat.le_refl _))); have bB6 := hide ((unhide bB5).upd hu6 (.inl (by omega))); have zB6 := hide ((unhide zB5).upd hu6 (.inl (by omega))); have kB6 := hide (below_upd (unhide kB5) hu6 (Nat.le_refl _) (.inl (by omega))); obtain ⟨ad6, cp6, rfl, _⟩ := OwnI.rd (Own.of ho6); have p60 := (unhide pB6).1.2 2 _ rfl; have z60 := (unhide pB6).2 2; replace ho6 := hide ho6; clear hg6 hu6)
                go_wp2
                have hst := (unhide pB6).set 2 (.slice ad6 (C.length + 1) cp6) (by simp)
                simp only [List.set_cons_zero, List.set_cons_succ] at hst
                have hac := ownsRow_setCell_below (a := ⟨c, 2, none⟩) (unhide ho6) (show c < c + 1 by omega) (.slice ad6 (C.length + 1) cp6)
                have hbb6 := (unhide bB6).other (g' := c) (by omega) 2 (.slice ad6 (C.length + 1) cp6)
                have hzz6 := (unhide zB6).other (g' := c) (by omega) 2 (.slice ad6 (C.length + 1) cp6)
                have hkk6 := (unhide kB6).setCell (p := ⟨c, 2, none⟩) (show w.heap.size ≤ c by omega) (.slice ad6 (C.length + 1) cp6)
                have hle : (C ++ [M]).length = C.length + 1 := by simp
                have hfin : Hid (AccSt w (w6.setCell ⟨c, 2, none⟩ (.slice ad6 (C.length + 1) cp6)) c W H sw sh ad zs.length cap (shrinkL zs W H b (m + (x + 1))) ad6 cp6) := hide ⟨by rw [unhide hnew, hle]; exact hst, by rw [unhide hnew]; exact hac, hbb6, hzz6, hkk6⟩
                clear hst hac hbb6 hzz6 hkk6 pB6 bB6 zB6 kB6 ho6 p60 z60
                go_roundw
                case rel => exact ⟨x + 1, ad6, cp6, by go_num, by omega, hfin⟩
                case measure => simp [intOf]; omega
        · have hxe : x = sw := by omega
          subst hxe
          have hmn : Hid (m + x = (y + 1) * x) := hide (by rw [unhide hm, Nat.add_mul, Nat.one_mul])
          go_wp2
          clear d0
          go_roundw
          case rel => exact ⟨y + 1, m + x, ad2, cp, by go_num, by omega, hmn, hSt⟩
          case measure => simp [intOf]; omega
    · have hye : y = sh := by omega
      subst hye
      obtain ⟨ho, hr, hbb, hz, hk⟩ := unhide hSt
      have hmn : Hid (m = sw * y) := hide (by rw [unhide hm, Nat.mul_comm])
      have a0 := ho.1.2 0 _ rfl
      have a2 := ho.1.2 2 _ rfl
      have z0 := hz.1.2 0 _ rfl
      have z1 := hz.1.2 1 _ rfl
      have z2 := hz.1.2 2 _ rfl
      have f0 := hz.2 0
      have f1 := hz.2 1
      have f2 := hz.2 2
      replace hr := hide hr
      replace hk := hide hk
      clear hSt ho hbb hz
      go_wp2
      refine bodyPost_ret (v := .agg #[.int .i64 (sw : Int), .int .i64 (y : Int), .slice ad2 (shrinkL zs W H b m).length cp]) (by simp [results, Try.results60, go_sem, z0, z1, z2]) rfl ⟨_, rfl, ?_, Upd.of_below ((((unhide hk).setCell (by simp) _).setCell (by simp) _).setCell (by simp) _) 0 0⟩
      rw [← unhide hmn]
      refine ⟨_, rfl, ?_⟩
      have ho := Own.of (unhide hr)
      refine own_mono (a := c + 1) (b := wr.heap.size) ⟨?_, ho.2⟩ (by omega) (by simp)
      exact ownsRow_setCell_below (ownsRow_setCell_below (ownsRow_setCell_below ho.1 (show w.heap.size + 1 < c + 1 by omega) _) (show w.heap.size + 1 < c + 1 by omega) _) (show w.heap.size + 1 < c + 1 by omega) _
end Go.Proofs.Ytkeplngifceegaa
