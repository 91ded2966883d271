/- The texts behind FnExactResize, part 2: what each of them says stands at its head. -/
import Derived.Test.YtkeplngifceegaaGResize1
import Derived.Deep.RegionHeld3
import Derived.ProofKit
import Derived.ChangeMaps5
/- The program's mixed: the walk. -/
namespace Go.Proofs.Ytkeplngifceegaa
open Go.RowKit

theorem twoHeld (w : World) (x0 x1 x2 y0 y1 y2 : Int) :
    HeldF (((w.alloc (.cells #[.int .i64 x0, .int .i64 x1, .int .i64 x2] 85)).alloc (.cells #[.int .i64 y0, .int .i64 y1, .int .i64 y2] 85)).drew) w.heap.size [.int .i64 x0, .int .i64 x1, .int .i64 x2] ∧
    HeldF (((w.alloc (.cells #[.int .i64 x0, .int .i64 x1, .int .i64 x2] 85)).alloc (.cells #[.int .i64 y0, .int .i64 y1, .int .i64 y2] 85)).drew) (w.heap.size + 1) [.int .i64 y0, .int .i64 y1, .int .i64 y2] ∧
    Upd 0 0 w (((w.alloc (.cells #[.int .i64 x0, .int .i64 x1, .int .i64 x2] 85)).alloc (.cells #[.int .i64 y0, .int .i64 y1, .int .i64 y2] 85)).drew) := by
  have e : (w.alloc (.cells #[.int .i64 x0, .int .i64 x1, .int .i64 x2] 85)).heap.size = w.heap.size + 1 := by simp
  have h1 := (heldF_new w [.int .i64 x0, .int .i64 x1, .int .i64 x2] 85).keep (Upd.of_below ((Below.refl _ _).alloc (Nat.le_refl _) (.cells #[.int .i64 y0, .int .i64 y1, .int .i64 y2] 85)) 0 0)
  have h2 := heldF_new (w.alloc (.cells #[.int .i64 x0, .int .i64 x1, .int .i64 x2] 85)) [.int .i64 y0, .int .i64 y1, .int .i64 y2] 85
  rw [e] at h2
  have hu := Upd.of_below (((Below.refl w.heap.size w).alloc (Nat.le_refl _) (.cells #[.int .i64 x0, .int .i64 x1, .int .i64 x2] 85)).alloc (by simp) (.cells #[.int .i64 y0, .int .i64 y1, .int .i64 y2] 85)) 0 0
  exact ⟨h1.keep (Upd.drew1 _), h2.keep (Upd.drew1 _), hu.trans (Upd.drew1 _)⟩
set_option maxHeartbeats 8000000 in
set_option maxRecDepth 100000 in
theorem implMixed8 (W H sw sh N b1 b2 : Nat) (ad : Option Addr) (cap : Nat) (zs : List Int) (w : World) (hp : PlOk W H zs) (hA : ArgI w ad zs) (hb1 : b1 < w.heap.size) (hb2 : b2 < w.heap.size)
    (sw1 : 1 ≤ sw) (sw2 : sw ≤ 512) (sh1 : 1 ≤ sh) (sh2 : sh ≤ 512) (hN : sw * sh = N) (h1 : MxAt w b1 W sw) (h2 : MxAt w b2 H sh) :
    Calls Try.prog 56 #[.agg #[.int .i64 (W : Int), .int .i64 (H : Int), .slice ad zs.length cap], .slice (some ⟨b1, 0, none⟩) sw sw, .slice (some ⟨b2, 0, none⟩) sh sh, .int .i64 8] w fun e w' =>
      ∃ u, e = .returned u ∧ OwnPl w' w.heap.size w'.heap.size u ((sw : Int), (sh : Int), resizeL zs W H sw sh N) ∧ Upd 0 0 w w' := by
  have hB0 := ((Below.refl w.heap.size w).alloc (Nat.le_refl _) (.cells #[.int .i64 (W : Int), .int .i64 (H : Int), .slice ad zs.length cap] 31)).alloc (by simp) (.cells #[.int .i64 0, .int .i64 0, .slice none 0 0] 31)
  have hs0 : ((w.alloc (.cells #[.int .i64 (W : Int), .int .i64 (H : Int), .slice ad zs.length cap] 31)).alloc (.cells #[.int .i64 0, .int .i64 0, .slice none 0 0] 31)).heap.size = w.heap.size + 2 := by simp
  have hbx := (heldF_new w [.int .i64 (W : Int), .int .i64 (H : Int), .slice ad zs.length cap] 31).keep (Upd.of_below ((Below.refl _ _).alloc (Nat.le_refl _) (.cells #[.int .i64 0, .int .i64 0, .slice none 0 0] 31)) 0 0)
  have e1 : (w.alloc (.cells #[.int .i64 (W : Int), .int .i64 (H : Int), .slice ad zs.length cap] 31)).heap.size = w.heap.size + 1 := by simp
  have hrs := heldF_new (w.alloc (.cells #[.int .i64 (W : Int), .int .i64 (H : Int), .slice ad zs.length cap] 31)) [.int .i64 0, .int .i64 0, .slice none 0 0] 31
  rw [e1] at hrs
  clear e1
  replace hB0 := hide hB0
  replace hbx := hide hbx
  replace hrs := hide hrs
  have hN1 : 1 ≤ N := by rw [← hN]; exact Nat.mul_le_mul sw1 sh1
  have hN2 : N ≤ 262144 := by rw [← hN]; exact Nat.mul_le_mul sw2 sh2
  have hE := hide (implEmptyPlane sw sh N · hN hN1 (by omega))
  have hL : Hid (∀ k, resizeL zs W H sw sh (k + 1) = resizeL zs W H sw sh k ++ [blendF zs W H (fromF (k % sw) W sw) (fromF (k / sw) H sh)]) := hide (fun k => resizeL_succ zs W H sw sh k)
  replace hN := hide hN
  replace h1 := hide h1
  replace h2 := hide h2
  have hA0 := hide hA
  have hp2 := hide hp
  clear hA hp
  go_enter Try.func56, Try.ntmps56
  go_wp2_with fail
  generalize ((w.alloc (.cells #[.int .i64 (W : Int), .int .i64 (H : Int), .slice ad zs.length cap] 31)).alloc (.cells #[.int .i64 0, .int .i64 0, .slice none 0 0] 31)) = w1 at hrs hB0 hs0 hbx ⊢
  refine (unhide hE _).mono ?_
  rintro e w2 ⟨g, rfl, hg0, hg1, hrow, hu⟩
  replace hbx := hide ((unhide hbx).keep hu)
  replace hrs := hide ((unhide hrs).keep hu)
  replace hB0 := hide (below_upd (unhide hB0) hu (Nat.le_refl _) (.inr (Nat.le_refl _)))
  have hs2 : w.heap.size + 2 ≤ w2.heap.size := by have := hu.size; omega
  have hg2 : w.heap.size + 2 ≤ g := by omega
  clear hu hE hg0 hs0
  have hvv := hide (heldF_new w2 [.int .i64 (sw : Int), .int .i64 (sh : Int), .slice (some ⟨g, 0, none⟩) N N] 31)
  have hu2 := Upd.of_below ((Below.refl w2.heap.size w2).alloc (Nat.le_refl _) (.cells #[.int .i64 (sw : Int), .int .i64 (sh : Int), .slice (some ⟨g, 0, none⟩) N N] 31)) 0 0
  replace hbx := hide ((unhide hbx).keep hu2)
  replace hrs := hide ((unhide hrs).keep hu2)
  replace hB0 := hide (below_upd (unhide hB0) hu2 (Nat.le_refl _) (.inr (Nat.le_refl _)))
  replace hrow := hide ((Own.of hrow).keep hu2).1
  clear hu2
  go_upto_region 2 with fail
  obtain ⟨c, hc⟩ : ∃ c, w2.heap.size = c := ⟨_, rfl⟩
  generalize w2.alloc (.cells #[.int .i64 (sw : Int), .int .i64 (sh : Int), .slice (some ⟨g, 0, none⟩) N N] 31) = wv at hvv hbx hrs hB0 hrow ⊢
  rw [hc] at hg1 hs2 hvv ⊢
  clear hc w1 w2
  have k0 := (unhide hvv).1.2 2 _ rfl
  go_wp2_with fail
  clear k0
  have hM := hide (fun S T => mixStep W H S T ad cap zs (unhide hp2))
  go_loopw [21] (fun i wr => ∃ k : Nat, i = .int .i64 (k : Int) ∧ k ≤ N ∧ Hid (HeldF wr c [.int .i64 (sw : Int), .int .i64 (sh : Int), .slice (some ⟨g, 0, none⟩) N N]) ∧ Hid (wr.ownsRow g 3 1 (.slice (some ⟨g, 0, none⟩) N N) N (ints (resizeL zs W H sw sh k ++ List.replicate (N - k) 0))) ∧ Hid (HeldF wr w.heap.size [.int .i64 (W : Int), .int .i64 (H : Int), .slice ad zs.length cap]) ∧ Hid (HeldF wr (w.heap.size + 1) [.int .i64 0, .int .i64 0, .slice none 0 0]) ∧ Hid (Below w.heap.size w wr)) (fun i _ => N - (intOf i).toNat)
  case atStart => exact ⟨0, rfl, Nat.zero_le _, hvv, hrow, hbx, hrs, hB0⟩
  case round =>
    clear hvv hrow hbx hrs hB0
    obtain ⟨k, rfl, hkN, hot, hrow, hbx, hrs, hB0⟩ := hrel
    by_cases hlt : k < N
    · have hp : k % sw < sw := Nat.mod_lt _ (by omega)
      have hq : k / sw < sh := Nat.div_lt_of_lt_mul (by have := unhide hN; rw [this]; exact hlt)
      have m1 := ((unhide h1).below hb1 (unhide hB0)) _ hp
      have m2 := ((unhide h2).below hb2 (unhide hB0)) _ hq
      have hnew := hide (unhide hL k)
      have hM1 := unhide hM (fromF (k % sw) W sw) (fromF (k / sw) H sh)
      obtain ⟨p, hpe⟩ : ∃ p, k % sw = p := ⟨_, rfl⟩
      obtain ⟨q, hqe⟩ : ∃ q, k / sw = q := ⟨_, rfl⟩
      have e1 : (k : Int).tmod (sw : Int) = (p : Int) := by rw [← hpe, Int.tmod_eq_emod_of_nonneg (by omega)]; simp
      have e2 : (k : Int).tdiv (sw : Int) = (q : Int) := by rw [← hqe, Int.tdiv_eq_ediv_of_nonneg (by omega)]; simp
      have e3 : (k : Int) / (sw : Int) = (q : Int) := by rw [← hqe]; simp
      have e4 : (k : Int) % (sw : Int) = (p : Int) := by rw [← hpe]; simp
      rw [hpe] at hp m1 hnew hM1
      rw [hqe] at hq m2 hnew hM1
      clear hpe hqe
      generalize hS : fromF p W sw = S at m1 hnew hM1
      generalize hT : fromF q H sh = T at m2 hnew hM1
      clear hS hT
      obtain ⟨n1, hn1⟩ : ∃ z : Int, ((min (S / 256) (W - 1) : Nat) : Int) = z := ⟨_, rfl⟩
      obtain ⟨f1, hf1⟩ : ∃ z : Int, ((min (S / 256 + 1) (W - 1) : Nat) : Int) = z := ⟨_, rfl⟩
      obtain ⟨p1, hp1⟩ : ∃ z : Int, ((S % 256 : Nat) : Int) = z := ⟨_, rfl⟩
      obtain ⟨n2, hn2⟩ : ∃ z : Int, ((min (T / 256) (H - 1) : Nat) : Int) = z := ⟨_, rfl⟩
      obtain ⟨f2, hf2⟩ : ∃ z : Int, ((min (T / 256 + 1) (H - 1) : Nat) : Int) = z := ⟨_, rfl⟩
      obtain ⟨p2, hp3⟩ : ∃ z : Int, ((T % 256 : Nat) : Int) = z := ⟨_, rfl⟩
      rw [hn1, hf1, hp1] at m1 hM1
      rw [hn2, hf2, hp3] at m2 hM1
      clear hn1 hf1 hp1 hn2 hf2 hp3
      obtain ⟨m10, m11, m12⟩ := m1
      obtain ⟨m20, m21, m22⟩ := m2
      obtain ⟨s0, s1, s2, s3, A, B, C, D, hK1, hK2, hK3⟩ := hM1
      replace hK1 := hide hK1
      replace hK2 := hide hK2
      replace hK3 := hide hK3
      generalize blendF zs W H S T = v at hK3 hnew
      have hsz : w.heap.size ≤ wr.heap.size := (unhide hB0).size
      have l1 : b1 < wr.heap.size := by omega
      have l2 : b2 < wr.heap.size := by omega
      have cl := (unhide hot).1.1
      have d0 := (unhide hot).1.2 0 _ rfl
      have hsw0 : ¬ sw = 0 := by omega
      go_upto_region 5 with fail
      go_cut [11, 12] (fun u v wx => ∃ a b : Nat, u = .pointer (some ⟨a, 0, none⟩) ∧ v = .pointer (some ⟨b, 0, none⟩) ∧ Hid (HeldF wx a [.int .i64 n1, .int .i64 f1, .int .i64 p1]) ∧ Hid (HeldF wx b [.int .i64 n2, .int .i64 f2, .int .i64 p2]) ∧ Hid (Upd 0 0 wr wx))
      case first =>
        have hS : ∀ X : World, Below wr.heap.size wr X → X.cell? ⟨c, 0, none⟩ = some (.int .i64 (sw : Int)) ∧ X.cell? ⟨b1, p * 3, none⟩ = some (.int .i64 n1) ∧ X.cell? ⟨b1, p * 3 + 1, none⟩ = some (.int .i64 f1) ∧ X.cell? ⟨b1, p * 3 + 2, none⟩ = some (.int .i64 p1) ∧ X.cell? ⟨b2, q * 3, none⟩ = some (.int .i64 n2) ∧ X.cell? ⟨b2, q * 3 + 1, none⟩ = some (.int .i64 f2) ∧ X.cell? ⟨b2, q * 3 + 2, none⟩ = some (.int .i64 p2) := fun X hX => ⟨(hX.cell (by simpa using cl)).trans d0, (hX.cell (by simpa using l1)).trans m10, (hX.cell (by simpa using l1)).trans m11, (hX.cell (by simpa using l1)).trans m12, (hX.cell (by simpa using l2)).trans m20, (hX.cell (by simpa using l2)).trans m21, (hX.cell (by simpa using l2)).trans m22⟩
        replace hS := hide hS
        have wq : IntKind.i64.wrap (q : Int) = (q : Int) := wrapI (by omega)
        have wp : IntKind.i64.wrap (p : Int) = (p : Int) := wrapI (by omega)
        have ip0 : (0 : Int) ≤ (p : Int) := by omega
        have ip1 : (p : Int) < (sw : Int) := by omega
        have iq0 : (0 : Int) ≤ (q : Int) := by omega
        have iq1 : (q : Int) < (sh : Int) := by omega
        clear d0 cl m10 m11 m12 m20 m21 m22
        go_region_held3 (fun X => X.cell? ⟨c, 0, none⟩ = some (.int .i64 (sw : Int)) ∧ X.cell? ⟨b1, p * 3, none⟩ = some (.int .i64 n1) ∧ X.cell? ⟨b1, p * 3 + 1, none⟩ = some (.int .i64 f1) ∧ X.cell? ⟨b1, p * 3 + 2, none⟩ = some (.int .i64 p1) ∧ X.cell? ⟨b2, q * 3, none⟩ = some (.int .i64 n2) ∧ X.cell? ⟨b2, q * 3 + 1, none⟩ = some (.int .i64 f2) ∧ X.cell? ⟨b2, q * 3 + 2, none⟩ = some (.int .i64 p2)) ((refine unhide hS _ ?_; (repeat (first | exact Below.refl _ _ | refine below_drewN ?_ 1 | refine Below.setCell ?_ (by first | (simp; done) | (simp; omega)) _ | refine Below.alloc ?_ (by first | (simp; done) | (simp; omega)) _)))) (fail)
        · have ht := hide (twoHeld wr n1 f1 p1 n2 f2 p2)
          go_wp2
          go_meet
          exact ⟨wr.heap.size, wr.heap.size + 1, rfl, rfl, hide (unhide ht).1, hide (unhide ht).2.1, hide (unhide ht).2.2⟩
        · have ht := hide (twoHeld wr n2 f2 p2 n1 f1 p1)
          go_wp2
          go_meet
          exact ⟨wr.heap.size + 1, wr.heap.size, rfl, rfl, hide (unhide ht).2.1, hide (unhide ht).1, hide (unhide ht).2.2⟩
      case rest =>
        obtain ⟨a, b, rfl, rfl, hx, hy, hu⟩ := hcut
        clear d0 cl m10 m11 m12 m20 m21 m22 e1 e2 e3 e4 hsz l1 l2
        replace hot := hide ((unhide hot).keep (unhide hu))
        replace hbx := hide ((unhide hbx).keep (unhide hu))
        replace hrs := hide ((unhide hrs).keep (unhide hu))
        replace hB0 := hide (below_upd (unhide hB0) (unhide hu) (Nat.le_refl _) (.inr (Nat.le_refl _)))
        have hrow0 := ((Own.of (unhide hrow)).keep (unhide hu)).1
        replace hrow := hide hrow0
        clear hrow0 hu
        have hAr := hide ((unhide hA0).below (unhide hB0))
        have c2 := fun X : UpdT wc => (((unhide hot).1.updT X).2 2 _ rfl)
        have g0 := fun X : UpdT wc => (((unhide hbx).1.updT X).2 0 _ rfl)
        have g1 := fun X : UpdT wc => (((unhide hbx).1.updT X).2 1 _ rfl)
        have g2 := fun X : UpdT wc => (((unhide hbx).1.updT X).2 2 _ rfl)
        have x0 := fun X : UpdT wc => (((unhide hx).1.updT X).2 0 _ rfl)
        have x1 := fun X : UpdT wc => (((unhide hx).1.updT X).2 1 _ rfl)
        have x2 := fun X : UpdT wc => (((unhide hx).1.updT X).2 2 _ rfl)
        have y0 := fun X : UpdT wc => (((unhide hy).1.updT X).2 0 _ rfl)
        have y1 := fun X : UpdT wc => (((unhide hy).1.updT X).2 1 _ rfl)
        have y2 := fun X : UpdT wc => (((unhide hy).1.updT X).2 2 _ rfl)
        have kI : (0 : Int) ≤ (k : Int) := by omega
        have kL : (k : Int) < (N : Int) := by omega
        go_upto_region 6 with fail
        refine wq_region_tail 14 (by kernel_rfl) (by kernel_rfl) ?_
        simp only [List.take_succ_cons, List.take_zero, List.drop_succ_cons, List.drop_zero]
        iterate 6
          refine WQ.step (fun K hK => ?_)
          go_simp
          refine hK _ ?_
          clear hK K
        refine WQ.step (fun K hK => ?_)
        go_simp
        refine ⟨_, fun X => Calls.updT X (unhide hK1 X.to ((unhide hAr).below (X.upd.below (Nat.le_refl _) (.inr (Nat.zero_le _))))), hK _ ?_⟩
        clear hK K
        refine WQ.step (fun K hK => ?_)
        go_simp
        refine hK _ ?_
        clear hK K
        refine WQ.step (fun K hK => ?_)
        go_simp
        refine hK _ ?_
        clear hK K
        refine WQ.step (fun K hK => ?_)
        go_simp
        refine hK _ ?_
        clear hK K
        refine WQ.step (fun K hK => ?_)
        go_simp
        refine ⟨_, fun X => Calls.updT X (unhide hK2 X.to), hK _ ?_⟩
        clear hK K
        refine WQ.step (fun K hK => ?_)
        go_simp
        refine hK _ ?_
        clear hK K
        refine WQ.step (fun K hK => ?_)
        go_simp
        refine ⟨_, fun X => Calls.updT X (unhide hK3 X.to), hK _ ?_⟩
        clear hK K
        refine WQ.step (fun K hK => ?_)
        go_simp
        refine hK _ ?_
        clear hK K
        refine WQ.nil ?_
        rintro _ ⟨X, rfl⟩
        clear c2 g0 g1 g2 x0 x1 x2 y0 y1 y2 hx hy hAr hK1 hK2 hK3
        have hX := X.upd
        generalize X.to = wt at hX ⊢
        replace hot := hide ((unhide hot).keep hX)
        replace hbx := hide ((unhide hbx).keep hX)
        replace hrs := hide ((unhide hrs).keep hX)
        replace hB0 := hide (below_upd (unhide hB0) hX (Nat.le_refl _) (.inr (Nat.le_refl _)))
        have hrow2 := ((Own.of (unhide hrow)).keep hX).1
        clear hX hrow
        have hps := part_set (resizeL_length zs W H sw sh k) hlt v
        rw [← unhide hnew] at hps
        have hdst : ∃ u, wt.cell? ⟨g, k, none⟩ = some u := by
          rw [hrow2.cellAt k (by omega)]; exact ⟨_, List.getElem?_eq_getElem (by have := hrow2.1; omega)⟩
        obtain ⟨u, hdst⟩ := hdst
        have hfz := hrow2.frozenAt k
        have hst := (hrow2.stored k (.int .i64 v)).1
        rw [ints_set, hps] at hst
        have hb3 := hide ((unhide hB0).setCell (p := ⟨g, k, none⟩) (by simp; omega) (.int .i64 v))
        have hot3 := hide ((unhide hot).other (g' := g) (by omega) k (.int .i64 v))
        have hbx3 := hide ((unhide hbx).other (g' := g) (by omega) k (.int .i64 v))
        have hrs3 := hide ((unhide hrs).other (g' := g) (by omega) k (.int .i64 v))
        replace hst := hide hst
        clear hps hrow2 hot hbx hrs hB0
        go_wp2
        go_roundw
        case rel => exact ⟨k + 1, by go_num, by omega, hot3, hst, hbx3, hrs3, hb3⟩
        case measure => simp [intOf]; omega
    · have hke : k = N := by omega
      subst hke
      rw [Nat.sub_self, List.replicate_zero, List.append_nil] at hrow
      have d0 := (unhide hot).1.2 0 _ rfl
      have d1 := (unhide hot).1.2 1 _ rfl
      have d2 := (unhide hot).1.2 2 _ rfl
      have z0 := (unhide hrs).1.2 0 _ rfl
      have z1 := (unhide hrs).1.2 1 _ rfl
      have z2 := (unhide hrs).1.2 2 _ rfl
      have f0 := (unhide hrs).2 0
      have f1 := (unhide hrs).2 1
      have f2 := (unhide hrs).2 2
      have hgl := (unhide hrow).lt g rfl
      replace hgl := hide hgl
      clear hot hbx hrs
      go_wp2
      refine bodyPost_ret (v := .agg #[.int .i64 (sw : Int), .int .i64 (sh : Int), .slice (some ⟨g, 0, none⟩) k k]) (by simp [results, Try.results56, go_sem, z0, z1, z2]) rfl ⟨_, rfl, ?_, Upd.of_below ((((unhide hB0).setCell (by simp) _).setCell (by simp) _).setCell (by simp) _) 0 0⟩
      refine ⟨_, rfl, ?_⟩
      show Own 3 1 _ _ _ _ (resizeL zs W H sw sh k).length (ints (resizeL zs W H sw sh k))
      rw [resizeL_length]
      have ho := Own.of (unhide hrow)
      refine own_mono (a := g) (b := wr.heap.size) ⟨?_, ho.2⟩ (by omega) (by simp)
      exact ownsRow_setCell_below (ownsRow_setCell_below (ownsRow_setCell_below ho.1 (show w.heap.size + 1 < g by omega) _) (show w.heap.size + 1 < g by omega) _) (show w.heap.size + 1 < g by omega) _
end Go.Proofs.Ytkeplngifceegaa

/- The program's Resize. -/
namespace Go.Proofs.Ytkeplngifceegaa
open Go.RowKit

theorem implMixesG (old side : Nat) (w : World) (ho : 1 ≤ old ∧ old ≤ 512) (hs : 1 ≤ side ∧ side ≤ 512) :
    Calls Try.prog 57 #[.int .i64 (old : Int), .int .i64 (side : Int)] w fun e w' =>
      ∃ g, e = .returned (.slice (some ⟨g, 0, none⟩) side side) ∧ Hid (MxAt w' g old side ∧ g < w'.heap.size) ∧ Hid (Upd 0 0 w w') :=
  (implResizeMixes old side w ho hs).mono fun _ _ ⟨_, he, ho, hr, hu⟩ => ⟨_, he, hide ⟨mxAt_of ho hr, (ho.lt _ rfl).2⟩, hide hu⟩
set_option maxHeartbeats 8000000 in
set_option maxRecDepth 100000 in
theorem implResize (v : Value) (d : Pl) (wi he : Int) (w : World) (hn : d.2.2.length ≤ 1048576) (hR : InPl d) (hv : RdPl w v d) (_hl1 : -9223372036854775808 ≤ wi) (_hh1 : wi ≤ 9223372036854775807) (_hl2 : -9223372036854775808 ≤ he) (_hh2 : he ≤ 9223372036854775807) :
    Calls Try.prog 25 #[v, .int .i64 wi, .int .i64 he] w fun e w' => ∃ u, e = .returned u ∧ OwnPl w' w.heap.size w'.heap.size u (resizeF d wi he) ∧ Upd 0 0 w w' := by
  obtain ⟨vl, rfl, h⟩ := hv
  obtain ⟨ad, cap, rfl, hA⟩ := h
  obtain ⟨a1, b1, zs⟩ := d
  simp only [Plv, Pls] at hn hA ⊢
  have hG := hide (fun (W : World) (h : ArgI W ad zs) => implGoodPlane _ (a1, b1, zs) W hn hR ⟨_, rfl, ad, cap, rfl, h⟩)
  have hSd : Hid (∀ W : World, Calls Try.prog 55 #[.int .i64 wi, .int .i64 he] W fun e w' => e = .returned (.bool (decide (SidesOk wi he))) ∧ w' = W) := hide (fun W => implGoodSidesP wi he W)
  have hB0 := (((Below.refl w.heap.size w).alloc (Nat.le_refl _) (.cells #[.int .i64 a1, .int .i64 b1, .slice ad zs.length cap] 31)).alloc (by simp) (.cells #[.int .i64 0, .int .i64 0, .slice none 0 0] 31))
  have hs0 : ((w.alloc (.cells #[.int .i64 a1, .int .i64 b1, .slice ad zs.length cap] 31)).alloc (.cells #[.int .i64 0, .int .i64 0, .slice none 0 0] 31)).heap.size = w.heap.size + 2 := by simp
  have hbx := (heldF_new w [.int .i64 a1, .int .i64 b1, .slice ad zs.length cap] 31).keep (Upd.of_below ((Below.refl _ _).alloc (Nat.le_refl _) (.cells #[.int .i64 0, .int .i64 0, .slice none 0 0] 31)) 0 0)
  have hrs := heldF_new (w.alloc (.cells #[.int .i64 a1, .int .i64 b1, .slice ad zs.length cap] 31)) [.int .i64 0, .int .i64 0, .slice none 0 0] 31
  have e1 : (w.alloc (.cells #[.int .i64 a1, .int .i64 b1, .slice ad zs.length cap] 31)).heap.size = w.heap.size + 1 := by simp
  rw [e1] at hrs
  clear e1
  have hA0 := hide (hA.below hB0)
  have hAw := hide hA
  replace hB0 := hide hB0
  replace hbx := hide hbx
  replace hrs := hide hrs
  clear hA
  go_enter Try.func25, Try.ntmps25
  go_upto_region 1 with fail
  generalize (w.alloc (.cells #[.int .i64 a1, .int .i64 b1, .slice ad zs.length cap] 31)).alloc (.cells #[.int .i64 0, .int .i64 0, .slice none 0 0] 31) = w0 at hB0 hs0 hbx hrs hA0 ⊢
  obtain ⟨okB, hok⟩ : ∃ okB, okB = (goodPlB (a1, b1, zs) && decide (SidesOk wi he)) := ⟨_, rfl⟩
  replace hok := hide hok
  go_cut [15] (fun s15 wx => s15 = .bool (!okB) ∧ Hid (Upd 0 0 w0 wx))
  case first =>
    have c0 := (unhide hbx).1.2 0 _ rfl
    have c1 := (unhide hbx).1.2 1 _ rfl
    have c2 := (unhide hbx).1.2 2 _ rfl
    go_wp2_with fail
    refine (unhide hG w0 (unhide hA0)).mono ?_
    rintro e w1 ⟨rfl, hu⟩
    clear c0 c1 c2
    cases hgb : goodPlB (a1, b1, zs)
    · have e : okB = false := by rw [unhide hok, hgb]; rfl
      subst e
      replace hu := hide hu
      clear hok hgb
      go_wp2
      go_meet
      exact ⟨rfl, hu⟩
    · have e : okB = decide (SidesOk wi he) := by rw [unhide hok, hgb]; rfl
      replace hu := hide hu
      clear hok hgb
      go_wp2_with fail
      refine (unhide hSd _).mono ?_
      rintro e w2 ⟨rfl, rfl⟩
      rw [← e]
      clear e
      go_wp2
      go_meet
      exact ⟨rfl, hu⟩
  case rest =>
  obtain ⟨rfl, hu0⟩ := hcut
  replace hbx := hide ((unhide hbx).keep (unhide hu0))
  replace hrs := hide ((unhide hrs).keep (unhide hu0))
  replace hA0 := hide ((unhide hA0).below ((unhide hu0).below (Nat.le_refl _) (.inr (Nat.zero_le _))))
  replace hB0 := hide (below_upd (unhide hB0) (unhide hu0) (Nat.le_refl _) (.inr (Nat.le_refl _)))
  have hs1 : w.heap.size + 2 ≤ wc.heap.size := by have := (unhide hu0).size; omega
  clear hG hu0 hs0 hSd
  by_cases hg : GoodPl (a1, b1, zs) ∧ SidesOk wi he
  case neg =>
    have hF := hide (resizeF_no hg)
    have e : okB = false := by
      rw [unhide hok]
      by_cases hg1 : GoodPl (a1, b1, zs)
      · rw [goodPlB_yes hg1, decide_eq_false (fun h => hg ⟨hg1, h⟩)]; rfl
      · rw [goodPlB_no hg1]; rfl
    subst e
    have z0 := (unhide hrs).1.2 0 _ rfl
    have z1 := (unhide hrs).1.2 1 _ rfl
    have z2 := (unhide hrs).1.2 2 _ rfl
    have f0 := (unhide hrs).2 0
    have f1 := (unhide hrs).2 1
    have f2 := (unhide hrs).2 2
    clear hbx hA0 hR hok hg
    go_wp2
    refine bodyPost_ret (v := .agg #[.int .i64 0, .int .i64 0, .slice none 0 0]) (by simp [results, Try.results25, go_sem, z0, z1, z2]) rfl ⟨_, rfl, ?_, Upd.of_below ((((unhide hB0).setCell (by simp) _).setCell (by simp) _).setCell (by simp) _) 0 0⟩
    rw [unhide hF]
    exact ⟨_, rfl, World.ownsRow_nil _ _ _ _, fun k hk => by simp [Value.ownBlock] at hk⟩
  obtain ⟨hg1, hsd⟩ := hg
  have e : okB = true := by rw [unhide hok, goodPlB_yes hg1, decide_eq_true hsd]; rfl
  subst e
  clear hok
  have hF := hide (resizeF_yes hg1 hsd)
  obtain ⟨W, H, rfl, rfl, hp⟩ := hg1.nat
  obtain ⟨⟨s1, s2⟩, ⟨s3, s4⟩, s5⟩ := hsd
  obtain ⟨sw, rfl⟩ := Int.eq_ofNat_of_zero_le (show 0 ≤ wi by omega)
  obtain ⟨sh, rfl⟩ := Int.eq_ofNat_of_zero_le (show 0 ≤ he by omega)
  simp only [Int.toNat_natCast] at hF
  have sw1 : 1 ≤ sw := by omega
  have sw2 : sw ≤ 512 := by omega
  have sh1 : 1 ≤ sh := by omega
  have sh2 : sh ≤ 512 := by omega
  obtain ⟨N, hN⟩ : ∃ N, sw * sh = N := ⟨_, rfl⟩
  have hp2 := hide hp
  have hW := hp.w
  have hH := hp.h
  have hM := hide (fun (old side : Nat) (X : World) (a1 : 1 ≤ old) (a2 : old ≤ 512) (b1 : 1 ≤ side) (b2 : side ≤ 512) => implMixesG old side X ⟨a1, a2⟩ ⟨b1, b2⟩)
  obtain ⟨W1, W2⟩ := hW
  obtain ⟨H1, H2⟩ := hH
  rw [hN] at hF
  replace hN := hide hN
  clear hR hg1 hp
  go_upto_region 3 with fail
  generalize wc = w1 at hrs hA0 hB0 hs1 hbx ⊢
  have c0 := (unhide hbx).1.2 0 _ rfl
  have c1 := (unhide hbx).1.2 1 _ rfl
  have c2 := (unhide hbx).1.2 2 _ rfl
  have cl := (unhide hbx).1.1
  have hS : ∀ X : World, Below w1.heap.size w1 X → X.cell? ⟨w.heap.size, 0, none⟩ = some (.int .i64 (W : Int)) ∧ X.cell? ⟨w.heap.size, 1, none⟩ = some (.int .i64 (H : Int)) ∧ X.cell? ⟨w.heap.size, 2, none⟩ = some (.slice ad zs.length cap) := fun X hX => ⟨(hX.cell (by simp; omega)).trans c0, (hX.cell (by simp; omega)).trans c1, (hX.cell (by simp; omega)).trans c2⟩
  replace hS := hide hS
  clear c0 c1 c2 cl
  clear s1 s2 s3 s4 s5 _hl1 _hl2 _hh1 _hh2 hn
  go_region_held3 (fun X => X.cell? ⟨w.heap.size, 0, none⟩ = some (.int .i64 (W : Int)) ∧ X.cell? ⟨w.heap.size, 1, none⟩ = some (.int .i64 (H : Int)) ∧ X.cell? ⟨w.heap.size, 2, none⟩ = some (.slice ad zs.length cap)) ((first | (refine unhide hS _ ?_; (repeat (first | exact Below.refl _ _ | refine below_drewN ?_ 1 | refine below_upd ?_ (unhide hum2) (by first | (simp; done) | (simp; omega)) (.inr (Nat.le_refl _)) | refine below_upd ?_ (unhide hub) (by first | (simp; done) | (simp; omega)) (.inr (Nat.le_refl _)) | refine below_upd ?_ (unhide hua) (by first | (simp; done) | (simp; omega)) (.inr (Nat.le_refl _)))); done) | exact ⟨(((((unhide hbx).keep (unhide hum2)).other (g' := w.heap.size + 1) (by omega) 0 _).other (g' := w.heap.size + 1) (by omega) 1 _).other (g' := w.heap.size + 1) (by omega) 2 _).1.2 0 _ rfl, (((((unhide hbx).keep (unhide hum2)).other (g' := w.heap.size + 1) (by omega) 0 _).other (g' := w.heap.size + 1) (by omega) 1 _).other (g' := w.heap.size + 1) (by omega) 2 _).1.2 1 _ rfl, (((((unhide hbx).keep (unhide hum2)).other (g' := w.heap.size + 1) (by omega) 0 _).other (g' := w.heap.size + 1) (by omega) 1 _).other (g' := w.heap.size + 1) (by omega) 2 _).1.2 2 _ rfl⟩)) (first | (go_at_call 57; refine (unhide hM _ _ _ ?_ ?_ ?_ ?_).mono ?_; omega; omega; omega; omega; first | (have hz := hua; clear hz; rintro e wb ⟨gb, rfl, hob, hub⟩) | rintro e wa ⟨ga, rfl, hoa, hua⟩) | (go_at_call 56; refine (implMixed8 W H sw sh N ga gb ad cap zs wb (unhide hp2) ((unhide hA0).below ((((Upd.drew1 w1).trans (unhide hua)).trans (unhide hub)).below (Nat.le_refl _) (.inr (Nat.zero_le _)))) (Nat.lt_of_lt_of_le (unhide hoa).2 (unhide hub).size) (unhide hob).2 sw1 sw2 sh1 sh2 (unhide hN) ((unhide hoa).1.below (unhide hoa).2 ((unhide hub).below (Nat.le_refl _) (.inr (Nat.zero_le _)))) (unhide hob).1).mono ?_; rintro e wm ⟨um, rfl, hom, hum⟩; obtain ⟨am, cm, rfl⟩ := hom.form; have hum2 := hide ((((Upd.drew1 w1).trans (unhide hua)).trans (unhide hub)).trans hum); have hr2 := hide ((unhide hrs).keep (unhide hum2)); have hsb := hide (Nat.le_trans (((Upd.drew1 w1).trans (unhide hua)).trans (unhide hub)).size (Nat.le_refl wb.heap.size)); clear hum; replace hom := hide hom; have z0 := (unhide hr2).1.2 0 _ rfl; have z1 := (unhide hr2).1.2 1 _ rfl; have z2 := (unhide hr2).1.2 2 _ rfl; have y0 := (unhide hr2).2 0; have y1 := (unhide hr2).2 1; have y2 := (unhide hr2).2 2; simp only [Plv, Pls]))
  all_goals
    go_wp2
    refine bodyPost_ret (v := .agg #[.int .i64 (sw : Int), .int .i64 (sh : Int), .slice am N cm]) (by simp [results, Try.results25, go_sem, z0, z1, z2]) rfl ⟨_, rfl, ?_, Upd.of_below ((((below_upd (unhide hB0) (unhide hum2) (Nat.le_refl _) (.inr (Nat.le_refl _))).setCell (by simp) _).setCell (by simp) _).setCell (by simp) _) 0 0⟩
    rw [unhide hF]
    obtain ⟨vl, hvl, ho⟩ := unhide hom
    have hvl2 : vl = .slice am N cm := by simpa [Plv, Pls] using hvl.symm
    subst hvl2
    refine ⟨_, rfl, ?_⟩
    have hsb2 := unhide hsb
    refine own_mono (a := wb.heap.size) (b := wm.heap.size) ⟨?_, ho.2⟩ (by omega) (by simp)
    exact ownsRow_setCell_below (ownsRow_setCell_below (ownsRow_setCell_below ho.1 (show w.heap.size + 1 < wb.heap.size by omega) _) (show w.heap.size + 1 < wb.heap.size by omega) _) (show w.heap.size + 1 < wb.heap.size by omega) _
end Go.Proofs.Ytkeplngifceegaa

/- The walks of the laws' own helpers that mark a byte string of the call's own, and ask whether the marks are there. -/
namespace Go.Proofs.Ytkeplngifceegaa
open Go.RowKit

def markAt (k j : Nat) : Value := .int .u8 (((k : Int) + j) % 256)
def Marked (w : World) (g n k : Nat) : Prop := ∀ j, j < n → w.cell? ⟨g, j, none⟩ = some (markAt k j)

end Go.Proofs.Ytkeplngifceegaa

/- The law on Resize, walked: what it calls is told by the walks of the specification and of the program. -/
namespace Go.Proofs.Ytkeplngifceegaa
open Go.RowKit

set_option maxHeartbeats 1000000 in
theorem lawResize_long0 (d0 : Pl) (ad0_0 : Option Addr) (cap0_0 : Nat) (n1 : Int) (n2 : Int) (w : World) (hz0 : (d0.2.2.length ≤ 9223372036854775807))  (_hn0 : 1048576 < d0.2.2.length)  :
    Calls Try.prog 12 #[.agg #[.int .i64 d0.1, .int .i64 d0.2.1, .slice ad0_0 d0.2.2.length cap0_0], .int .i64 n1, .int .i64 n2] w fun e w' => e = .returned (.bool true) ∧ Below w.heap.size w w' := by
  have hB := hide (Below.refl w.heap.size w)
  go_enter Try.func12, Try.ntmps12
  go_wp2_with fail
  have hu := Upd.of_below ((Below.refl w.heap.size w).alloc (Nat.le_refl _) (.cells #[.int .i64 d0.1, .int .i64 d0.2.1, .slice ad0_0 d0.2.2.length cap0_0] 45)) 0 0
  replace hB := hide (below_upd (unhide hB) hu (Nat.le_refl _) (.inr (Nat.le_refl _)))
  have hs1 : Hid (w.heap.size + 1 ≤ (w.alloc (.cells #[.int .i64 d0.1, .int .i64 d0.2.1, .slice ad0_0 d0.2.2.length cap0_0] 45)).heap.size) := hide (by simp)
  have cp0 := hide (held_new w [.int .i64 d0.1, .int .i64 d0.2.1, .slice ad0_0 d0.2.2.length cap0_0] 45)
  clear hu
  generalize w.alloc (.cells #[.int .i64 d0.1, .int .i64 d0.2.1, .slice ad0_0 d0.2.2.length cap0_0] 45) = w1 at  hB hs1 cp0 ⊢
  refine (szPlane_any d0.1 d0.2.1 ad0_0 d0.2.2.length cap0_0 (1048576) w1 (by omega) (by omega) hz0).mono ?_
  rintro e w2 ⟨rfl, hu⟩
  replace cp0 := hide ((unhide cp0).keep hu)
  replace hB := hide (below_upd (unhide hB) hu (Nat.le_refl _) (.inr (Nat.le_refl _)))
  have hs2 : Hid (w1.heap.size ≤ w2.heap.size) := hide hu.size
  clear hu
  rw [if_pos (by omega)]
  go_wp2
  go_ret
  exact ⟨rfl, unhide hB⟩

set_option maxHeartbeats 4000000 in
set_option maxRecDepth 100000 in
theorem lawResize_short (d0 : Pl) (ad0_0 : Option Addr) (cap0_0 : Nat) (n1 : Int) (n2 : Int) (w : World)  (hz0 : (d0.2.2.length ≤ 9223372036854775807)) (hn : d0.2.2.length ≤ 1048576) (hA0_0 : ArgI w ad0_0 d0.2.2) (hR0 : InPl d0) (hl1 : -9223372036854775808 ≤ n1) (hh1 : n1 ≤ 9223372036854775807) (hl2 : -9223372036854775808 ≤ n2) (hh2 : n2 ≤ 9223372036854775807) :
    Calls Try.prog 12 #[.agg #[.int .i64 d0.1, .int .i64 d0.2.1, .slice ad0_0 d0.2.2.length cap0_0], .int .i64 n1, .int .i64 n2] w fun e w' => e = .returned (.bool true) ∧ Below w.heap.size w w' := by
  have hn0 : (d0.2.2.length ≤ 1048576) := by omega
  replace hA0_0 := hide hA0_0
  replace hR0 := hide hR0
  have hL := hide (resizeF_len d0 n1 n2)
  have hB := hide (Below.refl w.heap.size w)
  go_enter Try.func12, Try.ntmps12
  have hleft0 : (0 : Int) ≤ 1048576 := by omega
  go_wp2_with fail
  have hu := Upd.of_below ((Below.refl w.heap.size w).alloc (Nat.le_refl _) (.cells #[.int .i64 d0.1, .int .i64 d0.2.1, .slice ad0_0 d0.2.2.length cap0_0] 45)) 0 0
  replace hB := hide (below_upd (unhide hB) hu (Nat.le_refl _) (.inr (Nat.le_refl _)))
  have hs1 : Hid (w.heap.size + 1 ≤ (w.alloc (.cells #[.int .i64 d0.1, .int .i64 d0.2.1, .slice ad0_0 d0.2.2.length cap0_0] 45)).heap.size) := hide (by simp)
  have cp0 := hide (held_new w [.int .i64 d0.1, .int .i64 d0.2.1, .slice ad0_0 d0.2.2.length cap0_0] 45)
  clear hu
  generalize w.alloc (.cells #[.int .i64 d0.1, .int .i64 d0.2.1, .slice ad0_0 d0.2.2.length cap0_0] 45) = w1 at  hB hs1 cp0 ⊢
  refine (szPlane_any d0.1 d0.2.1 ad0_0 d0.2.2.length cap0_0 (1048576) w1 (by omega) (by omega) hz0).mono ?_
  rintro e w2 ⟨rfl, hu⟩
  replace cp0 := hide ((unhide cp0).keep hu)
  replace hB := hide (below_upd (unhide hB) hu (Nat.le_refl _) (.inr (Nat.le_refl _)))
  have hs2 : Hid (w1.heap.size ≤ w2.heap.size) := hide hu.size
  clear hu
  rw [if_neg (by omega)]
  have hleft0 : ¬ (1048576 - (d0.2.2.length : Int) < 0) := by omega
  have kcp0_0 := (unhide cp0).2 0 _ rfl
  have kcp0_1 := (unhide cp0).2 1 _ rfl
  have kcp0_2 := (unhide cp0).2 2 _ rfl
  have kcp0_l := (unhide cp0).1
  go_wp2_with fail
  clear kcp0_0 kcp0_1 kcp0_2 kcp0_l
  refine (toPlane_own _ d0 w2 hn0 ⟨_, rfl, ⟨ad0_0, cap0_0, rfl, (unhide hA0_0).below (unhide hB)⟩⟩).mono ?_
  rintro e w3 ⟨vy0_w0, rfl, ho, hu⟩
  replace cp0 := hide ((unhide cp0).keep hu)
  replace hB := hide (below_upd (unhide hB) hu (Nat.le_refl _) (.inr (Nat.le_refl _)))
  have hs3 : Hid (w2.heap.size ≤ w3.heap.size) := hide hu.size
  have y0_w0 := hide ho
  clear hu ho
  go_wp2_with fail
  refine (specResize _ d0 n1 n2 w3  (by omega) (unhide hR0) (OwnPl.rd (unhide y0_w0)) hl1 hh1 hl2 hh2).mono ?_
  rintro e w4 ⟨vr0, rfl, ho, hu⟩
  replace y0_w0 := hide ((unhide y0_w0).keep hu)
  replace cp0 := hide ((unhide cp0).keep hu)
  replace hB := hide (below_upd (unhide hB) hu (Nat.le_refl _) (.inr (Nat.le_refl _)))
  have hs4 : Hid (w3.heap.size ≤ w4.heap.size) := hide hu.size
  have r0 := hide ho
  clear hu ho
  obtain ⟨adr0_0, capr0_0, hvr0⟩ := OwnPl.form (unhide r0)
  subst hvr0
  clear y0_w0
  have kcp0_0 := (unhide cp0).2 0 _ rfl
  have kcp0_1 := (unhide cp0).2 1 _ rfl
  have kcp0_2 := (unhide cp0).2 2 _ rfl
  have kcp0_l := (unhide cp0).1
  go_wp2_with fail
  clear kcp0_0 kcp0_1 kcp0_2 kcp0_l
  have hu := Upd.of_below ((Below.refl w4.heap.size w4).alloc (Nat.le_refl _) (.cells #[.int .i64 (resizeF d0 n1 n2).1, .int .i64 (resizeF d0 n1 n2).2.1, .slice adr0_0 (resizeF d0 n1 n2).2.2.length capr0_0] 31)) 0 0
  replace r0 := hide ((unhide r0).keep hu)
  replace cp0 := hide ((unhide cp0).keep hu)
  replace hB := hide (below_upd (unhide hB) hu (Nat.le_refl _) (.inr (Nat.le_refl _)))
  have hs5 : Hid (w4.heap.size + 1 ≤ (w4.alloc (.cells #[.int .i64 (resizeF d0 n1 n2).1, .int .i64 (resizeF d0 n1 n2).2.1, .slice adr0_0 (resizeF d0 n1 n2).2.2.length capr0_0] 31)).heap.size) := hide (by simp)
  have cr0 := hide (held_new w4 [.int .i64 (resizeF d0 n1 n2).1, .int .i64 (resizeF d0 n1 n2).2.1, .slice adr0_0 (resizeF d0 n1 n2).2.2.length capr0_0] 31)
  clear hu
  generalize w4.alloc (.cells #[.int .i64 (resizeF d0 n1 n2).1, .int .i64 (resizeF d0 n1 n2).2.1, .slice adr0_0 (resizeF d0 n1 n2).2.2.length capr0_0] 31) = w5 at r0 cp0 hB hs5 cr0 ⊢
  refine (toPlane_own _ d0 w5 hn0 ⟨_, rfl, ⟨ad0_0, cap0_0, rfl, (unhide hA0_0).below (unhide hB)⟩⟩).mono ?_
  rintro e w6 ⟨vx0, rfl, ho, hu⟩
  replace r0 := hide ((unhide r0).keep hu)
  replace cp0 := hide ((unhide cp0).keep hu)
  replace cr0 := hide ((unhide cr0).keep hu)
  replace hB := hide (below_upd (unhide hB) hu (Nat.le_refl _) (.inr (Nat.le_refl _)))
  have hs6 : Hid (w5.heap.size ≤ w6.heap.size) := hide hu.size
  have x0 := hide ho
  clear hu ho
  obtain ⟨adx0_0, capx0_0, hvx0⟩ := OwnPl.form (unhide x0)
  subst hvx0
  go_wp2_with fail
  have hu := Upd.of_below ((Below.refl w6.heap.size w6).alloc (Nat.le_refl _) (.cells #[.int .i64 d0.1, .int .i64 d0.2.1, .slice adx0_0 d0.2.2.length capx0_0] 31)) 0 0
  replace r0 := hide ((unhide r0).keep hu)
  replace x0 := hide ((unhide x0).keep hu)
  replace cp0 := hide ((unhide cp0).keep hu)
  replace cr0 := hide ((unhide cr0).keep hu)
  replace hB := hide (below_upd (unhide hB) hu (Nat.le_refl _) (.inr (Nat.le_refl _)))
  have hs7 : Hid (w6.heap.size + 1 ≤ (w6.alloc (.cells #[.int .i64 d0.1, .int .i64 d0.2.1, .slice adx0_0 d0.2.2.length capx0_0] 31)).heap.size) := hide (by simp)
  have cx0 := hide (held_new w6 [.int .i64 d0.1, .int .i64 d0.2.1, .slice adx0_0 d0.2.2.length capx0_0] 31)
  clear hu
  generalize w6.alloc (.cells #[.int .i64 d0.1, .int .i64 d0.2.1, .slice adx0_0 d0.2.2.length capx0_0] 31) = w7 at r0 x0 cp0 cr0 hB hs7 cx0 ⊢
  refine (implResize _ d0 n1 n2 w7  (by omega) (unhide hR0) (OwnPl.rd (unhide x0)) hl1 hh1 hl2 hh2).mono ?_
  rintro e w8 ⟨vr1, rfl, ho, hu⟩
  replace r0 := hide ((unhide r0).keep hu)
  replace x0 := hide ((unhide x0).keep hu)
  replace cp0 := hide ((unhide cp0).keep hu)
  replace cr0 := hide ((unhide cr0).keep hu)
  replace cx0 := hide ((unhide cx0).keep hu)
  replace hB := hide (below_upd (unhide hB) hu (Nat.le_refl _) (.inr (Nat.le_refl _)))
  have hs8 : Hid (w7.heap.size ≤ w8.heap.size) := hide hu.size
  have r1 := hide ho
  clear hu ho
  obtain ⟨adr1_0, capr1_0, hvr1⟩ := OwnPl.form (unhide r1)
  subst hvr1
  have kcr0_0 := (unhide cr0).2 0 _ rfl
  have kcr0_1 := (unhide cr0).2 1 _ rfl
  have kcr0_2 := (unhide cr0).2 2 _ rfl
  have kcr0_l := (unhide cr0).1
  go_wp2_with fail
  clear kcr0_0 kcr0_1 kcr0_2 kcr0_l
  have hu := Upd.of_below ((Below.refl w8.heap.size w8).alloc (Nat.le_refl _) (.cells #[.int .i64 (resizeF d0 n1 n2).1, .int .i64 (resizeF d0 n1 n2).2.1, .slice adr1_0 (resizeF d0 n1 n2).2.2.length capr1_0] 31)) 0 0
  replace r0 := hide ((unhide r0).keep hu)
  replace x0 := hide ((unhide x0).keep hu)
  replace r1 := hide ((unhide r1).keep hu)
  replace cp0 := hide ((unhide cp0).keep hu)
  replace cr0 := hide ((unhide cr0).keep hu)
  replace cx0 := hide ((unhide cx0).keep hu)
  replace hB := hide (below_upd (unhide hB) hu (Nat.le_refl _) (.inr (Nat.le_refl _)))
  have hs9 : Hid (w8.heap.size + 1 ≤ (w8.alloc (.cells #[.int .i64 (resizeF d0 n1 n2).1, .int .i64 (resizeF d0 n1 n2).2.1, .slice adr1_0 (resizeF d0 n1 n2).2.2.length capr1_0] 31)).heap.size) := hide (by simp)
  have cr1 := hide (held_new w8 [.int .i64 (resizeF d0 n1 n2).1, .int .i64 (resizeF d0 n1 n2).2.1, .slice adr1_0 (resizeF d0 n1 n2).2.2.length capr1_0] 31)
  clear hu
  generalize w8.alloc (.cells #[.int .i64 (resizeF d0 n1 n2).1, .int .i64 (resizeF d0 n1 n2).2.1, .slice adr1_0 (resizeF d0 n1 n2).2.2.length capr1_0] 31) = w9 at r0 x0 r1 cp0 cr0 cx0 hB hs9 cr1 ⊢
  refine (eqPlane_rd _ _ (resizeF d0 n1 n2) w9 (unhide hL) (OwnPl.rd (unhide r1)) (OwnPl.rd (unhide r0))).mono ?_
  rintro e w10 ⟨rfl, hu⟩
  replace r0 := hide ((unhide r0).keep hu)
  replace x0 := hide ((unhide x0).keep hu)
  replace r1 := hide ((unhide r1).keep hu)
  replace cp0 := hide ((unhide cp0).keep hu)
  replace cr0 := hide ((unhide cr0).keep hu)
  replace cx0 := hide ((unhide cx0).keep hu)
  replace cr1 := hide ((unhide cr1).keep hu)
  replace hB := hide (below_upd (unhide hB) hu (Nat.le_refl _) (.inr (Nat.le_refl _)))
  have hs10 : Hid (w9.heap.size ≤ w10.heap.size) := hide hu.size
  clear hu
  have kcx0_0 := (unhide cx0).2 0 _ rfl
  have kcx0_1 := (unhide cx0).2 1 _ rfl
  have kcx0_2 := (unhide cx0).2 2 _ rfl
  have kcx0_l := (unhide cx0).1
  have kcp0_0 := (unhide cp0).2 0 _ rfl
  have kcp0_1 := (unhide cp0).2 1 _ rfl
  have kcp0_2 := (unhide cp0).2 2 _ rfl
  have kcp0_l := (unhide cp0).1
  have hTo := hide (toPlane_own _ d0 w10.drew hn0 ⟨_, rfl, ⟨ad0_0, cap0_0, rfl, (unhide hA0_0).below (below_drewN (unhide hB) 1)⟩⟩)
  go_wp2_with fail
  go_region_held3 (fun w' => w'.cell? ⟨w6.heap.size, 0, none⟩ = some (.int .i64 d0.1) ∧ w'.cell? ⟨w6.heap.size, 1, none⟩ = some (.int .i64 d0.2.1) ∧ w'.cell? ⟨w6.heap.size, 2, none⟩ = some (.slice adx0_0 d0.2.2.length capx0_0) ∧ w'.cell? ⟨w.heap.size, 0, none⟩ = some (.int .i64 d0.1) ∧ w'.cell? ⟨w.heap.size, 1, none⟩ = some (.int .i64 d0.2.1) ∧ w'.cell? ⟨w.heap.size, 2, none⟩ = some (.slice ad0_0 d0.2.2.length cap0_0)) (first | (exact ⟨((hut.trans huf).none.cell kcx0_l).trans kcx0_0, ((hut.trans huf).none.cell kcx0_l).trans kcx0_1, ((hut.trans huf).none.cell kcx0_l).trans kcx0_2, ((hut.trans huf).none.cell kcp0_l).trans kcp0_0, ((hut.trans huf).none.cell kcp0_l).trans kcp0_1, ((hut.trans huf).none.cell kcp0_l).trans kcp0_2⟩) | (exact ⟨(hut.none.cell kcx0_l).trans kcx0_0, (hut.none.cell kcx0_l).trans kcx0_1, (hut.none.cell kcx0_l).trans kcx0_2, (hut.none.cell kcp0_l).trans kcp0_0, (hut.none.cell kcp0_l).trans kcp0_1, (hut.none.cell kcp0_l).trans kcp0_2⟩) | go_keep) (first | (go_at_call 36; refine (unhide hTo).mono ?_; rintro e wt ⟨vt, rfl, hot, hut⟩) | (go_at_call 38; refine (eqPlane_rd _ _ d0 _ hn0 (OwnPl.rd (OwnPl.keep (unhide x0) (Upd.trans (Upd.drew1 _) hut))) (OwnPl.rd hot)).mono ?_; rintro e wf ⟨rfl, huf⟩))
  clear hTo kcx0_0 kcx0_1 kcx0_2 kcx0_l kcp0_0 kcp0_1 kcp0_2 kcp0_l
  have hu : Upd 0 0 w10 wf := (Upd.drew1 _).trans (hut.trans huf)
  clear hut hot huf
  replace r0 := hide ((unhide r0).keep hu)
  replace x0 := hide ((unhide x0).keep hu)
  replace r1 := hide ((unhide r1).keep hu)
  replace cp0 := hide ((unhide cp0).keep hu)
  replace cr0 := hide ((unhide cr0).keep hu)
  replace cx0 := hide ((unhide cx0).keep hu)
  replace cr1 := hide ((unhide cr1).keep hu)
  replace hB := hide (below_upd (unhide hB) hu (Nat.le_refl _) (.inr (Nat.le_refl _)))
  have hs11 : Hid (w10.heap.size ≤ wf.heap.size) := hide hu.size
  clear hu
  generalize wf = w11 at r0 x0 r1 cp0 cr0 cx0 cr1 hB hs11 ⊢
  have kcx0_0 := (unhide cx0).2 0 _ rfl
  have kcx0_1 := (unhide cx0).2 1 _ rfl
  have kcx0_2 := (unhide cx0).2 2 _ rfl
  have kcx0_l := (unhide cx0).1
  go_wp2_with fail
  clear kcx0_0 kcx0_1 kcx0_2 kcx0_l
  refine (markPlane_own (1) hn0 (by omega) (unhide x0)).mono ?_
  rintro e w12 ⟨rfl, ho, hu⟩
  replace r0 := hide ((unhide r0).upd hu (by have := unhide hs1; have := unhide hs2; have := unhide hs3; have := unhide hs4; have := unhide hs5; have := unhide hs6; have := unhide hs7; have := unhide hs8; have := unhide hs9; have := unhide hs10; have := unhide hs11; omega))
  replace r1 := hide ((unhide r1).upd hu (by have := unhide hs1; have := unhide hs2; have := unhide hs3; have := unhide hs4; have := unhide hs5; have := unhide hs6; have := unhide hs7; have := unhide hs8; have := unhide hs9; have := unhide hs10; have := unhide hs11; omega))
  replace cp0 := hide ((unhide cp0).upd hu (by have := unhide hs1; have := unhide hs2; have := unhide hs3; have := unhide hs4; have := unhide hs5; have := unhide hs6; have := unhide hs7; have := unhide hs8; have := unhide hs9; have := unhide hs10; have := unhide hs11; omega))
  replace cr0 := hide ((unhide cr0).upd hu (by have := unhide hs1; have := unhide hs2; have := unhide hs3; have := unhide hs4; have := unhide hs5; have := unhide hs6; have := unhide hs7; have := unhide hs8; have := unhide hs9; have := unhide hs10; have := unhide hs11; omega))
  replace cx0 := hide ((unhide cx0).upd hu (by have := unhide hs1; have := unhide hs2; have := unhide hs3; have := unhide hs4; have := unhide hs5; have := unhide hs6; have := unhide hs7; have := unhide hs8; have := unhide hs9; have := unhide hs10; have := unhide hs11; omega))
  replace cr1 := hide ((unhide cr1).upd hu (by have := unhide hs1; have := unhide hs2; have := unhide hs3; have := unhide hs4; have := unhide hs5; have := unhide hs6; have := unhide hs7; have := unhide hs8; have := unhide hs9; have := unhide hs10; have := unhide hs11; omega))
  replace hB := hide (below_upd (unhide hB) hu (Nat.le_refl _) (by have := unhide hs1; have := unhide hs2; have := unhide hs3; have := unhide hs4; have := unhide hs5; have := unhide hs6; have := unhide hs7; have := unhide hs8; have := unhide hs9; have := unhide hs10; have := unhide hs11; omega))
  replace x0 := hide ho
  have hs12 : Hid (w11.heap.size ≤ w12.heap.size) := hide hu.size
  clear hu ho
  have hk0 : ¬ (((1 + PlCount d0 : Nat) : Int) < 0) := by omega
  have kcr1_0 := (unhide cr1).2 0 _ rfl
  have kcr1_1 := (unhide cr1).2 1 _ rfl
  have kcr1_2 := (unhide cr1).2 2 _ rfl
  have kcr1_l := (unhide cr1).1
  have kcr0_0 := (unhide cr0).2 0 _ rfl
  have kcr0_1 := (unhide cr0).2 1 _ rfl
  have kcr0_2 := (unhide cr0).2 2 _ rfl
  have kcr0_l := (unhide cr0).1
  go_wp2_with fail
  clear kcr1_0 kcr1_1 kcr1_2 kcr1_l kcr0_0 kcr0_1 kcr0_2 kcr0_l
  refine (eqPlane_rd _ _ (resizeF d0 n1 n2) w12 (unhide hL) (OwnPl.rd (unhide r1)) (OwnPl.rd (unhide r0))).mono ?_
  rintro e w13 ⟨rfl, hu⟩
  replace r0 := hide ((unhide r0).keep hu)
  replace x0 := hide ((unhide x0).keep hu)
  replace r1 := hide ((unhide r1).keep hu)
  replace cp0 := hide ((unhide cp0).keep hu)
  replace cr0 := hide ((unhide cr0).keep hu)
  replace cx0 := hide ((unhide cx0).keep hu)
  replace cr1 := hide ((unhide cr1).keep hu)
  replace hB := hide (below_upd (unhide hB) hu (Nat.le_refl _) (.inr (Nat.le_refl _)))
  have hs13 : Hid (w12.heap.size ≤ w13.heap.size) := hide hu.size
  clear hu
  clear x0
  have kcr1_0 := (unhide cr1).2 0 _ rfl
  have kcr1_1 := (unhide cr1).2 1 _ rfl
  have kcr1_2 := (unhide cr1).2 2 _ rfl
  have kcr1_l := (unhide cr1).1
  go_wp2_with fail
  clear kcr1_0 kcr1_1 kcr1_2 kcr1_l
  refine (markPlane_own (1) (unhide hL) (by omega) (unhide r1)).mono ?_
  rintro e w14 ⟨rfl, ho, hu⟩
  replace r0 := hide ((unhide r0).upd hu (by have := unhide hs1; have := unhide hs2; have := unhide hs3; have := unhide hs4; have := unhide hs5; have := unhide hs6; have := unhide hs7; have := unhide hs8; have := unhide hs9; have := unhide hs10; have := unhide hs11; have := unhide hs12; have := unhide hs13; omega))
  replace cp0 := hide ((unhide cp0).upd hu (by have := unhide hs1; have := unhide hs2; have := unhide hs3; have := unhide hs4; have := unhide hs5; have := unhide hs6; have := unhide hs7; have := unhide hs8; have := unhide hs9; have := unhide hs10; have := unhide hs11; have := unhide hs12; have := unhide hs13; omega))
  replace cr0 := hide ((unhide cr0).upd hu (by have := unhide hs1; have := unhide hs2; have := unhide hs3; have := unhide hs4; have := unhide hs5; have := unhide hs6; have := unhide hs7; have := unhide hs8; have := unhide hs9; have := unhide hs10; have := unhide hs11; have := unhide hs12; have := unhide hs13; omega))
  replace cx0 := hide ((unhide cx0).upd hu (by have := unhide hs1; have := unhide hs2; have := unhide hs3; have := unhide hs4; have := unhide hs5; have := unhide hs6; have := unhide hs7; have := unhide hs8; have := unhide hs9; have := unhide hs10; have := unhide hs11; have := unhide hs12; have := unhide hs13; omega))
  replace cr1 := hide ((unhide cr1).upd hu (by have := unhide hs1; have := unhide hs2; have := unhide hs3; have := unhide hs4; have := unhide hs5; have := unhide hs6; have := unhide hs7; have := unhide hs8; have := unhide hs9; have := unhide hs10; have := unhide hs11; have := unhide hs12; have := unhide hs13; omega))
  replace hB := hide (below_upd (unhide hB) hu (Nat.le_refl _) (by have := unhide hs1; have := unhide hs2; have := unhide hs3; have := unhide hs4; have := unhide hs5; have := unhide hs6; have := unhide hs7; have := unhide hs8; have := unhide hs9; have := unhide hs10; have := unhide hs11; have := unhide hs12; have := unhide hs13; omega))
  replace r1 := hide ho
  have hs14 : Hid (w13.heap.size ≤ w14.heap.size) := hide hu.size
  clear hu ho
  have kcr1_0 := (unhide cr1).2 0 _ rfl
  have kcr1_1 := (unhide cr1).2 1 _ rfl
  have kcr1_2 := (unhide cr1).2 2 _ rfl
  have kcr1_l := (unhide cr1).1
  go_wp2_with fail
  clear kcr1_0 kcr1_1 kcr1_2 kcr1_l
  refine (heldPlane_own 1 (unhide hL) (by omega) (unhide r1)).mono ?_
  rintro e w15 ⟨rfl, hu⟩
  replace r0 := hide ((unhide r0).keep hu)
  replace r1 := hide ((unhide r1).keep hu)
  replace cp0 := hide ((unhide cp0).keep hu)
  replace cr0 := hide ((unhide cr0).keep hu)
  replace cx0 := hide ((unhide cx0).keep hu)
  replace cr1 := hide ((unhide cr1).keep hu)
  replace hB := hide (below_upd (unhide hB) hu (Nat.le_refl _) (.inr (Nat.le_refl _)))
  have hs15 : Hid (w14.heap.size ≤ w15.heap.size) := hide hu.size
  clear hu
  have hq0 : ¬ (((1 + PlCount (resizeF d0 n1 n2) : Nat) : Int) < 0) := by omega
  have kcp0_0 := (unhide cp0).2 0 _ rfl
  have kcp0_1 := (unhide cp0).2 1 _ rfl
  have kcp0_2 := (unhide cp0).2 2 _ rfl
  have kcp0_l := (unhide cp0).1
  go_wp2_with fail
  clear kcp0_0 kcp0_1 kcp0_2 kcp0_l
  refine (toPlane_own _ d0 w15 hn0 ⟨_, rfl, ⟨ad0_0, cap0_0, rfl, (unhide hA0_0).below (unhide hB)⟩⟩).mono ?_
  rintro e w16 ⟨vy0_h0, rfl, ho, hu⟩
  replace r0 := hide ((unhide r0).keep hu)
  replace r1 := hide ((unhide r1).keep hu)
  replace cp0 := hide ((unhide cp0).keep hu)
  replace cr0 := hide ((unhide cr0).keep hu)
  replace cx0 := hide ((unhide cx0).keep hu)
  replace cr1 := hide ((unhide cr1).keep hu)
  replace hB := hide (below_upd (unhide hB) hu (Nat.le_refl _) (.inr (Nat.le_refl _)))
  have hs16 : Hid (w15.heap.size ≤ w16.heap.size) := hide hu.size
  have y0_h0 := hide ho
  clear hu ho
  go_wp2_with fail
  refine (implResize _ d0 n1 n2 w16  (by omega) (unhide hR0) (OwnPl.rd (unhide y0_h0)) hl1 hh1 hl2 hh2).mono ?_
  rintro e w17 ⟨vr2, rfl, ho, hu⟩
  replace r0 := hide ((unhide r0).keep hu)
  replace r1 := hide ((unhide r1).keep hu)
  replace y0_h0 := hide ((unhide y0_h0).keep hu)
  replace cp0 := hide ((unhide cp0).keep hu)
  replace cr0 := hide ((unhide cr0).keep hu)
  replace cx0 := hide ((unhide cx0).keep hu)
  replace cr1 := hide ((unhide cr1).keep hu)
  replace hB := hide (below_upd (unhide hB) hu (Nat.le_refl _) (.inr (Nat.le_refl _)))
  have hs17 : Hid (w16.heap.size ≤ w17.heap.size) := hide hu.size
  have r2 := hide ho
  clear hu ho
  obtain ⟨adr2_0, capr2_0, hvr2⟩ := OwnPl.form (unhide r2)
  subst hvr2
  clear y0_h0
  have kcr0_0 := (unhide cr0).2 0 _ rfl
  have kcr0_1 := (unhide cr0).2 1 _ rfl
  have kcr0_2 := (unhide cr0).2 2 _ rfl
  have kcr0_l := (unhide cr0).1
  go_wp2_with fail
  clear kcr0_0 kcr0_1 kcr0_2 kcr0_l
  have hu := Upd.of_below ((Below.refl w17.heap.size w17).alloc (Nat.le_refl _) (.cells #[.int .i64 (resizeF d0 n1 n2).1, .int .i64 (resizeF d0 n1 n2).2.1, .slice adr2_0 (resizeF d0 n1 n2).2.2.length capr2_0] 31)) 0 0
  replace r0 := hide ((unhide r0).keep hu)
  replace r1 := hide ((unhide r1).keep hu)
  replace r2 := hide ((unhide r2).keep hu)
  replace cp0 := hide ((unhide cp0).keep hu)
  replace cr0 := hide ((unhide cr0).keep hu)
  replace cx0 := hide ((unhide cx0).keep hu)
  replace cr1 := hide ((unhide cr1).keep hu)
  replace hB := hide (below_upd (unhide hB) hu (Nat.le_refl _) (.inr (Nat.le_refl _)))
  have hs18 : Hid (w17.heap.size + 1 ≤ (w17.alloc (.cells #[.int .i64 (resizeF d0 n1 n2).1, .int .i64 (resizeF d0 n1 n2).2.1, .slice adr2_0 (resizeF d0 n1 n2).2.2.length capr2_0] 31)).heap.size) := hide (by simp)
  have cr2 := hide (held_new w17 [.int .i64 (resizeF d0 n1 n2).1, .int .i64 (resizeF d0 n1 n2).2.1, .slice adr2_0 (resizeF d0 n1 n2).2.2.length capr2_0] 31)
  clear hu
  generalize w17.alloc (.cells #[.int .i64 (resizeF d0 n1 n2).1, .int .i64 (resizeF d0 n1 n2).2.1, .slice adr2_0 (resizeF d0 n1 n2).2.2.length capr2_0] 31) = w18 at r0 r1 r2 cp0 cr0 cx0 cr1 hB hs18 cr2 ⊢
  refine (eqPlane_rd _ _ (resizeF d0 n1 n2) w18 (unhide hL) (OwnPl.rd (unhide r2)) (OwnPl.rd (unhide r0))).mono ?_
  rintro e w19 ⟨rfl, hu⟩
  replace r0 := hide ((unhide r0).keep hu)
  replace r1 := hide ((unhide r1).keep hu)
  replace r2 := hide ((unhide r2).keep hu)
  replace cp0 := hide ((unhide cp0).keep hu)
  replace cr0 := hide ((unhide cr0).keep hu)
  replace cx0 := hide ((unhide cx0).keep hu)
  replace cr1 := hide ((unhide cr1).keep hu)
  replace cr2 := hide ((unhide cr2).keep hu)
  replace hB := hide (below_upd (unhide hB) hu (Nat.le_refl _) (.inr (Nat.le_refl _)))
  have hs19 : Hid (w18.heap.size ≤ w19.heap.size) := hide hu.size
  clear hu
  have kcr1_0 := (unhide cr1).2 0 _ rfl
  have kcr1_1 := (unhide cr1).2 1 _ rfl
  have kcr1_2 := (unhide cr1).2 2 _ rfl
  have kcr1_l := (unhide cr1).1
  go_wp2_with fail
  clear kcr1_0 kcr1_1 kcr1_2 kcr1_l
  refine (heldPlane_own 1 (unhide hL) (by omega) (unhide r1)).mono ?_
  rintro e w20 ⟨rfl, hu⟩
  replace r0 := hide ((unhide r0).keep hu)
  replace r1 := hide ((unhide r1).keep hu)
  replace r2 := hide ((unhide r2).keep hu)
  replace cp0 := hide ((unhide cp0).keep hu)
  replace cr0 := hide ((unhide cr0).keep hu)
  replace cx0 := hide ((unhide cx0).keep hu)
  replace cr1 := hide ((unhide cr1).keep hu)
  replace cr2 := hide ((unhide cr2).keep hu)
  replace hB := hide (below_upd (unhide hB) hu (Nat.le_refl _) (.inr (Nat.le_refl _)))
  have hs20 : Hid (w19.heap.size ≤ w20.heap.size) := hide hu.size
  clear hu
  go_wp2_with fail
  go_ret
  exact ⟨rfl, unhide hB⟩

theorem lawResize (d0 : Pl) (ad0_0 : Option Addr) (cap0_0 : Nat) (n1 : Int) (n2 : Int) (w : World)  (hz0 : (d0.2.2.length ≤ 9223372036854775807)) (hA0_0 : ArgI w ad0_0 d0.2.2) (hR0 : InPl d0) (hl1 : -9223372036854775808 ≤ n1) (hh1 : n1 ≤ 9223372036854775807) (hl2 : -9223372036854775808 ≤ n2) (hh2 : n2 ≤ 9223372036854775807) :
    Calls Try.prog 12 #[.agg #[.int .i64 d0.1, .int .i64 d0.2.1, .slice ad0_0 d0.2.2.length cap0_0], .int .i64 n1, .int .i64 n2] w fun e w' => e = .returned (.bool true) ∧ Below w.heap.size w w' := by
  by_cases h0 : 1048576 < d0.2.2.length
  · exact lawResize_long0 d0 ad0_0 cap0_0 n1 n2 w hz0 h0 
  exact lawResize_short d0 ad0_0 cap0_0 n1 n2 w  hz0 (by omega) hA0_0 hR0 hl1 hh1 hl2 hh2
end Go.Proofs.Ytkeplngifceegaa

/- Opening an argument that is a byte string or a list of ints: what the form's reading of it says of cells. -/
namespace Go.Proofs.Ytkeplngifceegaa
open Go.ChangeShapes Go.WideShapes Go.ChangeAt Go.RowKit

theorem Try.own : ownKnob Try.prog.godebug = none := by kernel_rfl
theorem Try.laidOut : laidOutB Try.prog = true := by kernel_rfl
theorem cellsY : Try.prog.cellsOf 5 = 1 := by kernel_rfl
theorem cellsI : Try.prog.cellsOf 3 = 1 := by kernel_rfl
theorem i64_of_wf {x : Int} (h : (Lit.int .i64 x).wf = true) : -9223372036854775808 ≤ x ∧ x ≤ 9223372036854775807 := by
  simp [Lit.wf, IntKind.min, IntKind.max, IntKind.signed, IntKind.bits] at h
  exact ⟨by omega, by omega⟩
theorem u64_of_wf {x : Int} (h : (Lit.int .u64 x).wf = true) : 0 ≤ x ∧ x ≤ 18446744073709551615 := by
  simp [Lit.wf, IntKind.min, IntKind.max, IntKind.signed, IntKind.bits] at h
  exact ⟨by omega, by omega⟩
theorem u8_of_wf {x : Int} (h : (Lit.int .u8 x).wf = true) : 0 ≤ x ∧ x < 256 := by
  simp [Lit.wf, IntKind.min, IntKind.max, IntKind.signed, IntKind.bits] at h
  exact ⟨by omega, by omega⟩

set_option maxRecDepth 100000 in
theorem open_byts {H : Type} {enc : TypeId × Value → H} {W : World} {base : Nat} {v : Value} {d : DataW H} {p : List MemPlace}
    (hv : Value.okWide Try.prog W .any base 22 v) (h0 : DataW.Trod enc Try.prog W 0 (fun _ => true) true 22 v d p) (hlt : ∀ x ∈ p, x.block < W.heap.size) :
    ∃ ad cap zs, v = .slice ad zs.length cap ∧ ArgY W ad zs ∧ InB zs := by
  obtain ⟨a0, len, cap, rfl⟩ := okWide_slice Try.underlying22 hv
  obtain ⟨fuel, hf⟩ := h0
  rcases open_ints Try.underlying22 Try.underlying5 cellsY hf with ⟨hcs, hx⟩ | ⟨a, len', cap', zs, hcs, _, hl, hm, hz, hx, hcell, hwz⟩
  · simp [Value.cells] at hcs
    obtain ⟨rfl, rfl, rfl⟩ := hcs
    exact ⟨none, 0, [], rfl, fun h => absurd rfl h, fun j => by simp⟩
  · simp [Value.cells] at hcs
    obtain ⟨rfl, rfl, rfl⟩ := hcs
    simp only [Prod.mk.injEq] at hx
    obtain ⟨rfl, rfl⟩ := hx
    simp only [if_true] at hz
    have hlen : (zs.take len).length = len := by rw [List.length_take]; omega
    have hget : ∀ j, j < len → (zs.take len).getD j 0 = zs.getD j 0 := fun j hj => by
      rw [List.getD_eq_getElem?_getD, List.getD_eq_getElem?_getD, List.getElem?_take, if_pos hj]
    refine ⟨some a, cap, zs.take len, by rw [hlen], ?_, ?_⟩
    · intro hne
      have hpos : 0 < len := by
        rcases Nat.eq_zero_or_pos len with h | h
        · subst h; simp at hne
        · exact h
      obtain ⟨b, off, spot⟩ := a
      have hspot : spot = none := by simpa [Addr.add] using World.cell?_spot (hcell 0 (by omega))
      subst hspot
      refine ⟨b, off, rfl, hlt (.cell b off) (MemPlace.mem_row.2 ⟨0, by omega, by simp⟩), fun j hj => ?_⟩
      rw [hget j (by omega), ← add_plain]
      exact hcell j (by omega)
    · intro j
      by_cases hj : j < len
      · rw [hget j hj, List.getD_eq_getElem?_getD, List.getElem?_eq_getElem (by omega)]
        exact u8_of_wf (hwz _ (List.getElem_mem _))
      · rw [List.getD_eq_getElem?_getD, List.getElem?_eq_none (by omega)]; simp

set_option maxRecDepth 100000 in
theorem open_intl {H : Type} {enc : TypeId × Value → H} {W : World} {base : Nat} {v : Value} {d : DataW H} {p : List MemPlace}
    (hv : Value.okWide Try.prog W .any base 27 v) (h0 : DataW.Trod enc Try.prog W 0 (fun _ => true) true 27 v d p) (hlt : ∀ x ∈ p, x.block < W.heap.size) :
    ∃ ad cap zs, v = .slice ad zs.length cap ∧ ArgI W ad zs ∧ InI zs := by
  obtain ⟨a0, len, cap, rfl⟩ := okWide_slice Try.underlying27 hv
  obtain ⟨fuel, hf⟩ := h0
  rcases open_ints Try.underlying27 Try.underlying3 cellsI hf with ⟨hcs, hx⟩ | ⟨a, len', cap', zs, hcs, _, hl, hm, hz, hx, hcell, hwz⟩
  · simp [Value.cells] at hcs
    obtain ⟨rfl, rfl, rfl⟩ := hcs
    exact ⟨none, 0, [], rfl, fun h => absurd rfl h, fun j => by simp⟩
  · simp [Value.cells] at hcs
    obtain ⟨rfl, rfl, rfl⟩ := hcs
    simp only [Prod.mk.injEq] at hx
    obtain ⟨rfl, rfl⟩ := hx
    simp only [if_true] at hz
    have hlen : (zs.take len).length = len := by rw [List.length_take]; omega
    have hget : ∀ j, j < len → (zs.take len).getD j 0 = zs.getD j 0 := fun j hj => by
      rw [List.getD_eq_getElem?_getD, List.getD_eq_getElem?_getD, List.getElem?_take, if_pos hj]
    refine ⟨some a, cap, zs.take len, by rw [hlen], ?_, ?_⟩
    · intro hne
      have hpos : 0 < len := by
        rcases Nat.eq_zero_or_pos len with h | h
        · subst h; simp at hne
        · exact h
      obtain ⟨b, off, spot⟩ := a
      have hspot : spot = none := by simpa [Addr.add] using World.cell?_spot (hcell 0 (by omega))
      subst hspot
      refine ⟨b, off, rfl, hlt (.cell b off) (MemPlace.mem_row.2 ⟨0, by omega, by simp⟩), fun j hj => ?_⟩
      rw [hget j (by omega), ← add_plain]
      exact hcell j (by omega)
    · intro j
      by_cases hj : j < len
      · rw [hget j hj, List.getD_eq_getElem?_getD, List.getElem?_eq_getElem (by omega)]
        exact i64_of_wf (hwz _ (List.getElem_mem _))
      · rw [List.getD_eq_getElem?_getD, List.getElem?_eq_none (by omega)]; simp
end Go.Proofs.Ytkeplngifceegaa

/- Opening a list of numbers of any kind that stands in a struct's field: what the form's reading of it says of cells. -/
namespace Go.Proofs.Ytkeplngifceegaa
open Go.ChangeShapes Go.WideShapes Go.ChangeAt Go.RowKit

theorem open_row_at {H : Type} {enc : TypeId × Value → H} {W : World} {t e : TypeId} {k : IntKind} {fuel : Nat} {v : Value} {x : DataW H × List MemPlace}
    (ht : Try.prog.underlying t = some (.slice e)) (he : Try.prog.underlying e = some (.int k)) (hc : Try.prog.cellsOf e = 1)
    (hf : DataW.trod enc Try.prog W 0 (fun _ => true) true fuel t [v] = some x) (hlt : ∀ y ∈ x.2, y.block < W.heap.size) :
    ∃ ad cap zs, v = .slice ad zs.length cap ∧ ReadK k W ad zs ∧ zs.length ≤ 9223372036854775807 ∧ ∀ j, j < zs.length → (Lit.int k (zs.getD j 0)).wf = true := by
  rcases open_ints ht he hc hf with ⟨hcs, hx⟩ | ⟨a, len, cap, zs, hcs, _, hl, hm, hz, hx, hcell, hwz⟩
  · simp only [List.cons.injEq, and_true] at hcs
    subst hcs
    exact ⟨none, 0, [], rfl, fun h => absurd rfl h, by simp, fun j hj => by simp at hj⟩
  · simp only [List.cons.injEq, and_true] at hcs
    subst hcs hx
    simp only [if_true] at hz
    have hlen : (zs.take len).length = len := by rw [List.length_take]; omega
    have hget : ∀ j, j < len → (zs.take len).getD j 0 = zs.getD j 0 := fun j hj => by
      rw [List.getD_eq_getElem?_getD, List.getD_eq_getElem?_getD, List.getElem?_take, if_pos hj]
    refine ⟨some a, cap, zs.take len, by rw [hlen], ?_, by rw [hlen]; unfold maxLen at hm; omega, ?_⟩
    · intro hne
      have hpos : 0 < len := by
        rcases Nat.eq_zero_or_pos len with h | h
        · subst h; simp at hne
        · exact h
      obtain ⟨b, off, spot⟩ := a
      have hspot : spot = none := by simpa [Addr.add] using World.cell?_spot (hcell 0 (by omega))
      subst hspot
      refine ⟨b, off, rfl, hlt (.cell b off) (MemPlace.mem_row.2 ⟨0, by omega, by simp⟩), fun j hj => ?_⟩
      rw [hget j (by omega), ← add_plain]
      exact hcell j (by omega)
    · intro j hj
      rw [hlen] at hj
      rw [hget j hj, List.getD_eq_getElem?_getD, List.getElem?_eq_getElem (by omega)]
      exact hwz _ (List.getElem_mem _)
theorem inI_of_wf {zs : List Int} (h : ∀ j, j < zs.length → (Lit.int .i64 (zs.getD j 0)).wf = true) : InI zs := by
  intro j
  by_cases hj : j < zs.length
  · exact i64_of_wf (h j hj)
  · rw [List.getD_eq_getElem?_getD, List.getElem?_eq_none (by omega)]; simp
theorem inB_of_wf {zs : List Int} (h : ∀ j, j < zs.length → (Lit.int .u8 (zs.getD j 0)).wf = true) : InB zs := by
  intro j
  by_cases hj : j < zs.length
  · exact u8_of_wf (h j hj)
  · rw [List.getD_eq_getElem?_getD, List.getElem?_eq_none (by omega)]; simp
end Go.Proofs.Ytkeplngifceegaa

/- Opening an argument that is an image: what the form's reading of it says. -/
namespace Go.Proofs.Ytkeplngifceegaa
open Go.ChangeShapes Go.WideShapes Go.ChangeAt Go.RowKit

theorem cellsLI : Try.prog.cellsOf 27 = 1 := by kernel_rfl

end Go.Proofs.Ytkeplngifceegaa

/- Opening an argument that is a Plane: what the form's reading of it says. -/
namespace Go.Proofs.Ytkeplngifceegaa
open Go.ChangeShapes Go.WideShapes Go.ChangeAt Go.RowKit

theorem cellsPla : Try.prog.cellsOf 45 = 3 := by kernel_rfl
theorem cellsPlt0 : Try.prog.cellsOf 27 = 1 := by kernel_rfl
theorem cellsPlt1 : Try.prog.cellsOf 3 = 1 := by kernel_rfl

set_option maxRecDepth 100000 in
theorem open_Pl {H : Type} {enc : TypeId × Value → H} {W : World} {base : Nat} {v : Value} {d : DataW H} {p : List MemPlace}
    (hv : Value.okWide Try.prog W .any base 45 v) (h0 : DataW.Trod enc Try.prog W 0 (fun _ => true) true 45 v d p) (hlt : ∀ x ∈ p, x.block < W.heap.size) :
    ∃ (x : Pl) (ad : Option Addr) (cap : Nat), v = .agg #[.int .i64 x.1, .int .i64 x.2.1, (.slice ad x.2.2.length cap)] ∧ ArgI W ad x.2.2 ∧ InPl x ∧ x.2.2.length ≤ 9223372036854775807 := by
  obtain ⟨cs, rfl, hsz⟩ := okWide_struct Try.underlying45 hv
  rw [cellsPla] at hsz
  obtain ⟨fuel, hf⟩ := h0
  obtain ⟨xs, k, _, hxy, hcl, hxl, hfl⟩ := DataW.trod_struct Try.underlying45 hf
  obtain ⟨cl⟩ := cs
  simp only [List.size_toArray] at hsz
  match xs, hxl, cl, hsz with
  | [y0, y1, y2], _, [v0, v1, v2], _ =>
    have g0 := hfl 0 _ rfl
    have g1 := hfl 1 _ rfl
    have g2 := hfl 2 _ rfl
    simp [cellsPlt0, cellsPlt1, Value.cells] at g0 g1 g2
    obtain ⟨n0, q0, _, w0⟩ := DataW.trod_int Try.underlying3 g0
    obtain ⟨n1, q1, _, w1⟩ := DataW.trod_int Try.underlying3 g1
    simp only [List.cons.injEq, and_true] at q0 q1
    subst q0 q1
    have hp : p = y0.2 ++ (y1.2 ++ (y2.2)) := by simpa using congrArg Prod.snd hxy
    obtain ⟨ad, cap, zs, e, hA, hl, hw⟩ := open_row_at Try.underlying27 Try.underlying3 cellsI g2 (fun y hy => hlt y (by rw [hp]; simp [hy]))
    subst e
    exact ⟨(n0, n1, zs), ad, cap, rfl, hA, ⟨i64_of_wf w0, i64_of_wf w1, inI_of_wf hw⟩, hl⟩
end Go.Proofs.Ytkeplngifceegaa
