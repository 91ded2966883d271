/- The texts behind FnOdds, part 2: what each of them says stands at its head. -/
import Derived.Test.YtpofmcepjmbmcaaGOdds1
import Derived.Great.BuildSlice
import Derived.Deep.DeepCutAuto
import Derived.Deep.RegionHeld3
/- Odds: the program's writer: a choice put. -/
namespace Go.Proofs.Ytpofmcepjmbmcaa
open Go.RowKit

/-- Is a round of widening to come? -/
def rngLeftW (wr : World) (g : Nat) : Nat := match wr.cell? ⟨g, 512, none⟩ with | some (.int _ n) => if n < 16777216 then 1 else 0 | _ => 0
theorem rngLeftW_of {wr : World} {g : Nat} {s : Int → Int} {rng : Int} {tl : List Value} (h : OdAt wr g s (.int .u32 rng :: tl)) : rngLeftW wr g = if rng < 16777216 then 1 else 0 := by
  have c : wr.cell? ⟨g, 512, none⟩ = some (.int .u32 rng) := h.back 0 _ rfl
  unfold rngLeftW; rw [c]
/-- The writer stands at a range. -/
def WrR (W : World) (g base : Nat) (s : Int → Int) (v : Value) (r : Rg) : Prop := WrAt W g base s r.rng (lowF r) v (toldF r)
theorem toldF_len (r : Rg) : (toldF r).length = r.out.length := carryIf_len _ _
theorem WrR.keep {W W' : World} {g base : Nat} {s : Int → Int} {v : Value} {r : Rg} (h : WrR W g base s v r) (u : Upd 0 0 W W') : WrR W' g base s v r := ⟨h.1.keep u, h.2.upd u⟩
theorem lowF_bd (r : Rg) : 0 ≤ lowF r ∧ lowF r ≤ 4294967295 := by unfold lowF; omega
theorem implShiftR (g base : Nat) (s : Int → Int) (v : Value) (r : Rg) (W : World) (hg : g < base) (hbb : base ≤ W.heap.size) (h : WrR W g base s v r) (hn : r.out.length ≤ 30000) :
    Calls Try.prog 84 #[.pointer (some ⟨g, 0, none⟩)] W fun e w' => e = .returned (.tuple #[]) ∧ ∃ v', WrR w' g base s v' (shiftF r) ∧ KpO g v W w' ∧ FreshV W v v' := by
  have hb := lowF_bd r
  refine (implWShift g base s r.rng (lowF r) v (toldF r) W hg hbb h hb.1 hb.2 (by rw [toldF_len]; exact hn)).mono ?_
  rintro e w' ⟨rfl, v', hw, hk, hf⟩
  have ht := shiftF_told r
  refine ⟨rfl, v', ?_, hk, hf⟩
  unfold WrR
  rw [ht.1, ht.2]
  exact hw
set_option maxHeartbeats 32000000 in
set_option maxRecDepth 100000 in
/-- What follows the choice's own part: the range is narrowed, then widened. -/
theorem implPut (g base p : Nat) (b : Int) (s : Int → Int) (v : Value) (r : Rg) (W : World) (hg : g < base) (hbb : base ≤ W.heap.size) (h : WrR W g base s v r) (hr : RgOk r) (hs : SOk s) (hp : p < 512) (hb0 : 0 ≤ b) (hb1 : b ≤ 1) (hn : r.out.length ≤ 29999) :
    Calls Try.prog 37 #[.pointer (some ⟨g, 0, none⟩), .agg #[.int .i64 (p : Int), .int .i64 b]] W fun e w' => e = .returned (.tuple #[]) ∧ ∃ v', WrR w' g base (oddsSet s ((p : Int), b)) v' (putF r (s p) b) ∧ KpO g v W w' ∧ FreshV W v v' := by
  have hbd := bitF_bd r (s p) b hr (hs p)
  have hsp := split_bd r.rng (s p) (hs p) hr.rng0
  have htold := bitF_told r (s p) b hr (hs p)
  have hr0 := hr.rng0
  have hr1 := hr.rng1
  have hout := bitF_out r (s p) b
  have hpf : putF r (s p) b = widenF (bitF r (s p) b) := rfl
  have hSpl := hide (fun X (hX : OdAt X g s [.int .u32 r.rng, .int .u32 (lowF r), v]) => implSplit g p s r.rng [.int .u32 (lowF r), v] X hX hp hs hr0 hr1)
  have hNar := hide (fun X low u (hX : OdAt X g s [.int .u32 r.rng, .int .u32 low, u]) => implNarrow g p b s r.rng (splitF r.rng (s p)) [.int .u32 low, u] X hX hp hs hr1 (by omega) (by omega))
  have hrb : rngF r.rng (splitF r.rng (s p)) b = (bitF r (s p) b).rng := by unfold rngF bitF; split <;> rfl
  rw [hrb] at hNar
  rw [hpf]
  clear hpf hrb
  generalize splitF r.rng (s p) = sv at hsp htold hSpl hNar
  generalize hR1 : bitF r (s p) b = r1 at hbd htold hout hNar ⊢
  have hvb := hide (h.2.block)
  have hlow := lowF_bd r
  have hu0 := Upd.of_below ((Below.refl W.heap.size W).alloc (Nat.le_refl _) (.cells #[.int .i64 (p : Int), .int .i64 b] 31)) 0 0
  have hch := heldF_new W [.int .i64 (p : Int), .int .i64 b] 31
  have hw1 := h.keep hu0
  have hgW := h.1.lt
  have hol : r1.out.length ≤ 29999 := by rw [hout]; exact hn
  have htl : (toldF r).length ≤ 29999 := by rw [toldF_len]; exact hn
  obtain ⟨q0, q1, q2, q3⟩ := hbd
  replace hR1 := hide hR1
  replace hout := hide hout
  replace hu0 := hide hu0
  replace hch := hide hch
  replace hw1 := hide hw1
  have hkp1 := hide (KpO.upd (g := g) (v := v) (unhide hu0))
  clear h hr hs
  by_cases hb : b = 0
  · obtain ⟨ht1, ht2⟩ := htold.1 hb
    subst hb
    have t : ((0 : Int) == 1) = false := by decide
    replace ht1 := hide ht1
    replace ht2 := hide ht2
    clear htold
    go_enter Try.func37, Try.ntmps37
    go_wp2_with fail
    simp only [List.toArray] at hch
    generalize hW0 : W.alloc (.cells #[.int .i64 (p : Int), .int .i64 0] 31) = w0 at hch hw1 hu0 hkp1 ⊢
    have hs0 : W.heap.size < w0.heap.size := by rw [← hW0]; simp
    clear hW0 hu0
    obtain ⟨c, hc⟩ : ∃ c, W.heap.size = c := ⟨_, rfl⟩
    rw [hc] at hch hs0 hbb hgW hvb ⊢
    have hn2 : Hid (some c ≠ v.ownBlock) := hide (fun e => by have := (unhide hvb _ e.symm).2; omega)
    have k0 := fun X : UpdT w0 => (((unhide hch).1.updT X).2 0 _ rfl)
    refine wq_region_tail 6 (by kernel_rfl) (by kernel_rfl) ?_
    simp only [List.take_succ_cons, List.take_zero, List.drop_succ_cons, List.drop_zero]
    iterate 5
      refine WQ.step (fun K hK => ?_)
      go_simp
      refine hK _ ?_
      clear hK K
    refine WQ.step (fun K hK => ?_)
    go_simp
    refine ⟨_, fun X => Calls.updT X (unhide hSpl X.to ((unhide hw1).1.keep X.upd)), hK _ ?_⟩
    clear hK K
    refine WQ.nil ?_
    rintro _ ⟨X, rfl⟩
    clear k0
    have hX := X.upd
    generalize X.to = w2 at hX ⊢
    have hw2 := hide ((unhide hw1).keep hX)
    have hch2 := hide ((unhide hch).keep hX)
    have hkp2 := hide ((unhide hkp1).trans (FreshV.refl _ _) (KpO.upd (g := g) hX))
    have hs2 : c < w2.heap.size := by have := hX.size; omega
    clear hX hw1 hch hkp1 hSpl hs0
    have d1 := (unhide hch2).1.2 1 _ rfl
    go_upto_region 6 with fail
    clear d1
    have hw3 : Hid (WrAt w2 g base s r.rng (lowF r1) v (toldF r1)) := hide (by rw [unhide ht1, unhide ht2]; exact unhide hw2)
    generalize w2 = w3 at hw3 hch2 hkp2 hs2 ⊢
    have hch3 := hch2
    have hkp3 := hkp2
    clear hw2 hch2 hkp2
    have k0 := fun X : UpdT w3 => (((unhide hch3).1.updT X).2 0 _ rfl)
    have k1 := fun X : UpdT w3 => (((unhide hch3).1.updT X).2 1 _ rfl)
    refine wq_region_tail 5 (by kernel_rfl) (by kernel_rfl) ?_
    simp only [List.take_succ_cons, List.take_zero, List.drop_succ_cons, List.drop_zero]
    iterate 5
      refine WQ.step (fun K hK => ?_)
      go_simp
      refine hK _ ?_
      clear hK K
    refine WQ.nil ?_
    rintro _ ⟨X, rfl⟩
    clear k0 k1
    have hX := X.upd
    generalize X.to = w4 at hX ⊢
    have ho4 := (unhide hw3).1.keep hX
    have hr4 := (unhide hw3).2.upd hX
    have hkp4 := hide ((unhide hkp3).trans (FreshV.refl _ _) (KpO.upd (g := g) hX))
    clear hX hw3 hkp3 hch3
    go_wp2_with fail
    refine (unhide hNar w4 _ _ ho4).mono ?_
    rintro e w5 ⟨rfl, ho5, hu5⟩
    have hw5 : Hid (WrR w5 g base (oddsSet s ((p : Int), 0)) v r1) := hide ⟨ho5, hr4.updG hu5 hg⟩
    have hkp5 := hide ((unhide hkp4).trans (FreshV.refl _ _) (KpO.updG hu5))
    clear ho5 hu5 hr4 ho4 hkp4 hNar hvb hn2
    obtain ⟨s2, hs2e⟩ : ∃ s2, oddsSet s ((p : Int), 0) = s2 := ⟨_, rfl⟩
    rw [hs2e] at hw5
    replace hs2e := hide hs2e
    go_wp2_with fail
    go_loopw [36] (fun _ wr => ∃ (rr : Rg) (v' : Value), (rr = r1 ∨ (r1.rng < 16777216 ∧ rr = widenF r1)) ∧ Hid (WrR wr g base s2 v' rr) ∧ Hid (KpO g v W wr) ∧ Hid (FreshV W v v')) (fun _ wr => rngLeftW wr g)
    case atStart => exact ⟨r1, v, .inl rfl, hw5, hkp5, hide (FreshV.refl _ _)⟩
    case round =>
      clear hw5 hkp5
      obtain ⟨rr, v', hrr, hO, hkp, hfr⟩ := hrel
      have hsz := (unhide hkp).size
      have hm0 := hide (rngLeftW_of (unhide hO).1)
      by_cases hlt : r1.rng < 16777216
      · rcases hrr with rfl | ⟨_, rfl⟩
        · have hwd : Hid (shiftF ⟨rr.low, rr.rng * 256, rr.out⟩ = widenF rr) := hide (by unfold widenF; rw [if_pos hlt])
          have hwl : Hid (rngLeftW wr g = 1) := hide (by rw [unhide hm0, if_pos hlt])
          have hw2' : Hid (16777216 ≤ (widenF rr).rng) := hide (by unfold widenF; rw [if_pos hlt]; unfold shiftF; simp only; omega)
          have hWy := hide (implWidenYes g s2 rr.rng _ wr (unhide hO).1 (by omega) hlt)
          have hltH := hide hlt
          have hout1 : rr.out.length ≤ 30000 := by omega
          clear hm0 hlt
          go_wp2_with fail
          refine (unhide hWy).mono ?_
          rintro e w6 ⟨rfl, ho6, hu6⟩
          have hw6 : Hid (WrR w6 g base s2 v' ⟨rr.low, rr.rng * 256, rr.out⟩) := hide ⟨ho6, (unhide hO).2.updG hu6 hg⟩
          have hkp6 := hide ((unhide hkp).trans (unhide hfr) (KpO.updG hu6))
          have hs6 : wr.heap.size ≤ w6.heap.size := hu6.size
          clear ho6 hu6 hO hkp hWy
          go_wp2_with fail
          refine (implShiftR g base s2 v' _ w6 hg (by omega) (unhide hw6) hout1).mono ?_
          rintro e w7 ⟨rfl, v7, hO7, hkp7, hfr7⟩
          rw [unhide hwd] at hO7
          have hkp8 := hide ((unhide hkp6).trans (unhide hfr) hkp7)
          have hfr8 := hide ((unhide hfr).trans hfr7 (by omega))
          have hmm : Hid (rngLeftW w7 g = 0) := hide (by rw [rngLeftW_of hO7.1, if_neg (Int.not_lt.2 (unhide hw2'))])
          replace hO7 := hide hO7
          clear hkp7 hfr7 hkp6 hfr hw6 hwd hw2'
          go_wp2_with fail
          go_roundw
          case rel => exact ⟨widenF rr, v7, .inr ⟨unhide hltH, rfl⟩, hO7, hkp8, hfr8⟩
          case measure => rw [unhide hmm, unhide hwl]; omega
        · have hw2' : 16777216 ≤ (widenF r1).rng := by unfold widenF; rw [if_pos hlt]; unfold shiftF; simp only; omega
          have hWn := hide (implWidenNo g s2 _ _ wr (unhide hO).1 hw2')
          clear hm0 hlt hw2'
          go_wp2_with fail
          refine (unhide hWn).mono ?_
          rintro e w6 ⟨rfl, hw6⟩
          obtain rfl : wr = w6 := hw6.symm
          clear hWn
          go_wp2
          go_end0
          exact ⟨rfl, v', by rw [unhide hs2e]; exact unhide hO, unhide hkp, unhide hfr⟩
      · have hrr2 : rr = r1 := by
          rcases hrr with h | ⟨h, _⟩
          · exact h
          · exact absurd h hlt
        subst hrr2
        have hwd : Hid (widenF rr = rr) := hide (by unfold widenF; rw [if_neg hlt])
        have hWn := hide (implWidenNo g s2 _ _ wr (unhide hO).1 (by omega))
        clear hm0 hlt hrr
        go_wp2_with fail
        refine (unhide hWn).mono ?_
        rintro e w6 ⟨rfl, hw6⟩
        obtain rfl : wr = w6 := hw6.symm
        clear hWn
        go_wp2
        go_end0
        exact ⟨rfl, v', by rw [unhide hwd, unhide hs2e]; exact unhide hO, unhide hkp, unhide hfr⟩
  · have hb2 : b = 1 := by omega
    obtain ⟨ht2, ht1⟩ := htold.2 hb
    subst hb2
    have t : ((1 : Int) == 1) = true := by decide
    clear htold hb
    obtain ⟨nl, hnl⟩ : ∃ nl, (lowF r + sv) % 4294967296 = nl := ⟨_, rfl⟩
    have hwr : IntKind.u32.wrap (lowF r + sv) = nl := by rw [← hnl]; simp [IntKind.wrap, IntKind.bits, IntKind.signed]
    rw [hnl] at ht1 ht2
    replace hnl := hide hnl
    replace ht2 := hide ht2
    by_cases hcy : nl < sv
    · have t2 : decide (nl < sv) = true := decide_eq_true hcy
      rw [if_pos hcy] at ht1
      replace ht1 := hide ht1
      clear hcy
      go_enter Try.func37, Try.ntmps37
      go_wp2_with fail
      simp only [List.toArray] at hch
      generalize hW0 : W.alloc (.cells #[.int .i64 (p : Int), .int .i64 1] 31) = w0 at hch hw1 hu0 hkp1 ⊢
      have hs0 : W.heap.size < w0.heap.size := by rw [← hW0]; simp
      clear hW0 hu0
      obtain ⟨c, hc⟩ : ∃ c, W.heap.size = c := ⟨_, rfl⟩
      rw [hc] at hch hs0 hbb hgW hvb ⊢
      have hn2 : Hid (some c ≠ v.ownBlock) := hide (fun e => by have := (unhide hvb _ e.symm).2; omega)
      have k0 := fun X : UpdT w0 => (((unhide hch).1.updT X).2 0 _ rfl)
      refine wq_region_tail 6 (by kernel_rfl) (by kernel_rfl) ?_
      simp only [List.take_succ_cons, List.take_zero, List.drop_succ_cons, List.drop_zero]
      iterate 5
        refine WQ.step (fun K hK => ?_)
        go_simp
        refine hK _ ?_
        clear hK K
      refine WQ.step (fun K hK => ?_)
      go_simp
      refine ⟨_, fun X => Calls.updT X (unhide hSpl X.to ((unhide hw1).1.keep X.upd)), hK _ ?_⟩
      clear hK K
      refine WQ.nil ?_
      rintro _ ⟨X, rfl⟩
      clear k0
      have hX := X.upd
      generalize X.to = w2 at hX ⊢
      have hw2 := hide ((unhide hw1).keep hX)
      have hch2 := hide ((unhide hch).keep hX)
      have hkp2 := hide ((unhide hkp1).trans (FreshV.refl _ _) (KpO.upd (g := g) hX))
      have hs2 : c < w2.heap.size := by have := hX.size; omega
      clear hX hw1 hch hkp1 hSpl hs0
      have d1 := (unhide hch2).1.2 1 _ rfl
      replace hw2 := hide (show WrAt w2 g base s r.rng (lowF r) v (toldF r) from unhide hw2)
      replace hNar := hNar
      generalize lowF r = lw at hw2 hwr hnl hlow ⊢
      have q1 : w2.cell? ⟨g, 513, none⟩ = some (.int .u32 lw) := (unhide hw2).1.back 1 _ rfl
      have f1 := (unhide hw2).1.frozen 513
      go_upto_region 4 with fail
      have hw2b : Hid (WrAt (w2.setCell ⟨g, 513, none⟩ (.int .u32 nl)) g base s r.rng nl v (toldF r)) := hide ⟨(unhide hw2).1.setBack 1 (by simp) (.int .u32 nl), (unhide hw2).2.head hg⟩
      have hch2b := hide ((unhide hch2).other (g' := g) (by omega) 513 (.int .u32 nl))
      have hkp2b := hide ((unhide hkp2).trans (FreshV.refl _ _) (KpO.head g 513 v (.int .u32 nl) w2))
      have hs2b : c < (w2.setCell ⟨g, 513, none⟩ (.int .u32 nl)).heap.size := by simpa using hs2
      clear q1 f1 d1 hw2 hch2 hkp2 hs2
      generalize w2.setCell ⟨g, 513, none⟩ (.int .u32 nl) = w2b at hw2b hch2b hkp2b hs2b ⊢
      have q1 : w2b.cell? ⟨g, 513, none⟩ = some (.int .u32 nl) := (unhide hw2b).1.back 1 _ rfl
      have hCy := hide (implCarry g base s r.rng nl v (toldF r) w2b hg (unhide hw2b) (by omega))
      go_wp2_with fail
      refine (unhide hCy).mono ?_
      rintro e w3 ⟨rfl, hwc, hkc⟩
      have hw3 : Hid (WrAt w3 g base s r.rng (lowF r1) v (toldF r1)) := hide (by rw [unhide ht1, unhide ht2]; exact hwc)
      have hch3 := hide ((unhide hch2b).kpO hkc (by omega) (unhide hn2))
      have hkp3 := hide ((unhide hkp2b).trans (FreshV.refl _ _) hkc)
      have hs2 : c < w3.heap.size := by have := hkc.size; omega
      clear hwc hkc hCy hw2b hch2b hkp2b hs2b q1
      go_upto_region 6 with fail
      have k0 := fun X : UpdT w3 => (((unhide hch3).1.updT X).2 0 _ rfl)
      have k1 := fun X : UpdT w3 => (((unhide hch3).1.updT X).2 1 _ rfl)
      refine wq_region_tail 5 (by kernel_rfl) (by kernel_rfl) ?_
      simp only [List.take_succ_cons, List.take_zero, List.drop_succ_cons, List.drop_zero]
      iterate 5
        refine WQ.step (fun K hK => ?_)
        go_simp
        refine hK _ ?_
        clear hK K
      refine WQ.nil ?_
      rintro _ ⟨X, rfl⟩
      clear k0 k1
      have hX := X.upd
      generalize X.to = w4 at hX ⊢
      have ho4 := (unhide hw3).1.keep hX
      have hr4 := (unhide hw3).2.upd hX
      have hkp4 := hide ((unhide hkp3).trans (FreshV.refl _ _) (KpO.upd (g := g) hX))
      clear hX hw3 hkp3 hch3
      go_wp2_with fail
      refine (unhide hNar w4 _ _ ho4).mono ?_
      rintro e w5 ⟨rfl, ho5, hu5⟩
      have hw5 : Hid (WrR w5 g base (oddsSet s ((p : Int), 1)) v r1) := hide ⟨ho5, hr4.updG hu5 hg⟩
      have hkp5 := hide ((unhide hkp4).trans (FreshV.refl _ _) (KpO.updG hu5))
      clear ho5 hu5 hr4 ho4 hkp4 hNar hvb hn2
      obtain ⟨s2, hs2e⟩ : ∃ s2, oddsSet s ((p : Int), 1) = s2 := ⟨_, rfl⟩
      rw [hs2e] at hw5
      replace hs2e := hide hs2e
      go_wp2_with fail
      go_loopw [36] (fun _ wr => ∃ (rr : Rg) (v' : Value), (rr = r1 ∨ (r1.rng < 16777216 ∧ rr = widenF r1)) ∧ Hid (WrR wr g base s2 v' rr) ∧ Hid (KpO g v W wr) ∧ Hid (FreshV W v v')) (fun _ wr => rngLeftW wr g)
      case atStart => exact ⟨r1, v, .inl rfl, hw5, hkp5, hide (FreshV.refl _ _)⟩
      case round =>
        clear hw5 hkp5
        obtain ⟨rr, v', hrr, hO, hkp, hfr⟩ := hrel
        have hsz := (unhide hkp).size
        have hm0 := hide (rngLeftW_of (unhide hO).1)
        by_cases hlt : r1.rng < 16777216
        · rcases hrr with rfl | ⟨_, rfl⟩
          · have hwd : Hid (shiftF ⟨rr.low, rr.rng * 256, rr.out⟩ = widenF rr) := hide (by unfold widenF; rw [if_pos hlt])
            have hwl : Hid (rngLeftW wr g = 1) := hide (by rw [unhide hm0, if_pos hlt])
            have hw2' : Hid (16777216 ≤ (widenF rr).rng) := hide (by unfold widenF; rw [if_pos hlt]; unfold shiftF; simp only; omega)
            have hWy := hide (implWidenYes g s2 rr.rng _ wr (unhide hO).1 (by omega) hlt)
            have hltH := hide hlt
            have hout1 : rr.out.length ≤ 30000 := by omega
            clear hm0 hlt
            go_wp2_with fail
            refine (unhide hWy).mono ?_
            rintro e w6 ⟨rfl, ho6, hu6⟩
            have hw6 : Hid (WrR w6 g base s2 v' ⟨rr.low, rr.rng * 256, rr.out⟩) := hide ⟨ho6, (unhide hO).2.updG hu6 hg⟩
            have hkp6 := hide ((unhide hkp).trans (unhide hfr) (KpO.updG hu6))
            have hs6 : wr.heap.size ≤ w6.heap.size := hu6.size
            clear ho6 hu6 hO hkp hWy
            go_wp2_with fail
            refine (implShiftR g base s2 v' _ w6 hg (by omega) (unhide hw6) hout1).mono ?_
            rintro e w7 ⟨rfl, v7, hO7, hkp7, hfr7⟩
            rw [unhide hwd] at hO7
            have hkp8 := hide ((unhide hkp6).trans (unhide hfr) hkp7)
            have hfr8 := hide ((unhide hfr).trans hfr7 (by omega))
            have hmm : Hid (rngLeftW w7 g = 0) := hide (by rw [rngLeftW_of hO7.1, if_neg (Int.not_lt.2 (unhide hw2'))])
            replace hO7 := hide hO7
            clear hkp7 hfr7 hkp6 hfr hw6 hwd hw2'
            go_wp2_with fail
            go_roundw
            case rel => exact ⟨widenF rr, v7, .inr ⟨unhide hltH, rfl⟩, hO7, hkp8, hfr8⟩
            case measure => rw [unhide hmm, unhide hwl]; omega
          · have hw2' : 16777216 ≤ (widenF r1).rng := by unfold widenF; rw [if_pos hlt]; unfold shiftF; simp only; omega
            have hWn := hide (implWidenNo g s2 _ _ wr (unhide hO).1 hw2')
            clear hm0 hlt hw2'
            go_wp2_with fail
            refine (unhide hWn).mono ?_
            rintro e w6 ⟨rfl, hw6⟩
            obtain rfl : wr = w6 := hw6.symm
            clear hWn
            go_wp2
            go_end0
            exact ⟨rfl, v', by rw [unhide hs2e]; exact unhide hO, unhide hkp, unhide hfr⟩
        · have hrr2 : rr = r1 := by
            rcases hrr with h | ⟨h, _⟩
            · exact h
            · exact absurd h hlt
          subst hrr2
          have hwd : Hid (widenF rr = rr) := hide (by unfold widenF; rw [if_neg hlt])
          have hWn := hide (implWidenNo g s2 _ _ wr (unhide hO).1 (by omega))
          clear hm0 hlt hrr
          go_wp2_with fail
          refine (unhide hWn).mono ?_
          rintro e w6 ⟨rfl, hw6⟩
          obtain rfl : wr = w6 := hw6.symm
          clear hWn
          go_wp2
          go_end0
          exact ⟨rfl, v', by rw [unhide hwd, unhide hs2e]; exact unhide hO, unhide hkp, unhide hfr⟩
    · have t2 : decide (nl < sv) = false := decide_eq_false hcy
      rw [if_neg hcy] at ht1
      replace ht1 := hide ht1
      clear hcy
      go_enter Try.func37, Try.ntmps37
      go_wp2_with fail
      simp only [List.toArray] at hch
      generalize hW0 : W.alloc (.cells #[.int .i64 (p : Int), .int .i64 1] 31) = w0 at hch hw1 hu0 hkp1 ⊢
      have hs0 : W.heap.size < w0.heap.size := by rw [← hW0]; simp
      clear hW0 hu0
      obtain ⟨c, hc⟩ : ∃ c, W.heap.size = c := ⟨_, rfl⟩
      rw [hc] at hch hs0 hbb hgW hvb ⊢
      have hn2 : Hid (some c ≠ v.ownBlock) := hide (fun e => by have := (unhide hvb _ e.symm).2; omega)
      have k0 := fun X : UpdT w0 => (((unhide hch).1.updT X).2 0 _ rfl)
      refine wq_region_tail 6 (by kernel_rfl) (by kernel_rfl) ?_
      simp only [List.take_succ_cons, List.take_zero, List.drop_succ_cons, List.drop_zero]
      iterate 5
        refine WQ.step (fun K hK => ?_)
        go_simp
        refine hK _ ?_
        clear hK K
      refine WQ.step (fun K hK => ?_)
      go_simp
      refine ⟨_, fun X => Calls.updT X (unhide hSpl X.to ((unhide hw1).1.keep X.upd)), hK _ ?_⟩
      clear hK K
      refine WQ.nil ?_
      rintro _ ⟨X, rfl⟩
      clear k0
      have hX := X.upd
      generalize X.to = w2 at hX ⊢
      have hw2 := hide ((unhide hw1).keep hX)
      have hch2 := hide ((unhide hch).keep hX)
      have hkp2 := hide ((unhide hkp1).trans (FreshV.refl _ _) (KpO.upd (g := g) hX))
      have hs2 : c < w2.heap.size := by have := hX.size; omega
      clear hX hw1 hch hkp1 hSpl hs0
      have d1 := (unhide hch2).1.2 1 _ rfl
      replace hw2 := hide (show WrAt w2 g base s r.rng (lowF r) v (toldF r) from unhide hw2)
      replace hNar := hNar
      generalize lowF r = lw at hw2 hwr hnl hlow ⊢
      have q1 : w2.cell? ⟨g, 513, none⟩ = some (.int .u32 lw) := (unhide hw2).1.back 1 _ rfl
      have f1 := (unhide hw2).1.frozen 513
      go_upto_region 4 with fail
      have hw2b : Hid (WrAt (w2.setCell ⟨g, 513, none⟩ (.int .u32 nl)) g base s r.rng nl v (toldF r)) := hide ⟨(unhide hw2).1.setBack 1 (by simp) (.int .u32 nl), (unhide hw2).2.head hg⟩
      have hch2b := hide ((unhide hch2).other (g' := g) (by omega) 513 (.int .u32 nl))
      have hkp2b := hide ((unhide hkp2).trans (FreshV.refl _ _) (KpO.head g 513 v (.int .u32 nl) w2))
      have hs2b : c < (w2.setCell ⟨g, 513, none⟩ (.int .u32 nl)).heap.size := by simpa using hs2
      clear q1 f1 d1 hw2 hch2 hkp2 hs2
      generalize w2.setCell ⟨g, 513, none⟩ (.int .u32 nl) = w2b at hw2b hch2b hkp2b hs2b ⊢
      have q1 : w2b.cell? ⟨g, 513, none⟩ = some (.int .u32 nl) := (unhide hw2b).1.back 1 _ rfl
      go_upto_region 6 with fail
      clear q1
      have hw3 : Hid (WrAt w2b g base s r.rng (lowF r1) v (toldF r1)) := hide (by rw [unhide ht1, unhide ht2]; exact unhide hw2b)
      generalize w2b = w3 at hw3 hch2b hkp2b hs2b ⊢
      have hch3 := hch2b
      have hkp3 := hkp2b
      have hs2 := hs2b
      clear hw2b hch2b hkp2b hs2b
      have k0 := fun X : UpdT w3 => (((unhide hch3).1.updT X).2 0 _ rfl)
      have k1 := fun X : UpdT w3 => (((unhide hch3).1.updT X).2 1 _ rfl)
      refine wq_region_tail 5 (by kernel_rfl) (by kernel_rfl) ?_
      simp only [List.take_succ_cons, List.take_zero, List.drop_succ_cons, List.drop_zero]
      iterate 5
        refine WQ.step (fun K hK => ?_)
        go_simp
        refine hK _ ?_
        clear hK K
      refine WQ.nil ?_
      rintro _ ⟨X, rfl⟩
      clear k0 k1
      have hX := X.upd
      generalize X.to = w4 at hX ⊢
      have ho4 := (unhide hw3).1.keep hX
      have hr4 := (unhide hw3).2.upd hX
      have hkp4 := hide ((unhide hkp3).trans (FreshV.refl _ _) (KpO.upd (g := g) hX))
      clear hX hw3 hkp3 hch3
      go_wp2_with fail
      refine (unhide hNar w4 _ _ ho4).mono ?_
      rintro e w5 ⟨rfl, ho5, hu5⟩
      have hw5 : Hid (WrR w5 g base (oddsSet s ((p : Int), 1)) v r1) := hide ⟨ho5, hr4.updG hu5 hg⟩
      have hkp5 := hide ((unhide hkp4).trans (FreshV.refl _ _) (KpO.updG hu5))
      clear ho5 hu5 hr4 ho4 hkp4 hNar hvb hn2
      obtain ⟨s2, hs2e⟩ : ∃ s2, oddsSet s ((p : Int), 1) = s2 := ⟨_, rfl⟩
      rw [hs2e] at hw5
      replace hs2e := hide hs2e
      go_wp2_with fail
      go_loopw [36] (fun _ wr => ∃ (rr : Rg) (v' : Value), (rr = r1 ∨ (r1.rng < 16777216 ∧ rr = widenF r1)) ∧ Hid (WrR wr g base s2 v' rr) ∧ Hid (KpO g v W wr) ∧ Hid (FreshV W v v')) (fun _ wr => rngLeftW wr g)
      case atStart => exact ⟨r1, v, .inl rfl, hw5, hkp5, hide (FreshV.refl _ _)⟩
      case round =>
        clear hw5 hkp5
        obtain ⟨rr, v', hrr, hO, hkp, hfr⟩ := hrel
        have hsz := (unhide hkp).size
        have hm0 := hide (rngLeftW_of (unhide hO).1)
        by_cases hlt : r1.rng < 16777216
        · rcases hrr with rfl | ⟨_, rfl⟩
          · have hwd : Hid (shiftF ⟨rr.low, rr.rng * 256, rr.out⟩ = widenF rr) := hide (by unfold widenF; rw [if_pos hlt])
            have hwl : Hid (rngLeftW wr g = 1) := hide (by rw [unhide hm0, if_pos hlt])
            have hw2' : Hid (16777216 ≤ (widenF rr).rng) := hide (by unfold widenF; rw [if_pos hlt]; unfold shiftF; simp only; omega)
            have hWy := hide (implWidenYes g s2 rr.rng _ wr (unhide hO).1 (by omega) hlt)
            have hltH := hide hlt
            have hout1 : rr.out.length ≤ 30000 := by omega
            clear hm0 hlt
            go_wp2_with fail
            refine (unhide hWy).mono ?_
            rintro e w6 ⟨rfl, ho6, hu6⟩
            have hw6 : Hid (WrR w6 g base s2 v' ⟨rr.low, rr.rng * 256, rr.out⟩) := hide ⟨ho6, (unhide hO).2.updG hu6 hg⟩
            have hkp6 := hide ((unhide hkp).trans (unhide hfr) (KpO.updG hu6))
            have hs6 : wr.heap.size ≤ w6.heap.size := hu6.size
            clear ho6 hu6 hO hkp hWy
            go_wp2_with fail
            refine (implShiftR g base s2 v' _ w6 hg (by omega) (unhide hw6) hout1).mono ?_
            rintro e w7 ⟨rfl, v7, hO7, hkp7, hfr7⟩
            rw [unhide hwd] at hO7
            have hkp8 := hide ((unhide hkp6).trans (unhide hfr) hkp7)
            have hfr8 := hide ((unhide hfr).trans hfr7 (by omega))
            have hmm : Hid (rngLeftW w7 g = 0) := hide (by rw [rngLeftW_of hO7.1, if_neg (Int.not_lt.2 (unhide hw2'))])
            replace hO7 := hide hO7
            clear hkp7 hfr7 hkp6 hfr hw6 hwd hw2'
            go_wp2_with fail
            go_roundw
            case rel => exact ⟨widenF rr, v7, .inr ⟨unhide hltH, rfl⟩, hO7, hkp8, hfr8⟩
            case measure => rw [unhide hmm, unhide hwl]; omega
          · have hw2' : 16777216 ≤ (widenF r1).rng := by unfold widenF; rw [if_pos hlt]; unfold shiftF; simp only; omega
            have hWn := hide (implWidenNo g s2 _ _ wr (unhide hO).1 hw2')
            clear hm0 hlt hw2'
            go_wp2_with fail
            refine (unhide hWn).mono ?_
            rintro e w6 ⟨rfl, hw6⟩
            obtain rfl : wr = w6 := hw6.symm
            clear hWn
            go_wp2
            go_end0
            exact ⟨rfl, v', by rw [unhide hs2e]; exact unhide hO, unhide hkp, unhide hfr⟩
        · have hrr2 : rr = r1 := by
            rcases hrr with h | ⟨h, _⟩
            · exact h
            · exact absurd h hlt
          subst hrr2
          have hwd : Hid (widenF rr = rr) := hide (by unfold widenF; rw [if_neg hlt])
          have hWn := hide (implWidenNo g s2 _ _ wr (unhide hO).1 (by omega))
          clear hm0 hlt hrr
          go_wp2_with fail
          refine (unhide hWn).mono ?_
          rintro e w6 ⟨rfl, hw6⟩
          obtain rfl : wr = w6 := hw6.symm
          clear hWn
          go_wp2
          go_end0
          exact ⟨rfl, v', by rw [unhide hwd, unhide hs2e]; exact unhide hO, unhide hkp, unhide hfr⟩
end Go.Proofs.Ytpofmcepjmbmcaa

/- Structs with a long row inside, built. -/
namespace Go.Proofs.Ytpofmcepjmbmcaa
open Go.RowKit

theorem fold_fill : ∀ (xs : List Value) (off i : Nat) (cs : Array Value), off + i + xs.length ≤ cs.size →
    ((xs.zipIdx i).foldl (fun cs (p : Value × Nat) => cs.setIfInBounds (off + p.2) p.1) cs).toList = cs.toList.take (off + i) ++ xs ++ cs.toList.drop (off + i + xs.length)
  | [], off, i, cs, _ => by simp
  | x :: xs, off, i, cs, h => by
    simp only [List.length_cons] at h
    rw [List.zipIdx_cons, List.foldl_cons, fold_fill xs off (i + 1) _ (by simp; omega)]
    have hlt : off + i < cs.toList.length := by simp; omega
    simp only [Array.toList_setIfInBounds, List.length_cons]
    rw [show off + (i + 1) = off + i + 1 by omega]
    have e1 : (cs.toList.set (off + i) x).take (off + i + 1) = cs.toList.take (off + i) ++ [x] := by
      rw [List.take_succ_eq_append_getElem (by simpa using hlt)]
      rw [List.getElem_set_self, List.take_set_of_le (Nat.le_refl _)]
    have e2 : (cs.toList.set (off + i) x).drop (off + i + 1 + xs.length) = cs.toList.drop (off + i + (xs.length + 1)) := by
      rw [List.drop_set_of_lt (by omega)]; congr 1; omega
    rw [e1, e2, List.append_assoc, List.append_assoc, List.append_assoc]; rfl
theorem built_struct {P : Program} {t : TypeId} {it : TypeInfo} {z : Value} {fields : Array Field} {places : List (Nat × Nat)} {parts : List (Nat × Value)} (hi : P.info? t = some it) (hz : it.zero = some z) (hu : P.underlying t = some (.struct fields))
    (hp : fields.toList.mapM (fun f => (P.info? f.type).map fun i => (f.offset, i.size)) = some places) : P.built t parts = Instr.fill (places.toArray[·]?) z.cells parts := by
  unfold Program.built; simp [hi, hz, hu, hp]
theorem fill_step {place : Nat → Option (Nat × Nat)} {xs : List Value} {v : Value} {i off : Nat} {cs : List Value} {rest : List (Nat × Value)} (hv : v.cells = xs.toArray) (hp : place i = some (off, xs.length)) (hl : off + xs.length ≤ cs.length) :
    Instr.fill place cs.toArray ((i, v) :: rest) = Instr.fill place (cs.take off ++ xs ++ cs.drop (off + xs.length)).toArray rest := by
  have h := fold_fill xs off 0 cs.toArray (by simpa using hl)
  rw [Nat.add_zero] at h
  have e : ((xs.zipIdx 0).foldl (fun cs (p : Value × Nat) => cs.setIfInBounds (off + p.2) p.1) cs.toArray) = (cs.take off ++ xs ++ cs.drop (off + xs.length)).toArray := by
    apply Array.ext'
    rw [h]
  rw [Instr.fill]
  simp only [hp, hv]
  rw [if_neg (by simp; omega)]
  rw [← e]
  congr 1
  simp
theorem fillOne {place : Nat → Option (Nat × Nat)} {cs : Array Value} : Instr.fill place cs [] = some cs := rfl
theorem info_at {t : TypeId} {z : Value} {n : Nat} (h : (Try.prog.info? t).map (fun i => (i.zero, i.size)) = some (some z, n)) : ∃ it, Try.prog.info? t = some it ∧ it.zero = some z := by
  cases he : Try.prog.info? t with
  | none => rw [he] at h; cases h
  | some it => rw [he] at h; simp only [Option.map_some, Option.some.injEq, Prod.mk.injEq] at h; exact ⟨it, rfl, h.1⟩
theorem infoOr : (Try.prog.info? 63).map (fun i => (i.zero, i.size)) = some (some (.agg (List.replicate 512 (Value.int .u16 0) ++ [Value.int .u32 0]).toArray), 513) := by kernel_rfl
def rngV (s : Int → Int) (n : Int) : List Value := oddsV s ++ [.int .u32 n]
theorem rngV_len (s : Int → Int) (n : Int) : (rngV s n).length = 513 := by simp [rngV]
theorem fill_two (L M : List Value) (m : Nat) (hL : L.length = m) (hM : M.length = m) (a b : Value) (hb : b.cells = [b].toArray) (place : Nat → Option (Nat × Nat)) (h0 : place 0 = some (0, m)) (h1 : place 1 = some (m, 1)) :
    Instr.fill place (L ++ [a]).toArray [(0, .agg M.toArray), (1, b)] = some (M ++ [b]).toArray := by
  rw [fill_step (xs := M) (off := 0) rfl (by rw [h0, hM]) (by simp; omega)]
  rw [List.take_zero, List.nil_append, Nat.zero_add, hM, ← hL, List.drop_left]
  rw [fill_step (xs := [b]) (off := m) hb h1 (by simp; omega), fillOne]
  rw [List.take_left' hM, List.drop_eq_nil_of_le (by simp; omega), List.append_nil]
theorem fill_first (L M T : List Value) (m : Nat) (hL : L.length = m) (hM : M.length = m) (place : Nat → Option (Nat × Nat)) (h0 : place 0 = some (0, m)) :
    Instr.fill place (L ++ T).toArray [(0, .agg M.toArray)] = some (M ++ T).toArray := by
  rw [fill_step (xs := M) (off := 0) rfl (by rw [h0, hM]) (by simp; omega), fillOne]
  rw [List.take_zero, List.nil_append, Nat.zero_add, hM, ← hL, List.drop_left]
theorem builtOr (s : Int → Int) (n : Int) : Try.prog.built 63 [(0, .agg (oddsV s).toArray), (1, .int .u32 n)] = some (rngV s n).toArray := by
  obtain ⟨it, h1, h2⟩ := info_at infoOr
  rw [built_struct (places := [(0, 512), (512, 1)]) h1 h2 Try.underlying63 (by kernel_rfl)]
  exact fill_two _ (oddsV s) 512 (List.length_replicate ..) (oddsV_length s) _ _ rfl _ rfl rfl
theorem infoOw : (Try.prog.info? 66).map (fun i => (i.zero, i.size)) = some (some (.agg ((List.replicate 512 (Value.int .u16 0) ++ [Value.int .u32 0]) ++ [Value.int .u32 0, Value.slice none 0 0]).toArray), 515) := by kernel_rfl
theorem builtOw (s : Int → Int) (n : Int) : Try.prog.built 66 [(0, .agg (rngV s n).toArray)] = some (oddsV s ++ [Value.int .u32 n, Value.int .u32 0, Value.slice none 0 0]).toArray := by
  obtain ⟨it, h1, h2⟩ := info_at infoOw
  rw [built_struct (places := [(0, 513), (513, 1), (514, 1)]) h1 h2 Try.underlying66 (by kernel_rfl)]
  refine (fill_first _ (rngV s n) _ 513 (by rw [List.length_append, List.length_replicate]; rfl) (rngV_len s n) _ rfl).trans ?_
  unfold rngV
  rw [List.append_assoc]; rfl
end Go.Proofs.Ytpofmcepjmbmcaa

/- Odds: the program's OddsPack. -/
namespace Go.Proofs.Ytpofmcepjmbmcaa
open Go.RowKit

def rng0 : List Value := rngV odds0 4294967295
theorem sizeOr : (Try.prog.info? 63).map (·.size) = some 513 := (zero_of_info infoOr).2
theorem sizeOw : (Try.prog.info? 66).map (·.size) = some 515 := (zero_of_info infoOw).2
theorem oneRow (s : Int → Int) (tl : List Value) (ht : ∀ v ∈ tl, v.oneCell' = true) : (oddsV s ++ tl).toArray.all (·.oneCell') = true := by
  rw [Array.all_eq_true_iff_forall_mem]
  intro v hv
  simp only [List.mem_toArray, List.mem_append] at hv
  rcases hv with hv | hv
  · simp only [oddsV, List.mem_map] at hv
    obtain ⟨x, _, rfl⟩ := hv
    rfl
  · exact ht v hv
set_option maxHeartbeats 4000000 in
set_option maxRecDepth 1000000 in
theorem implStartRange (w : World) :
    Calls Try.prog 36 #[] w fun e w' => e = .returned (.agg rng0.toArray) ∧ Upd 0 0 w w' := by
  obtain ⟨z, hz0, hz⟩ : ∃ z : Array Value, z.size = 513 ∧ ∀ w, (zeroValue 63).run Try.prog w = .ok (.agg z) w := ⟨_, by rw [List.size_toArray, List.length_append, List.length_replicate]; rfl, (zero_of_info infoOr).1⟩
  have hsz : (Try.prog.info? 63).map (·.size) = some 513 := sizeOr
  have hS := hide (fun X => implStartOdds X)
  have hone : Hid (rng0.toArray.all (·.oneCell') = true) := hide (by unfold rng0 rngV; exact oneRow odds0 [Value.int .u32 4294967295] (fun v hv => by rw [List.mem_singleton] at hv; rw [hv]; rfl))
  have hcs : Hid ((Try.prog.info? 63).map (·.size) = some rng0.toArray.size) := hide (hsz.trans (by unfold rng0; rw [List.size_toArray, rngV_len]))
  have hcz : Hid (z.size = rng0.toArray.size) := hide (hz0.trans (by unfold rng0; rw [List.size_toArray, rngV_len]))
  have hbt : Try.prog.built 63 [(0, .agg (oddsV odds0).toArray), (1, .int .u32 4294967295)] = some rng0.toArray := builtOr odds0 4294967295
  have hB0 := hide ((Below.refl w.heap.size w).alloc (Nat.le_refl _) (.cells z 63))
  have hr0 := hide (heap_alloc_new w (.cells z 63))
  generalize hRR : rng0.toArray = R at hone hcs hcz hbt ⊢
  clear hz0 hsz hRR
  replace hbt := hide hbt
  go_enter Try.func36, Try.ntmps36
  go_wp2_with fail
  generalize w.alloc (.cells z 63) = w0 at hB0 hr0 ⊢
  refine (unhide hS _).mono ?_
  rintro e w1 ⟨rfl, hu1⟩
  have hr1 := hide ((hu1.block w.heap.size (by have := (Array.getElem?_eq_some_iff.1 (unhide hr0)).1; omega) (.inr (Nat.zero_le _))).trans (unhide hr0))
  have hB1 := hide (below_upd (unhide hB0) hu1 (Nat.le_refl _) (.inr (Nat.le_refl _)))
  clear hu1 hr0 hB0 hz
  rename_i aK
  refine aK _ _ ?_
  refine wpList_buildTo rfl 63 _ rfl _ rfl R ?hf ?_
  case hf =>
    simp only [List.map_toArray, List.map_cons, List.map_nil]
    exact unhide hbt
  refine wpList_store_row rfl 63 (.tmp 0) (.tmp 2) rfl w.heap.size R rfl rfl 63 z (unhide hr1) (unhide hcs) (unhide hcz) (unhide hone) ?_
  have hres := hide (setRow_heap w1 w.heap.size z R 63 (0, 0) (unhide hr1))
  have hb2 := hide (below_setRow (unhide hB1) (Nat.le_refl _) R)
  generalize w1.setRow w.heap.size R = w2 at hres hb2 ⊢
  clear hr1 hB1 hbt hone aK
  go_wp2_with fail
  refine bodyPost_ret (v := .agg R) (results_cell_row rfl _ _ w.heap.size 63 R (0, 0) _ rfl (unhide hres) Try.underlying63 rfl (unhide hcs)) rfl ⟨rfl, Upd.of_below (unhide hb2) 0 0⟩
end Go.Proofs.Ytpofmcepjmbmcaa

/- Odds: the program's OddsPack, whole. -/
namespace Go.Proofs.Ytpofmcepjmbmcaa
open Go.RowKit

theorem odAt_rowR {W : World} {g : Nat} {s : Int → Int} {t : TypeId} {rest : List Value} (h : W.heap[g]? = some (.cells (oddsV s ++ rest).toArray t (0, 0))) : OdAt W g s rest := by
  refine ⟨⟨(Array.getElem?_eq_some_iff.1 h).1, fun j v hj => ?_⟩, fun j => frozen_of_row _ _ _ _ _ h⟩
  rw [cell_of_row _ _ _ _ _ _ h, List.getElem?_toArray]
  exact hj
set_option maxHeartbeats 8000000 in
set_option maxRecDepth 100000 in
theorem implFinish (g base : Nat) (s : Int → Int) (v : Value) (r : Rg) (W : World) (hg : g < base) (hbb : base ≤ W.heap.size) (h : WrR W g base s v r) (hn : r.out.length ≤ 20000) :
    Calls Try.prog 38 #[.pointer (some ⟨g, 0, none⟩)] W fun e w' => ∃ v', e = .returned v' ∧ TRow w' base v' (shiftsF r 4).out ∧ KpO g v W w' := by
  have hsl := hide (shiftsF_len r)
  have hte := hide (told_end r 4 (by omega))
  have h0 := hide (show WrR W g base s v (shiftsF r 0) from h)
  clear h
  go_enter Try.func38, Try.ntmps38
  go_wp2_with fail
  go_loopw [3] (fun i wx => ∃ (m : Nat) (u : Value), i = .int .i64 (m : Int) ∧ m ≤ 4 ∧ Hid (WrR wx g base s u (shiftsF r m)) ∧ Hid (KpO g v W wx) ∧ Hid (FreshV W v u)) (fun i _ => 4 - (intOf i).toNat)
  case atStart => exact ⟨0, v, rfl, by omega, h0, hide (KpO.refl _ _ _), hide (FreshV.refl _ _)⟩
  case round =>
    clear h0
    obtain ⟨m, u, rfl, hm, hO, hkp, hfr⟩ := hrel
    have hsz := (unhide hkp).size
    by_cases hm4 : m < 4
    · have t4 : decide ((m : Int) < 4) = true := decide_eq_true (by omega)
      have hln := unhide hsl m
      go_wp2_with fail
      refine (implShiftR g base s u (shiftsF r m) wr hg (by omega) (unhide hO) (by omega)).mono ?_
      rintro e w4 ⟨rfl, v4, hO4, hkp4, hfr4⟩
      have hkp5 := hide ((unhide hkp).trans (unhide hfr) hkp4)
      have hfr5 := hide ((unhide hfr).trans hfr4 (by omega))
      rw [← shiftsF_succ] at hO4
      replace hO4 := hide hO4
      clear hkp4 hO hkp hfr4 hfr hln
      go_wp2_with fail
      go_roundw
      case rel => exact ⟨m + 1, v4, by go_num, by omega, hO4, hkp5, hfr5⟩
      case measure => simp [intOf]; omega
    · obtain rfl : m = 4 := by omega
      have c0 : wr.cell? ⟨g, 514, none⟩ = some u := (unhide hO).1.back 2 _ rfl
      have ho : Hid (TRow wr base u (shiftsF r 4).out) := hide (by
        have h := (unhide hO).2
        rw [unhide hte] at h
        exact h)
      clear hO
      go_wp2
      go_ret
      exact ⟨_, rfl, unhide ho, unhide hkp⟩
set_option maxHeartbeats 16000000 in
set_option maxRecDepth 1000000 in
theorem implOddsPack (p : Int) (v : Value) (cs : List Ch) (w : World) (hp0 : -9223372036854775808 ≤ p) (hp1 : p ≤ 9223372036854775807) (hn : cs.length ≤ 1048576) (_hR : InCh cs) (hv : RdCh w v cs) :
    Calls Try.prog 10 #[.int .i64 p, v] w fun e w' => ∃ u, e = .returned u ∧ OwnY w' w.heap.size w'.heap.size u (oddsPack p cs) ∧ Upd 0 0 w w' := by
  have hG := hide (implGoodChoices p v cs w hn hv)
  obtain ⟨ad, cap, rfl, hA⟩ := hv
  by_cases hok : oddsB p cs = true
  case neg =>
    have hok : oddsB p cs = false := by simpa using hok
    have hE := hide (show oddsPack p cs = [] by unfold oddsPack; rw [hok]; rfl)
    rw [hok] at hG
    clear hok hA
    go_enter Try.func10, Try.ntmps10
    go_wp2_with fail
    refine (unhide hG).mono ?_
    rintro e w1 ⟨rfl, hu⟩
    replace hu := hide hu
    clear hG
    go_wp2
    go_ret
    exact ⟨_, rfl, by rw [unhide hE]; exact ⟨World.ownsRow_nil _ _ _ _, fun k hk => by simp [Value.ownBlock] at hk⟩, unhide hu⟩
  have hE := hide (show oddsPack p cs = packL cs by unfold oddsPack; rw [hok]; rfl)
  rw [hok] at hG
  obtain ⟨⟨hp1', hp512⟩, hlen, hch⟩ := (oddsB_iff _ _).1 hok
  have hS := hide (fun X => implStartRange X)
  obtain ⟨z, hz0, hz⟩ : ∃ z : Array Value, z.size = 515 ∧ ∀ w, (zeroValue 66).run Try.prog w = .ok (.agg z) w := ⟨_, by rw [List.size_toArray, List.length_append, List.length_append, List.length_replicate]; rfl, (zero_of_info infoOw).1⟩
  obtain ⟨R, hRR⟩ : ∃ R, (oddsV odds0 ++ [Value.int .u32 4294967295, Value.int .u32 0, Value.slice none 0 0]).toArray = R := ⟨_, rfl⟩
  have hRl : R.size = 515 := by rw [← hRR, List.size_toArray, List.length_append, oddsV_length]; rfl
  have hbt := hide (show Try.prog.built 66 [(0, .agg rng0.toArray)] = some R from (builtOw odds0 4294967295).trans (by rw [hRR]))
  have hone : Hid (R.all (·.oneCell') = true) := hide (by
    rw [← hRR]
    exact oneRow odds0 _ (fun v hv => by simp only [List.mem_cons, List.not_mem_nil, or_false] at hv; rcases hv with rfl | rfl | rfl <;> rfl))
  have hcs : Hid ((Try.prog.info? 66).map (·.size) = some R.size) := hide (sizeOw.trans (by rw [hRl]))
  have hcz : Hid (z.size = R.size) := hide (hz0.trans hRl.symm)
  have hRR := hide hRR
  replace hch := hide hch
  replace hA := hide hA
  clear hok hRl hz0
  generalize hrr : rng0.toArray = RR at hS hbt
  clear hrr
  go_enter Try.func10, Try.ntmps10
  go_wp2_with fail
  refine (unhide hG).mono ?_
  rintro e w1 ⟨rfl, hu1⟩
  replace hu1 := hide hu1
  clear hG
  go_wp2_with fail
  refine (unhide hS _).mono ?_
  rintro e w2 ⟨rfl, hu2⟩
  have hu := hide ((unhide hu1).trans hu2)
  clear hu1 hu2
  rename_i aK
  refine aK _ _ ?_
  refine wpList_buildTo rfl 66 _ rfl _ rfl R ?hf ?_
  case hf =>
    simp only [List.map_toArray, List.map_cons, List.map_nil]
    exact unhide hbt
  clear aK
  go_upto_region 4 with (first | (refine wpList_store_row rfl 66 (.tmp 5) (.tmp 13) rfl w2.heap.size R rfl rfl 66 z (heap_alloc_new w2 _) (unhide hcs) (unhide hcz) (unhide hone) ?_))
  have hb3 : Below w2.heap.size w2 ((w2.alloc (.cells z 66)).setRow w2.heap.size R) := below_setRow ((Below.refl w2.heap.size w2).alloc (Nat.le_refl _) _) (Nat.le_refl _) _
  have hrow := setRow_heap (w2.alloc (.cells z 66)) w2.heap.size z R 66 (0, 0) (heap_alloc_new w2 _)
  generalize (w2.alloc (.cells z 66)).setRow w2.heap.size R = W3 at hrow hb3 ⊢
  rw [← unhide hRR] at hrow
  have hod := odAt_rowR hrow
  have hgl := hod.lt
  have hs2 := (unhide hu).size
  have hB := hide ((unhide hu).none.trans (hb3.mono hs2))
  generalize w2.heap.size = g at hs2 hod hB hgl ⊢
  have hw3 : Hid (WrR W3 g (g + 1) (oddsK cs 0) (.slice none 0 0) (rgK cs 0)) := hide ⟨hod, TRow.empty _ _⟩
  have hsz3 : g + 1 ≤ W3.heap.size := by omega
  clear hz hcs hcz hone hu hb3 hbt hrow hod hS hRR hgl
  go_wp2_with fail
  go_loopw [16, 7] (fun i _ wr => ∃ (k : Nat) (v : Value), i = .int .i64 (k : Int) ∧ k ≤ cs.length ∧ Hid (WrR wr g (g + 1) (oddsK cs k) v (rgK cs k)) ∧ Hid (Below w.heap.size w wr) ∧ g + 1 ≤ wr.heap.size) (fun i _ _ => cs.length - (intOf i).toNat)
  case atStart => exact ⟨0, _, rfl, by omega, hw3, hB, hsz3⟩
  case round =>
    clear hB hw3 hsz3
    obtain ⟨k, v, rfl, hk, hO, hB, hsz⟩ := hrel
    by_cases hkl : k < cs.length
    · obtain ⟨bb, off, rfl, hbl, hcl⟩ := (unhide hA) (ne_of_lt_length hkl)
      obtain ⟨c0, c1⟩ := hcl k hkl
      replace c0 := ((unhide hB).cell (by simpa using hbl)).trans c0
      replace c1 := ((unhide hB).cell (by simpa using hbl)).trans c1
      have hck := unhide hch k hkl
      have hso := oddsK_succ cs k
      have hrg := rgK_succ cs k
      have hrok := rgK_ok cs k
      have hlnk := rgK_len cs k
      have hSk : SOk (oddsK cs k) := oddsK_bd cs k
      rw [show cs.getD k Ch0 = cs.getD k (0, 0) from rfl] at c0 c1
      generalize cs.getD k (0, 0) = c at c0 c1 hck hso hrg
      obtain ⟨x, y⟩ := c
      obtain ⟨⟨x0, x1⟩, y0, y1⟩ := hck
      obtain ⟨q, rfl⟩ := Int.eq_ofNat_of_zero_le x0
      have hq : q < 512 := by simp at x1; omega
      replace c0 : wr.cell? ⟨bb, off + k * 2, none⟩ = some (.int .i64 (q : Int)) := c0
      replace c1 : wr.cell? ⟨bb, off + k * 2 + 1, none⟩ = some (.int .i64 y) := c1
      replace hrg : rgK cs (k + 1) = putF (rgK cs k) (oddsK cs k (q : Int)) y := hrg
      have hP := hide (fun X (hs : g + 1 ≤ X.heap.size) (h : WrR X g (g + 1) (oddsK cs k) v (rgK cs k)) => implPut g (g + 1) q y (oddsK cs k) v (rgK cs k) X (by omega) hs h hrok hSk hq y0 y1 (by omega))
      rw [← hrg, ← hso] at hP
      have hal := Upd.of_below ((Below.refl wr.heap.size wr).alloc (Nat.le_refl _) (.cells #[.int .i64 (q : Int), .int .i64 y] 31)) 0 0
      have hO1 := hide ((unhide hO).keep hal)
      have hcc := heldF_new wr [.int .i64 (q : Int), .int .i64 y] 31
      have hB1 := hide (below_upd (unhide hB) hal (Nat.le_refl _) (.inr (Nat.le_refl _)))
      have hs1 : g + 1 ≤ (wr.alloc (.cells #[.int .i64 (q : Int), .int .i64 y] 31)).heap.size := by simp; omega
      have hvb := hide ((unhide hO).2.block)
      replace hcc := hide hcc
      clear hal hO hB hcl x1 hso hrg hrok hSk hlnk
      have kI : decide ((k : Int) < (cs.length : Int)) = true := decide_eq_true (by omega)
      go_upto_region 7 with fail
      simp only [List.toArray] at hcc
      generalize wr.alloc (.cells #[.int .i64 (q : Int), .int .i64 y] 31) = wn at hO1 hcc hB1 hs1 ⊢
      generalize wr.heap.size = cb at hcc hvb hsz ⊢
      have d0 := (unhide hcc).1.2 0 _ rfl
      have d1 := (unhide hcc).1.2 1 _ rfl
      clear c0 c1
      go_wp2_with fail
      refine (unhide hP _ hs1 (unhide hO1)).mono ?_
      rintro e w3 ⟨rfl, v3, hO3, hkp3, _⟩
      have hB3 := hide (hkp3.below (unhide hB1) (Nat.le_refl _) hs2 (fun b hb => by have := (unhide hvb _ hb).1; omega))
      have hs3 : g + 1 ≤ w3.heap.size := by have := hkp3.size; omega
      replace hO3 := hide hO3
      clear d0 d1 hO1 hB1 hcc hkp3 hP hvb
      go_wp2_with fail
      go_roundw
      case rel => exact ⟨k + 1, v3, by go_num, by omega, hO3, hB3, hs3⟩
      case measure => simp [intOf]; omega
    · obtain rfl : k = cs.length := by omega
      have kI : decide ((cs.length : Int) < (cs.length : Int)) = false := decide_eq_false (by omega)
      have hlnk := rgK_len cs cs.length
      have hpl : Hid ((shiftsF (rgK cs cs.length) 4).out = packL cs) := hide rfl
      have hF := hide (implFinish g (g + 1) _ v (rgK cs cs.length) wr (by omega) hsz (unhide hO) (by omega))
      have hvb := hide ((unhide hO).2.block)
      generalize (shiftsF (rgK cs cs.length) 4).out = L at hpl hF
      clear hO
      go_wp2_with fail
      refine (unhide hF).mono ?_
      rintro e w5 ⟨u, rfl, hr5, hkp5⟩
      have hB5 := hide (Upd.of_below (hkp5.below (unhide hB) (Nat.le_refl _) hs2 (fun b hb => by have := (unhide hvb _ hb).1; omega)) 0 0)
      have ho : Hid (OwnY w5 w.heap.size w5.heap.size u (packL cs)) := hide (by
        have h := hr5
        unfold TRow at h
        rw [unhide hpl] at h
        exact own_mono (Own.of h) (by omega) (Nat.le_refl _))
      clear hr5 hkp5 hF
      go_wp2
      go_ret
      exact ⟨_, rfl, by rw [unhide hE]; exact unhide ho, unhide hB5⟩
end Go.Proofs.Ytpofmcepjmbmcaa

/- Odds: the specification's shift: a carry, a byte told. -/
namespace Go.Proofs.Ytpofmcepjmbmcaa
open Go.RowKit

/-- The specification's writer. -/
def OutAt (W : World) (g base : Nat) (v : Value) (r : Rg) : Prop := HeldF W g [v, .int .u64 r.low, .int .u64 r.rng] ∧ TRow W base v r.out
theorem carryTo_step (xs : List Int) (k : Nat) (y : Int) (hy : y = (xs.getD k 0 + 1) % 256) : carryTo xs (k + 1) = if y ≠ 0 then xs.set k y else carryTo (xs.set k y) k := by
  subst hy; rfl
theorem wrap_u8 (n : Int) : IntKind.u8.wrap n = n % 256 := by simp [IntKind.wrap, IntKind.bits, IntKind.signed]
theorem and_m24 (n : Int) (h0 : 0 ≤ n) (h1 : n < 18446744073709551616) : bits .and .u64 n 16777215 = n % 16777216 := by go_bits2
set_option maxHeartbeats 16000000 in
set_option maxRecDepth 100000 in
theorem specShift (g base : Nat) (v : Value) (r : Rg) (W : World) (hg : g < base) (hbs : base ≤ W.heap.size) (h : OutAt W g base v r) (hl0 : 0 ≤ r.low) (hl1 : r.low < 8589934592) (hn : r.out.length ≤ 30000) :
    Calls Try.prog 88 #[.pointer (some ⟨g, 0, none⟩)] W fun e w' => e = .returned (.tuple #[]) ∧ ∃ v', OutAt w' g base v' (shiftF r) ∧ KpO g v W w' ∧ FreshV W v v' := by
  obtain ⟨hh, hrow⟩ := h
  obtain ⟨low, rng, out⟩ := r
  simp only at hl0 hl1 hn
  have hS : shiftF ⟨low, rng, out⟩ = ⟨low % 16777216 * 256, rng, carryIf low out ++ [low / 16777216 % 256]⟩ := rfl
  rw [hS]
  clear hS
  replace hh := hide (show HeldF W g [v, .int .u64 low, .int .u64 rng] from hh)
  replace hrow := hide (show TRow W base v out from hrow)
  have c1 := (unhide hh).1.2 1 _ rfl
  have hgl := (unhide hh).1.1
  go_enter Try.func88, Try.ntmps88
  go_upto_if 8 with fail
  clear c1
  go_cut [2] (fun _ wx => ∃ (xs : List Int), Hid (xs = carryIf low out) ∧ xs.length = out.length ∧ Hid (HeldF wx g [v, .int .u64 low, .int .u64 rng]) ∧ Hid (TRow wx base v xs) ∧ Hid (KpO g v W wx))
  case first =>
    by_cases hc : 4294967296 ≤ low
    · have t : decide (0 < low / 4294967296) = true := decide_eq_true (by omega)
      have hci := hide (show carryIf low out = carryTo out out.length by unfold carryIf carryF; rw [if_pos hc])
      have c0 := (unhide hh).1.2 0 _ rfl
      obtain ⟨ad, cp, rfl⟩ : ∃ ad cp, v = .slice ad out.length cp := by
        rcases (unhide hrow).2 with ⟨rfl, hz⟩ | ⟨b, cap, cur, rfl, _⟩
        · exact ⟨none, 0, by rw [hz]⟩
        · exact ⟨_, cap, rfl⟩
      go_wp2_with fail
      clear c0
      go_loopw [2] (fun i wr => ∃ (k : Nat) (xs : List Int), i = .int .i64 ((k : Int) - 1) ∧ k ≤ out.length ∧ xs.length = out.length ∧ Hid (carryTo xs k = carryTo out out.length) ∧ Hid (HeldF wr g [.slice ad out.length cp, .int .u64 low, .int .u64 rng]) ∧ Hid (TRow wr base (.slice ad out.length cp) xs) ∧ Hid (KpO g (.slice ad out.length cp) W wr)) (fun i _ => (intOf i + 1).toNat)
      case atStart => exact ⟨out.length, out, rfl, Nat.le_refl _, rfl, hide rfl, hh, hrow, hide (KpO.refl _ _ _)⟩
      case round =>
        clear hh hrow
        obtain ⟨k, xs, rfl, hk, hxl, hca, hh, hrow, hkp⟩ := hrel
        cases k with
        | zero =>
          have tz : decide ((0 : Int) ≤ ((0 : Nat) : Int) - 1) = false := by decide
          have hcx := hide ((unhide hca).trans (unhide hci).symm)
          clear hca
          go_wp2
          go_meet
          exact ⟨xs, hcx, hxl, hh, hrow, hkp⟩
        | succ k =>
          have e1 : ((k + 1 : Nat) : Int) - 1 = (k : Int) := by omega
          rw [e1]
          clear e1
          have hxne : xs ≠ [] := ne_of_lt_length (show k < xs.length by omega)
          obtain ⟨b, cap, hv, hbb, hbl, hcells, hfz, hset⟩ := (unhide hrow).at hxne
          have hck := hcells k (by omega)
          have hfk := hfz k
          obtain ⟨y, hy⟩ : ∃ y, y = (xs.getD k 0 + 1) % 256 := ⟨_, rfl⟩
          have hwy : IntKind.u8.wrap (xs.getD k 0 + 1) = y := by rw [wrap_u8, hy]
          have hst := hide (carryTo_step xs k y hy)
          have hs := hset k y
          have hbg : b ≠ g := by omega
          obtain ⟨rfl, rfl⟩ : ad = some ⟨b, 0, none⟩ ∧ cp = cap := by
            simp only [Value.slice.injEq] at hv; exact ⟨hv.1, hv.2.2⟩
          have hrow2 := hide hs.1
          have hkp2 := hide ((unhide hkp).trans (FreshV.refl _ _) (KpO.grown (g := g) hs.2))
          have hh2 := hide ((unhide hh).other (g' := b) hbg k (.int .u8 y))
          have c0 := (unhide hh).1.2 0 _ rfl
          have kI : (k : Int) < (out.length : Int) := by omega
          have kD : decide ((0 : Int) ≤ (k : Int)) = true := decide_eq_true (by omega)
          generalize xs.getD k 0 = x at hck hwy hy
          clear hy hv hs hset hcells hfz
          go_upto_region 5 with fail
          have ck2 : (wr.setCell ⟨b, k, none⟩ (.int .u8 y)).cell? ⟨b, k, none⟩ = some (.int .u8 y) := World.cell?_setCell_same _ _ _ hck
          have c02 := (unhide hh2).1.2 0 _ rfl
          have hxl2 : (xs.set k y).length = out.length := by rw [List.length_set]; exact hxl
          generalize xs.set k y = ys at hrow2 hst hxl2
          generalize wr.setCell ⟨b, k, none⟩ (.int .u8 y) = w2 at hrow2 hkp2 hh2 ck2 c02 ⊢
          clear c0 hck hfk hwy hrow hkp hh
          by_cases hy0 : y = 0
          · have ty : (y == 0) = true := by simpa using hy0
            have hca2 := hide (show carryTo ys k = carryTo out out.length by rw [← unhide hca, unhide hst, if_neg (by simpa using hy0)])
            clear hy0 hst hca
            go_wp2_with fail
            go_roundw
            case rel => exact ⟨k, ys, by go_num, by omega, hxl2, hca2, hh2, hrow2, hkp2⟩
            case measure => first | (simp [intOf]; done) | (simp [intOf]; omega)
          · have ty : (y == 0) = false := by simpa using hy0
            have hcx := hide (show ys = carryIf low out by rw [unhide hci, ← unhide hca, unhide hst, if_pos hy0])
            clear hy0 hst hca
            go_wp2
            go_meet
            exact ⟨ys, hcx, hxl2, hh2, hrow2, hkp2⟩
    · have hcx := hide (show out = carryIf low out by unfold carryIf; rw [if_neg hc])
      go_wp2
      go_meet
      exact ⟨out, hcx, rfl, hh, hrow, hide (KpO.refl _ _ _)⟩
  case rest =>
    clear hh hrow
    obtain ⟨xs, hcx, hxl, hh, hrow, hkp⟩ := hcut
    obtain ⟨bt, hbt⟩ : ∃ bt, low / 16777216 % 256 = bt := ⟨_, rfl⟩
    have hwb : IntKind.u8.wrap (low / 16777216) = bt := by rw [wrap_u8, hbt]
    replace hbt := hide hbt
    have q0 := (unhide hh).1.2 0 _ rfl
    have q1 := (unhide hh).1.2 1 _ rfl
    have hsz := (unhide hkp).size
    have hxl3 : xs.length ≤ 30000 := by omega
    replace hxl := hide hxl
    have hbb : base ≤ wc.heap.size := by omega
    have hgw : g < wc.heap.size := (unhide hh).1.1
    go_wp2_with fail
    go_region_law (refine step_appT rfl (.tmp 40) (.tmp 47) rfl g base v xs [v, .int .u64 low, .int .u64 rng] bt (unhide hh) (unhide hrow) hg (by omega) hbb (Upd.of_below (by repeat (first | exact Below.refl _ _ | refine Below.alloc ?_ (by simp) _ | refine Below.drew ?_)) 0 0) rfl _ _ rfl (by simp) ?_; intro ad6 cp6 w6 hrow6 hh6 hkp6 hfr6; have c60 := hh6.1.2 0 _ rfl; have f60 := hh6.2 0; replace hrow6 := hide hrow6; replace hkp6 := hide hkp6; replace hfr6 := hide hfr6; replace hh6 := hide hh6)
    all_goals
      have hh7 := hide (show HeldF (w6.setCell ⟨g, 0, none⟩ (.slice ad6 (xs.length + 1) cp6)) g [.slice ad6 (xs.length + 1) cp6, .int .u64 low, .int .u64 rng] from (unhide hh6).set 0 (.slice ad6 (xs.length + 1) cp6) (by simp))
      have hrow7 := hide ((unhide hrow6).head (j := 0) (u := .slice ad6 (xs.length + 1) cp6) hg)
      have hkp7 := hide ((unhide hkp).trans (FreshV.refl _ _) ((unhide hkp6).trans (unhide hfr6) (KpO.head g 0 _ (.slice ad6 (xs.length + 1) cp6) w6)))
      have hfr7 : Hid (FreshV W v (.slice ad6 (xs.length + 1) cp6)) := hide (fun b' hb' => (unhide hfr6 b' hb').imp_right (fun h => by omega))
      clear hh6 hrow6 hkp6 hfr6 c60 f60 q0 q1 hh hrow hkp
      go_upto_region 7 with fail
      generalize w6.setCell ⟨g, 0, none⟩ (.slice ad6 (xs.length + 1) cp6) = w7 at hh7 hrow7 hkp7 ⊢
      have q1 := (unhide hh7).1.2 1 _ rfl
      have f1 := (unhide hh7).2 1
      have hm := and_m24 low hl0 (by omega)
      have hwr : IntKind.u64.wrap (low % 16777216 * 256) = low % 16777216 * 256 := by simp [IntKind.wrap, IntKind.bits, IntKind.signed]; omega
      have hh8 := hide (show HeldF (w7.setCell ⟨g, 1, none⟩ (.int .u64 (low % 16777216 * 256))) g [.slice ad6 (xs.length + 1) cp6, .int .u64 (low % 16777216 * 256), .int .u64 rng] from (unhide hh7).set 1 (.int .u64 (low % 16777216 * 256)) (by simp))
      have hrow8 := hide ((unhide hrow7).head (j := 1) (u := .int .u64 (low % 16777216 * 256)) hg)
      have hkp8 := hide ((unhide hkp7).trans (unhide hfr7) (KpO.head g 1 _ (.int .u64 (low % 16777216 * 256)) w7))
      clear hh7 hrow7 hkp7
      have hm0 : 0 ≤ low % 16777216 := by omega
      have hm1 : low % 16777216 < 16777216 := by omega
      obtain ⟨lm, hlm⟩ : ∃ lm, low % 16777216 = lm := ⟨_, rfl⟩
      rw [hlm] at hm hwr hh8 hrow8 hkp8 hm0 hm1
      replace hlm := hide hlm
      go_wp2
      go_end0
      refine ⟨rfl, .slice ad6 (xs.length + 1) cp6, ⟨?_, ?_⟩, unhide hkp8, unhide hfr7⟩
      · show HeldF _ g [_, .int .u64 (low % 16777216 * 256), .int .u64 rng]
        rw [unhide hlm]
        exact unhide hh8
      show TRow _ base _ (carryIf low out ++ [low / 16777216 % 256])
      rw [← unhide hcx, unhide hbt]
      exact unhide hrow8
end Go.Proofs.Ytpofmcepjmbmcaa

/- Odds: the specification's writer of one bit. -/
namespace Go.Proofs.Ytpofmcepjmbmcaa
open Go.RowKit

theorem specShiftA (g base : Nat) (v : Value) (r : Rg) (W : World) (hg : g < base) (hbs : base ≤ W.heap.size) (h : OutAt W g base v r) (hl0 : 0 ≤ r.low) (hl1 : r.low < 8589934592) (hn : r.out.length ≤ 30000) :
    Calls Try.prog 88 #[.pointer (some ⟨g, 0, none⟩)] W fun e w' => e = .returned (.tuple #[]) ∧ ∃ v', OutAt w' g base v' (shiftF r) ∧ KpO g v W w' ∧ FreshV W v v' :=
  specShift g base v r W hg hbs h hl0 hl1 hn
/-- Is a round of widening to come? -/
def rngLeft (wr : World) (g : Nat) : Nat := match wr.cell? ⟨g, 2, none⟩ with | some (.int _ n) => if n < 16777216 then 1 else 0 | _ => 0
theorem rngLeft_of {wr : World} {g base : Nat} {v : Value} {r : Rg} (h : OutAt wr g base v r) : rngLeft wr g = if r.rng < 16777216 then 1 else 0 := by
  unfold rngLeft; rw [h.1.1.2 2 _ rfl]
set_option maxHeartbeats 16000000 in
set_option maxRecDepth 100000 in
theorem specBitOut (g base : Nat) (v : Value) (r : Rg) (o b : Int) (W : World) (hg : g < base) (hbs : base ≤ W.heap.size) (h : OutAt W g base v r) (hr : RgOk r) (ho : 31 ≤ o ∧ o ≤ 4065) (hn : r.out.length ≤ 29999) :
    Calls Try.prog 86 #[.pointer (some ⟨g, 0, none⟩), .int .i64 o, .int .i64 b] W fun e w' => e = .returned (.tuple #[]) ∧ ∃ v', OutAt w' g base v' (putF r o b) ∧ KpO g v W w' ∧ FreshV W v v' := by
  have hbd := bitF_bd r o b hr ho
  have hsp := split_bd r.rng o ho hr.rng0
  have hlw := hr.low0
  have hr0 := hr.rng0
  have hr1 := hr.rng1
  have hsm := hr.sum
  have hout := bitF_out r o b
  have hpf : putF r o b = widenF (bitF r o b) := rfl
  rw [hpf]
  obtain ⟨hh, hrow⟩ := h
  have c1 := hh.1.2 1 _ rfl
  have c2 := hh.1.2 2 _ rfl
  have f1 := hh.2 1
  have f2 := hh.2 2
  have hgl := hh.1.1
  have hsv : splitF r.rng o = r.rng / 4096 * o := rfl
  obtain ⟨sv, hs⟩ : ∃ sv, splitF r.rng o = sv := ⟨_, rfl⟩
  have hmul : r.rng / 4096 * o = sv := by rw [← hsv, hs]
  rw [hs] at hsp
  have hwm : IntKind.u64.wrap (r.rng / 4096 * o) = sv := by rw [hmul]; simp [IntKind.wrap, IntKind.bits, IntKind.signed]; omega
  have hwm2 : IntKind.u64.wrap (r.rng / 4096 * IntKind.u64.wrap o) = sv := by
    rw [show IntKind.u64.wrap o = o by simp [IntKind.wrap, IntKind.bits, IntKind.signed]; omega]; exact hwm
  clear hsv hr hpf
  obtain ⟨o0, o1⟩ := ho
  by_cases hb : b = 0
  · have t : (b == 0) = true := by simpa using hb
    have hB : Hid (bitF r o b = ⟨r.low, sv, r.out⟩) := hide (by unfold bitF; rw [if_pos hb, hs])
    have hh2 := hide (show HeldF (W.setCell ⟨g, 2, none⟩ (.int .u64 sv)) g [v, .int .u64 r.low, .int .u64 sv] from hh.set 2 (.int .u64 sv) (by simp))
    have hrow2 := hide (hrow.head (j := 2) (u := .int .u64 sv) hg)
    have hkp2 := hide (KpO.head g 2 v (.int .u64 sv) W)
    clear hb hh hrow hs hmul
    go_enter Try.func86, Try.ntmps86
    go_upto_region 5 with fail
    generalize W.setCell ⟨g, 2, none⟩ (.int .u64 sv) = w1 at hh2 hrow2 hkp2 ⊢
    clear c1 c2 f1 f2
    generalize hR1 : bitF r o b = r1 at hB hbd hout ⊢
    have hol : r1.out.length ≤ 29999 := by rw [hout]; exact hn
    replace hR1 := hide hR1
    clear hout
    have hO1 := hide (show OutAt w1 g base v r1 from ⟨by rw [unhide hB]; exact unhide hh2, by rw [unhide hB]; exact unhide hrow2⟩)
    clear hh2 hrow2
    obtain ⟨q0, q1, q2, q3⟩ := hbd
    go_wp2_with fail
    go_loopw [37] (fun _ wr => ∃ (rr : Rg) (v' : Value), (rr = r1 ∨ (r1.rng < 16777216 ∧ rr = widenF r1)) ∧ Hid (OutAt wr g base v' rr) ∧ Hid (KpO g v W wr) ∧ Hid (FreshV W v v')) (fun _ wr => rngLeft wr g)
    case atStart => exact ⟨r1, v, .inl rfl, hO1, hkp2, hide (FreshV.refl _ _)⟩
    case round =>
      clear hO1 hkp2
      obtain ⟨rr, v', hrr, hO, hkp, hfr⟩ := hrel
      have d2 := (unhide hO).1.1.2 2 _ rfl
      have e2 := (unhide hO).1.2 2
      have hsz := (unhide hkp).size
      have hm0 := rngLeft_of (unhide hO)
      by_cases hlt : r1.rng < 16777216
      · rcases hrr with rfl | ⟨_, rfl⟩
        · have t1 : decide (rr.rng < 16777216) = true := decide_eq_true hlt
          have hw : IntKind.u64.wrap (rr.rng * 256) = rr.rng * 256 := by simp [IntKind.wrap, IntKind.bits, IntKind.signed]; omega
          have hwd : Hid (shiftF ⟨rr.low, rr.rng * 256, rr.out⟩ = widenF rr) := hide (by unfold widenF; rw [if_pos hlt])
          have hO2 := hide (show OutAt (wr.setCell ⟨g, 2, none⟩ (.int .u64 (rr.rng * 256))) g base v' ⟨rr.low, rr.rng * 256, rr.out⟩ from
            ⟨(unhide hO).1.set 2 (.int .u64 (rr.rng * 256)) (by simp), (unhide hO).2.head hg⟩)
          have hkp3 := hide ((unhide hkp).trans (unhide hfr) (KpO.head g 2 v' (.int .u64 (rr.rng * 256)) wr))
          have hs3 : wr.heap.size = (wr.setCell ⟨g, 2, none⟩ (.int .u64 (rr.rng * 256))).heap.size := by simp
          have hwl : rngLeft wr g = 1 := by rw [hm0, if_pos hlt]
          have hw2 : ¬ (widenF rr).rng < 16777216 := by unfold widenF; rw [if_pos hlt]; unfold shiftF; simp only; omega
          have hout1 : rr.out.length ≤ 30000 := by omega
          clear hO hkp hm0
          go_upto_region 7 with fail
          generalize wr.setCell ⟨g, 2, none⟩ (.int .u64 (rr.rng * 256)) = w3 at hO2 hkp3 hs3 ⊢
          clear d2 e2 t1 hw
          go_wp2_with fail
          refine (specShiftA g base v' _ w3 hg (by omega) (unhide hO2) q0 (by simp only; omega) hout1).mono ?_
          rintro e w4 ⟨rfl, v4, hO4, hkp4, hfr4⟩
          rw [unhide hwd] at hO4
          have hkp5 := hide ((unhide hkp3).trans (unhide hfr) hkp4)
          have hfr5 := hide ((unhide hfr).trans hfr4 (by omega))
          have hmm : rngLeft w4 g = 0 := by rw [rngLeft_of hO4, if_neg (by omega)]
          replace hO4 := hide hO4
          clear hkp4 hfr4 hkp3 hfr hO2 hwd hw2
          go_wp2_with fail
          go_roundw
          case rel => exact ⟨widenF rr, v4, .inr ⟨hlt, rfl⟩, hO4, hkp5, hfr5⟩
          case measure => rw [hmm, hwl]; omega
        · have hw2 : ¬ (widenF r1).rng < 16777216 := by unfold widenF; rw [if_pos hlt]; unfold shiftF; simp only; omega
          have t1 : decide ((widenF r1).rng < 16777216) = false := decide_eq_false hw2
          clear hm0
          go_wp2
          go_end0
          exact ⟨rfl, v', by rw [unhide hR1]; exact unhide hO, unhide hkp, unhide hfr⟩
      · have hrr2 : rr = r1 := by
          rcases hrr with h | ⟨h, _⟩
          · exact h
          · exact absurd h hlt
        subst hrr2
        have t1 : decide (rr.rng < 16777216) = false := decide_eq_false hlt
        have hwd : Hid (widenF rr = rr) := hide (by unfold widenF; rw [if_neg hlt])
        clear hm0 hlt hrr
        go_wp2
        go_end0
        exact ⟨rfl, v', by rw [unhide hR1, unhide hwd]; exact unhide hO, unhide hkp, unhide hfr⟩
  · have t : (b == 0) = false := by simpa using hb
    have hB : Hid (bitF r o b = ⟨r.low + sv, r.rng - sv, r.out⟩) := hide (by unfold bitF; rw [if_neg hb, hs])
    have hwl : IntKind.u64.wrap (r.low + sv) = r.low + sv := by simp [IntKind.wrap, IntKind.bits, IntKind.signed]; omega
    have hwg : IntKind.u64.wrap (r.rng - sv) = r.rng - sv := by simp [IntKind.wrap, IntKind.bits, IntKind.signed]; omega
    have hh1 := hide (show HeldF (W.setCell ⟨g, 1, none⟩ (.int .u64 (r.low + sv))) g [v, .int .u64 (r.low + sv), .int .u64 r.rng] from hh.set 1 (.int .u64 (r.low + sv)) (by simp))
    have hrow1 := hide (hrow.head (j := 1) (u := .int .u64 (r.low + sv)) hg)
    have hkp1 := hide (KpO.head g 1 v (.int .u64 (r.low + sv)) W)
    clear hb hh hrow hs hmul
    go_enter Try.func86, Try.ntmps86
    go_upto_region 4 with fail
    generalize W.setCell ⟨g, 1, none⟩ (.int .u64 (r.low + sv)) = w0 at hh1 hrow1 hkp1 ⊢
    clear c1 c2 f1 f2
    have c2 := (unhide hh1).1.2 2 _ rfl
    have f2 := (unhide hh1).2 2
    have hh2 := hide (show HeldF (w0.setCell ⟨g, 2, none⟩ (.int .u64 (r.rng - sv))) g [v, .int .u64 (r.low + sv), .int .u64 (r.rng - sv)] from (unhide hh1).set 2 (.int .u64 (r.rng - sv)) (by simp))
    have hrow2 := hide ((unhide hrow1).head (j := 2) (u := .int .u64 (r.rng - sv)) hg)
    have hkp2 := hide ((unhide hkp1).trans (FreshV.refl _ _) (KpO.head g 2 v (.int .u64 (r.rng - sv)) w0))
    clear hh1 hrow1 hkp1
    go_upto_region 5 with fail
    generalize w0.setCell ⟨g, 2, none⟩ (.int .u64 (r.rng - sv)) = w1 at hh2 hrow2 hkp2 ⊢
    clear c2 f2
    generalize hR1 : bitF r o b = r1 at hB hbd hout ⊢
    have hol : r1.out.length ≤ 29999 := by rw [hout]; exact hn
    replace hR1 := hide hR1
    clear hout
    have hO1 := hide (show OutAt w1 g base v r1 from ⟨by rw [unhide hB]; exact unhide hh2, by rw [unhide hB]; exact unhide hrow2⟩)
    clear hh2 hrow2
    obtain ⟨q0, q1, q2, q3⟩ := hbd
    go_wp2_with fail
    go_loopw [37] (fun _ wr => ∃ (rr : Rg) (v' : Value), (rr = r1 ∨ (r1.rng < 16777216 ∧ rr = widenF r1)) ∧ Hid (OutAt wr g base v' rr) ∧ Hid (KpO g v W wr) ∧ Hid (FreshV W v v')) (fun _ wr => rngLeft wr g)
    case atStart => exact ⟨r1, v, .inl rfl, hO1, hkp2, hide (FreshV.refl _ _)⟩
    case round =>
      clear hO1 hkp2
      obtain ⟨rr, v', hrr, hO, hkp, hfr⟩ := hrel
      have d2 := (unhide hO).1.1.2 2 _ rfl
      have e2 := (unhide hO).1.2 2
      have hsz := (unhide hkp).size
      have hm0 := rngLeft_of (unhide hO)
      by_cases hlt : r1.rng < 16777216
      · rcases hrr with rfl | ⟨_, rfl⟩
        · have t1 : decide (rr.rng < 16777216) = true := decide_eq_true hlt
          have hw : IntKind.u64.wrap (rr.rng * 256) = rr.rng * 256 := by simp [IntKind.wrap, IntKind.bits, IntKind.signed]; omega
          have hwd : Hid (shiftF ⟨rr.low, rr.rng * 256, rr.out⟩ = widenF rr) := hide (by unfold widenF; rw [if_pos hlt])
          have hO2 := hide (show OutAt (wr.setCell ⟨g, 2, none⟩ (.int .u64 (rr.rng * 256))) g base v' ⟨rr.low, rr.rng * 256, rr.out⟩ from
            ⟨(unhide hO).1.set 2 (.int .u64 (rr.rng * 256)) (by simp), (unhide hO).2.head hg⟩)
          have hkp3 := hide ((unhide hkp).trans (unhide hfr) (KpO.head g 2 v' (.int .u64 (rr.rng * 256)) wr))
          have hs3 : wr.heap.size = (wr.setCell ⟨g, 2, none⟩ (.int .u64 (rr.rng * 256))).heap.size := by simp
          have hwl : rngLeft wr g = 1 := by rw [hm0, if_pos hlt]
          have hw2 : ¬ (widenF rr).rng < 16777216 := by unfold widenF; rw [if_pos hlt]; unfold shiftF; simp only; omega
          have hout1 : rr.out.length ≤ 30000 := by omega
          clear hO hkp hm0
          go_upto_region 7 with fail
          generalize wr.setCell ⟨g, 2, none⟩ (.int .u64 (rr.rng * 256)) = w3 at hO2 hkp3 hs3 ⊢
          clear d2 e2 t1 hw
          go_wp2_with fail
          refine (specShiftA g base v' _ w3 hg (by omega) (unhide hO2) q0 (by simp only; omega) hout1).mono ?_
          rintro e w4 ⟨rfl, v4, hO4, hkp4, hfr4⟩
          rw [unhide hwd] at hO4
          have hkp5 := hide ((unhide hkp3).trans (unhide hfr) hkp4)
          have hfr5 := hide ((unhide hfr).trans hfr4 (by omega))
          have hmm : rngLeft w4 g = 0 := by rw [rngLeft_of hO4, if_neg (by omega)]
          replace hO4 := hide hO4
          clear hkp4 hfr4 hkp3 hfr hO2 hwd hw2
          go_wp2_with fail
          go_roundw
          case rel => exact ⟨widenF rr, v4, .inr ⟨hlt, rfl⟩, hO4, hkp5, hfr5⟩
          case measure => rw [hmm, hwl]; omega
        · have hw2 : ¬ (widenF r1).rng < 16777216 := by unfold widenF; rw [if_pos hlt]; unfold shiftF; simp only; omega
          have t1 : decide ((widenF r1).rng < 16777216) = false := decide_eq_false hw2
          clear hm0
          go_wp2
          go_end0
          exact ⟨rfl, v', by rw [unhide hR1]; exact unhide hO, unhide hkp, unhide hfr⟩
      · have hrr2 : rr = r1 := by
          rcases hrr with h | ⟨h, _⟩
          · exact h
          · exact absurd h hlt
        subst hrr2
        have t1 : decide (rr.rng < 16777216) = false := decide_eq_false hlt
        have hwd : Hid (widenF rr = rr) := hide (by unfold widenF; rw [if_neg hlt])
        clear hm0 hlt hrr
        go_wp2
        go_end0
        exact ⟨rfl, v', by rw [unhide hR1, unhide hwd]; exact unhide hO, unhide hkp, unhide hfr⟩
end Go.Proofs.Ytpofmcepjmbmcaa

/- Odds: the specification's odds at first, and what choices cost. -/
namespace Go.Proofs.Ytpofmcepjmbmcaa
open Go.RowKit

def oddsI (P : Nat) (s : Int → Int) : List Value := (List.range P).map fun p : Nat => .int .i64 (s (p : Int))
@[simp] theorem oddsI_length (P : Nat) (s : Int → Int) : (oddsI P s).length = P := by simp [oddsI]
theorem oddsI_at (P : Nat) (s : Int → Int) (p : Nat) (h : p < P) : (oddsI P s)[p]? = some (.int .i64 (s p)) := by
  unfold oddsI; rw [List.getElem?_map, List.getElem?_range h]; rfl
theorem oddsI_put (P : Nat) (s s' : Int → Int) (p : Nat) (y : Int) (h : ∀ q, s' q = if q = (p : Int) then y else s q) : (oddsI P s).set p (.int .i64 y) = oddsI P s' := by
  apply List.ext_getElem?
  intro j
  by_cases hj : j < P
  · by_cases e : p = j
    · subst e
      rw [List.getElem?_set_self (by simpa using hj), oddsI_at _ _ _ hj, h, if_pos rfl]
    · rw [List.getElem?_set_ne e, oddsI_at _ _ _ hj, oddsI_at _ _ _ hj, h, if_neg (by omega)]
  · rw [List.getElem?_eq_none (by simp; omega), List.getElem?_eq_none (by simp; omega)]
theorem oddsI_congr (P : Nat) (s s' : Int → Int) (h : ∀ p : Nat, p < P → s p = s' p) : oddsI P s = oddsI P s' := by
  unfold oddsI
  apply List.map_congr_left
  intro p hp
  rw [h p (List.mem_range.1 hp)]
def oddsTo (k : Nat) : Int → Int := fun q => if q < (k : Int) then 2048 else 0
theorem oddsTo_zero (P : Nat) : oddsI P (oddsTo 0) = List.replicate P (.int .i64 0) := by
  apply List.ext_getElem?
  intro j
  by_cases hj : j < P
  · rw [oddsI_at _ _ _ hj, List.getElem?_replicate, if_pos hj]; unfold oddsTo; rw [if_neg (by omega)]
  · rw [List.getElem?_eq_none (by simp; omega), List.getElem?_eq_none (by simp; omega)]
theorem oddsTo_succ (P k : Nat) : (oddsI P (oddsTo k)).set k (.int .i64 2048) = oddsI P (oddsTo (k + 1)) :=
  oddsI_put P _ _ k 2048 (fun q => by unfold oddsTo; by_cases h : q = (k : Int)
                                      · rw [if_pos h, if_pos (by omega)]
                                      · rw [if_neg h]
                                        by_cases h2 : q < (k : Int)
                                        · rw [if_pos h2, if_pos (by omega)]
                                        · rw [if_neg h2, if_neg (by omega)])
theorem oddsTo_all (P : Nat) : oddsI P (oddsTo P) = oddsI P (fun _ => 2048) := oddsI_congr P _ _ (fun p hp => by unfold oddsTo; rw [if_pos (by omega)])
theorem RowI.learn {w : World} {g P : Nat} {s : Int → Int} (h : RowI w g P (oddsI P s)) (c : Int × Int) (p : Nat) (hp : c.1 = (p : Int)) : RowI (w.setCell ⟨g, p, none⟩ (.int .i64 (learnF (s p) c.2))) g P (oddsI P (oddsSet s c)) := by
  have h1 := RowI.set h p (.int .i64 (learnF (s p) c.2))
  rw [oddsI_put P s (oddsSet s c) p (learnF (s p) c.2) (fun q => by
    unfold oddsSet
    by_cases e : q = (p : Int)
    · rw [if_pos (by rw [hp]; exact e), if_pos e, e]
    · rw [if_neg (by rw [hp]; exact e), if_neg e])] at h1
  exact h1
set_option maxHeartbeats 8000000 in
set_option maxRecDepth 100000 in
theorem specL12Odds (P : Nat) (w : World) (hP : P ≤ 512) :
    Calls Try.prog 85 #[.int .i64 (P : Int)] w fun e w' => e = .returned (.slice (some ⟨w.heap.size, 0, none⟩) P P) ∧ RowI w' w.heap.size P (oddsI P (fun _ => 2048)) ∧ Below w.heap.size w w' := by
  obtain ⟨o, hmk⟩ := mkRowI P (by omega)
  have hrun : ∀ X : World, (Instr.makeSlice 29 (.int .i64 (P : Int)) (.int .i64 (P : Int))).run Try.prog X = .ok (.slice (some ⟨X.heap.size, 0, none⟩) P P) (X.alloc o) := fun X => (hmk X).1
  have hrow := (hmk w).2
  rw [← oddsTo_zero] at hrow
  replace hrow := hide hrow
  have hB := hide ((Below.refl w.heap.size w).alloc (Nat.le_refl _) o)
  clear hmk
  go_enter Try.func85, Try.ntmps85
  go_upto_region 2 with fail
  generalize w.alloc o = w0 at hrow hB ⊢
  clear hrun
  go_wp2_with fail
  go_loopw [4, 9] (fun _ i wr => ∃ k : Nat, k ≤ P ∧ i = .int .i64 k ∧ Hid (RowI wr w.heap.size P (oddsI P (oddsTo k))) ∧ Hid (Below w.heap.size w wr)) (fun _ i _ => P - (intOf i).toNat)
  case atStart => exact ⟨0, Nat.zero_le _, rfl, hrow, hB⟩
  case round =>
    clear hrow hB
    obtain ⟨k, hk, rfl, hrow, hB⟩ := hrel
    by_cases hlt : k < P
    · have c0 := (unhide hrow).cell k hlt
      rw [oddsI_at _ _ _ hlt] at c0
      have f0 := (unhide hrow).frozen k
      have hr2 := (unhide hrow).set k (.int .i64 2048)
      rw [oddsTo_succ] at hr2
      replace hr2 := hide hr2
      have hB2 := hide ((unhide hB).setCell (p := ⟨w.heap.size, k, none⟩) (Nat.le_refl _) (.int .i64 2048))
      have kI : decide ((k : Int) < (P : Int)) = true := decide_eq_true (by omega)
      clear hrow hB
      go_wp2_with fail
      go_roundw
      case rel => exact ⟨k + 1, by omega, by go_num, hr2, hB2⟩
      case measure => simp [intOf]; omega
    · obtain rfl : k = P := by omega
      have kI : decide ((k : Int) < (k : Int)) = false := decide_eq_false (by omega)
      have hE := hide (oddsTo_all k)
      go_wp2
      go_ret
      exact ⟨rfl, by rw [← unhide hE]; exact unhide hrow, unhide hB⟩
end Go.Proofs.Ytpofmcepjmbmcaa

/- Odds: the specification's OddsCost. -/
namespace Go.Proofs.Ytpofmcepjmbmcaa
open Go.RowKit

/-- One cell of a block is written. -/
theorem upd_setCellG (w : World) (g j : Nat) (v : Value) : Upd g (g + 1) w (w.setCell ⟨g, j, none⟩ v) :=
  ⟨rfl, rfl, rfl, by simp, fun k _ hk => Below.heap_setCell w ⟨g, j, none⟩ v k (by simp; omega)⟩
end Go.Proofs.Ytpofmcepjmbmcaa

/- Odds: the specification's OddsPack. -/
namespace Go.Proofs.Ytpofmcepjmbmcaa
open Go.RowKit

theorem HeldF.belowB {B g : Nat} {cs : List Value} {w w' : World} (h : HeldF w g cs) (hb : Below B w w') (hg : g < B) : HeldF w' g cs := by
  have e := hb.block g hg
  exact ⟨⟨Nat.lt_of_lt_of_le h.1.1 hb.size, fun j u hj => (World.cell?_of_block (a := ⟨g, j, none⟩) e).trans (h.1.2 j u hj)⟩, fun j => (World.frozen?_of_block (a := ⟨g, j, none⟩) e).trans (h.2 j)⟩
/-- What stands between two choices of the specification's pack. -/
structure SpSt (w wr : World) (g : Nat) (P : Nat) (cs : List Ch) (k : Nat) (v : Value) : Prop where
  out : OutAt wr g (g + 2) v (rgK cs k)
  row : RowI wr (g + 1) P (oddsI P (oddsK cs k))
  bel : Below w.heap.size w wr
  sz : g + 2 ≤ wr.heap.size
theorem SpSt.upd {w wr wx : World} {g P k : Nat} {cs : List Ch} {v : Value} (h : SpSt w wr g P cs k v) (u : Upd 0 0 wr wx) : SpSt w wx g P cs k v :=
  ⟨⟨h.out.1.keep u, h.out.2.upd u⟩, h.row.keep u, below_upd h.bel u (Nat.le_refl _) (.inr (Nat.le_refl _)), by have := u.size; have := h.sz; omega⟩
set_option maxHeartbeats 16000000 in
set_option maxRecDepth 1000000 in
theorem specL12Pack (P : Nat) (ad : Option Addr) (cap : Nat) (cs : List Ch) (w : World) (hP : P ≤ 512) (hlen : cs.length ≤ 20000) (hch : ChsOk (P : Int) cs) (hA : ArgCh w ad cs) :
    Calls Try.prog 40 #[.int .i64 (P : Int), .slice ad cs.length cap] w fun e w' => ∃ v, e = .returned v ∧ OwnY w' w.heap.size w'.heap.size v (packL cs) ∧ Upd 0 0 w w' := by
  have hB0 := (Below.refl w.heap.size w).alloc (Nat.le_refl _) (.cells #[.slice none 0 0, .int .u64 0, .int .u64 4294967295] 112)
  have hh0 := heldF_new w [.slice none 0 0, .int .u64 0, .int .u64 4294967295] 112
  have hs0 : (w.alloc (.cells #[.slice none 0 0, .int .u64 0, .int .u64 4294967295] 112)).heap.size = w.heap.size + 1 := by simp
  have hS := hide (fun X => specL12Odds P X hP)
  replace hch := hide hch
  replace hA := hide hA
  replace hB0 := hide hB0
  replace hh0 := hide hh0
  go_enter Try.func40, Try.ntmps40
  go_wp2_with fail
  simp only [List.toArray] at hh0
  generalize w.alloc (.cells #[.slice none 0 0, .int .u64 0, .int .u64 4294967295] 112) = w1 at hB0 hh0 hs0 ⊢
  refine (unhide hS _).mono ?_
  rintro e w2 ⟨rfl, hrow, hb2⟩
  rw [hs0] at hrow hb2 ⊢
  have hlt2 := hrow.lt
  have hs2 : w.heap.size + 2 ≤ w2.heap.size := by omega
  have hh2 := (unhide hh0).belowB hb2 (by omega)
  have hB2 := (unhide hB0).trans (hb2.mono (by omega))
  clear hb2 hB0 hh0 hS hs0
  generalize hg : w.heap.size = g at hs2 hrow hh2 hlt2 ⊢
  have hSp := hide (show SpSt w w2 g P cs 0 (.slice none 0 0) from ⟨⟨hh2, TRow.empty _ _⟩, hrow, hB2, hs2⟩)
  clear hB2 hrow hh2 hs2 hlt2
  go_wp2_with fail
  go_loopw [16, 8] (fun i _ wr => ∃ (k : Nat) (v : Value), i = .int .i64 (k : Int) ∧ k ≤ cs.length ∧ Hid (SpSt w wr g P cs k v)) (fun i _ _ => cs.length - (intOf i).toNat)
  case atStart => exact ⟨0, _, rfl, by omega, hSp⟩
  case round =>
    clear hSp
    obtain ⟨k, v, rfl, hk, hSp⟩ := hrel
    by_cases hkl : k < cs.length
    · obtain ⟨bb, off, rfl, hbl, hcl⟩ := (unhide hA) (ne_of_lt_length hkl)
      obtain ⟨c0, c1⟩ := hcl k hkl
      replace c0 := ((unhide hSp).bel.cell (by simpa using hbl)).trans c0
      replace c1 := ((unhide hSp).bel.cell (by simpa using hbl)).trans c1
      have hck := unhide hch k hkl
      have hso := oddsK_succ cs k
      have hrg := rgK_succ cs k
      have hrok := rgK_ok cs k
      have hlnk := rgK_len cs k
      have hSk : ∀ q, 31 ≤ oddsK cs k q ∧ oddsK cs k q ≤ 4065 := oddsK_bd cs k
      rw [show cs.getD k Ch0 = cs.getD k (0, 0) from rfl] at c0 c1
      generalize cs.getD k (0, 0) = c at c0 c1 hck hso hrg
      obtain ⟨x, y⟩ := c
      obtain ⟨⟨x0, x1⟩, y0, y1⟩ := hck
      obtain ⟨q, rfl⟩ := Int.eq_ofNat_of_zero_le x0
      have hq : q < P := by simp at x1; omega
      have hqI : (q : Int) < (P : Int) := by omega
      replace c0 : wr.cell? ⟨bb, off + k * 2, none⟩ = some (.int .i64 (q : Int)) := c0
      replace c1 : wr.cell? ⟨bb, off + k * 2 + 1, none⟩ = some (.int .i64 y) := c1
      replace hrg : rgK cs (k + 1) = putF (rgK cs k) (oddsK cs k (q : Int)) y := hrg
      have hLn := hide (fun X => specL12Learn (oddsK cs k (q : Int)) y (hSk _) X)
      have hBt := hide (fun X (hs : g + 2 ≤ X.heap.size) (h : OutAt X g (g + 2) v (rgK cs k)) => specBitOut g (g + 2) v (rgK cs k) (oddsK cs k (q : Int)) y X (by omega) hs h hrok (hSk _) (by omega))
      rw [← hrg] at hBt
      have hal := Upd.of_below ((Below.refl wr.heap.size wr).alloc (Nat.le_refl _) (.cells #[.int .i64 (q : Int), .int .i64 y] 31)) 0 0
      have hSp1 := (unhide hSp).upd hal
      have hcc := heldF_new wr [.int .i64 (q : Int), .int .i64 y] 31
      have hput := hide (fun X (hX : RowI X (g + 1) P (oddsI P (oddsK cs k))) => hX.learn ((q : Int), y) q rfl)
      rw [← hso] at hput
      have hob := hSk (q : Int)
      have hcell := oddsI_at P (oddsK cs k) q hq
      generalize hov : oddsK cs k (q : Int) = o at hob hcell hLn hput hBt
      have hlb := learnF_bd o y hob
      generalize hlv : learnF o y = o2 at hlb hLn hput
      obtain ⟨o0, o1⟩ := hob
      obtain ⟨l0, l1⟩ := hlb
      have hgl := (unhide hSp).sz
      have hvb := hide ((unhide hSp).out.2.block)
      replace hcell := hide hcell
      replace hSp1 := hide hSp1
      replace hcc := hide hcc
      replace hov := hide hov
      replace hlv := hide hlv
      clear hal hSp hcl x1 hSk hso hrg hrok hlnk
      have kI : decide ((k : Int) < (cs.length : Int)) = true := decide_eq_true (by omega)
      go_upto_region 6 with fail
      simp only [List.toArray] at hcc
      generalize wr.alloc (.cells #[.int .i64 (q : Int), .int .i64 y] 31) = wn at hcc hSp1 ⊢
      generalize wr.heap.size = cb at hcc hgl hvb ⊢
      clear c0 c1
      have k0 := fun X : UpdT wn => (((unhide hcc).1.updT X).2 0 _ rfl)
      have k1 := fun X : UpdT wn => (((unhide hcc).1.updT X).2 1 _ rfl)
      have kq := fun X : UpdT wn => ((((unhide hSp1).row.keep X.upd).cell q hq).trans (unhide hcell))
      refine wq_region_tail 8 (by kernel_rfl) (by kernel_rfl) ?_
      simp only [List.take_succ_cons, List.take_zero, List.drop_succ_cons, List.drop_zero]
      iterate 8
        refine WQ.step (fun K hK => ?_)
        go_simp
        refine hK _ ?_
        clear hK K
      refine WQ.nil ?_
      rintro _ ⟨X, rfl⟩
      clear k0 k1 kq
      have hX := X.upd
      generalize X.to = wt at hX ⊢
      have hSp2 := (unhide hSp1).upd hX
      have hcc2 := (unhide hcc).keep hX
      clear hX hSp1 hcc
      go_wp2_with fail
      refine (unhide hBt wt hSp2.sz hSp2.out).mono ?_
      rintro e w3 ⟨rfl, v3, hO3, hkp3, hfr3⟩
      have hgs : w.heap.size ≤ g := by omega
      have hsz3 := hkp3.size
      have hsz2 := hSp2.sz
      have hn1 : some (g + 1) ≠ v.ownBlock := fun e => by have := (unhide hvb _ e.symm).1; omega
      have hn2 : some cb ≠ v.ownBlock := fun e => by have := (unhide hvb _ e.symm).2; omega
      have hrow3 := hide (hSp2.row.kpO hkp3 (by omega) hn1)
      have hcc3 := hide (hcc2.kpO hkp3 (by omega) hn2)
      have hB3 := hide (hkp3.below hSp2.bel (Nat.le_refl _) hgs (fun b hb => by have := (unhide hvb _ hb).1; omega))
      have hs3 : g + 2 ≤ w3.heap.size := by omega
      replace hO3 := hide hO3
      clear hkp3 hfr3 hSp2 hcc2 hn1 hn2 hvb hBt hsz3 hsz2
      go_wp2_with fail
      have k0 := fun X : UpdT w3 => (((unhide hcc3).1.updT X).2 0 _ rfl)
      have k1 := fun X : UpdT w3 => (((unhide hcc3).1.updT X).2 1 _ rfl)
      have kq := fun X : UpdT w3 => ((((unhide hrow3).keep X.upd).cell q hq).trans (unhide hcell))
      refine wq_region_tail 12 (by kernel_rfl) (by kernel_rfl) ?_
      simp only [List.take_succ_cons, List.take_zero, List.drop_succ_cons, List.drop_zero]
      iterate 10
        refine WQ.step (fun K hK => ?_)
        go_simp
        refine hK _ ?_
        clear hK K
      refine WQ.step (fun K hK => ?_)
      go_simp
      refine ⟨_, fun X => Calls.updT_same X (unhide hLn X.to), hK _ ?_⟩
      clear hK K
      refine WQ.step (fun K hK => ?_)
      go_simp
      refine hK _ ?_
      clear hK K
      refine WQ.nil ?_
      rintro _ ⟨X, rfl⟩
      clear k0 k1 kq
      have hX := X.upd
      generalize X.to = wx at hX ⊢
      have hrow4 := (unhide hrow3).keep hX
      have dq := (hrow4.cell q hq).trans (unhide hcell)
      have fq := hrow4.frozen q
      have hfin : Hid (SpSt w (wx.setCell ⟨g + 1, q, none⟩ (.int .i64 o2)) g P cs (k + 1) v3) := hide
        ⟨⟨((unhide hO3).1.keep hX).other (by omega) q (.int .i64 o2), ((unhide hO3).2.upd hX).head (by omega)⟩, unhide hput _ hrow4,
          below_upd (below_upd (unhide hB3) hX (Nat.le_refl _) (.inr (Nat.le_refl _))) (upd_setCellG wx (g + 1) q (.int .i64 o2)) (Nat.le_refl _) (.inl (by omega)), by have := hX.size; simp; omega⟩
      clear hX hrow3 hrow4 hO3 hB3 hcc3 hput hLn
      go_wp2_with fail
      go_roundw
      case rel => exact ⟨k + 1, v3, by go_num, by omega, hfin⟩
      case measure => simp [intOf]; omega
    · obtain rfl : k = cs.length := by omega
      have kI : decide ((cs.length : Int) < (cs.length : Int)) = false := decide_eq_false (by omega)
      have hrok := rgK_ok cs cs.length
      have hlnk := rgK_len cs cs.length
      have hlo := hide (shiftsF_low (rgK cs cs.length) hrok.low0 (by have := hrok.rng0; have := hrok.sum; omega))
      have hpl : Hid ((shiftsF (rgK cs cs.length) 4).out = packL cs) := hide rfl
      have hsl := hide (shiftsF_len (rgK cs cs.length))
      have hO0 := hide (show OutAt wr g (g + 2) v (shiftsF (rgK cs cs.length) 0) from (unhide hSp).out)
      have hB0 := hide (unhide hSp).bel
      have hs0 := (unhide hSp).sz
      generalize rgK cs cs.length = r at hlo hpl hsl hO0 hlnk
      clear hSp hrok hkl
      go_wp2_with fail
      rename_i wq
      go_loopw [9] (fun i wx => ∃ (m : Nat) (v : Value), i = .int .i64 (m : Int) ∧ m ≤ 4 ∧ Hid (OutAt wx g (g + 2) v (shiftsF r m)) ∧ Hid (Below w.heap.size w wx) ∧ g + 2 ≤ wx.heap.size) (fun i _ => 4 - (intOf i).toNat)
      case atStart => exact ⟨0, v, rfl, by omega, hO0, hB0, hs0⟩
      case round =>
        clear hO0 hB0 hs0
        obtain ⟨m, u, rfl, hm, hO, hB, hs⟩ := hrel
        by_cases hm4 : m < 4
        · have t4 : decide ((m : Int) < 4) = true := decide_eq_true (by omega)
          have hl := unhide hlo m
          have hln := unhide hsl m
          go_wp2_with fail
          refine (specShiftA g (g + 2) u (shiftsF r m) wr (by omega) hs (unhide hO) hl.1 hl.2 (by omega)).mono ?_
          rintro e w4 ⟨rfl, v4, hO4, hkp4, _⟩
          have hB4 := hide (hkp4.below (unhide hB) (Nat.le_refl _) (by omega) (fun b hb => by have := ((unhide hO).2.block b hb).1; omega))
          have hs4 : g + 2 ≤ w4.heap.size := by have := hkp4.size; omega
          rw [← shiftsF_succ] at hO4
          replace hO4 := hide hO4
          clear hkp4 hO hB hl hln
          go_wp2_with fail
          go_roundw
          case rel => exact ⟨m + 1, v4, by go_num, by omega, hO4, hB4, hs4⟩
          case measure => simp [intOf]; omega
        · obtain rfl : m = 4 := by omega
          have c0 := (unhide hO).1.1.2 0 _ rfl
          have ho : Hid (OwnY wr w.heap.size wr.heap.size u (packL cs)) := hide (by
            have h := (unhide hO).2
            unfold TRow at h
            rw [unhide hpl] at h
            exact own_mono (Own.of h) (by omega) (Nat.le_refl _))
          have hfin := hide (Upd.of_below (unhide hB) 0 0)
          clear hO hB
          go_wp2
          go_ret
          exact ⟨_, rfl, unhide ho, unhide hfin⟩
set_option maxHeartbeats 4000000 in
theorem specOddsPack (p : Int) (v : Value) (cs : List Ch) (w : World) (hp0 : -9223372036854775808 ≤ p) (hp1 : p ≤ 9223372036854775807) (hn : cs.length ≤ 1048576) (_hR : InCh cs) (hv : RdCh w v cs) :
    Calls Try.prog 12 #[.int .i64 p, v] w fun e w' => ∃ u, e = .returned u ∧ OwnY w' w.heap.size w'.heap.size u (oddsPack p cs) ∧ Upd 0 0 w w' := by
  have hG := hide (specL12Ok p v cs w hn hv)
  obtain ⟨ad, cap, rfl, hA⟩ := hv
  by_cases hok : oddsB p cs = true
  case neg =>
    have hok : oddsB p cs = false := by simpa using hok
    have hE := hide (show oddsPack p cs = [] by unfold oddsPack; rw [hok]; rfl)
    rw [hok] at hG
    clear hok hA
    go_enter Try.func12, Try.ntmps12
    go_wp2_with fail
    refine (unhide hG).mono ?_
    rintro e w1 ⟨rfl, hu⟩
    replace hu := hide hu
    clear hG
    go_wp2
    go_ret
    exact ⟨_, rfl, by rw [unhide hE]; exact ⟨World.ownsRow_nil _ _ _ _, fun k hk => by simp [Value.ownBlock] at hk⟩, unhide hu⟩
  have hE := hide (show oddsPack p cs = packL cs by unfold oddsPack; rw [hok]; rfl)
  rw [hok] at hG
  obtain ⟨⟨hp1', hp512⟩, hlen, hch⟩ := (oddsB_iff _ _).1 hok
  obtain ⟨P, rfl⟩ := Int.eq_ofNat_of_zero_le (show 0 ≤ p by omega)
  have hC := hide (fun X (h : ArgCh X ad cs) => specL12Pack P ad cap cs X (by omega) hlen hch h)
  replace hA := hide hA
  clear hok hch
  go_enter Try.func12, Try.ntmps12
  go_wp2_with fail
  refine (unhide hG).mono ?_
  rintro e w1 ⟨rfl, hu1⟩
  have hA1 := (unhide hA).below hu1.none
  replace hu1 := hide hu1
  clear hG
  go_wp2_with fail
  refine (unhide hC _ hA1).mono ?_
  rintro e w2 ⟨u, rfl, ho, hu2⟩
  have ho2 := hide (own_mono ho (unhide hu1).size (Nat.le_refl _))
  have hu3 := hide ((unhide hu1).trans hu2)
  clear ho hu2 hu1 hC hA1
  go_wp2
  go_ret
  exact ⟨_, rfl, by rw [unhide hE]; exact unhide ho2, unhide hu3⟩
end Go.Proofs.Ytpofmcepjmbmcaa

/- Odds: what choices cost: the program's OddsCost. -/
namespace Go.Proofs.Ytpofmcepjmbmcaa
open Go.RowKit

theorem odAt_row {W : World} {g : Nat} {s : Int → Int} {t : TypeId} (h : W.heap[g]? = some (.cells (oddsV s).toArray t (0, 0))) : OdAt W g s [] := by
  refine ⟨⟨(Array.getElem?_eq_some_iff.1 h).1, fun j v hj => ?_⟩, fun j => frozen_of_row _ _ _ _ _ h⟩
  rw [cell_of_row _ _ _ _ _ _ h, List.getElem?_toArray]
  simpa using hj
set_option maxHeartbeats 8000000 in
set_option maxRecDepth 1000000 in
theorem implOddsCost (p : Int) (v : Value) (cs : List Ch) (w : World) (hp0 : -9223372036854775808 ≤ p) (hp1 : p ≤ 9223372036854775807) (hn : cs.length ≤ 1048576) (_hR : InCh cs) (hv : RdCh w v cs) :
    Calls Try.prog 13 #[.int .i64 p, v] w fun e w' => e = .returned (.int .i64 (oddsCost p cs)) ∧ Upd 0 0 w w' := by
  have hG := hide (implGoodChoices p v cs w hn hv)
  obtain ⟨ad, cap, rfl, hA⟩ := hv
  by_cases hok : oddsB p cs = true
  case neg =>
    have hok : oddsB p cs = false := by simpa using hok
    have hE := hide (show oddsCost p cs = -1 by unfold oddsCost; rw [hok]; rfl)
    rw [hok] at hG
    clear hok hA
    go_enter Try.func13, Try.ntmps13
    go_wp2_with fail
    refine (unhide hG).mono ?_
    rintro e w1 ⟨rfl, hu⟩
    replace hu := hide hu
    clear hG
    go_wp2
    go_ret
    exact ⟨by rw [unhide hE]; rfl, unhide hu⟩
  have hE := hide (show oddsCost p cs = costK cs cs.length by unfold oddsCost; rw [hok]; rfl)
  rw [hok] at hG
  obtain ⟨⟨hp1', hp512⟩, hlen, hch⟩ := (oddsB_iff _ _).1 hok
  have hS := hide (fun X => implStartOdds X)
  obtain ⟨z, hz0, hz⟩ := zeroOd
  have hone : Hid ((oddsV odds0).toArray.all (·.oneCell') = true) := hide (by
    rw [Array.all_eq_true_iff_forall_mem]
    intro v hv
    simp only [oddsV, List.mem_toArray, List.mem_map] at hv
    obtain ⟨x, _, rfl⟩ := hv
    rfl)
  have hcs : Hid ((Try.prog.info? 60).map (·.size) = some (oddsV odds0).toArray.size) := hide (by simpa using sizeOd)
  have hcz : Hid (z.size = (oddsV odds0).toArray.size) := hide (by simpa using hz0.1)
  replace hch := hide hch
  replace hA := hide hA
  clear hok
  go_enter Try.func13, Try.ntmps13
  go_wp2_with fail
  refine (unhide hG).mono ?_
  rintro e w1 ⟨rfl, hu1⟩
  replace hu1 := hide hu1
  clear hG
  go_wp2_with fail
  refine (unhide hS _).mono ?_
  rintro e w2 ⟨rfl, hu2⟩
  have hu := hide ((unhide hu1).trans hu2)
  clear hu1 hu2
  have hz' := hz
  go_upto_region 4 with (first | (refine wpList_store_row rfl 60 (.tmp 6) (.tmp 13) rfl w2.heap.size (oddsV odds0).toArray rfl rfl 60 z (heap_alloc_new w2 _) (unhide hcs) (unhide hcz) (unhide hone) ?_))
  have hb3 : Below w2.heap.size w2 ((w2.alloc (.cells z 60)).setRow w2.heap.size (oddsV odds0).toArray) := below_setRow ((Below.refl w2.heap.size w2).alloc (Nat.le_refl _) _) (Nat.le_refl _) _
  have hnx := odAt_row (setRow_heap (w2.alloc (.cells z 60)) w2.heap.size z (oddsV odds0).toArray 60 (0, 0) (heap_alloc_new w2 _))
  generalize (w2.alloc (.cells z 60)).setRow w2.heap.size (oddsV odds0).toArray = W3 at hnx hb3 ⊢
  have hs2 := (unhide hu).size
  have hB := hide (hu.none.trans (hb3.mono hs2))
  generalize w2.heap.size = g at hs2 hnx hB ⊢
  clear hz hz' hcs hcz hone hu hb3 hz0
  replace hnx := hide hnx
  go_wp2_with fail
  go_loopw [5, 16, 8] (fun c i _ wr => ∃ (k : Nat), c = .int .i64 (costK cs k) ∧ i = .int .i64 (k : Int) ∧ k ≤ cs.length ∧ Hid (OdAt wr g (oddsK cs k) []) ∧ Hid (Below w.heap.size w wr)) (fun _ i _ _ => cs.length - (intOf i).toNat)
  case atStart => exact ⟨0, rfl, rfl, by omega, hnx, hB⟩
  case round =>
    clear hB hnx
    obtain ⟨k, rfl, rfl, hk, hod, hB⟩ := hrel
    by_cases hkl : k < cs.length
    · obtain ⟨bb, off, rfl, hbl, hcl⟩ := (unhide hA) (ne_of_lt_length hkl)
      obtain ⟨c0, c1⟩ := hcl k hkl
      replace c0 := ((unhide hB).cell (by simpa using hbl)).trans c0
      replace c1 := ((unhide hB).cell (by simpa using hbl)).trans c1
      have hck := unhide hch k hkl
      have hsc := costK_succ cs k
      have hso := oddsK_succ cs k
      have hcb := costK_bd cs k
      have hSk : SOk (oddsK cs k) := oddsK_bd cs k
      rw [show cs.getD k Ch0 = cs.getD k (0, 0) from rfl] at c0 c1
      generalize cs.getD k (0, 0) = c at c0 c1 hck hsc hso
      obtain ⟨x, y⟩ := c
      obtain ⟨⟨x0, x1⟩, y0, y1⟩ := hck
      obtain ⟨q, rfl⟩ := Int.eq_ofNat_of_zero_le x0
      have hq : q < 512 := by simp at x1; omega
      have hcf := costF_bd (oddsK cs k (q : Int)) y (hSk _)
      replace c0 : wr.cell? ⟨bb, off + k * 2, none⟩ = some (.int .i64 (q : Int)) := c0
      replace c1 : wr.cell? ⟨bb, off + k * 2 + 1, none⟩ = some (.int .i64 y) := c1
      replace hsc : costK cs (k + 1) = costK cs k + costF (oddsK cs k (q : Int)) y := hsc
      have hal := Upd.of_below ((Below.refl wr.heap.size wr).alloc (Nat.le_refl _) (.cells #[.int .i64 (q : Int), .int .i64 y] 31)) 0 0
      have hod1 := (unhide hod).upd hal (.inr (Nat.zero_le _))
      have hcc := heldF_new wr [.int .i64 (q : Int), .int .i64 y] 31
      have hB1 := hide (below_upd (unhide hB) hal (Nat.le_refl _) (.inr (Nat.le_refl _)))
      have hgl := (unhide hod).lt
      have hC := hide (fun X (hX : OdAt X g (oddsK cs k) []) => implCost g q y (oddsK cs k) [] X hX hq hSk)
      have hL := hide (fun X (hX : OdAt X g (oddsK cs k) []) => implLearn g q y (oddsK cs k) [] X hX hq hSk)
      rw [← hso] at hL
      generalize costF (oddsK cs k (q : Int)) y = cf at hcf hsc hC
      obtain ⟨s0, s1⟩ := hcb
      obtain ⟨cf0, cf1⟩ := hcf
      have s2 : costK cs k ≤ 40960000 := by omega
      clear s1
      generalize costK cs k = sm at s0 s2 hsc ⊢
      generalize hs2 : costK cs (k + 1) = sm2 at hsc
      subst hsc
      replace hod1 := hide hod1
      replace hcc := hide hcc
      replace hso := hide hso
      replace hs2 := hide hs2
      replace hSk := hide hSk
      clear hal hod hB hcl x1
      have kI : decide ((k : Int) < (cs.length : Int)) = true := decide_eq_true (by omega)
      go_upto_region 7 with fail
      simp only [List.toArray] at hcc
      have hcx := hgl
      generalize wr.alloc (.cells #[.int .i64 (q : Int), .int .i64 y] 31) = wn at hod1 hcc hB1 ⊢
      generalize wr.heap.size = cb at hcc hgl ⊢
      have d0 := (unhide hcc).1.2 0 _ rfl
      have d1 := (unhide hcc).1.2 1 _ rfl
      clear c0 c1
      go_wp2_with fail
      refine (unhide hC _ (unhide hod1)).mono ?_
      rintro e w3 ⟨rfl, hu3⟩
      have hod3 := hide ((unhide hod1).upd hu3 (.inr (Nat.zero_le _)))
      have hB3 := hide (below_upd (unhide hB1) hu3 (Nat.le_refl _) (.inr (Nat.le_refl _)))
      have hcc3 := hide ((unhide hcc).keep hu3)
      clear d0 d1 hod1 hB1 hcc hu3 hC
      have d0 := (unhide hcc3).1.2 0 _ rfl
      have d1 := (unhide hcc3).1.2 1 _ rfl
      go_wp2_with fail
      refine (unhide hL _ (unhide hod3)).mono ?_
      rintro e w4 ⟨rfl, hod4, hu4⟩
      have hB4 := hide (below_upd (unhide hB3) hu4 (Nat.le_refl _) (.inl (by omega)))
      replace hod4 := hide hod4
      clear hod3 hB3 hcc3 hu4 d0 d1 hL
      go_wp2_with fail
      go_roundw
      case rel => exact ⟨k + 1, by rw [unhide hs2], by go_num, by omega, hod4, hB4⟩
      case measure => simp [intOf]; omega
    · obtain rfl : k = cs.length := by omega
      have hfin := hide (Upd.of_below (unhide hB) 0 0)
      have kI : decide ((cs.length : Int) < (cs.length : Int)) = false := decide_eq_false (by omega)
      clear hB hod
      go_wp2
      go_ret
      exact ⟨by rw [unhide hE]; rfl, unhide hfin⟩
end Go.Proofs.Ytpofmcepjmbmcaa

/- Odds: the specification's reader: a byte taken. -/
namespace Go.Proofs.Ytpofmcepjmbmcaa
open Go.RowKit

/-- The specification's reader. -/
def InAt (W : World) (g : Nat) (dv ov : Value) (r : Rd) : Prop := HeldF W g [dv, .int .i64 (r.at_ : Int), .int .u64 r.code, .int .u64 r.rng, ov, .int .i64 r.err]
end Go.Proofs.Ytpofmcepjmbmcaa

/- Odds: the specification's reader opened. -/
namespace Go.Proofs.Ytpofmcepjmbmcaa
open Go.RowKit

theorem KpO.updS {g : Nat} {v : Value} {w w' : World} (u : Upd g (g + 1) w w') : KpO g v w w' := ⟨u.os, u.tape, u.output, u.size, fun k hk hg _ => u.block k hk (by omega)⟩
theorem KpO.own {g o j n c : Nat} {u : Value} {w : World} : KpO g (.slice (some ⟨o, 0, none⟩) n c) w (w.setCell ⟨o, j, none⟩ u) :=
  ⟨rfl, rfl, rfl, by simp, fun k _ _ hv => Below.heap_setCell w ⟨o, j, none⟩ u k (fun e => hv (by simp only at e; rw [e]; rfl))⟩
theorem RowI.updS {w w' : World} {g c n : Nat} {xs : List Value} (h : RowI w c n xs) (u : Upd g (g + 1) w w') (hc : c ≠ g) : RowI w' c n xs := h.upd u (by omega)
theorem ByteOk.of {ds : List Int} (h : InB ds) : ByteOk ds := fun j => by have := h j; omega
/-- The reader and its odds. -/
structure RdSt (W : World) (g og P : Nat) (dv : Value) (s : Int → Int) (r : Rd) : Prop where
  inn : InAt W g dv (.slice (some ⟨og, 0, none⟩) P P) r
  row : RowI W og P (oddsI P s)
  og : og < g
theorem RdSt.keep {W W' : World} {g og P : Nat} {dv : Value} {s : Int → Int} {r : Rd} (h : RdSt W g og P dv s r) (u : Upd 0 0 W W') : RdSt W' g og P dv s r := ⟨HeldF.keep h.inn u, h.row.keep u, h.og⟩
theorem RdSt.kpO {W W' : World} {g og P c : Nat} {dv v : Value} {s : Int → Int} {r : Rd} (h : RdSt W g og P dv s r) (k : KpO c v W W') (h1 : g ≠ c) (h2 : og ≠ c) (h3 : some g ≠ v.ownBlock) (h4 : some og ≠ v.ownBlock) : RdSt W' g og P dv s r := ⟨HeldF.kpO h.inn k h1 h3, h.row.kpO k h2 h4, h.og⟩
end Go.Proofs.Ytpofmcepjmbmcaa

/- Odds: the specification's reader of one bit. -/
namespace Go.Proofs.Ytpofmcepjmbmcaa
open Go.RowKit

def rngLeftI (wr : World) (g : Nat) : Nat := match wr.cell? ⟨g, 3, none⟩ with | some (.int _ n) => if n < 16777216 then 1 else 0 | _ => 0
theorem rngLeftI_of {wr : World} {g : Nat} {dv ov : Value} {r : Rd} (h : InAt wr g dv ov r) : rngLeftI wr g = if r.rng < 16777216 then 1 else 0 := by
  unfold rngLeftI; rw [h.1.2 3 _ rfl]
theorem KpO.toUpd {g : Nat} {v : Value} {w w' : World} (u : Upd 0 0 w w') : KpO g v w w' := KpO.upd u
end Go.Proofs.Ytpofmcepjmbmcaa

/- Steps of regions that draw their order: a call told by what holds behind it; a number appended to a row. -/
namespace Go.Proofs.Ytpofmcepjmbmcaa
open Go.RowKit

theorem step_wanted {ops : Array Oper} {o : Oper} {a : Act} {w : World} {K : Act → World → Prop} {Q : Exit → Act → World → Prop} {E : Prop}
    (hgd : o.guard = none) (h : Oper.wp Try.prog o a w K Q) : if Region.wanted o (yielded ops a.tmps) = true then Oper.wp Try.prog o a w K Q else E := by
  have hw : Region.wanted o (yielded ops a.tmps) = true := by simp [Region.wanted, hgd]
  rw [if_pos hw]
  exact h
/-- The row of numbers told. -/
def NRow (w : World) (base : Nat) (v : Value) (xs : List Int) : Prop := w.ownsRow base 3 1 v xs.length (ints xs)
theorem NRow.block {w : World} {base : Nat} {v : Value} {xs : List Int} (h : NRow w base v xs) : ∀ b, v.ownBlock = some b → base ≤ b ∧ b < w.heap.size := fun b hb => (World.ownsRow.lt h b hb)
theorem NRow.kept {w w' : World} {base : Nat} {v : Value} {xs : List Int} (h : NRow w base v xs) (hb : ∀ b, v.ownBlock = some b → w'.heap[b]? = w.heap[b]?) : NRow w' base v xs := by
  obtain ⟨h1, h2⟩ := (show w.ownsRow base 3 1 v xs.length (ints xs) from h)
  refine ⟨h1, ?_⟩
  rcases h2 with h2 | ⟨g', cap, cur, rfl, hg, hh, r⟩
  · exact .inl h2
  · exact .inr ⟨g', cap, cur, rfl, hg, (hb g' rfl).trans hh, r⟩
theorem NRow.upd {w w' : World} {base : Nat} {v : Value} {xs : List Int} (h : NRow w base v xs) (u : Upd 0 0 w w') : NRow w' base v xs := h.kept fun b hb => u.block b (h.block b hb).2 (.inr (Nat.zero_le _))
theorem NRow.head {w : World} {base g j : Nat} {v u : Value} {xs : List Int} (h : NRow w base v xs) (hg : g < base) : NRow (w.setCell ⟨g, j, none⟩ u) base v xs :=
  h.kept fun b hb => Below.heap_setCell w ⟨g, j, none⟩ u b (by have := (h.block b hb).1; simp; omega)
theorem step_appN {ops : Array Oper} {o : Oper} {a : Act} {wc w : World} {K : Act → World → Prop} {Q : Exit → Act → World → Prop} {E : Prop}
    (hgd : o.guard = none) (s x : Operand) (ho : o.op = .call { callee := .builtin .append, args := #[s, x], argTypes := #[29, 29] })
    (g base : Nat) (v : Value) (xs : List Int) (cs : List Value) (y : Int) (hh : HeldF wc g cs) (hrow : NRow wc base v xs) (hg : g < base) (hn : xs.length ≤ 1048576) (hb : base ≤ wc.heap.size) (hu : Upd 0 0 wc w)
    (hs : a.eval s = v) (b c : Nat) (hx : a.eval x = .slice (some ⟨b, 0, none⟩) 1 c) (hc : w.cell? ⟨b, 0, none⟩ = some (.int .i64 y))
    (hK : ∀ ad cp w', NRow w' base (.slice ad (xs.length + 1) cp) (xs ++ [y]) → HeldF w' g cs → KpO g v wc w' → FreshV wc v (.slice ad (xs.length + 1) cp) → K (a.put o.dst (.slice ad (xs.length + 1) cp)) w') :
    if Region.wanted o (yielded ops a.tmps) = true then Oper.wp Try.prog o a w K Q else E := by
  have hw : Region.wanted o (yielded ops a.tmps) = true := by simp [Region.wanted, hgd]
  rw [if_pos hw]
  obtain ⟨i0, hi0, hz0, hz1, hz2⟩ := info_parts infoI
  have hrow' : NRow w base v xs := hrow.upd hu
  obtain ⟨v', w', hr, h2, h3, h4, h5⟩ := run_append_own_at (P := Try.prog) w base 29 o.type 3 i0 (.int .i64 0) 1 8 Try.underlying29 hi0 hz0 hz1 hz2 rfl (by decide) v xs.length (ints xs) hrow' ⟨b, 0, none⟩ 1 c [.int .i64 y] rfl
    (fun j u hj => by
      match j, hj with
      | 0, hj => simp at hj; subst hj; simpa [Addr.add] using hc)
    (fun u hu' => by simp at hu'; subst hu'; rfl) (by unfold maxLen; omega) (by omega) (by have := hu.size; omega)
  obtain ⟨ad, cp, rfl⟩ : ∃ ad cp, v' = .slice ad (xs.length + 1) cp := by
    obtain ⟨g', c', e⟩ := ownsRow_succ h2
    exact ⟨_, _, e⟩
  unfold Oper.wp execOp
  simp only [ho, resolve, invoke, builtin, Sem.run_bind, Sem.run_pure, Result.andThen_ok, List.map_toArray, List.map_cons, List.map_nil, hs, hx, hr]
  have hgn : some g ≠ v.ownBlock := fun e => by have := (hrow.block g e.symm).1; omega
  have hk1 : KpO g v w w' := KpO.grown h3
  have hk : KpO g v wc w' := KpO.trans (KpO.upd hu) (FreshV.refl _ _) hk1
  refine hK ad cp w' (by unfold NRow ints; rw [List.length_append, List.map_append]; exact h2) ?_ hk (fun b' hb' => ?_)
  · have hhw := hh.keep hu
    have hb2 := h3.block g hhw.1.1 hgn
    exact ⟨⟨Nat.lt_of_lt_of_le hhw.1.1 h3.size, fun j u hj => (World.cell?_of_block (a := ⟨g, j, none⟩) hb2).trans (hhw.1.2 j u hj)⟩, fun j => (World.frozen?_of_block (a := ⟨g, j, none⟩) hb2).trans (hhw.2 j)⟩
  · rcases h5 with e | e
    · exact .inl (e.symm.trans hb')
    · rw [e] at hb'
      have := hu.size
      simp only [Option.some.injEq] at hb'
      exact .inr (by omega)
end Go.Proofs.Ytpofmcepjmbmcaa

/- Chosens as arguments and answers; the walks of the laws' own helpers on them. -/
namespace Go.Proofs.Ytpofmcepjmbmcaa
open Go.RowKit

abbrev Cn := Int × List Int × Int
abbrev Cnv (d : Cn) (v0 : Value) : Value := .agg #[.int .i64 d.1, v0, .int .i64 d.2.2]
def RdCn (w : World) (v : Value) (d : Cn) : Prop := ∃ v0, v = Cnv d v0 ∧ RdI w v0 d.2.1
def OwnCn (w : World) (a b : Nat) (v : Value) (d : Cn) : Prop := ∃ v0, v = Cnv d v0 ∧ OwnI w a b v0 d.2.1
theorem OwnCn.rd {w : World} {a b : Nat} {v : Value} {d : Cn} (h : OwnCn w a b v d) : RdCn w v d := by
  obtain ⟨v0, rfl, h0⟩ := h
  exact ⟨v0, rfl, h0.rd⟩
theorem RdCn.below {w w' : World} {v : Value} {d : Cn} (h : RdCn w v d) (hb : Below w.heap.size w w') : RdCn w' v d := by
  obtain ⟨v0, rfl, h0⟩ := h
  exact ⟨v0, rfl, h0.below hb⟩
theorem OwnCn.upd {w w' : World} {a b c e : Nat} {v : Value} {d : Cn} (h : OwnCn w a b v d) (u : Upd c e w w') (hd : b ≤ c ∨ e ≤ a) : OwnCn w' a b v d := by
  obtain ⟨v0, rfl, h0⟩ := h
  exact ⟨v0, rfl, h0.upd u (by omega)⟩
theorem OwnCn.keep {w w' : World} {a b : Nat} {v : Value} {d : Cn} (h : OwnCn w a b v d) (u : Upd 0 0 w w') : OwnCn w' a b v d := h.upd u (.inr (Nat.zero_le _))
theorem OwnCn.form {w : World} {a b : Nat} {v : Value} {d : Cn} (h : OwnCn w a b v d) : ∃ ad0 cap0, v = Cnv d (.slice ad0 d.2.1.length cap0) := by
  obtain ⟨v0, rfl, h0⟩ := h
  obtain ⟨ad0, cap0, rfl, _⟩ := h0.rd
  exact ⟨ad0, cap0, rfl⟩
/-- All numbers fit. -/
def InCn (d : Cn) : Prop := (-9223372036854775808 ≤ d.1 ∧ d.1 ≤ 9223372036854775807) ∧ InI d.2.1 ∧ (-9223372036854775808 ≤ d.2.2 ∧ d.2.2 ≤ 9223372036854775807)
def CnSize (d : Cn) : Nat := d.2.1.length
def CnCount (d : Cn) : Nat := d.2.1.length

end Go.Proofs.Ytpofmcepjmbmcaa

/- Odds: the specification's OddsUnpack. -/
namespace Go.Proofs.Ytpofmcepjmbmcaa
open Go.RowKit

theorem unpB_iff (places : Int) (ps : List Int) : unpB places ps = true ↔ (1 ≤ places ∧ places ≤ 512) ∧ ps.length ≤ 20000 ∧ PsOk places ps := by
  unfold unpB
  simp only [Bool.and_eq_true, decide_eq_true_eq, psB_iff, and_assoc]
theorem unpB_no {places : Int} {ds ps : List Int} (h : ¬ ((1 ≤ places ∧ places ≤ 512) ∧ ps.length ≤ 20000 ∧ PsOk places ps)) : oddsUnpack places ds ps = (1, [], 0) := by
  unfold oddsUnpack
  rw [if_neg (fun h' => h ((unpB_iff _ _).1 h'))]
abbrev ans0 (e n : Int) : Value := .agg #[.int .i64 e, .slice none 0 0, .int .i64 n]
theorem own_ans (w : World) (a b : Nat) (e n : Int) : OwnCn w a b (ans0 e n) (e, [], n) := ⟨.slice none 0 0, rfl, World.ownsRow_nil _ _ _ _, fun k hk => by simp [Value.ownBlock] at hk⟩
end Go.Proofs.Ytpofmcepjmbmcaa

/- Odds: the specification's OddsUnpack, where places and list are good. -/
namespace Go.Proofs.Ytpofmcepjmbmcaa
open Go.RowKit

theorem heldF_belowE {B g : Nat} {cs : List Value} {w w' : World} (h : HeldF w g cs) (hb : Below B w w') (hg : g < B) : HeldF w' g cs := by
  have e := hb.block g hg
  exact ⟨⟨Nat.lt_of_lt_of_le h.1.1 hb.size, fun j u hj => (World.cell?_of_block (a := ⟨g, j, none⟩) e).trans (h.1.2 j u hj)⟩, fun j => (World.frozen?_of_block (a := ⟨g, j, none⟩) e).trans (h.2 j)⟩
/-- What stands between two bits read. -/
structure UnSt (w wr : World) (rb g og ob P : Nat) (dv bv : Value) (s : Int → Int) (r : Rd) (bits : List Int) : Prop where
  rd : RdSt wr g og P dv s r
  out : HeldF wr ob [.int .i64 0, bv, .int .i64 0]
  row : NRow wr (ob + 1) bv bits
  res : HeldF wr rb [.int .i64 0, .slice none 0 0, .int .i64 0]
  bel : Below w.heap.size w wr
  o1 : w.heap.size ≤ rb ∧ rb < og
  o2 : g < ob ∧ ob < wr.heap.size
theorem UnSt.upd {w wr wx : World} {rb g og ob P : Nat} {dv bv : Value} {s : Int → Int} {r : Rd} {bits : List Int} (h : UnSt w wr rb g og ob P dv bv s r bits) (u : Upd 0 0 wr wx) : UnSt w wx rb g og ob P dv bv s r bits :=
  ⟨h.rd.keep u, h.out.keep u, h.row.upd u, h.res.keep u, below_upd h.bel u (Nat.le_refl _) (.inr (Nat.le_refl _)), h.o1, ⟨h.o2.1, by have := h.o2.2; have := u.size; omega⟩⟩
theorem UnSt.read {w wr wx : World} {rb g og ob P : Nat} {dv bv : Value} {s s' : Int → Int} {r r' : Rd} {bits : List Int} (h : UnSt w wr rb g og ob P dv bv s r bits) (h' : RdSt wx g og P dv s' r') (k : KpO g (.slice (some ⟨og, 0, none⟩) P P) wr wx) : UnSt w wx rb g og ob P dv bv s' r' bits := by
  have hog := h.rd.og
  have h1 := h.o1
  have h2 := h.o2
  have e1 : some ob ≠ (Value.slice (some ⟨og, 0, none⟩) P P).ownBlock := fun e => by simp [Value.ownBlock] at e; omega
  have e2 : some rb ≠ (Value.slice (some ⟨og, 0, none⟩) P P).ownBlock := fun e => by simp [Value.ownBlock] at e; omega
  refine ⟨h', h.out.kpO k (by omega) e1, h.row.kept fun b hb => ?_, h.res.kpO k (by omega) e2, k.below h.bel (Nat.le_refl _) (by omega) (fun b hb => by simp [Value.ownBlock] at hb; omega), h1, ⟨h2.1, by have := k.size; omega⟩⟩
  have hb2 := h.row.block b hb
  exact k.block b hb2.2 (by omega) (fun e => by simp [Value.ownBlock] at e; omega)
/-- A bit is told. -/
theorem UnSt.told {w wr wx : World} {rb g og ob P : Nat} {dv bv bv' : Value} {s : Int → Int} {r : Rd} {bits : List Int} {b : Int} (h : UnSt w wr rb g og ob P dv bv s r bits) (hr : NRow wx (ob + 1) bv' (bits ++ [b])) (hh : HeldF wx ob [.int .i64 0, bv, .int .i64 0]) (k : KpO ob bv wr wx) :
    UnSt w (wx.setCell ⟨ob, 1, none⟩ bv') rb g og ob P dv bv' s r (bits ++ [b]) := by
  have hog := h.rd.og
  have h1 := h.o1
  have h2 := h.o2
  have nb : ∀ c, c ≤ ob → some c ≠ bv.ownBlock := fun c hc e => by have := (h.row.block c e.symm).1; omega
  have hrd := h.rd.kpO k (by omega) (by omega) (nb g (by omega)) (nb og (by omega))
  refine ⟨⟨HeldF.other hrd.inn (by omega) 1 bv', hrd.row.other (by omega) 1 bv', hog⟩, hh.set 1 bv' (by simp), hr.head (by omega), (h.res.kpO k (by omega) (nb rb (by omega))).other (by omega) 1 bv', ?_, h1, ⟨h2.1, by have := k.size; simp; omega⟩⟩
  exact (k.below h.bel (Nat.le_refl _) (by omega) (fun b hb => by have := (h.row.block b hb).1; omega)).setCell (p := ⟨ob, 1, none⟩) (by simp; omega) bv'
end Go.Proofs.Ytpofmcepjmbmcaa

/- Odds: the program's reader: a byte taken. -/
namespace Go.Proofs.Ytpofmcepjmbmcaa
open Go.RowKit

/-- The program's reader. -/
def RrAt (W : World) (g : Nat) (s : Int → Int) (dv : Value) (r : Rd) : Prop := OdAt W g s [.int .u32 r.rng, dv, .int .i64 (r.at_ : Int), .int .u32 r.code, .int .i64 r.err]
/-- A block that is a row of so many cells. -/
def RowOf (W : World) (g : Nat) (t : TypeId) (n : Nat) : Prop := ∃ cs, W.heap[g]? = some (.cells cs t (0, 0)) ∧ cs.size = n
/-- One block changes, and stays a row. -/
structure UpdR (g : Nat) (w w' : World) : Prop where
  u : Upd g (g + 1) w w'
  row : ∀ t n, RowOf w g t n → RowOf w' g t n
theorem UpdR.trans {g : Nat} {w w1 w2 : World} (h1 : UpdR g w w1) (h2 : UpdR g w1 w2) : UpdR g w w2 := ⟨h1.u.trans h2.u, fun t n h => h2.row t n (h1.row t n h)⟩
theorem updR_in {g : Nat} {w w' : World} (u : Upd 0 0 w w') : UpdR g w w' := ⟨⟨u.os, u.tape, u.output, u.size, fun k hk _ => u.block k hk (.inr (Nat.zero_le _))⟩, fun _ _ ⟨cs, h1, h2⟩ => ⟨cs, (u.block g (Array.getElem?_eq_some_iff.1 h1).1 (.inr (Nat.zero_le _))).trans h1, h2⟩⟩
theorem updR_set (w : World) (g j : Nat) (v : Value) : UpdR g w (w.setCell ⟨g, j, none⟩ v) := ⟨upd_setCell w g j v, fun t _ ⟨cs, h1, h2⟩ => ⟨_, heap_setCell_same w g j cs t v h1, by simpa using h2⟩⟩
theorem or_byte (c y : Nat) (hc : c ≤ 16777215) (hy : y ≤ 255) : bits .or .u32 ((c * 256 : Nat) : Int) (y : Int) = ((c * 256 + y : Nat) : Int) := by
  have h : c * 256 ||| y = c * 256 + y := by
    have h1 := Nat.shiftLeft_add_eq_or_of_lt (show y < 2 ^ 8 by omega) c
    rw [Nat.shiftLeft_eq] at h1
    exact h1.symm
  go_bits2
set_option maxHeartbeats 16000000 in
set_option maxRecDepth 100000 in
theorem implRShift (g : Nat) (s : Int → Int) (ad : Option Addr) (cap : Nat) (ds : List Int) (r : Rd) (W : World) (h : RrAt W g s (.slice ad ds.length cap) r) (hA : ArgY W ad ds) (hd : ByteOk ds) (hn : ds.length ≤ 1048576) (ha : r.at_ ≤ ds.length) (c0 : 0 ≤ r.code) (c1 : r.code ≤ 16777215 ∨ ds.length ≤ r.at_) (he : r.err = 0 ∨ r.err = 2) :
    Calls Try.prog 90 #[.pointer (some ⟨g, 0, none⟩)] W fun e w' => e = .returned (.tuple #[]) ∧ RrAt w' g s (.slice ad ds.length cap) (byteF ds r) ∧ UpdR g W w' := by
  obtain ⟨rng, code, at_, err⟩ := r
  simp only at ha c0 c1 he
  have hh := hide (show OdAt W g s [.int .u32 rng, .slice ad ds.length cap, .int .i64 (at_ : Int), .int .u32 code, .int .i64 err] from h)
  have hgl := h.lt
  clear h
  unfold byteF
  simp only
  by_cases hl : ds.length ≤ at_
  · rw [if_pos hl]
    have hal : at_ = ds.length := by omega
    have t1 : ((at_ : Int) == (ds.length : Int)) = true := by simp; omega
    have hE : (if err = 0 then (2 : Int) else err) = 2 := by rcases he with rfl | rfl <;> rfl
    rw [hE]
    clear hE he
    have g1 := odds_back s [.int .u32 rng, .slice ad ds.length cap, .int .i64 (at_ : Int), .int .u32 code, .int .i64 err] 1 _ rfl
    have g2 := odds_back s [.int .u32 rng, .slice ad ds.length cap, .int .i64 (at_ : Int), .int .u32 code, .int .i64 err] 2 _ rfl
    have k1 := fun X : UpdT W => (((unhide hh).1.updT X).2 513 _ g1)
    have k2 := fun X : UpdT W => (((unhide hh).1.updT X).2 514 _ g2)
    clear hl hA g1 g2
    subst hal
    go_enter Try.func90, Try.ntmps90
    go_wp2_with fail
    refine wq_region_tail 9 (by kernel_rfl) (by kernel_rfl) ?_
    simp only [List.take_succ_cons, List.take_zero, List.drop_succ_cons, List.drop_zero]
    iterate 9
      refine WQ.step (fun K hK => ?_)
      go_simp
      refine hK _ ?_
      clear hK K
    refine WQ.nil ?_
    rintro _ ⟨X, rfl⟩
    clear k1 k2
    have hX := X.upd
    generalize X.to = wt at hX ⊢
    have hh2 := hide ((unhide hh).keep hX)
    have hu : Hid (UpdR g W wt) := hide (updR_in hX)
    clear hX hh
    have e5 : wt.cell? ⟨g, 516, none⟩ = some (.int .i64 err) := (unhide hh2).back 4 _ rfl
    have f5 := (unhide hh2).frozen 516
    have hh3 := hide (show OdAt (wt.setCell ⟨g, 516, none⟩ (.int .i64 2)) g s [.int .u32 rng, .slice ad ds.length cap, .int .i64 (ds.length : Int), .int .u32 code, .int .i64 2] from (unhide hh2).setBack 4 (by simp) (.int .i64 2))
    have hu3 := hide ((unhide hu).trans (updR_set wt g 516 (.int .i64 2)))
    clear hh2 hu
    go_wp2
    (try simp only [Exit.inBlock, Exit.then])
    refine bodyPost_ret (results_none rfl _ _ _) rfl ?_
    exact ⟨rfl, unhide hh3, unhide hu3⟩
  · rw [if_neg hl]
    obtain ⟨bb, off, rfl, hbl, hcl⟩ := hA (ne_of_lt_length (show at_ < ds.length by omega))
    have hbyte := hcl at_ (by omega)
    have hd1 := hd at_
    have c16 : code ≤ 16777215 := by omega
    generalize ds.getD at_ 0 = y at hbyte hd1 ⊢
    obtain ⟨y0, y1⟩ := hd1
    obtain ⟨c, rfl⟩ := Int.eq_ofNat_of_zero_le c0
    obtain ⟨b, rfl⟩ := Int.eq_ofNat_of_zero_le y0
    have t1 : ((at_ : Int) == (ds.length : Int)) = false := by simp; omega
    have hai : (at_ : Int) < (ds.length : Int) := by omega
    have hw1 : IntKind.u32.wrap ((c : Int) * 256) = ((c * 256 : Nat) : Int) := by simp [IntKind.wrap, IntKind.bits, IntKind.signed]; omega
    have hw3 : IntKind.u32.wrap (b : Int) = (b : Int) := by simp [IntKind.wrap, IntKind.bits, IntKind.signed]; omega
    have hor := or_byte c b (by omega) (by omega)
    have hnc : ((c : Int) * 256 + (b : Int)) = ((c * 256 + b : Nat) : Int) := by simp
    rw [hnc]
    generalize c * 256 + b = nc at hor hnc ⊢
    generalize c * 256 = c2 at hor hw1
    replace hnc := hide hnc
    have g1 := odds_back s [.int .u32 rng, .slice (some ⟨bb, off, none⟩) ds.length cap, .int .i64 (at_ : Int), .int .u32 (c : Int), .int .i64 err] 1 _ rfl
    have g2 := odds_back s [.int .u32 rng, .slice (some ⟨bb, off, none⟩) ds.length cap, .int .i64 (at_ : Int), .int .u32 (c : Int), .int .i64 err] 2 _ rfl
    have g3 := odds_back s [.int .u32 rng, .slice (some ⟨bb, off, none⟩) ds.length cap, .int .i64 (at_ : Int), .int .u32 (c : Int), .int .i64 err] 3 _ rfl
    have k1 := fun X : UpdT W => (((unhide hh).1.updT X).2 513 _ g1)
    have k2 := fun X : UpdT W => (((unhide hh).1.updT X).2 514 _ g2)
    replace g1 := hide g1
    replace g2 := hide g2
    replace g3 := hide g3
    clear hl hcl
    go_enter Try.func90, Try.ntmps90
    go_wp2_with fail
    refine wq_region_tail 9 (by kernel_rfl) (by kernel_rfl) ?_
    simp only [List.take_succ_cons, List.take_zero, List.drop_succ_cons, List.drop_zero]
    iterate 9
      refine WQ.step (fun K hK => ?_)
      go_simp
      refine hK _ ?_
      clear hK K
    refine WQ.nil ?_
    rintro _ ⟨X, rfl⟩
    clear k1 k2
    have hX := X.upd
    generalize X.to = wt at hX ⊢
    have hh2 := hide ((unhide hh).keep hX)
    have hu : Hid (UpdR g W wt) := hide (updR_in hX)
    have hby2 : Hid (bb < wt.heap.size ∧ wt.cell? ⟨bb, off + at_, none⟩ = some (.int .u8 (b : Int))) := hide ⟨Nat.lt_of_lt_of_le hbl hX.size, (hX.none.cell (by simpa using hbl)).trans hbyte⟩
    clear hX hh hbyte
    go_wp2_with fail
    have k1 := fun X : UpdT wt => (((unhide hh2).1.updT X).2 513 _ (unhide g1))
    have k2 := fun X : UpdT wt => (((unhide hh2).1.updT X).2 514 _ (unhide g2))
    have k3 := fun X : UpdT wt => (((unhide hh2).1.updT X).2 515 _ (unhide g3))
    have kb := fun X : UpdT wt => ((X.upd.none.cell (p := ⟨bb, off + at_, none⟩) (unhide hby2).1).trans (unhide hby2).2)
    refine wq_region_tail 20 (by kernel_rfl) (by kernel_rfl) ?_
    simp only [List.take_succ_cons, List.take_zero, List.drop_succ_cons, List.drop_zero]
    iterate 20
      refine WQ.step (fun K hK => ?_)
      go_simp
      refine hK _ ?_
      clear hK K
    refine WQ.nil ?_
    rintro _ ⟨X, rfl⟩
    clear k1 k2 k3 kb
    have hX := X.upd
    generalize X.to = wx at hX ⊢
    have hh3 := (unhide hh2).keep hX
    have e2 : wx.cell? ⟨g, 515, none⟩ = some (.int .u32 (c : Int)) := hh3.back 3 _ rfl
    have f2 := hh3.frozen 515
    have hh4 := hide (show OdAt (wx.setCell ⟨g, 515, none⟩ (.int .u32 (nc : Int))) g s [.int .u32 rng, .slice (some ⟨bb, off, none⟩) ds.length cap, .int .i64 (at_ : Int), .int .u32 (nc : Int), .int .i64 err] from hh3.setBack 3 (by simp) (.int .u32 (nc : Int)))
    have hu4 := hide (((unhide hu).trans (updR_in hX)).trans (updR_set wx g 515 (.int .u32 (nc : Int))))
    clear hX hh2 hh3 hu hby2
    go_upto_region 3 with fail
    generalize wx.setCell ⟨g, 515, none⟩ (.int .u32 (nc : Int)) = w5 at hh4 hu4 ⊢
    clear e2 f2
    have e1 : w5.cell? ⟨g, 514, none⟩ = some (.int .i64 (at_ : Int)) := (unhide hh4).back 2 _ rfl
    have f1 := (unhide hh4).frozen 514
    have hh5 := hide (show OdAt (w5.setCell ⟨g, 514, none⟩ (.int .i64 ((at_ : Int) + 1))) g s [.int .u32 rng, .slice (some ⟨bb, off, none⟩) ds.length cap, .int .i64 ((at_ : Int) + 1), .int .u32 (nc : Int), .int .i64 err] from (unhide hh4).setBack 2 (by simp) (.int .i64 ((at_ : Int) + 1)))
    have hu5 := hide ((unhide hu4).trans (updR_set w5 g 514 (.int .i64 ((at_ : Int) + 1))))
    clear hh4 hu4
    go_wp2
    go_end0
    exact ⟨rfl, unhide hh5, unhide hu5⟩
end Go.Proofs.Ytpofmcepjmbmcaa

/- Odds: the program's reader of one bit. -/
namespace Go.Proofs.Ytpofmcepjmbmcaa
open Go.RowKit

def rngLeftR (wr : World) (g : Nat) : Nat := match wr.cell? ⟨g, 512, none⟩ with | some (.int _ n) => if n < 16777216 then 1 else 0 | _ => 0
theorem rngLeftR_of {wr : World} {g : Nat} {s : Int → Int} {rng : Int} {tl : List Value} (h : OdAt wr g s (.int .u32 rng :: tl)) : rngLeftR wr g = if rng < 16777216 then 1 else 0 := by
  have c : wr.cell? ⟨g, 512, none⟩ = some (.int .u32 rng) := h.back 0 _ rfl
  unfold rngLeftR; rw [c]
theorem upd_in {g : Nat} {w w' : World} (u : Upd 0 0 w w') : Upd g (g + 1) w w' := ⟨u.os, u.tape, u.output, u.size, fun k hk _ => u.block k hk (.inr (Nat.zero_le _))⟩
set_option maxHeartbeats 4000000 in
theorem implTakeBad (g : Nat) (s : Int → Int) (dv : Value) (r : Rd) (p : Int) (W : World) (h : RrAt W g s dv r) (he : r.err ≠ 0) :
    Calls Try.prog 47 #[.pointer (some ⟨g, 0, none⟩), .int .i64 p] W fun e w' => e = .returned (.int .i64 0) ∧ w' = W := by
  have e5 : W.cell? ⟨g, 516, none⟩ = some (.int .i64 r.err) := h.back 4 _ rfl
  have t : (r.err != 0) = true := by simpa using he
  generalize r.err = e at e5 t
  clear h he
  go_enter Try.func47, Try.ntmps47
  go_wp2
  go_ret
  exact ⟨rfl, rfl⟩
set_option maxHeartbeats 32000000 in
set_option maxRecDepth 100000 in
theorem implTake (g : Nat) (ad : Option Addr) (cap : Nat) (ds : List Int) (s : Int → Int) (r : Rd) (p : Nat) (W : World) (h : RrAt W g s (.slice ad ds.length cap) r) (hr : RdOk ds r) (he : r.err = 0) (hs : SOk s) (hp : p < 512)
    (hA : ∀ X, Upd g (g + 1) W X → ArgY X ad ds) (hd : ByteOk ds) (hn : ds.length ≤ 1048576) :
    Calls Try.prog 47 #[.pointer (some ⟨g, 0, none⟩), .int .i64 (p : Int)] W fun e w' => e = .returned (.int .i64 (bitOf r (s p))) ∧ RrAt w' g (oddsSet s ((p : Int), bitOf r (s p))) (.slice ad ds.length cap) (takeR ds r (s p)) ∧ Upd g (g + 1) W w' := by
  obtain ⟨b1, b2, b3, b4, b5, b6⟩ := halfR_bd ds r (s p) hr he (hs p)
  have ha := hr.at0
  have hco := hr.code0
  have hc1 := hr.code1
  obtain ⟨g0, g1⟩ := hr.good he
  have hr1 := hr.rng1
  have hsp := split_bd r.rng (s p) (hs p) g0
  have htk : takeR ds r (s p) = wideR ds (halfR r (s p)) := rfl
  rw [htk]
  have hhf : halfR r (s p) = if r.code < splitF r.rng (s p) then ⟨splitF r.rng (s p), r.code, r.at_, r.err⟩ else ⟨r.rng - splitF r.rng (s p), r.code - splitF r.rng (s p), r.at_, r.err⟩ := rfl
  have hbt : bitOf r (s p) = if r.code < splitF r.rng (s p) then 0 else 1 := rfl
  have hSpl := hide (fun X tl (hX : OdAt X g s (.int .u32 r.rng :: tl)) => implSplit g p s r.rng tl X hX hp hs g0 hr1)
  have hNar := hide (fun b X tl (hX : OdAt X g s (.int .u32 r.rng :: tl)) => implNarrow g p b s r.rng (splitF r.rng (s p)) tl X hX hp hs hr1 (by omega) (by omega))
  generalize halfR r (s p) = r1 at b1 b2 b3 b4 b5 b6 hhf ⊢
  generalize bitOf r (s p) = bt at hbt ⊢
  generalize splitF r.rng (s p) = sv at hsp hhf hbt hSpl hNar
  clear htk hr hs
  obtain ⟨rng, code, at_, err⟩ := r
  simp only at ha hco hc1 he g0 g1 hr1 hsp hhf hbt b5 hSpl hNar
  subst he
  have hh := hide (show OdAt W g s [.int .u32 rng, .slice ad ds.length cap, .int .i64 (at_ : Int), .int .u32 code, .int .i64 0] from h)
  have e5 : W.cell? ⟨g, 516, none⟩ = some (.int .i64 0) := (unhide hh).back 4 _ rfl
  have hgW := (unhide hh).lt
  replace hA := hide hA
  replace hd := hide hd
  clear h
  go_enter Try.func47, Try.ntmps47
  go_wp2_with fail
  refine (unhide hSpl W _ (unhide hh)).mono ?_
  rintro e w1 ⟨rfl, hu1⟩
  have hh1 := (unhide hh).keep hu1
  have hgc := hh1.lt
  have hcW := hu1.size
  have hal := Upd.of_below ((Below.refl w1.heap.size w1).alloc (Nat.le_refl _) (.cells #[.int .i64 (p : Int), .int .i64 0] 31)) 0 0
  have hcc := hide (heldF_new w1 [.int .i64 (p : Int), .int .i64 0] 31)
  have hh2 := hide (hh1.keep hal)
  have hk2 := hide (upd_in (g := g) (hu1.trans hal))
  clear hu1 hh1 hal hh hSpl e5
  go_upto_region 4 with fail
  simp only [List.toArray] at hcc
  generalize w1.alloc (.cells #[.int .i64 (p : Int), .int .i64 0] 31) = w2 at hcc hh2 hk2 ⊢
  generalize w1.heap.size = c at hcc hgc hcW ⊢
  have e3 : w2.cell? ⟨g, 515, none⟩ = some (.int .u32 code) := (unhide hh2).back 3 _ rfl
  have f3 := (unhide hh2).frozen 515
  by_cases hc : code < sv
  · have t : decide (sv ≤ code) = false := decide_eq_false (by omega)
    rw [if_pos hc] at hhf hbt
    have hR := hide hhf
    have hB := hide hbt
    clear hhf hbt hc
    go_upto_region 7 with fail
    generalize hww : w2 = w3 at hh2 hcc hk2 ⊢
    clear hww
    have hh3 := hh2
    have hcc3 := hcc
    have hk3 := hk2
    clear hh2 hcc hk2
    clear e3 f3
    have k0 := fun X : UpdT w3 => (((unhide hcc3).1.updT X).2 0 _ rfl)
    have k1 := fun X : UpdT w3 => (((unhide hcc3).1.updT X).2 1 _ rfl)
    go_wp2_with fail
    refine wq_region_tail 5 (by kernel_rfl) (by kernel_rfl) ?_
    simp only [List.take_succ_cons, List.take_zero, List.drop_succ_cons, List.drop_zero]
    iterate 5
      refine WQ.step (fun K hK => ?_)
      go_simp
      refine hK _ ?_
      clear hK K
    refine WQ.nil ?_
    rintro _ ⟨X, rfl⟩
    clear k0 k1
    have hX := X.upd
    generalize X.to = w4 at hX ⊢
    have hh4 := (unhide hh3).keep hX
    have hcc4 := (unhide hcc3).keep hX
    have hk4 := (unhide hk3).trans (upd_in (g := g) hX)
    clear hX hh3 hcc3 hk3
    go_wp2_with fail
    refine (unhide hNar 0 w4 _ hh4).mono ?_
    rintro e w5 ⟨rfl, hh5, hu5⟩
    have hcc5 := hide (hcc4.upd hu5 (by omega))
    have hk5 := hide (hk4.trans hu5)
    have hIn : Hid (RrAt w5 g (oddsSet s ((p : Int), 0)) (.slice ad ds.length cap) r1) := hide (by
      rw [unhide hR]; exact hh5)
    clear hu5 hk4 hcc4 hh4 hh5 hNar
    obtain ⟨s2, hs2⟩ : ∃ s2, oddsSet s ((p : Int), 0) = s2 := ⟨_, rfl⟩
    rw [hs2] at hIn
    replace hs2 := hide hs2
    go_wp2_with fail
    go_loopw [40] (fun _ wr => ∃ (rr : Rd), (rr = r1 ∨ (r1.rng < 16777216 ∧ rr = wideR ds r1)) ∧ Hid (RrAt wr g s2 (.slice ad ds.length cap) rr) ∧ Hid (HeldF wr c [.int .i64 (p : Int), .int .i64 0]) ∧ Hid (Upd g (g + 1) W wr)) (fun _ wr => rngLeftR wr g)
    case atStart => exact ⟨r1, .inl rfl, hIn, hcc5, hk5⟩
    case round =>
      clear hIn hcc5 hk5
      obtain ⟨rr, hrr, hO, hch, hkp⟩ := hrel
      have hm0 := hide (rngLeftR_of (unhide hO))
      by_cases hlt : r1.rng < 16777216
      · rcases hrr with rfl | ⟨_, rfl⟩
        · have hwd : Hid (byteF ds ⟨rr.rng * 256, rr.code, rr.at_, rr.err⟩ = wideR ds rr) := hide (by unfold wideR; rw [if_pos hlt])
          have hwl : Hid (rngLeftR wr g = 1) := hide (by rw [unhide hm0, if_pos hlt])
          have hw2 : Hid (16777216 ≤ (wideR ds rr).rng) := hide (by unfold wideR; rw [if_pos hlt]; unfold byteF; split <;> (simp only; omega))
          have hWy := hide (implWidenYes g s2 rr.rng _ wr (unhide hO) (by omega) hlt)
          have hcl : rr.code ≤ 16777215 := by omega
          have hltH := hide hlt
          have b6H := hide b6
          have hb5 : rr.at_ ≤ ds.length := by omega
          clear hm0 hlt b6
          go_wp2_with fail
          refine (unhide hWy).mono ?_
          rintro e w6 ⟨rfl, ho6, hu6⟩
          have hO6 := hide (show RrAt w6 g s2 (.slice ad ds.length cap) ⟨rr.rng * 256, rr.code, rr.at_, rr.err⟩ from ho6)
          have hch6 := hide ((unhide hch).upd hu6 (by omega))
          have hk6 := hide ((unhide hkp).trans hu6)
          clear ho6 hu6 hO hch hkp hWy
          have hBy := hide (implRShift g s2 ad cap ds _ w6 (unhide hO6) (unhide hA _ (unhide hk6)) (unhide hd) hn hb5 b3 (.inl hcl) (.inl (unhide b6H)))
          rw [unhide hwd] at hBy
          go_wp2_with fail
          refine (unhide hBy).mono ?_
          rintro e w7 ⟨rfl, hO7, hu7r⟩
          have hu7 := hu7r.u
          have hch7 := hide ((unhide hch6).upd hu7 (by omega))
          have hk7 := hide ((unhide hk6).trans hu7)
          have hmm : Hid (rngLeftR w7 g = 0) := hide (by rw [rngLeftR_of hO7, if_neg (Int.not_lt.2 (unhide hw2))])
          replace hO7 := hide hO7
          have b6 := unhide b6H
          clear hu7 hu7r hO6 hch6 hk6 hBy hw2 hwd
          go_wp2_with fail
          go_roundw
          case rel => exact ⟨wideR ds rr, .inr ⟨unhide hltH, rfl⟩, hO7, hch7, hk7⟩
          case measure => rw [unhide hmm, unhide hwl]; omega
        · have hw2 : 16777216 ≤ (wideR ds r1).rng := by unfold wideR; rw [if_pos hlt]; unfold byteF; split <;> (simp only; omega)
          have hWn := hide (implWidenNo g s2 _ _ wr (unhide hO) hw2)
          have d1 := (unhide hch).1.2 1 _ rfl
          clear hm0 hlt hw2
          go_wp2_with fail
          refine (unhide hWn).mono ?_
          rintro e w6 ⟨rfl, hw6⟩
          obtain rfl : wr = w6 := hw6.symm
          clear hWn
          go_wp2
          go_ret
          exact ⟨by rw [unhide hB]; rfl, by rw [unhide hB, unhide hs2]; exact unhide hO, unhide hkp⟩
      · have hrr2 : rr = r1 := by
          rcases hrr with h | ⟨h, _⟩
          · exact h
          · exact absurd h hlt
        subst hrr2
        have hwd : Hid (wideR ds rr = rr) := hide (by unfold wideR; rw [if_neg hlt])
        have hWn := hide (implWidenNo g s2 _ _ wr (unhide hO) (by omega))
        have d1 := (unhide hch).1.2 1 _ rfl
        clear hm0 hlt hrr
        go_wp2_with fail
        refine (unhide hWn).mono ?_
        rintro e w6 ⟨rfl, hw6⟩
        obtain rfl : wr = w6 := hw6.symm
        clear hWn
        go_wp2
        go_ret
        exact ⟨by rw [unhide hB]; rfl, by rw [unhide hwd, unhide hB, unhide hs2]; exact unhide hO, unhide hkp⟩
  · have t : decide (sv ≤ code) = true := decide_eq_true (by omega)
    rw [if_neg hc] at hhf hbt
    have hR := hide hhf
    have hB := hide hbt
    have hwc : IntKind.u32.wrap (code - sv) = code - sv := by simp [IntKind.wrap, IntKind.bits, IntKind.signed]; omega
    have d1 := (unhide hcc).1.2 1 _ rfl
    have f1 := (unhide hcc).2 1
    clear hhf hbt hc
    go_upto_region 6 with fail
    have hcc2 := hide (show HeldF (w2.setCell ⟨c, 1, none⟩ (.int .i64 1)) c [.int .i64 (p : Int), .int .i64 1] from (unhide hcc).set 1 (.int .i64 1) (by simp))
    have hh2b := hide ((unhide hh2).other (g' := c) (by omega) 1 (.int .i64 1))
    have hk2b : Hid (Upd g (g + 1) W (w2.setCell ⟨c, 1, none⟩ (.int .i64 1))) := hide ⟨(unhide hk2).os, (unhide hk2).tape, (unhide hk2).output, by have := (unhide hk2).size; simpa using this, fun k hk hkk => (Below.heap_setCell w2 ⟨c, 1, none⟩ (.int .i64 1) k (by simp; omega)).trans ((unhide hk2).block k hk hkk)⟩
    clear hcc hh2 hk2 d1 f1 e3 f3
    generalize w2.setCell ⟨c, 1, none⟩ (.int .i64 1) = w2b at hcc2 hh2b hk2b ⊢
    have e3 : w2b.cell? ⟨g, 515, none⟩ = some (.int .u32 code) := (unhide hh2b).back 3 _ rfl
    have f3 := (unhide hh2b).frozen 515
    go_upto_region 7 with fail
    have hh3 := hide (show OdAt (w2b.setCell ⟨g, 515, none⟩ (.int .u32 (code - sv))) g s [.int .u32 rng, .slice ad ds.length cap, .int .i64 (at_ : Int), .int .u32 (code - sv), .int .i64 0] from (unhide hh2b).setBack 3 (by simp) (.int .u32 (code - sv)))
    have hcc3 := hide ((unhide hcc2).other (g' := g) (by omega) 515 (.int .u32 (code - sv)))
    have hk3 := hide ((unhide hk2b).trans (upd_setCell w2b g 515 (.int .u32 (code - sv))))
    clear hh2b hcc2 hk2b
    generalize w2b.setCell ⟨g, 515, none⟩ (.int .u32 (code - sv)) = w3 at hh3 hcc3 hk3 ⊢
    clear e3 f3
    have k0 := fun X : UpdT w3 => (((unhide hcc3).1.updT X).2 0 _ rfl)
    have k1 := fun X : UpdT w3 => (((unhide hcc3).1.updT X).2 1 _ rfl)
    go_wp2_with fail
    refine wq_region_tail 5 (by kernel_rfl) (by kernel_rfl) ?_
    simp only [List.take_succ_cons, List.take_zero, List.drop_succ_cons, List.drop_zero]
    iterate 5
      refine WQ.step (fun K hK => ?_)
      go_simp
      refine hK _ ?_
      clear hK K
    refine WQ.nil ?_
    rintro _ ⟨X, rfl⟩
    clear k0 k1
    have hX := X.upd
    generalize X.to = w4 at hX ⊢
    have hh4 := (unhide hh3).keep hX
    have hcc4 := (unhide hcc3).keep hX
    have hk4 := (unhide hk3).trans (upd_in (g := g) hX)
    clear hX hh3 hcc3 hk3
    go_wp2_with fail
    refine (unhide hNar 1 w4 _ hh4).mono ?_
    rintro e w5 ⟨rfl, hh5, hu5⟩
    have hcc5 := hide (hcc4.upd hu5 (by omega))
    have hk5 := hide (hk4.trans hu5)
    have hIn : Hid (RrAt w5 g (oddsSet s ((p : Int), 1)) (.slice ad ds.length cap) r1) := hide (by
      rw [unhide hR]; exact hh5)
    clear hu5 hk4 hcc4 hh4 hh5 hNar
    obtain ⟨s2, hs2⟩ : ∃ s2, oddsSet s ((p : Int), 1) = s2 := ⟨_, rfl⟩
    rw [hs2] at hIn
    replace hs2 := hide hs2
    go_wp2_with fail
    go_loopw [40] (fun _ wr => ∃ (rr : Rd), (rr = r1 ∨ (r1.rng < 16777216 ∧ rr = wideR ds r1)) ∧ Hid (RrAt wr g s2 (.slice ad ds.length cap) rr) ∧ Hid (HeldF wr c [.int .i64 (p : Int), .int .i64 1]) ∧ Hid (Upd g (g + 1) W wr)) (fun _ wr => rngLeftR wr g)
    case atStart => exact ⟨r1, .inl rfl, hIn, hcc5, hk5⟩
    case round =>
      clear hIn hcc5 hk5
      obtain ⟨rr, hrr, hO, hch, hkp⟩ := hrel
      have hm0 := hide (rngLeftR_of (unhide hO))
      by_cases hlt : r1.rng < 16777216
      · rcases hrr with rfl | ⟨_, rfl⟩
        · have hwd : Hid (byteF ds ⟨rr.rng * 256, rr.code, rr.at_, rr.err⟩ = wideR ds rr) := hide (by unfold wideR; rw [if_pos hlt])
          have hwl : Hid (rngLeftR wr g = 1) := hide (by rw [unhide hm0, if_pos hlt])
          have hw2 : Hid (16777216 ≤ (wideR ds rr).rng) := hide (by unfold wideR; rw [if_pos hlt]; unfold byteF; split <;> (simp only; omega))
          have hWy := hide (implWidenYes g s2 rr.rng _ wr (unhide hO) (by omega) hlt)
          have hcl : rr.code ≤ 16777215 := by omega
          have hltH := hide hlt
          have b6H := hide b6
          have hb5 : rr.at_ ≤ ds.length := by omega
          clear hm0 hlt b6
          go_wp2_with fail
          refine (unhide hWy).mono ?_
          rintro e w6 ⟨rfl, ho6, hu6⟩
          have hO6 := hide (show RrAt w6 g s2 (.slice ad ds.length cap) ⟨rr.rng * 256, rr.code, rr.at_, rr.err⟩ from ho6)
          have hch6 := hide ((unhide hch).upd hu6 (by omega))
          have hk6 := hide ((unhide hkp).trans hu6)
          clear ho6 hu6 hO hch hkp hWy
          have hBy := hide (implRShift g s2 ad cap ds _ w6 (unhide hO6) (unhide hA _ (unhide hk6)) (unhide hd) hn hb5 b3 (.inl hcl) (.inl (unhide b6H)))
          rw [unhide hwd] at hBy
          go_wp2_with fail
          refine (unhide hBy).mono ?_
          rintro e w7 ⟨rfl, hO7, hu7r⟩
          have hu7 := hu7r.u
          have hch7 := hide ((unhide hch6).upd hu7 (by omega))
          have hk7 := hide ((unhide hk6).trans hu7)
          have hmm : Hid (rngLeftR w7 g = 0) := hide (by rw [rngLeftR_of hO7, if_neg (Int.not_lt.2 (unhide hw2))])
          replace hO7 := hide hO7
          have b6 := unhide b6H
          clear hu7 hu7r hO6 hch6 hk6 hBy hw2 hwd
          go_wp2_with fail
          go_roundw
          case rel => exact ⟨wideR ds rr, .inr ⟨unhide hltH, rfl⟩, hO7, hch7, hk7⟩
          case measure => rw [unhide hmm, unhide hwl]; omega
        · have hw2 : 16777216 ≤ (wideR ds r1).rng := by unfold wideR; rw [if_pos hlt]; unfold byteF; split <;> (simp only; omega)
          have hWn := hide (implWidenNo g s2 _ _ wr (unhide hO) hw2)
          have d1 := (unhide hch).1.2 1 _ rfl
          clear hm0 hlt hw2
          go_wp2_with fail
          refine (unhide hWn).mono ?_
          rintro e w6 ⟨rfl, hw6⟩
          obtain rfl : wr = w6 := hw6.symm
          clear hWn
          go_wp2
          go_ret
          exact ⟨by rw [unhide hB]; rfl, by rw [unhide hB, unhide hs2]; exact unhide hO, unhide hkp⟩
      · have hrr2 : rr = r1 := by
          rcases hrr with h | ⟨h, _⟩
          · exact h
          · exact absurd h hlt
        subst hrr2
        have hwd : Hid (wideR ds rr = rr) := hide (by unfold wideR; rw [if_neg hlt])
        have hWn := hide (implWidenNo g s2 _ _ wr (unhide hO) (by omega))
        have d1 := (unhide hch).1.2 1 _ rfl
        clear hm0 hlt hrr
        go_wp2_with fail
        refine (unhide hWn).mono ?_
        rintro e w6 ⟨rfl, hw6⟩
        obtain rfl : wr = w6 := hw6.symm
        clear hWn
        go_wp2
        go_ret
        exact ⟨by rw [unhide hB]; rfl, by rw [unhide hwd, unhide hB, unhide hs2]; exact unhide hO, unhide hkp⟩
end Go.Proofs.Ytpofmcepjmbmcaa

/- The program's reader of odds, built. -/
namespace Go.Proofs.Ytpofmcepjmbmcaa
open Go.RowKit

theorem fill_head (L M T : List Value) (m : Nat) (hL : L.length = m) (hM : M.length = m) (a b : Value) (hb : b.cells = [b].toArray) (place : Nat → Option (Nat × Nat)) (h0 : place 0 = some (0, m)) (h1 : place 1 = some (m, 1)) :
    Instr.fill place (L ++ a :: T).toArray [(0, .agg M.toArray), (1, b)] = some (M ++ b :: T).toArray := by
  rw [fill_step (xs := M) (off := 0) rfl (by rw [h0, hM]) (by simp; omega)]
  rw [List.take_zero, List.nil_append, Nat.zero_add, hM, ← hL, List.drop_left]
  rw [fill_step (xs := [b]) (off := m) hb h1 (by simp; omega), fillOne]
  rw [List.take_left' hM]
  have hd : (M ++ a :: T).drop (m + [b].length) = T := by
    show List.drop (m + 1) _ = _
    rw [← hM, ← List.drop_drop, List.drop_left]; rfl
  rw [hd, List.append_assoc]; rfl
theorem infoRd : (Try.prog.info? 74).map (fun i => (i.zero, i.size)) = some (some (.agg ((List.replicate 512 (Value.int .u16 0) ++ [Value.int .u32 0]) ++ [Value.slice none 0 0, Value.int .i64 0, Value.int .u32 0, Value.int .i64 0]).toArray), 517) := by kernel_rfl
theorem sizeRd : (Try.prog.info? 74).map (·.size) = some 517 := (zero_of_info infoRd).2
theorem builtRd (s : Int → Int) (n : Int) (ad : Option Addr) (l c : Nat) : Try.prog.built 74 [(0, .agg (rngV s n).toArray), (1, .slice ad l c)] = some (oddsV s ++ [Value.int .u32 n, Value.slice ad l c, Value.int .i64 0, Value.int .u32 0, Value.int .i64 0]).toArray := by
  obtain ⟨it, h1, h2⟩ := info_at infoRd
  rw [built_struct (places := [(0, 513), (513, 1), (514, 1), (515, 1), (516, 1)]) h1 h2 Try.underlying74 (by kernel_rfl)]
  refine (fill_head _ (rngV s n) _ 513 (by rw [List.length_append, List.length_replicate]; rfl) (rngV_len s n) _ _ rfl _ rfl rfl).trans ?_
  unfold rngV
  rw [List.append_assoc]; rfl
end Go.Proofs.Ytpofmcepjmbmcaa

/- Odds: the program's reader opened. -/
namespace Go.Proofs.Ytpofmcepjmbmcaa
open Go.RowKit

def rdV (s : Int → Int) (dv : Value) (r : Rd) : List Value := oddsV s ++ [.int .u32 r.rng, dv, .int .i64 (r.at_ : Int), .int .u32 r.code, .int .i64 r.err]
theorem rdV_len (s : Int → Int) (dv : Value) (r : Rd) : (rdV s dv r).length = 517 := by simp [rdV]
theorem odAt_rowH {W : World} {g : Nat} {s : Int → Int} {t : TypeId} {rest : List Value} (h : W.heap[g]? = some (.cells (oddsV s ++ rest).toArray t (0, 0))) : OdAt W g s rest := by
  refine ⟨⟨(Array.getElem?_eq_some_iff.1 h).1, fun j v hj => ?_⟩, fun j => frozen_of_row _ _ _ _ _ h⟩
  rw [cell_of_row _ _ _ _ _ _ h, List.getElem?_toArray]
  exact hj
/-- A row of cells that are all known. -/
theorem row_known {W : World} {g : Nat} {t : TypeId} {L : List Value} (h : HeldF W g L) (hr : RowOf W g t L.length) : W.heap[g]? = some (.cells L.toArray t (0, 0)) := by
  obtain ⟨cs, h1, h2⟩ := hr
  rw [h1]
  have e : cs = L.toArray := by
    apply Array.ext_getElem?
    intro j
    by_cases hj : j < L.length
    · have hc := h.1.2 j _ (List.getElem?_eq_getElem hj)
      rw [cell_of_row _ _ _ _ _ _ h1] at hc
      rw [hc, List.getElem?_toArray, List.getElem?_eq_getElem hj]
    · rw [Array.getElem?_eq_none (by omega), List.getElem?_toArray, List.getElem?_eq_none (by omega)]
  rw [e]
set_option maxHeartbeats 16000000 in
set_option maxRecDepth 1000000 in
theorem implReadOdds (ad : Option Addr) (cap : Nat) (ds : List Int) (w : World) (hA : ArgY w ad ds) (hd : ByteOk ds) (hn : ds.length ≤ 1048576) :
    Calls Try.prog 46 #[.slice ad ds.length cap] w fun e w' => e = .returned (.agg (rdV odds0 (.slice ad ds.length cap) (openR ds)).toArray) ∧ Upd 0 0 w w' := by
  obtain ⟨z, hz0, hz⟩ : ∃ z : Array Value, z.size = 517 ∧ ∀ w, (zeroValue 74).run Try.prog w = .ok (.agg z) w := ⟨_, by rw [List.size_toArray, List.length_append, List.length_append, List.length_replicate]; rfl, (zero_of_info infoRd).1⟩
  have hok := hide (openK_ok ds hd)
  have hS := hide (fun X => implStartRange X)
  obtain ⟨R, hRR⟩ : ∃ R, (rdV odds0 (.slice ad ds.length cap) rd0).toArray = R := ⟨_, rfl⟩
  have hRl : R.size = 517 := by rw [← hRR, List.size_toArray, rdV_len]
  have hbt := hide (show Try.prog.built 74 [(0, .agg rng0.toArray), (1, .slice ad ds.length cap)] = some R from (builtRd odds0 4294967295 ad ds.length cap).trans (by rw [← hRR]; rfl))
  have hoV : ∀ v ∈ (rdV odds0 (.slice ad ds.length cap) rd0), v.oneCell' = true := by
    intro v hv
    have h := oneRow odds0 [.int .u32 4294967295, .slice ad ds.length cap, .int .i64 0, .int .u32 0, .int .i64 0] (fun v hv => by simp only [List.mem_cons, List.not_mem_nil, or_false] at hv; rcases hv with rfl | rfl | rfl | rfl | rfl <;> rfl)
    rw [Array.all_eq_true_iff_forall_mem] at h
    exact h v (by simpa [rdV, rd0] using hv)
  have hone : Hid (R.all (·.oneCell') = true) := hide (by
    rw [← hRR, Array.all_eq_true_iff_forall_mem]
    intro v hv
    exact hoV v (by simpa using hv))
  have hcs : Hid ((Try.prog.info? 74).map (·.size) = some R.size) := hide (sizeRd.trans (by rw [hRl]))
  have hcz : Hid (z.size = R.size) := hide (hz0.trans hRl.symm)
  clear hoV hRl
  replace hRR := hide hRR
  generalize hrr : rng0.toArray = RR at hS hbt
  have hB0 := hide ((Below.refl w.heap.size w).alloc (Nat.le_refl _) (.cells z 74))
  have hr0 := hide (heap_alloc_new w (.cells z 74))
  have hz517 := hide hz0
  clear hrr hz0
  replace hA := hide hA
  replace hd := hide hd
  go_enter Try.func46, Try.ntmps46
  go_wp2_with fail
  generalize w.alloc (.cells z 74) = w0 at hB0 hr0 ⊢
  refine (unhide hS _).mono ?_
  rintro e w1 ⟨rfl, hu1⟩
  have hlt0 := (Array.getElem?_eq_some_iff.1 (unhide hr0)).1
  have hr1 := hide ((hu1.block w.heap.size hlt0 (.inr (Nat.zero_le _))).trans (unhide hr0))
  have hB1 := hide (below_upd (unhide hB0) hu1 (Nat.le_refl _) (.inr (Nat.le_refl _)))
  have hs1 : w.heap.size < w1.heap.size := by have := hu1.size; omega
  clear hu1 hr0 hB0 hS hlt0
  rename_i aK
  refine aK _ _ ?_
  refine wpList_plain rfl (fun K hK => ?_)
  go_simp
  refine hK _ _ ?_
  clear hK K
  refine wpList_buildTo rfl 74 _ rfl _ rfl R ?hf ?_
  case hf =>
    simp only [List.map_toArray, List.map_cons, List.map_nil]
    exact unhide hbt
  clear aK
  go_upto_region 2 with (first | (refine wpList_store_row rfl 74 (.tmp 3) (.tmp 6) rfl w1.heap.size R rfl rfl 74 z (heap_alloc_new w1 _) (unhide hcs) (unhide hcz) (unhide hone) ?_))
  have hb3 : Below w1.heap.size w1 ((w1.alloc (.cells z 74)).setRow w1.heap.size R) := below_setRow ((Below.refl w1.heap.size w1).alloc (Nat.le_refl _) _) (Nat.le_refl _) _
  have hrow := setRow_heap (w1.alloc (.cells z 74)) w1.heap.size z R 74 (0, 0) (heap_alloc_new w1 _)
  generalize (w1.alloc (.cells z 74)).setRow w1.heap.size R = W3 at hrow hb3 ⊢
  have hr3 := hide ((hb3.block w.heap.size hs1).trans (unhide hr1))
  have hB3 := hide ((unhide hB1).trans (hb3.mono (Nat.le_of_lt hs1)))
  rw [← unhide hRR] at hrow
  have hod : Hid (RrAt W3 w1.heap.size odds0 (.slice ad ds.length cap) (openK ds 0)) := hide (odAt_rowH hrow)
  have hro : Hid (RowOf W3 w1.heap.size 74 517) := hide ⟨_, hrow, by rw [List.size_toArray, rdV_len]⟩
  generalize w1.heap.size = g at hs1 hod hro ⊢
  clear hb3 hrow hr1 hB1 hz hone hbt hRR hcs hcz
  go_wp2_with fail
  go_loopw [7] (fun i wx => ∃ m : Nat, i = .int .i64 (m : Int) ∧ m ≤ 4 ∧ Hid (RrAt wx g odds0 (.slice ad ds.length cap) (openK ds m)) ∧ Hid (RowOf wx g 74 517) ∧ Hid (wx.heap[w.heap.size]? = some (.cells z 74 (0, 0))) ∧ Hid (Below w.heap.size w wx)) (fun i _ => 4 - (intOf i).toNat)
  case atStart => exact ⟨0, rfl, by omega, hod, hro, hr3, hB3⟩
  case round =>
    clear hod hro hr3 hB3
    obtain ⟨m, rfl, hm, hod, hro, hr3, hB⟩ := hrel
    by_cases hm4 : m < 4
    · have t4 : decide ((m : Int) < 4) = true := decide_eq_true (by omega)
      obtain ⟨o1, o2, o3, o4, o5⟩ := unhide hok m (by omega)
      have o6 : (2 : Int) ^ (8 * m) ≤ 16777216 := by
        rcases (show m = 0 ∨ m = 1 ∨ m = 2 ∨ m = 3 by omega) with rfl | rfl | rfl | rfl <;> decide
      have hby := hide (implRShift g odds0 ad cap ds (openK ds m) wr (unhide hod) ((unhide hA).below (unhide hB)) (unhide hd) hn o1 o2 (.inl (by omega)) o5)
      rw [← openK_succ] at hby
      clear o1 o2 o3 o4 o5 o6
      go_wp2_with fail
      refine (unhide hby).mono ?_
      rintro e w4 ⟨rfl, hO4, hu4⟩
      have hro4 := hide (hu4.row _ _ (unhide hro))
      have hr4 := hide ((hu4.u.block w.heap.size (Array.getElem?_eq_some_iff.1 (unhide hr3)).1 (by omega)).trans (unhide hr3))
      have hB4 := hide (below_upd (unhide hB) hu4.u (Nat.le_refl _) (.inl (by omega)))
      replace hO4 := hide hO4
      clear hod hro hr3 hB hu4 hby
      go_wp2_with fail
      go_roundw
      case rel => exact ⟨m + 1, by go_num, by omega, hO4, hro4, hr4, hB4⟩
      case measure => simp [intOf]; omega
    · obtain rfl : m = 4 := by omega
      obtain ⟨o1, o2, o3, o4, o5⟩ := unhide hok 4 (by omega)
      have hE : Hid (openR ds = codeF (openK ds 4)) := hide rfl
      generalize openK ds 4 = r at hod o1 o2 o3 o4 o5 hE
      obtain ⟨rng, code, at_, err⟩ := r
      simp only at o1 o2 o3 o4 o5
      subst o4
      have hgl := (unhide hod).lt
      have e0 : wr.cell? ⟨g, 512, none⟩ = some (.int .u32 4294967295) := (unhide hod).back 0 _ rfl
      have e3 : wr.cell? ⟨g, 515, none⟩ = some (.int .u32 code) := (unhide hod).back 3 _ rfl
      have e4 : wr.cell? ⟨g, 516, none⟩ = some (.int .i64 err) := (unhide hod).back 4 _ rfl
      have f4 := (unhide hod).frozen 516
      have hne : g ≠ w.heap.size := by omega
      clear hok o3
      by_cases hbad : err = 0 ∧ 4294967295 ≤ code
      · obtain ⟨he, hc⟩ := hbad
        subst he
        have t1 : decide (4294967295 ≤ code) = true := decide_eq_true hc
        have hE2 := hide (show openR ds = ⟨4294967295, code, at_, 4⟩ by rw [unhide hE]; unfold codeF; rw [if_pos ⟨rfl, hc⟩])
        have hod5 := hide (show OdAt (wr.setCell ⟨g, 516, none⟩ (.int .i64 4)) g odds0 [.int .u32 4294967295, .slice ad ds.length cap, .int .i64 (at_ : Int), .int .u32 code, .int .i64 4] from (unhide hod).setBack 4 (by simp) (.int .i64 4))
        have hu5 := updR_set wr g 516 (.int .i64 4)
        have hro5 := hide (hu5.row _ _ (unhide hro))
        have hr5 := hide ((hu5.u.block w.heap.size (Array.getElem?_eq_some_iff.1 (unhide hr3)).1 (by omega)).trans (unhide hr3))
        have hB5 := hide (below_upd (unhide hB) hu5.u (Nat.le_refl _) (.inl (by omega)))
        clear hE hc hu5 hod hro hr3 hB
        go_upto_region 8 with fail
        generalize wr.setCell ⟨g, 516, none⟩ (.int .i64 4) = w5 at hod5 hro5 hr5 hB5 ⊢
        clear e0 e3 e4 f4
        have hfull := hide (show w5.heap[g]? = some (.cells (rdV odds0 (.slice ad ds.length cap) (openR ds)).toArray 74 (0, 0)) from row_known (by rw [unhide hE2]; exact unhide hod5) (by rw [rdV_len]; exact unhide hro5))
        have hdv : ∀ u ∈ (rdV odds0 (.slice ad ds.length cap) (openR ds)), u.oneCell' = true := by
          rw [unhide hE2]
          intro u hv
          have h := oneRow odds0 [.int .u32 4294967295, .slice ad ds.length cap, .int .i64 (at_ : Int), .int .u32 code, .int .i64 4] (fun v hv => by simp only [List.mem_cons, List.not_mem_nil, or_false] at hv; rcases hv with rfl | rfl | rfl | rfl | rfl <;> rfl)
          rw [Array.all_eq_true_iff_forall_mem] at h
          exact h u (by simpa [rdV] using hv)
        have hlen := rdV_len odds0 (.slice ad ds.length cap) (openR ds)
        obtain ⟨L, hL⟩ : ∃ L, rdV odds0 (.slice ad ds.length cap) (openR ds) = L := ⟨_, rfl⟩
        rw [hL] at hfull hdv hlen
        replace hL := hide hL
        have hLo : Hid (L.toArray.all (·.oneCell') = true) := hide (by rw [Array.all_eq_true_iff_forall_mem]; intro v hv; exact hdv v (by simpa using hv))
        have hLs : Hid ((Try.prog.info? 74).map (·.size) = some L.toArray.size) := hide (sizeRd.trans (by rw [List.size_toArray, hlen]))
        have hLz : Hid (z.size = L.toArray.size) := hide ((unhide hz517).trans (by rw [List.size_toArray, hlen]))
        clear hdv hlen hod5 hro5 hE2
        go_wp2_with fail
        refine wp_load_row 74 (.tmp 3) rfl g rfl 74 L.toArray (0, 0) _ (unhide hfull) Try.underlying74 rfl (unhide hLs) ?_
        rename_i aK
        refine aK _ _ ?_
        refine wpList_store_row rfl 74 (.tmp 2) (.tmp 23) rfl w.heap.size L.toArray rfl rfl 74 z (unhide hr5) (unhide hLs) (unhide hLz) (unhide hLo) ?_
        have hres := hide (setRow_heap w5 w.heap.size z L.toArray 74 (0, 0) (unhide hr5))
        have hb6 := hide (below_setRow (unhide hB5) (Nat.le_refl _) L.toArray)
        generalize w5.setRow w.heap.size L.toArray = w6 at hres hb6 ⊢
        clear hr5 hB5 hfull aK
        go_wp2_with fail
        refine bodyPost_ret (v := .agg L.toArray) (results_cell_row rfl _ _ w.heap.size 74 L.toArray (0, 0) _ rfl (unhide hres) Try.underlying74 rfl (unhide hLs)) rfl ⟨by rw [unhide hL], Upd.of_below (unhide hb6) 0 0⟩
      · have hE2 := hide (show openR ds = ⟨4294967295, code, at_, err⟩ by rw [unhide hE]; unfold codeF; rw [if_neg hbad])
        have hod5 := hide (show OdAt wr g odds0 [.int .u32 4294967295, .slice ad ds.length cap, .int .i64 (at_ : Int), .int .u32 code, .int .i64 err] from unhide hod)
        have hro5 := hro
        have hr5 := hr3
        have hB5 := hB
        clear hE hod hro hr3 hB
        rcases (show err = 0 ∧ code < 4294967295 ∨ err = 2 by rcases o5 with h | h
                                                              · exact .inl ⟨h, by rcases Int.lt_or_le code 4294967295 with h2 | h2
                                                                                  · exact h2
                                                                                  · exact absurd ⟨h, h2⟩ hbad⟩
                                                              · exact .inr h) with ⟨rfl, hc⟩ | rfl
        · have t1 : decide (4294967295 ≤ code) = false := decide_eq_false (by omega)
          clear hbad hc
          go_upto_region 8 with fail
          generalize wr = w5 at hod5 hro5 hr5 hB5 ⊢
          clear e0 e3 e4 f4
          have hfull := hide (show w5.heap[g]? = some (.cells (rdV odds0 (.slice ad ds.length cap) (openR ds)).toArray 74 (0, 0)) from row_known (by rw [unhide hE2]; exact unhide hod5) (by rw [rdV_len]; exact unhide hro5))
          have hdv : ∀ u ∈ (rdV odds0 (.slice ad ds.length cap) (openR ds)), u.oneCell' = true := by
            rw [unhide hE2]
            intro u hv
            have h := oneRow odds0 [.int .u32 4294967295, .slice ad ds.length cap, .int .i64 (at_ : Int), .int .u32 code, .int .i64 0] (fun v hv => by simp only [List.mem_cons, List.not_mem_nil, or_false] at hv; rcases hv with rfl | rfl | rfl | rfl | rfl <;> rfl)
            rw [Array.all_eq_true_iff_forall_mem] at h
            exact h u (by simpa [rdV] using hv)
          have hlen := rdV_len odds0 (.slice ad ds.length cap) (openR ds)
          obtain ⟨L, hL⟩ : ∃ L, rdV odds0 (.slice ad ds.length cap) (openR ds) = L := ⟨_, rfl⟩
          rw [hL] at hfull hdv hlen
          replace hL := hide hL
          have hLo : Hid (L.toArray.all (·.oneCell') = true) := hide (by rw [Array.all_eq_true_iff_forall_mem]; intro v hv; exact hdv v (by simpa using hv))
          have hLs : Hid ((Try.prog.info? 74).map (·.size) = some L.toArray.size) := hide (sizeRd.trans (by rw [List.size_toArray, hlen]))
          have hLz : Hid (z.size = L.toArray.size) := hide ((unhide hz517).trans (by rw [List.size_toArray, hlen]))
          clear hdv hlen hod5 hro5 hE2
          go_wp2_with fail
          refine wp_load_row 74 (.tmp 3) rfl g rfl 74 L.toArray (0, 0) _ (unhide hfull) Try.underlying74 rfl (unhide hLs) ?_
          rename_i aK
          refine aK _ _ ?_
          refine wpList_store_row rfl 74 (.tmp 2) (.tmp 23) rfl w.heap.size L.toArray rfl rfl 74 z (unhide hr5) (unhide hLs) (unhide hLz) (unhide hLo) ?_
          have hres := hide (setRow_heap w5 w.heap.size z L.toArray 74 (0, 0) (unhide hr5))
          have hb6 := hide (below_setRow (unhide hB5) (Nat.le_refl _) L.toArray)
          generalize w5.setRow w.heap.size L.toArray = w6 at hres hb6 ⊢
          clear hr5 hB5 hfull aK
          go_wp2_with fail
          refine bodyPost_ret (v := .agg L.toArray) (results_cell_row rfl _ _ w.heap.size 74 L.toArray (0, 0) _ rfl (unhide hres) Try.underlying74 rfl (unhide hLs)) rfl ⟨by rw [unhide hL], Upd.of_below (unhide hb6) 0 0⟩
        · clear hbad
          go_upto_region 8 with fail
          generalize wr = w5 at hod5 hro5 hr5 hB5 ⊢
          clear e0 e3 e4 f4
          have hfull := hide (show w5.heap[g]? = some (.cells (rdV odds0 (.slice ad ds.length cap) (openR ds)).toArray 74 (0, 0)) from row_known (by rw [unhide hE2]; exact unhide hod5) (by rw [rdV_len]; exact unhide hro5))
          have hdv : ∀ u ∈ (rdV odds0 (.slice ad ds.length cap) (openR ds)), u.oneCell' = true := by
            rw [unhide hE2]
            intro u hv
            have h := oneRow odds0 [.int .u32 4294967295, .slice ad ds.length cap, .int .i64 (at_ : Int), .int .u32 code, .int .i64 2] (fun v hv => by simp only [List.mem_cons, List.not_mem_nil, or_false] at hv; rcases hv with rfl | rfl | rfl | rfl | rfl <;> rfl)
            rw [Array.all_eq_true_iff_forall_mem] at h
            exact h u (by simpa [rdV] using hv)
          have hlen := rdV_len odds0 (.slice ad ds.length cap) (openR ds)
          obtain ⟨L, hL⟩ : ∃ L, rdV odds0 (.slice ad ds.length cap) (openR ds) = L := ⟨_, rfl⟩
          rw [hL] at hfull hdv hlen
          replace hL := hide hL
          have hLo : Hid (L.toArray.all (·.oneCell') = true) := hide (by rw [Array.all_eq_true_iff_forall_mem]; intro v hv; exact hdv v (by simpa using hv))
          have hLs : Hid ((Try.prog.info? 74).map (·.size) = some L.toArray.size) := hide (sizeRd.trans (by rw [List.size_toArray, hlen]))
          have hLz : Hid (z.size = L.toArray.size) := hide ((unhide hz517).trans (by rw [List.size_toArray, hlen]))
          clear hdv hlen hod5 hro5 hE2
          go_wp2_with fail
          refine wp_load_row 74 (.tmp 3) rfl g rfl 74 L.toArray (0, 0) _ (unhide hfull) Try.underlying74 rfl (unhide hLs) ?_
          rename_i aK
          refine aK _ _ ?_
          refine wpList_store_row rfl 74 (.tmp 2) (.tmp 23) rfl w.heap.size L.toArray rfl rfl 74 z (unhide hr5) (unhide hLs) (unhide hLz) (unhide hLo) ?_
          have hres := hide (setRow_heap w5 w.heap.size z L.toArray 74 (0, 0) (unhide hr5))
          have hb6 := hide (below_setRow (unhide hB5) (Nat.le_refl _) L.toArray)
          generalize w5.setRow w.heap.size L.toArray = w6 at hres hb6 ⊢
          clear hr5 hB5 hfull aK
          go_wp2_with fail
          refine bodyPost_ret (v := .agg L.toArray) (results_cell_row rfl _ _ w.heap.size 74 L.toArray (0, 0) _ rfl (unhide hres) Try.underlying74 rfl (unhide hLs)) rfl ⟨by rw [unhide hL], Upd.of_below (unhide hb6) 0 0⟩
end Go.Proofs.Ytpofmcepjmbmcaa

/- Which lists are blocks, which are scales: the walks of both sides. -/
namespace Go.Proofs.Ytpofmcepjmbmcaa
open Go.RowKit

set_option maxHeartbeats 4000000 in
theorem implWithin (ad : Option Addr) (cap : Nat) (zs : List Int) (lo hi : Int) (w : World) (hn : zs.length ≤ 1048576) (hA : ArgI w ad zs) :
    Calls Try.prog 45 #[.slice ad zs.length cap, .int .i64 lo, .int .i64 hi] w fun e w' => e = .returned (.bool (inRB lo hi zs)) ∧ Upd 0 0 w w' := by
  replace hA := hide hA
  have hNo : Hid (∀ k, k < zs.length → ¬ (lo ≤ zs.getD k 0 ∧ zs.getD k 0 ≤ hi) → inRB lo hi zs = false) := hide (fun k hk h => inRB_no (fun h' => h (h' k hk)))
  have hYes : Hid ((∀ j, j < zs.length → (lo ≤ zs.getD j 0 ∧ zs.getD j 0 ≤ hi)) → inRB lo hi zs = true) := hide (fun h => inRB_yes h)
  go_enter Try.func45, Try.ntmps45
  go_wp2
  go_loop [11] (fun i => ∃ k : Nat, k ≤ zs.length ∧ i = .int .i64 k ∧ Hid (∀ j, j < k → (lo ≤ zs.getD j 0 ∧ zs.getD j 0 ≤ hi))) (fun i => zs.length - (intOf i).toNat)
  case atStart => exact ⟨0, Nat.zero_le _, rfl, fun j hj => by omega⟩
  case round =>
    obtain ⟨k, hk', rfl, hok⟩ := hrel
    by_cases hlt : k < zs.length
    · obtain ⟨bb, off, rfl, hbl, hcl⟩ := (unhide hA) (ne_of_lt_length hlt)
      have hck := hcl k hlt
      have hbad := hide (unhide hNo k hlt)
      have hOk : Hid ((lo ≤ zs.getD k 0 ∧ zs.getD k 0 ≤ hi) → ∀ j, j < k + 1 → (lo ≤ zs.getD j 0 ∧ zs.getD j 0 ≤ hi)) := hide (fun h j hj => by
        rcases Nat.lt_or_eq_of_le (Nat.le_of_lt_succ hj) with h' | h'
        · exact unhide hok j h'
        · subst h'; exact h)
      clear hcl hbl
      generalize zs.getD k 0 = x at hck hbad hOk
      by_cases h1 : x < lo
      · have hB := hide (unhide hbad (fun h => by have := h.1; omega))
        clear hbad hOk
        go_wp2
        go_ret
        exact ⟨by rw [unhide hB]; rfl, Upd.refl 0 0 _⟩
      · by_cases h2 : hi < x
        · have hB := hide (unhide hbad (fun h => by have := h.2; omega))
          clear hbad hOk
          go_wp2
          go_ret
          exact ⟨by rw [unhide hB]; rfl, Upd.refl 0 0 _⟩
        · have hok2 := hide (unhide hOk ⟨by omega, by omega⟩)
          clear hbad hOk
          go_wp2
          all_goals
            go_round
            case rel => exact ⟨k + 1, by omega, by go_num, unhide hok2⟩
            case measure => simp [intOf]; omega
    · have hkl : k = zs.length := by omega
      subst hkl
      have hs := hide (unhide hYes (unhide hok))
      go_wp2
      go_ret
      exact ⟨by rw [unhide hs]; rfl, Upd.refl 0 0 _⟩
end Go.Proofs.Ytpofmcepjmbmcaa

/- Odds: the program's OddsUnpack: what is refused. -/
namespace Go.Proofs.Ytpofmcepjmbmcaa
open Go.RowKit

theorem psOk_inR {p : Int} {ps : List Int} : InR 0 (p - 1) ps ↔ PsOk p ps := ⟨fun h j hj => by have := h j hj; omega, fun h j hj => by have := h j hj; omega⟩
set_option maxHeartbeats 16000000 in
set_option maxRecDepth 100000 in
theorem implOddsUnpackBad (p : Int) (v1 : Value) (ds : List Int) (ad : Option Addr) (cap : Nat) (ps : List Int) (w : World) (hp0 : -9223372036854775808 ≤ p) (hp9 : p ≤ 9223372036854775807) (hn : ps.length ≤ 1048576) (hA : ArgI w ad ps) (hbad : ¬ ((1 ≤ p ∧ p ≤ 512) ∧ ps.length ≤ 20000 ∧ PsOk p ps)) :
    Calls Try.prog 14 #[.int .i64 p, v1, .slice ad ps.length cap] w fun e w' => ∃ u, e = .returned u ∧ OwnCn w' w.heap.size w'.heap.size u (oddsUnpack p ds ps) ∧ Upd 0 0 w w' := by
  rw [unpB_no hbad]
  have hB0 := hide ((Below.refl w.heap.size w).alloc (Nat.le_refl _) (.cells #[.int .i64 0, .slice none 0 0, .int .i64 0] 33))
  have hh0 := hide (heldF_new w [.int .i64 0, .slice none 0 0, .int .i64 0] 33)
  have hE : Hid (∀ X, OwnCn X w.heap.size X.heap.size (ans0 1 0) (1, [], 0)) := hide (fun X => own_ans X _ _ 1 0)
  have hP := hide (fun X => implGoodPlaces p X)
  by_cases hpl : placesB p = true
  case neg =>
    have hpl : placesB p = false := by simpa using hpl
    rw [hpl] at hP
    clear hpl hA hbad
    go_enter Try.func14, Try.ntmps14
    go_upto_region 1 with fail
    simp only [List.toArray] at hh0
    generalize w.alloc (.cells #[.int .i64 0, .slice none 0 0, .int .i64 0] 33) = w0 at hB0 hh0 ⊢
    go_wp2_with fail
    refine (unhide hP _).mono ?_
    rintro e w1 ⟨rfl, hw1⟩
    obtain rfl : w0 = w1 := hw1.symm
    have z0 := (unhide hh0).1.2 0 _ rfl
    have z1 := (unhide hh0).1.2 1 _ rfl
    have z2 := (unhide hh0).1.2 2 _ rfl
    have y0 := (unhide hh0).2 0
    have y1 := (unhide hh0).2 1
    have y2 := (unhide hh0).2 2
    go_wp2
    refine bodyPost_ret (v := ans0 1 0) (by simp [results, Try.results14, go_sem, z0, z1, z2]) rfl ⟨_, rfl, unhide hE _, Upd.of_below ((((unhide hB0).setCell (by simp) _).setCell (by simp) _).setCell (by simp) _) 0 0⟩
  have hpp : 1 ≤ p ∧ p ≤ 512 := by unfold placesB at hpl; simpa using hpl
  rw [hpl] at hP
  clear hpl
  obtain ⟨a1, a2⟩ := hpp
  by_cases hlen : 20000 < ps.length
  · clear hA hbad
    go_enter Try.func14, Try.ntmps14
    go_upto_region 1 with fail
    simp only [List.toArray] at hh0
    generalize w.alloc (.cells #[.int .i64 0, .slice none 0 0, .int .i64 0] 33) = w0 at hB0 hh0 ⊢
    go_wp2_with fail
    refine (unhide hP _).mono ?_
    rintro e w1 ⟨rfl, hw1⟩
    obtain rfl : w0 = w1 := hw1.symm
    have z0 := (unhide hh0).1.2 0 _ rfl
    have z1 := (unhide hh0).1.2 1 _ rfl
    have z2 := (unhide hh0).1.2 2 _ rfl
    have y0 := (unhide hh0).2 0
    have y1 := (unhide hh0).2 1
    have y2 := (unhide hh0).2 2
    go_wp2
    refine bodyPost_ret (v := ans0 1 0) (by simp [results, Try.results14, go_sem, z0, z1, z2]) rfl ⟨_, rfl, unhide hE _, Upd.of_below ((((unhide hB0).setCell (by simp) _).setCell (by simp) _).setCell (by simp) _) 0 0⟩
  have hW := hide (fun X (h : ArgI X ad ps) => implWithin ad cap ps 0 (p - 1) X hn h)
  rw [inRB_no (fun h => hbad ⟨⟨a1, a2⟩, by omega, psOk_inR.1 h⟩)] at hW
  clear hbad
  replace hA := hide hA
  go_enter Try.func14, Try.ntmps14
  go_upto_region 1 with fail
  simp only [List.toArray] at hh0
  generalize w.alloc (.cells #[.int .i64 0, .slice none 0 0, .int .i64 0] 33) = w0 at hB0 hh0 ⊢
  go_wp2_with fail
  refine (unhide hP _).mono ?_
  rintro e w1 ⟨rfl, hw1⟩
  obtain rfl : w0 = w1 := hw1.symm
  go_wp2_with fail
  refine (unhide hW _ ((unhide hA).below (unhide hB0))).mono ?_
  rintro e w2 ⟨rfl, hu2⟩
  have hh2 := hide ((unhide hh0).keep hu2)
  have hB2 := hide (below_upd (unhide hB0) hu2 (Nat.le_refl _) (.inr (Nat.le_refl _)))
  clear hu2
  have z0 := (unhide hh2).1.2 0 _ rfl
  have z1 := (unhide hh2).1.2 1 _ rfl
  have z2 := (unhide hh2).1.2 2 _ rfl
  have y0 := (unhide hh2).2 0
  have y1 := (unhide hh2).2 1
  have y2 := (unhide hh2).2 2
  go_wp2
  refine bodyPost_ret (v := ans0 1 0) (by simp [results, Try.results14, go_sem, z0, z1, z2]) rfl ⟨_, rfl, unhide hE _, Upd.of_below ((((unhide hB2).setCell (by simp) _).setCell (by simp) _).setCell (by simp) _) 0 0⟩
end Go.Proofs.Ytpofmcepjmbmcaa
