/- The walk of GoodImage: the program's. -/
import Derived.Test.YthkppcncajmniaaWGiB
import Derived.Test.YthkppcncajmniaaWUpd
namespace Go.Proofs.Ythkppcncajmniaa
open Go.RowKit

set_option maxHeartbeats 8000000 in
set_option maxRecDepth 1000000 in
theorem implGoodImage (v : Value) (d : Im) (w : World) (hn : d.2.2.2.2.length ≤ 1048576) (hR : InIm d) (hv : RdIm w v d) :
    Calls Try.prog 7 #[v] w fun e w' => e = .returned (.bool (goodImB d)) ∧ Upd 0 0 w w' := by
  obtain ⟨vl, rfl, h⟩ := hv
  obtain ⟨ad, cap, rfl, hA⟩ := h
  obtain ⟨a, b, p, dp, zs⟩ := d
  simp only [ims, imv] at hn hA ⊢
  have hB := (Below.refl w.heap.size w).alloc (Nat.le_refl _) (.cells #[.int .i64 a, .int .i64 b, .int .i64 p, .int .i64 dp, .slice ad zs.length cap] 27)
  have hU := Upd.of_below hB 0 0
  have hA1 := hA.below hB
  have hH := held_new w [.int .i64 a, .int .i64 b, .int .i64 p, .int .i64 dp, .slice ad zs.length cap] 27
  have hS := hide (fun W => implGoodShape a b p dp _ ad zs.length cap W rfl)
  clear hR hA
  by_cases hsh : ShapeOk a b p dp
  case neg =>
    rw [goodImB_no (fun h => hsh h.1)]
    rw [shapeB_no hsh] at hS
    clear hsh hB hA1
    go_enter Try.func7, Try.ntmps7
    go_wp2_with fail
    generalize w.alloc (.cells #[.int .i64 a, .int .i64 b, .int .i64 p, .int .i64 dp, .slice ad zs.length cap] 27) = W at hU hH ⊢
    have c0 := fun x : UpdT W => (hH.updT x).2 0 _ rfl
    have c1 := fun x : UpdT W => (hH.updT x).2 1 _ rfl
    have c2 := fun x : UpdT W => (hH.updT x).2 2 _ rfl
    have c3 := fun x : UpdT W => (hH.updT x).2 3 _ rfl
    have c4 := fun x : UpdT W => (hH.updT x).2 4 _ rfl
    refine wp_region_upd (by kernel_rfl) (by kernel_rfl) ?_
    repeat (quiet_step ((go_at_call 13; exact Calls.updT _ (unhide hS _))))
    refine wpQuiet_nil ?_
    rintro _ ⟨x, rfl⟩
    have hx := hide (hU.trans x.upd)
    generalize x.to = W2 at hx ⊢
    go_wp2
    go_ret
    exact ⟨rfl, unhide hx⟩
  rw [shapeB_yes hsh] at hS
  obtain ⟨ha, hb, hab, hp, hdp, hpd⟩ := hsh
  obtain ⟨P, hP, P1, P2⟩ := prod_bd ha hb
  obtain ⟨Q, hQ, Q1, Q2⟩ := prod3_bd (P := P) (p := p) ⟨P1, by omega⟩ hp
  have hC := hide (fun W => implCountSamples a b p dp P Q _ ad zs.length cap W rfl hP hQ (by omega) (by omega) (by omega) (by omega))
  obtain ⟨D, rfl, hD1, hD16⟩ := depthOk_nat hdp
  have hG := hide (fun W => implGoodSamples (.slice ad zs.length cap) zs D W hD16 hn)
  have hlq : (zs.length : Int) = a * b * p ↔ (zs.length : Int) = Q := by rw [hP, hQ]
  by_cases hl : (zs.length : Int) = Q
  case neg =>
    rw [goodImB_no (fun h => hl (hlq.1 h.2.1))]
    have q1 : ((zs.length : Int) == Q) = false := beq_eq_false_iff_ne.2 hl
    clear ha hb hab hp hdp hpd hP hQ hl hlq hB hA1 hG
    go_enter Try.func7, Try.ntmps7
    go_wp2_with fail
    generalize w.alloc (.cells #[.int .i64 a, .int .i64 b, .int .i64 p, .int .i64 (D : Int), .slice ad zs.length cap] 27) = W at hU hH ⊢
    have c0 := fun x : UpdT W => (hH.updT x).2 0 _ rfl
    have c1 := fun x : UpdT W => (hH.updT x).2 1 _ rfl
    have c2 := fun x : UpdT W => (hH.updT x).2 2 _ rfl
    have c3 := fun x : UpdT W => (hH.updT x).2 3 _ rfl
    have c4 := fun x : UpdT W => (hH.updT x).2 4 _ rfl
    refine wp_region_upd (by kernel_rfl) (by kernel_rfl) ?_
    repeat (quiet_step (first | (go_at_call 13; exact Calls.updT _ (unhide hS _)) | (go_at_call 14; exact Calls.updT _ (unhide hC _))))
    refine wpQuiet_nil ?_
    rintro _ ⟨x, rfl⟩
    have hx := hide (hU.trans x.upd)
    generalize x.to = W2 at hx ⊢
    go_wp2
    go_ret
    exact ⟨rfl, unhide hx⟩
  have hgs : goodImB (a, b, p, (D : Int), zs) = smpB zs D := by
    by_cases hs : SmpOk zs D
    · rw [smpB_yes hs]; exact goodImB_yes ⟨⟨ha, hb, hab, hp, hdp, hpd⟩, hlq.2 hl, hs⟩
    · rw [smpB_no hs]; exact goodImB_no (fun h => hs h.2.2)
  rw [hgs]
  have q1 : ((zs.length : Int) == Q) = true := beq_iff_eq.2 hl
  generalize smpB zs D = r at hG ⊢
  clear ha hb hab hp hdp hpd hP hQ hlq hB hgs
  replace hl := hide hl
  go_enter Try.func7, Try.ntmps7
  go_wp2_with fail
  generalize w.alloc (.cells #[.int .i64 a, .int .i64 b, .int .i64 p, .int .i64 (D : Int), .slice ad zs.length cap] 27) = W at hU hH hA1 ⊢
  have hG2 := hide (fun x : UpdT W => unhide hG x.to ⟨ad, cap, rfl, hA1.below x.upd.none⟩)
  have c0 := fun x : UpdT W => (hH.updT x).2 0 _ rfl
  have c1 := fun x : UpdT W => (hH.updT x).2 1 _ rfl
  have c2 := fun x : UpdT W => (hH.updT x).2 2 _ rfl
  have c3 := fun x : UpdT W => (hH.updT x).2 3 _ rfl
  have c4 := fun x : UpdT W => (hH.updT x).2 4 _ rfl
  clear hA1
  refine wp_region_upd (by kernel_rfl) (by kernel_rfl) ?_
  repeat (quiet_step (first | (go_at_call 13; exact Calls.updT _ (unhide hS _)) | (go_at_call 14; exact Calls.updT _ (unhide hC _)) | (go_at_call 15; exact Calls.updT_same _ (unhide hG2 _))))
  refine wpQuiet_nil ?_
  rintro _ ⟨x, rfl⟩
  have hx := hide (hU.trans x.upd)
  generalize x.to = W2 at hx ⊢
  go_wp2
  go_ret
  exact ⟨rfl, unhide hx⟩
end Go.Proofs.Ythkppcncajmniaa
