/- The specification's Shrink. -/
import Derived.Test.YtkeplngifceegaaWShE
import Derived.Test.YtkeplngifceegaaWGpA
namespace Go.Proofs.Ytkeplngifceegaa
open Go.RowKit

set_option maxHeartbeats 8000000 in
set_option maxRecDepth 100000 in
theorem specShrink (v : Value) (d : Pl) (b : Int) (w : World) (hn : d.2.2.length ≤ 1048576) (hR : InPl d) (hv : RdPl w v d) (_hl : -9223372036854775808 ≤ b) (_hh : b ≤ 9223372036854775807) :
    Calls Try.prog 28 #[v, .int .i64 b] w fun e w' => ∃ u, e = .returned u ∧ OwnPl w' w.heap.size w'.heap.size u (shrinkF d b) ∧ Upd 0 0 w w' := by
  obtain ⟨vl, rfl, h⟩ := hv
  obtain ⟨ad, cap, rfl, hA⟩ := h
  obtain ⟨a1, b1, zs⟩ := d
  simp only [Plv, Pls] at hn hA ⊢
  have hG := hide (fun (W : World) (h : ArgI W ad zs) => specGoodPlane _ (a1, b1, zs) W hn hR ⟨_, rfl, ad, cap, rfl, h⟩)
  have hB0 := (((Below.refl w.heap.size w).alloc (Nat.le_refl _) (.cells #[.int .i64 a1, .int .i64 b1, .slice ad zs.length cap] 31)).alloc (by simp) (.cells #[.int .i64 0, .int .i64 0, .slice none 0 0] 31))
  have hs0 : ((w.alloc (.cells #[.int .i64 a1, .int .i64 b1, .slice ad zs.length cap] 31)).alloc (.cells #[.int .i64 0, .int .i64 0, .slice none 0 0] 31)).heap.size = w.heap.size + 2 := by simp
  have hbx := (heldF_new w [.int .i64 a1, .int .i64 b1, .slice ad zs.length cap] 31).keep (Upd.of_below ((Below.refl _ _).alloc (Nat.le_refl _) (.cells #[.int .i64 0, .int .i64 0, .slice none 0 0] 31)) 0 0)
  have hrs := heldF_new (w.alloc (.cells #[.int .i64 a1, .int .i64 b1, .slice ad zs.length cap] 31)) [.int .i64 0, .int .i64 0, .slice none 0 0] 31
  have e1 : (w.alloc (.cells #[.int .i64 a1, .int .i64 b1, .slice ad zs.length cap] 31)).heap.size = w.heap.size + 1 := by simp
  rw [e1] at hrs
  clear e1
  have hA0 := hide (hA.below hB0)
  have hAw := hide hA
  replace hB0 := hide hB0
  replace hbx := hide hbx
  replace hrs := hide hrs
  clear hA
  go_enter Try.func28, Try.ntmps28
  go_upto_region 1 with fail
  generalize (w.alloc (.cells #[.int .i64 a1, .int .i64 b1, .slice ad zs.length cap] 31)).alloc (.cells #[.int .i64 0, .int .i64 0, .slice none 0 0] 31) = w0 at hB0 hs0 hbx hrs hA0 ⊢
  obtain ⟨okB, hok⟩ : ∃ okB, okB = (goodPlB (a1, b1, zs) && decide (b = 2 ∨ b = 4)) := ⟨_, rfl⟩
  replace hok := hide hok
  go_cut [15] (fun s15 wx => s15 = .bool (!okB) ∧ Hid (Upd 0 0 w0 wx))
  case first =>
    have c0 := (unhide hbx).1.2 0 _ rfl
    have c1 := (unhide hbx).1.2 1 _ rfl
    have c2 := (unhide hbx).1.2 2 _ rfl
    go_wp2_with fail
    refine (unhide hG w0 (unhide hA0)).mono ?_
    rintro e w1 ⟨rfl, hu⟩
    clear c0 c1 c2
    cases hgb : goodPlB (a1, b1, zs)
    · have e : okB = false := by rw [unhide hok, hgb]; rfl
      subst e
      replace hu := hide hu
      clear hok hgb
      go_wp2
      go_meet
      exact ⟨rfl, hu⟩
    · have e : okB = decide (b = 2 ∨ b = 4) := by rw [unhide hok, hgb]; rfl
      replace hu := hide hu
      clear hok hgb
      by_cases h2 : b = 2
      · have e2 : okB = true := by rw [e, h2]; rfl
        subst e2 h2
        clear e
        go_wp2
        go_meet
        exact ⟨rfl, hu⟩
      · have q2 : (b != 2) = true := by simpa using h2
        by_cases h4 : b = 4
        · have e2 : okB = true := by rw [e, h4]; rfl
          subst e2 h4
          clear e
          go_wp2
          go_meet
          exact ⟨rfl, hu⟩
        · have q4 : (b != 4) = true := by simpa using h4
          have e2 : okB = false := by rw [e]; simp; omega
          subst e2
          clear h2 h4 e
          go_wp2
          go_meet
          exact ⟨rfl, hu⟩
  case rest =>
  obtain ⟨rfl, hu0⟩ := hcut
  replace hbx := hide ((unhide hbx).keep (unhide hu0))
  replace hrs := hide ((unhide hrs).keep (unhide hu0))
  replace hA0 := hide ((unhide hA0).below ((unhide hu0).below (Nat.le_refl _) (.inr (Nat.zero_le _))))
  replace hB0 := hide (below_upd (unhide hB0) (unhide hu0) (Nat.le_refl _) (.inr (Nat.le_refl _)))
  have hs1 : w.heap.size + 2 ≤ wc.heap.size := by have := (unhide hu0).size; omega
  clear hG hu0 hs0
  by_cases hg : GoodPl (a1, b1, zs) ∧ (b = 2 ∨ b = 4)
  case neg =>
    have hF := hide (shrinkF_no hg)
    have e : okB = false := by
      rw [unhide hok]
      by_cases hg1 : GoodPl (a1, b1, zs)
      · rw [goodPlB_yes hg1, decide_eq_false (fun h => hg ⟨hg1, h⟩)]; rfl
      · rw [goodPlB_no hg1]; rfl
    subst e
    have z0 := (unhide hrs).1.2 0 _ rfl
    have z1 := (unhide hrs).1.2 1 _ rfl
    have z2 := (unhide hrs).1.2 2 _ rfl
    have f0 := (unhide hrs).2 0
    have f1 := (unhide hrs).2 1
    have f2 := (unhide hrs).2 2
    clear hbx hA0 hR hok hg
    go_wp2
    refine bodyPost_ret (v := .agg #[.int .i64 0, .int .i64 0, .slice none 0 0]) (by simp [results, Try.results28, go_sem, z0, z1, z2]) rfl ⟨_, rfl, ?_, Upd.of_below ((((unhide hB0).setCell (by simp) _).setCell (by simp) _).setCell (by simp) _) 0 0⟩
    rw [unhide hF]
    exact ⟨_, rfl, World.ownsRow_nil _ _ _ _, fun k hk => by simp [Value.ownBlock] at hk⟩
  obtain ⟨hg1, hb⟩ := hg
  have e : okB = true := by rw [unhide hok, goodPlB_yes hg1, decide_eq_true hb]; rfl
  subst e
  clear hok
  have hF := hide (shrinkF_yes hg1 hb)
  obtain ⟨W, H, rfl, rfl, hp⟩ := hg1.nat
  obtain ⟨b, rfl⟩ := Int.eq_ofNat_of_zero_le (show 0 ≤ b by omega)
  have hb' : b = 2 ∨ b = 4 := by omega
  simp only [Int.toNat_natCast] at hF
  have hC := hide (specL7Shrink W H b ad cap zs wc hp hb' (unhide hA0))
  clear hb hb' hg1 hR hp _hl _hh
  have c0 := (unhide hbx).1.2 0 _ rfl
  have c1 := (unhide hbx).1.2 1 _ rfl
  have c2 := (unhide hbx).1.2 2 _ rfl
  go_wp2_with fail
  refine (unhide hC).mono ?_
  rintro e w2 ⟨u, rfl, ho, hu⟩
  replace hrs := hide ((unhide hrs).keep hu)
  replace hB0 := hide (below_upd (unhide hB0) hu (Nat.le_refl _) (.inr (Nat.le_refl _)))
  have hs2 : w.heap.size + 2 ≤ w2.heap.size := by have := hu.size; omega
  clear hu hC c0 c1 c2 hbx hA0
  rw [← unhide hF] at ho
  obtain ⟨D, hD⟩ : ∃ D, shrinkF ((W : Int), (H : Int), zs) (b : Int) = D := ⟨_, rfl⟩
  rw [hD] at ho
  clear hF
  obtain ⟨p, q, L⟩ := D
  obtain ⟨vl, rfl, ho⟩ := ho
  simp only [Pls] at ho
  obtain ⟨ad2, cap2, rfl, _⟩ := OwnI.rd ho
  simp only [Plv]
  replace ho := hide ho
  replace hD := hide hD
  have z0 := (unhide hrs).1.2 0 _ rfl
  have z1 := (unhide hrs).1.2 1 _ rfl
  have z2 := (unhide hrs).1.2 2 _ rfl
  have f0 := (unhide hrs).2 0
  have f1 := (unhide hrs).2 1
  have f2 := (unhide hrs).2 2
  go_wp2
  refine bodyPost_ret (v := .agg #[.int .i64 p, .int .i64 q, .slice ad2 L.length cap2]) (by simp [results, Try.results28, go_sem, z0, z1, z2]) rfl ⟨_, rfl, ?_, Upd.of_below ((((unhide hB0).setCell (by simp) _).setCell (by simp) _).setCell (by simp) _) 0 0⟩
  rw [unhide hD]
  refine ⟨_, rfl, own_mono (a := wc.heap.size) (b := w2.heap.size) ⟨?_, (unhide ho).2⟩ (by omega) (by simp)⟩
  exact ownsRow_setCell_below (ownsRow_setCell_below (ownsRow_setCell_below (unhide ho).1 (show w.heap.size + 1 < wc.heap.size by omega) _) (show w.heap.size + 1 < wc.heap.size by omega) _) (show w.heap.size + 1 < wc.heap.size by omega) _
end Go.Proofs.Ytkeplngifceegaa
