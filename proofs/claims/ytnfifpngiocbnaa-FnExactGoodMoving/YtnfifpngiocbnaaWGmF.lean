/- Good moving pictures: GoodMoving, the program. -/
import Derived.Test.YtnfifpngiocbnaaWGmE
namespace Go.Proofs.Ytnfifpngiocbnaa
open Go.RowKit

set_option maxHeartbeats 8000000 in
set_option maxRecDepth 1000000 in
theorem implGoodMoving (v : Value) (d : Mv) (w : World) (hn : MvSize d ≤ 1048576) (hR : InMv d) (hv : RdMv w v d) :
    Calls Try.prog 44 #[v] w fun e w' => e = .returned (.bool (mB (GoodMv d))) ∧ Upd 0 0 w w' := by
  obtain ⟨l0, l1, rfl, hr0, hr1⟩ := hv
  obtain ⟨a, b, zs, l, fs⟩ := d
  simp only [Mvv, MvSize] at hn ⊢
  change RdI w l0 zs at hr0
  change RdFs w l1 fs at hr1
  have hRF : Hid (InFs fs) := hide hR.2.2.2.2
  have hn0 : zs.length ≤ 1048576 := by omega
  have hn1 : sizeFs fs ≤ 1048576 := by omega
  have hn2 : fs.length ≤ 1048576 := by unfold sizeFs at hn1; omega
  obtain ⟨adp, cpp, rfl, hA0⟩ := hr0
  obtain ⟨adf, cpf, rfl, hAf⟩ := hr1
  replace hAf := hide hAf
  have hB0 := (Below.refl w.heap.size w).alloc (Nat.le_refl _) (.cells #[.int .i64 a, .int .i64 b, .slice adp zs.length cpp, .int .i64 l, .slice adf fs.length cpf] 35)
  have hbx := held_new w [.int .i64 a, .int .i64 b, .slice adp zs.length cpp, .int .i64 l, .slice adf fs.length cpf] 35
  have hH := hide (implGoodHead a b l adp adf cpp fs.length cpf zs _ hn0 (RdI.below ⟨adp, cpp, rfl, hA0⟩ hB0))
  replace hB0 := hide hB0
  replace hbx := hide hbx
  clear hA0 hR hn

  by_cases hh : HeadOk a b zs l
  case neg =>
    rw [mB_no (fun h => hh h.1)]
    rw [mB_no hh] at hH
    clear hh
    go_enter Try.func44, Try.ntmps44
    go_wp2_with fail
    change Hid (Held (w.alloc (.cells #[.int .i64 a, .int .i64 b, .slice adp zs.length cpp, .int .i64 l, .slice adf fs.length cpf] 35)) _ _) at hbx
    generalize w.alloc (.cells #[.int .i64 a, .int .i64 b, .slice adp zs.length cpp, .int .i64 l, .slice adf fs.length cpf] 35) = w0 at hB0 hbx hH ⊢
    refine (unhide hH).mono ?_
    rintro e w1 ⟨rfl, hu⟩
    replace hbx := hide ((unhide hbx).keep hu)
    replace hB0 := hide (below_upd (unhide hB0) hu (Nat.le_refl _) (.inr (Nat.le_refl _)))
    clear hu hH
    go_wp2
    go_ret
    exact ⟨by first | rfl | simp, Upd.of_below (unhide hB0) 0 0⟩
  rw [mB_yes hh] at hH
  have hh2 := hide hh
  obtain ⟨⟨ha, hb, hab⟩, hlg, hcol, hl⟩ := hh
  clear hcol hl hab
  replace hlg := hide hlg
  by_cases hl1 : 1 ≤ fs.length
  case neg =>
    rw [mB_no (fun h => hl1 h.2.1.1)]
    go_enter Try.func44, Try.ntmps44
    go_wp2_with fail
    change Hid (Held (w.alloc (.cells #[.int .i64 a, .int .i64 b, .slice adp zs.length cpp, .int .i64 l, .slice adf fs.length cpf] 35)) _ _) at hbx
    generalize w.alloc (.cells #[.int .i64 a, .int .i64 b, .slice adp zs.length cpp, .int .i64 l, .slice adf fs.length cpf] 35) = w0 at hB0 hbx hH ⊢
    refine (unhide hH).mono ?_
    rintro e w1 ⟨rfl, hu⟩
    replace hbx := hide ((unhide hbx).keep hu)
    replace hB0 := hide (below_upd (unhide hB0) hu (Nat.le_refl _) (.inr (Nat.le_refl _)))
    clear hu hH
    have c0 := (unhide hbx).2 0 _ rfl
    have c1 := (unhide hbx).2 1 _ rfl
    have c2 := (unhide hbx).2 2 _ rfl
    have c3 := (unhide hbx).2 3 _ rfl
    have c4 := (unhide hbx).2 4 _ rfl
    have cl := (unhide hbx).1
    go_wp2
    go_ret
    exact ⟨by first | rfl | simp, Upd.of_below (unhide hB0) 0 0⟩
  by_cases hl2 : fs.length ≤ 40
  case neg =>
    rw [mB_no (fun h => hl2 h.2.1.2)]
    go_enter Try.func44, Try.ntmps44
    go_wp2_with fail
    change Hid (Held (w.alloc (.cells #[.int .i64 a, .int .i64 b, .slice adp zs.length cpp, .int .i64 l, .slice adf fs.length cpf] 35)) _ _) at hbx
    generalize w.alloc (.cells #[.int .i64 a, .int .i64 b, .slice adp zs.length cpp, .int .i64 l, .slice adf fs.length cpf] 35) = w0 at hB0 hbx hH ⊢
    refine (unhide hH).mono ?_
    rintro e w1 ⟨rfl, hu⟩
    replace hbx := hide ((unhide hbx).keep hu)
    replace hB0 := hide (below_upd (unhide hB0) hu (Nat.le_refl _) (.inr (Nat.le_refl _)))
    clear hu hH
    have c0 := (unhide hbx).2 0 _ rfl
    have c1 := (unhide hbx).2 1 _ rfl
    have c2 := (unhide hbx).2 2 _ rfl
    have c3 := (unhide hbx).2 3 _ rfl
    have c4 := (unhide hbx).2 4 _ rfl
    have cl := (unhide hbx).1
    go_wp2
    go_ret
    exact ⟨by first | rfl | simp, Upd.of_below (unhide hB0) 0 0⟩
  have hE : mB (GoodMv (a, b, zs, l, fs)) = mB (FramesOk a b zs.length fs) := by
    by_cases h : FramesOk a b zs.length fs
    · rw [mB_yes h]; exact mB_yes ⟨unhide hh2, ⟨hl1, hl2⟩, h⟩
    · rw [mB_no h]; exact mB_no (fun h' => h h'.2.2)
  rw [hE]
  have hG := hide (fun W h => implGoodFrames a b l adp adf cpp cpf zs fs W hn0 hn1 (unhide hRF) ha hb (unhide hlg) h)
  generalize mB (FramesOk a b zs.length fs) = R at hG ⊢
  clear hE
  go_enter Try.func44, Try.ntmps44
  go_wp2_with fail
  change Hid (Held (w.alloc (.cells #[.int .i64 a, .int .i64 b, .slice adp zs.length cpp, .int .i64 l, .slice adf fs.length cpf] 35)) _ _) at hbx
  generalize w.alloc (.cells #[.int .i64 a, .int .i64 b, .slice adp zs.length cpp, .int .i64 l, .slice adf fs.length cpf] 35) = w0 at hB0 hbx hH ⊢
  refine (unhide hH).mono ?_
  rintro e w1 ⟨rfl, hu⟩
  replace hbx := hide ((unhide hbx).keep hu)
  replace hB0 := hide (below_upd (unhide hB0) hu (Nat.le_refl _) (.inr (Nat.le_refl _)))
  clear hu hH
  have c0 := (unhide hbx).2 0 _ rfl
  have c1 := (unhide hbx).2 1 _ rfl
  have c2 := (unhide hbx).2 2 _ rfl
  have c3 := (unhide hbx).2 3 _ rfl
  have c4 := (unhide hbx).2 4 _ rfl
  have cl := (unhide hbx).1
  go_wp2_with fail
  clear c0 c1 c2 c3 c4 cl
  refine (unhide hG _ ((unhide hAf).below (unhide hB0))).mono ?_
  rintro e w2 ⟨rfl, hu⟩
  replace hB0 := hide (below_upd (unhide hB0) hu (Nat.le_refl _) (.inr (Nat.zero_le _)))
  clear hu
  go_wp2
  go_ret
  exact ⟨by first | rfl | simp, Upd.of_below (unhide hB0) 0 0⟩
end Go.Proofs.Ytnfifpngiocbnaa
