/- The texts behind FnSizes, part 2: what each of them says stands at its head. -/
import Derived.Test.YtnalmingbglgfaaGSizes1
import Derived.StillTailTactics
import Derived.Deep.Cut
import Derived.Deep.RegionWith
import Derived.Deep.RegionHeld3
import Derived.Deep.DeepCutAuto
/- The specification's Shrink. -/
namespace Go.Proofs.Ytnalmingbglgfaa
open Go.RowKit

set_option maxHeartbeats 8000000 in
set_option maxRecDepth 100000 in
theorem specShrink (v : Value) (d : Pl) (b : Int) (w : World) (hn : d.2.2.length ≤ 1048576) (hR : InPl d) (hv : RdPl w v d) (_hl : -9223372036854775808 ≤ b) (_hh : b ≤ 9223372036854775807) :
    Calls Try.prog 18 #[v, .int .i64 b] w fun e w' => ∃ u, e = .returned u ∧ OwnPl w' w.heap.size w'.heap.size u (shrinkF d b) ∧ Upd 0 0 w w' := by
  obtain ⟨vl, rfl, h⟩ := hv
  obtain ⟨ad, cap, rfl, hA⟩ := h
  obtain ⟨a1, b1, zs⟩ := d
  simp only [Plv, Pls] at hn hA ⊢
  have hG := hide (fun (W : World) (h : ArgI W ad zs) => specGoodPlane _ (a1, b1, zs) W hn hR ⟨_, rfl, ad, cap, rfl, h⟩)
  have hB0 := (((Below.refl w.heap.size w).alloc (Nat.le_refl _) (.cells #[.int .i64 a1, .int .i64 b1, .slice ad zs.length cap] 25)).alloc (by simp) (.cells #[.int .i64 0, .int .i64 0, .slice none 0 0] 25))
  have hs0 : ((w.alloc (.cells #[.int .i64 a1, .int .i64 b1, .slice ad zs.length cap] 25)).alloc (.cells #[.int .i64 0, .int .i64 0, .slice none 0 0] 25)).heap.size = w.heap.size + 2 := by simp
  have hbx := (heldF_new w [.int .i64 a1, .int .i64 b1, .slice ad zs.length cap] 25).keep (Upd.of_below ((Below.refl _ _).alloc (Nat.le_refl _) (.cells #[.int .i64 0, .int .i64 0, .slice none 0 0] 25)) 0 0)
  have hrs := heldF_new (w.alloc (.cells #[.int .i64 a1, .int .i64 b1, .slice ad zs.length cap] 25)) [.int .i64 0, .int .i64 0, .slice none 0 0] 25
  have e1 : (w.alloc (.cells #[.int .i64 a1, .int .i64 b1, .slice ad zs.length cap] 25)).heap.size = w.heap.size + 1 := by simp
  rw [e1] at hrs
  clear e1
  have hA0 := hide (hA.below hB0)
  have hAw := hide hA
  replace hB0 := hide hB0
  replace hbx := hide hbx
  replace hrs := hide hrs
  clear hA
  go_enter Try.func18, Try.ntmps18
  go_upto_region 1 with fail
  generalize (w.alloc (.cells #[.int .i64 a1, .int .i64 b1, .slice ad zs.length cap] 25)).alloc (.cells #[.int .i64 0, .int .i64 0, .slice none 0 0] 25) = w0 at hB0 hs0 hbx hrs hA0 ⊢
  obtain ⟨okB, hok⟩ : ∃ okB, okB = (goodPlB (a1, b1, zs) && decide (b = 2 ∨ b = 4)) := ⟨_, rfl⟩
  replace hok := hide hok
  go_cut [15] (fun s15 wx => s15 = .bool (!okB) ∧ Hid (Upd 0 0 w0 wx))
  case first =>
    have c0 := (unhide hbx).1.2 0 _ rfl
    have c1 := (unhide hbx).1.2 1 _ rfl
    have c2 := (unhide hbx).1.2 2 _ rfl
    go_wp2_with fail
    refine (unhide hG w0 (unhide hA0)).mono ?_
    rintro e w1 ⟨rfl, hu⟩
    clear c0 c1 c2
    cases hgb : goodPlB (a1, b1, zs)
    · have e : okB = false := by rw [unhide hok, hgb]; rfl
      subst e
      replace hu := hide hu
      clear hok hgb
      go_wp2
      go_meet
      exact ⟨rfl, hu⟩
    · have e : okB = decide (b = 2 ∨ b = 4) := by rw [unhide hok, hgb]; rfl
      replace hu := hide hu
      clear hok hgb
      by_cases h2 : b = 2
      · have e2 : okB = true := by rw [e, h2]; rfl
        subst e2 h2
        clear e
        go_wp2
        go_meet
        exact ⟨rfl, hu⟩
      · have q2 : (b != 2) = true := by simpa using h2
        by_cases h4 : b = 4
        · have e2 : okB = true := by rw [e, h4]; rfl
          subst e2 h4
          clear e
          go_wp2
          go_meet
          exact ⟨rfl, hu⟩
        · have q4 : (b != 4) = true := by simpa using h4
          have e2 : okB = false := by rw [e]; simp; omega
          subst e2
          clear h2 h4 e
          go_wp2
          go_meet
          exact ⟨rfl, hu⟩
  case rest =>
  obtain ⟨rfl, hu0⟩ := hcut
  replace hbx := hide ((unhide hbx).keep (unhide hu0))
  replace hrs := hide ((unhide hrs).keep (unhide hu0))
  replace hA0 := hide ((unhide hA0).below ((unhide hu0).below (Nat.le_refl _) (.inr (Nat.zero_le _))))
  replace hB0 := hide (below_upd (unhide hB0) (unhide hu0) (Nat.le_refl _) (.inr (Nat.le_refl _)))
  have hs1 : w.heap.size + 2 ≤ wc.heap.size := by have := (unhide hu0).size; omega
  clear hG hu0 hs0
  by_cases hg : GoodPl (a1, b1, zs) ∧ (b = 2 ∨ b = 4)
  case neg =>
    have hF := hide (shrinkF_no hg)
    have e : okB = false := by
      rw [unhide hok]
      by_cases hg1 : GoodPl (a1, b1, zs)
      · rw [goodPlB_yes hg1, decide_eq_false (fun h => hg ⟨hg1, h⟩)]; rfl
      · rw [goodPlB_no hg1]; rfl
    subst e
    have z0 := (unhide hrs).1.2 0 _ rfl
    have z1 := (unhide hrs).1.2 1 _ rfl
    have z2 := (unhide hrs).1.2 2 _ rfl
    have f0 := (unhide hrs).2 0
    have f1 := (unhide hrs).2 1
    have f2 := (unhide hrs).2 2
    clear hbx hA0 hR hok hg
    go_wp2
    refine bodyPost_ret (v := .agg #[.int .i64 0, .int .i64 0, .slice none 0 0]) (by simp [results, Try.results18, go_sem, z0, z1, z2]) rfl ⟨_, rfl, ?_, Upd.of_below ((((unhide hB0).setCell (by simp) _).setCell (by simp) _).setCell (by simp) _) 0 0⟩
    rw [unhide hF]
    exact ⟨_, rfl, World.ownsRow_nil _ _ _ _, fun k hk => by simp [Value.ownBlock] at hk⟩
  obtain ⟨hg1, hb⟩ := hg
  have e : okB = true := by rw [unhide hok, goodPlB_yes hg1, decide_eq_true hb]; rfl
  subst e
  clear hok
  have hF := hide (shrinkF_yes hg1 hb)
  obtain ⟨W, H, rfl, rfl, hp⟩ := hg1.nat
  obtain ⟨b, rfl⟩ := Int.eq_ofNat_of_zero_le (show 0 ≤ b by omega)
  have hb' : b = 2 ∨ b = 4 := by omega
  simp only [Int.toNat_natCast] at hF
  have hC := hide (specL7Shrink W H b ad cap zs wc hp hb' (unhide hA0))
  clear hb hb' hg1 hR hp _hl _hh
  have c0 := (unhide hbx).1.2 0 _ rfl
  have c1 := (unhide hbx).1.2 1 _ rfl
  have c2 := (unhide hbx).1.2 2 _ rfl
  go_wp2_with fail
  refine (unhide hC).mono ?_
  rintro e w2 ⟨u, rfl, ho, hu⟩
  replace hrs := hide ((unhide hrs).keep hu)
  replace hB0 := hide (below_upd (unhide hB0) hu (Nat.le_refl _) (.inr (Nat.le_refl _)))
  have hs2 : w.heap.size + 2 ≤ w2.heap.size := by have := hu.size; omega
  clear hu hC c0 c1 c2 hbx hA0
  rw [← unhide hF] at ho
  obtain ⟨D, hD⟩ : ∃ D, shrinkF ((W : Int), (H : Int), zs) (b : Int) = D := ⟨_, rfl⟩
  rw [hD] at ho
  clear hF
  obtain ⟨p, q, L⟩ := D
  obtain ⟨vl, rfl, ho⟩ := ho
  simp only [Pls] at ho
  obtain ⟨ad2, cap2, rfl, _⟩ := OwnI.rd ho
  simp only [Plv]
  replace ho := hide ho
  replace hD := hide hD
  have z0 := (unhide hrs).1.2 0 _ rfl
  have z1 := (unhide hrs).1.2 1 _ rfl
  have z2 := (unhide hrs).1.2 2 _ rfl
  have f0 := (unhide hrs).2 0
  have f1 := (unhide hrs).2 1
  have f2 := (unhide hrs).2 2
  go_wp2
  refine bodyPost_ret (v := .agg #[.int .i64 p, .int .i64 q, .slice ad2 L.length cap2]) (by simp [results, Try.results18, go_sem, z0, z1, z2]) rfl ⟨_, rfl, ?_, Upd.of_below ((((unhide hB0).setCell (by simp) _).setCell (by simp) _).setCell (by simp) _) 0 0⟩
  rw [unhide hD]
  refine ⟨_, rfl, own_mono (a := wc.heap.size) (b := w2.heap.size) ⟨?_, (unhide ho).2⟩ (by omega) (by simp)⟩
  exact ownsRow_setCell_below (ownsRow_setCell_below (ownsRow_setCell_below (unhide ho).1 (show w.heap.size + 1 < wc.heap.size by omega) _) (show w.heap.size + 1 < wc.heap.size by omega) _) (show w.heap.size + 1 < wc.heap.size by omega) _
end Go.Proofs.Ytnalmingbglgfaa

/- The specification's Resize: where samples come from. -/
namespace Go.Proofs.Ytnalmingbglgfaa
open Go.RowKit

theorem wrapI {x : Int} (h : -9223372036854775808 ≤ x ∧ x ≤ 9223372036854775807) : IntKind.i64.wrap x = x := by
  simp [IntKind.wrap, IntKind.bits, IntKind.signed]; omega
theorem i64_and_255 (n : Nat) : bits .and .i64 (n : Int) 255 = ((n % 256 : Nat) : Int) := by
  have h1 : (BitVec.ofInt 64 255).toNat = 2 ^ 8 - 1 := by decide
  have key : (BitVec.ofInt 64 (n : Int) &&& BitVec.ofInt 64 255).toNat = ((n : Int) % ((2 ^ 64 : Nat) : Int)).toNat % 2 ^ 8 := by
    rw [BitVec.toNat_and, BitVec.toNat_ofInt, h1, Nat.and_two_pow_sub_one_eq_mod]
  show IntKind.i64.wrap ((BitVec.ofInt 64 (n : Int) &&& BitVec.ofInt 64 255).toNat : Nat) = _
  rw [key, IntKind.wrap_i64]
  omega
set_option maxHeartbeats 4000000 in
theorem specL7From (x old new : Nat) (w : World) (hx : x < new) (ho : 1 ≤ old ∧ old ≤ 512) (hn : new ≤ 512) :
    Calls Try.prog 59 #[.int .i64 (x : Int), .int .i64 (old : Int), .int .i64 (new : Int)] w fun e w' => e = .returned (.int .i64 (fromF x old new : Nat)) ∧ w' = w := by
  obtain ⟨o1, o2⟩ := ho
  obtain ⟨P, hP⟩ : ∃ P, (2 * x + 1) * old = P := ⟨_, rfl⟩
  have eP : (2 * (x : Int) + 1) * (old : Int) = (P : Int) := by rw [← hP]; simp
  have hPb : P ≤ 1024 * 512 := by rw [← hP]; exact Nat.mul_le_mul (by omega) o2
  have hF : fromF x old new = P * 256 / (2 * new) - 128 := by unfold fromF; rw [hP]
  have eQ : ((P : Int) * 256).tdiv (2 * (new : Int)) = ((P * 256 / (2 * new) : Nat) : Int) := by
    rw [Int.tdiv_eq_ediv_of_nonneg (by omega)]; simp
  have eQ2 : ((P : Int) * 256) / (2 * (new : Int)) = ((P * 256 / (2 * new) : Nat) : Int) := by simp
  have hQb : P * 256 / (2 * new) ≤ 1024 * 512 * 256 := Nat.le_trans (Nat.div_le_self _ _) (Nat.mul_le_mul hPb (Nat.le_refl _))
  generalize P * 256 / (2 * new) = Q at hF eQ eQ2 hQb
  have hn0 : ¬ new = 0 := by omega
  replace hP := hide hP
  by_cases h : (Q : Int) - 128 < 0
  · have hz : Hid (fromF x old new = 0) := hide (by omega)
    rw [unhide hz]
    clear hF hz
    go_enter Try.func59, Try.ntmps59
    go_wp2
    go_ret
    exact ⟨rfl, rfl⟩
  · have hz : Hid (((fromF x old new : Nat) : Int) = (Q : Int) - 128) := hide (by omega)
    clear hF
    go_enter Try.func59, Try.ntmps59
    go_wp2
    go_ret
    exact ⟨ret_int (unhide hz).symm, rfl⟩
set_option maxHeartbeats 4000000 in
set_option maxRecDepth 100000 in
theorem specL7At (W H x y : Nat) (ad : Option Addr) (cap : Nat) (zs : List Int) (w : World) (hp : PlOk W H zs) (hx : x ≤ 1000000) (_hy : y ≤ 1000000) (hA : ArgI w ad zs) :
    Calls Try.prog 60 #[.agg #[.int .i64 (W : Int), .int .i64 (H : Int), .slice ad zs.length cap], .int .i64 (x : Int), .int .i64 (y : Int)] w fun e w' => e = .returned (.int .i64 (nearF zs W H x y)) ∧ Upd 0 0 w w' := by
  obtain ⟨W1, W2⟩ := hp.w
  obtain ⟨H1, H2⟩ := hp.h
  have hR : Hid (nearF zs W H x y = zs.getD (min y (H - 1) * W + min x (W - 1)) 0) := hide rfl
  obtain ⟨hlt, hyW⟩ := hp.at_lt (x := min x (W - 1)) (y := min y (H - 1)) (by omega) (by omega)
  have hxx : (x ≥ W → min x (W - 1) = W - 1) ∧ (x < W → min x (W - 1) = x) := by omega
  have hyy : (y ≥ H → min y (H - 1) = H - 1) ∧ (y < H → min y (H - 1) = y) := by omega
  have hB := (Below.refl w.heap.size w).alloc (Nat.le_refl _) (.cells #[.int .i64 (W : Int), .int .i64 (H : Int), .slice ad zs.length cap] 25)
  have hU := hide (Upd.of_below hB 0 0)
  obtain ⟨bb, off, rfl, hbl, hcl⟩ := (hA.below hB) (ne_of_lt_length hlt)
  have hlen : zs.length ≤ 4096 := by have := hp.l; have := hp.m; omega
  generalize nearF zs W H x y = R at hR ⊢
  clear hA hB hp
  by_cases hxW : x < W
  · rw [hxx.2 hxW] at hlt hR
    by_cases hyH : y < H
    · rw [hyy.2 hyH] at hlt hR hyW
      have hck := hcl _ hlt
      rw [← unhide hR] at hck
      obtain ⟨p, hpe⟩ : ∃ p, y * W = p := ⟨_, rfl⟩
      have e1 : (y : Int) * (W : Int) = (p : Int) := by rw [← hpe]; simp
      rw [hpe] at hlt hck hyW
      clear hcl hxx hyy hR hpe
      have k1 : (0 : Int) ≤ (p : Int) + (x : Int) := by omega
      have k2 : (p : Int) + (x : Int) < (zs.length : Int) := by omega
      have k3 : ((p : Int) + (x : Int)).toNat = p + x := by omega
      go_enter Try.func60, Try.ntmps60
      go_wp2
      go_ret
      exact ⟨rfl, unhide hU⟩
    · rw [hyy.1 (by omega)] at hlt hR hyW
      have hck := hcl _ hlt
      rw [← unhide hR] at hck
      obtain ⟨p, hpe⟩ : ∃ p, (H - 1) * W = p := ⟨_, rfl⟩
      have e1 : ((H : Int) - 1) * (W : Int) = (p : Int) := by rw [← hpe, Int.natCast_mul, Int.natCast_sub (by omega)]; rfl
      rw [hpe] at hlt hck hyW
      clear hcl hxx hyy hR hpe
      have k1 : (0 : Int) ≤ (p : Int) + (x : Int) := by omega
      have k2 : (p : Int) + (x : Int) < (zs.length : Int) := by omega
      have k3 : ((p : Int) + (x : Int)).toNat = p + x := by omega
      go_enter Try.func60, Try.ntmps60
      go_wp2
      go_ret
      exact ⟨rfl, unhide hU⟩
  · rw [hxx.1 (by omega)] at hlt hR
    by_cases hyH : y < H
    · rw [hyy.2 hyH] at hlt hR hyW
      have hck := hcl _ hlt
      rw [← unhide hR] at hck
      obtain ⟨p, hpe⟩ : ∃ p, y * W = p := ⟨_, rfl⟩
      have e1 : (y : Int) * (W : Int) = (p : Int) := by rw [← hpe]; simp
      rw [hpe] at hlt hck hyW
      clear hcl hxx hyy hR hpe
      have k1 : (0 : Int) ≤ (p : Int) + ((W : Int) - 1) := by omega
      have k2 : (p : Int) + ((W : Int) - 1) < (zs.length : Int) := by omega
      have k3 : ((p : Int) + ((W : Int) - 1)).toNat = p + (W - 1) := by omega
      go_enter Try.func60, Try.ntmps60
      go_wp2
      go_ret
      exact ⟨rfl, unhide hU⟩
    · rw [hyy.1 (by omega)] at hlt hR hyW
      have hck := hcl _ hlt
      rw [← unhide hR] at hck
      obtain ⟨p, hpe⟩ : ∃ p, (H - 1) * W = p := ⟨_, rfl⟩
      have e1 : ((H : Int) - 1) * (W : Int) = (p : Int) := by rw [← hpe, Int.natCast_mul, Int.natCast_sub (by omega)]; rfl
      rw [hpe] at hlt hck hyW
      clear hcl hxx hyy hR hpe
      have k1 : (0 : Int) ≤ (p : Int) + ((W : Int) - 1) := by omega
      have k2 : (p : Int) + ((W : Int) - 1) < (zs.length : Int) := by omega
      have k3 : ((p : Int) + ((W : Int) - 1)).toNat = p + (W - 1) := by omega
      go_enter Try.func60, Try.ntmps60
      go_wp2
      go_ret
      exact ⟨rfl, unhide hU⟩
end Go.Proofs.Ytnalmingbglgfaa

/- Plain: colours of three numbers. -/
namespace Go.Proofs.Ytnalmingbglgfaa
open Go.RowKit

def clipF (n : Int) : Int := if n < 0 then 0 else if 255 < n then 255 else n
theorem clipF_bd (n : Int) : 0 ≤ clipF n ∧ clipF n ≤ 255 := by unfold clipF; split <;> (try split) <;> omega
theorem clipF_low {n : Int} (h : n < 0) : clipF n = 0 := by unfold clipF; rw [if_pos h]
theorem clipF_high {n : Int} (h : 255 < n) : clipF n = 255 := by unfold clipF; rw [if_neg (by omega), if_pos h]
theorem clipF_in {n : Int} (h0 : ¬ n < 0) (h : ¬ 255 < n) : clipF n = n := by unfold clipF; rw [if_neg h0, if_neg h]
def yOf (r g b : Int) : Int := clipF ((77 * r + 150 * g + 29 * b + 128) / 256)
def cbOf (r g b : Int) : Int := clipF ((-43 * r - 85 * g + 128 * b + 128) / 256 + 128)
def crOf (r g b : Int) : Int := clipF ((128 * r - 107 * g - 21 * b + 128) / 256 + 128)
def brightF (d : Int × Int × Int) : Int × Int × Int := (yOf (clipF d.1) (clipF d.2.1) (clipF d.2.2), cbOf (clipF d.1) (clipF d.2.1) (clipF d.2.2), crOf (clipF d.1) (clipF d.2.1) (clipF d.2.2))
def rOf (y _u v : Int) : Int := clipF (y + (359 * v + 128) / 256)
def gOf (y u v : Int) : Int := clipF (y - (88 * u + 183 * v + 128) / 256)
def bOf (y u _v : Int) : Int := clipF (y + (454 * u + 128) / 256)
def unbrightF (d : Int × Int × Int) : Int × Int × Int := (rOf (clipF d.1) (clipF d.2.1 - 128) (clipF d.2.2 - 128), gOf (clipF d.1) (clipF d.2.1 - 128) (clipF d.2.2 - 128), bOf (clipF d.1) (clipF d.2.1 - 128) (clipF d.2.2 - 128))
def Near (m : Int) (d : Int × Int × Int) : Prop := (-m ≤ d.1 ∧ d.1 ≤ m) ∧ (-m ≤ d.2.1 ∧ d.2.1 ≤ m) ∧ (-m ≤ d.2.2 ∧ d.2.2 ≤ m)
instance (m : Int) (d : Int × Int × Int) : Decidable (Near m d) := by unfold Near; infer_instance
def liftF (d : Int × Int × Int) : Int × Int × Int := if Near 1000000 d then ((d.1 + 2 * d.2.1 + d.2.2) / 4, d.2.2 - d.2.1, d.1 - d.2.1) else (0, 0, 0)
def unliftG (d : Int × Int × Int) : Int := d.1 - (d.2.1 + d.2.2) / 4
def unliftF (d : Int × Int × Int) : Int × Int × Int := if Near 4000000 d ∧ Near 1000000 (d.2.2 + unliftG d, unliftG d, d.2.1 + unliftG d) then (d.2.2 + unliftG d, unliftG d, d.2.1 + unliftG d) else (0, 0, 0)
theorem unlift_lift {d : Int × Int × Int} (h : Near 1000000 d) : unliftF (liftF d) = d := by
  obtain ⟨r, g, b⟩ := d
  unfold liftF
  rw [if_pos h]
  obtain ⟨⟨h1, h2⟩, ⟨h3, h4⟩, h5, h6⟩ := h
  simp only at h1 h2 h3 h4 h5 h6
  have e : unliftG ((r + 2 * g + b) / 4, b - g, r - g) = g := by unfold unliftG; simp only; omega
  unfold unliftF
  rw [e, if_pos]
  · simp only [Prod.mk.injEq]; exact ⟨by omega, trivial, by omega⟩
  · unfold Near; simp only; omega
theorem yOf_bd (r g b : Int) (hr : 0 ≤ r ∧ r ≤ 255) (hg : 0 ≤ g ∧ g ≤ 255) (hb : 0 ≤ b ∧ b ≤ 255) : yOf r g b = (77 * r + 150 * g + 29 * b + 128) / 256 := by
  unfold yOf; rw [clipF_in (by omega) (by omega)]
theorem red_near (r g b : Int) (hr : 0 ≤ r ∧ r ≤ 255) (hg : 0 ≤ g ∧ g ≤ 255) (hb : 0 ≤ b ∧ b ≤ 255) : -2 ≤ r - rOf (yOf r g b) (cbOf r g b - 128) (crOf r g b - 128) ∧ r - rOf (yOf r g b) (cbOf r g b - 128) (crOf r g b - 128) ≤ 2 := by
  rw [yOf_bd r g b hr hg hb]
  unfold rOf crOf clipF
  split <;> (try split) <;> (try split) <;> (try split) <;> omega
theorem green_near (r g b : Int) (hr : 0 ≤ r ∧ r ≤ 255) (hg : 0 ≤ g ∧ g ≤ 255) (hb : 0 ≤ b ∧ b ≤ 255) : -2 ≤ g - gOf (yOf r g b) (cbOf r g b - 128) (crOf r g b - 128) ∧ g - gOf (yOf r g b) (cbOf r g b - 128) (crOf r g b - 128) ≤ 2 := by
  rw [yOf_bd r g b hr hg hb]
  unfold gOf cbOf crOf clipF
  split <;> (try split) <;> (try split) <;> (try split) <;> (try split) <;> (try split) <;> omega
theorem blue_near (r g b : Int) (hr : 0 ≤ r ∧ r ≤ 255) (hg : 0 ≤ g ∧ g ≤ 255) (hb : 0 ≤ b ∧ b ≤ 255) : -2 ≤ b - bOf (yOf r g b) (cbOf r g b - 128) (crOf r g b - 128) ∧ b - bOf (yOf r g b) (cbOf r g b - 128) (crOf r g b - 128) ≤ 2 := by
  rw [yOf_bd r g b hr hg hb]
  unfold bOf cbOf clipF
  split <;> (try split) <;> (try split) <;> (try split) <;> omega
theorem grey_bright (g : Int) (hg : 0 ≤ g ∧ g ≤ 255) : brightF (g, g, g) = (g, 128, 128) := by
  unfold brightF
  simp only
  rw [clipF_in (by omega) (by omega)]
  unfold yOf cbOf crOf
  simp only [Prod.mk.injEq]
  refine ⟨?_, ?_, ?_⟩
  · rw [clipF_in (by omega) (by omega)]; omega
  · rw [clipF_in (by omega) (by omega)]; omega
  · rw [clipF_in (by omega) (by omega)]; omega
end Go.Proofs.Ytnalmingbglgfaa

/- The program's colours: clipping. -/
namespace Go.Proofs.Ytnalmingbglgfaa
open Go.RowKit

theorem implClipInt (n a b : Int) (w : World) : Calls Try.prog 78 #[.int .i64 n, .int .i64 a, .int .i64 b] w fun e w' => e = .returned (.int .i64 (max a (min b n))) ∧ w' = w := by
  go_enter Try.func78, Try.ntmps78
  go_wp2
  all_goals
    go_ret
    exact ⟨ret_int (by omega), rfl⟩
set_option maxHeartbeats 4000000 in
set_option maxRecDepth 100000 in
theorem implRound8 (n : Int) (w : World) (h0 : -1152921504606846976 ≤ n) (h1 : n ≤ 1152921504606846976) : Calls Try.prog 101 #[.int .i64 n, .int .i64 8] w fun e w' => e = .returned (.int .i64 ((n + 128) / 256)) ∧ w' = w := by
  go_enter Try.func101, Try.ntmps101
  go_wp2
  go_ret
  exact ⟨rfl, rfl⟩
theorem implRound4 (n : Int) (w : World) (h0 : -1152921504606846976 ≤ n) (h1 : n ≤ 1152921504606846976) : Calls Try.prog 101 #[.int .i64 n, .int .i64 4] w fun e w' => e = .returned (.int .i64 ((n + 8) / 16)) ∧ w' = w := by
  go_enter Try.func101, Try.ntmps101
  go_wp2
  go_ret
  exact ⟨rfl, rfl⟩
theorem implRound16 (n : Int) (w : World) (h0 : -1152921504606846976 ≤ n) (h1 : n ≤ 1152921504606846976) : Calls Try.prog 101 #[.int .i64 n, .int .i64 16] w fun e w' => e = .returned (.int .i64 ((n + 32768) / 65536)) ∧ w' = w := by
  go_enter Try.func101, Try.ntmps101
  go_wp2
  go_ret
  exact ⟨rfl, rfl⟩
end Go.Proofs.Ytnalmingbglgfaa

/- The program's weights, corners and blending. -/
namespace Go.Proofs.Ytnalmingbglgfaa
open Go.RowKit

set_option maxHeartbeats 4000000 in
set_option maxRecDepth 100000 in
theorem implWeights8 (n1 f1 p n2 f2 q : Nat) (w : World) (hp : p ≤ 255) (hq : q ≤ 255) (A B C D : Int) (hA : (256 - (q : Int)) * (256 - (p : Int)) = A) (hB : (256 - (q : Int)) * (p : Int) = B) (hC : (q : Int) * (256 - (p : Int)) = C) (hD : (q : Int) * (p : Int) = D)
    (bA : 0 ≤ A ∧ A ≤ 65536) (bB : 0 ≤ B ∧ B ≤ 65536) (bC : 0 ≤ C ∧ C ≤ 65536) (bD : 0 ≤ D ∧ D ≤ 65536) :
    Calls Try.prog 92 #[.agg #[.int .i64 (n1 : Int), .int .i64 (f1 : Int), .int .i64 (p : Int)], .agg #[.int .i64 (n2 : Int), .int .i64 (f2 : Int), .int .i64 (q : Int)], .int .i64 8] w fun e w' => e = .returned (.agg #[.int .i64 A, .int .i64 B, .int .i64 C, .int .i64 D]) ∧ Upd 0 0 w w' := by
  have hB0 := hide ((((Below.refl w.heap.size w).alloc (Nat.le_refl _) (.cells #[.int .i64 (n1 : Int), .int .i64 (f1 : Int), .int .i64 (p : Int)] 89)).alloc (by simp) (.cells #[.int .i64 (n2 : Int), .int .i64 (f2 : Int), .int .i64 (q : Int)] 89)).alloc (by simp; omega) (.cells #[.int .i64 0, .int .i64 0, .int .i64 0, .int .i64 0] 93))
  have h1 := hide (((heldF_new w [.int .i64 (n1 : Int), .int .i64 (f1 : Int), .int .i64 (p : Int)] 89).keep (Upd.of_below ((Below.refl _ _).alloc (Nat.le_refl _) (.cells #[.int .i64 (n2 : Int), .int .i64 (f2 : Int), .int .i64 (q : Int)] 89)) 0 0)).keep (Upd.of_below ((Below.refl _ _).alloc (Nat.le_refl _) (.cells #[.int .i64 0, .int .i64 0, .int .i64 0, .int .i64 0] 93)) 0 0))
  have h2 := (heldF_new (w.alloc (.cells #[.int .i64 (n1 : Int), .int .i64 (f1 : Int), .int .i64 (p : Int)] 89)) [.int .i64 (n2 : Int), .int .i64 (f2 : Int), .int .i64 (q : Int)] 89).keep (Upd.of_below ((Below.refl _ _).alloc (Nat.le_refl _) (.cells #[.int .i64 0, .int .i64 0, .int .i64 0, .int .i64 0] 93)) 0 0)
  have h3 := heldF_new ((w.alloc (.cells #[.int .i64 (n1 : Int), .int .i64 (f1 : Int), .int .i64 (p : Int)] 89)).alloc (.cells #[.int .i64 (n2 : Int), .int .i64 (f2 : Int), .int .i64 (q : Int)] 89)) [.int .i64 0, .int .i64 0, .int .i64 0, .int .i64 0] 93
  have e1 : (w.alloc (.cells #[.int .i64 (n1 : Int), .int .i64 (f1 : Int), .int .i64 (p : Int)] 89)).heap.size = w.heap.size + 1 := by simp
  have e2 : ((w.alloc (.cells #[.int .i64 (n1 : Int), .int .i64 (f1 : Int), .int .i64 (p : Int)] 89)).alloc (.cells #[.int .i64 (n2 : Int), .int .i64 (f2 : Int), .int .i64 (q : Int)] 89)).heap.size = w.heap.size + 2 := by simp
  rw [e1] at h2
  rw [e2] at h3
  clear e1 e2
  replace h2 := hide h2
  replace h3 := hide h3
  have w1 : IntKind.i64.wrap (256 - (p : Int)) = 256 - (p : Int) := wrapI (by omega)
  have w2 : IntKind.i64.wrap (256 - (q : Int)) = 256 - (q : Int) := wrapI (by omega)
  obtain ⟨bA0, bA1⟩ := bA
  obtain ⟨bB0, bB1⟩ := bB
  obtain ⟨bC0, bC1⟩ := bC
  obtain ⟨bD0, bD1⟩ := bD
  go_enter Try.func92, Try.ntmps92
  go_wp2_with fail
  generalize ((w.alloc (.cells #[.int .i64 (n1 : Int), .int .i64 (f1 : Int), .int .i64 (p : Int)] 89)).alloc (.cells #[.int .i64 (n2 : Int), .int .i64 (f2 : Int), .int .i64 (q : Int)] 89)).alloc (.cells #[.int .i64 0, .int .i64 0, .int .i64 0, .int .i64 0] 93) = w0 at hB0 h1 h2 h3 ⊢
  have c0 := (unhide h1).1.2 2 _ rfl
  have c1 := (unhide h2).1.2 2 _ rfl
  refine wp_region_still_lit (by kernel_rfl) (by kernel_rfl) ?_
  iterate 12 still_step
  refine wpStill_nil ?_
  clear w1 w2
  have z0 := (unhide h3).1.2 0 _ rfl
  have z1 := (unhide h3).1.2 1 _ rfl
  have z2 := (unhide h3).1.2 2 _ rfl
  have z3 := (unhide h3).1.2 3 _ rfl
  have f0 := (unhide h3).2 0
  have f1' := (unhide h3).2 1
  have f2' := (unhide h3).2 2
  have f3 := (unhide h3).2 3
  clear h1 h2 h3
  go_wp2
  refine bodyPost_ret (v := .agg #[.int .i64 A, .int .i64 B, .int .i64 C, .int .i64 D]) (by simp [results, Try.results92, go_sem, z0, z1, z2, z3]) rfl ⟨rfl, Upd.of_below (((((below_drewN (unhide hB0) 1).setCell (by simp; omega) _).setCell (by simp; omega) _).setCell (by simp; omega) _).setCell (by simp; omega) _) 0 0⟩
set_option maxHeartbeats 4000000 in
set_option maxRecDepth 100000 in
theorem implCorners (W H n1 f1 n2 f2 : Nat) (p q : Int) (ad : Option Addr) (cap : Nat) (zs : List Int) (w : World) (hp : PlOk W H zs) (hA : ArgI w ad zs) (b1 : n1 < W) (b2 : f1 < W) (b3 : n2 < H) (b4 : f2 < H) :
    Calls Try.prog 91 #[.agg #[.int .i64 (W : Int), .int .i64 (H : Int), .slice ad zs.length cap], .agg #[.int .i64 (n1 : Int), .int .i64 (f1 : Int), .int .i64 p], .agg #[.int .i64 (n2 : Int), .int .i64 (f2 : Int), .int .i64 q]] w fun e w' => e = .returned (.agg #[.int .i64 (zs.getD (n2 * W + n1) 0), .int .i64 (zs.getD (n2 * W + f1) 0), .int .i64 (zs.getD (f2 * W + n1) 0), .int .i64 (zs.getD (f2 * W + f1) 0)]) ∧ Upd 0 0 w w' := by
  have hB0 := ((((Below.refl w.heap.size w).alloc (Nat.le_refl _) (.cells #[.int .i64 (W : Int), .int .i64 (H : Int), .slice ad zs.length cap] 25)).alloc (by simp) (.cells #[.int .i64 (n1 : Int), .int .i64 (f1 : Int), .int .i64 p] 89)).alloc (by simp; omega) (.cells #[.int .i64 (n2 : Int), .int .i64 (f2 : Int), .int .i64 q] 89)).alloc (by simp; omega) (.cells #[.int .i64 0, .int .i64 0, .int .i64 0, .int .i64 0] 93)
  have h0 := (((heldF_new w [.int .i64 (W : Int), .int .i64 (H : Int), .slice ad zs.length cap] 25).keep (Upd.of_below ((Below.refl _ _).alloc (Nat.le_refl _) (.cells #[.int .i64 (n1 : Int), .int .i64 (f1 : Int), .int .i64 p] 89)) 0 0)).keep (Upd.of_below ((Below.refl _ _).alloc (Nat.le_refl _) (.cells #[.int .i64 (n2 : Int), .int .i64 (f2 : Int), .int .i64 q] 89)) 0 0)).keep (Upd.of_below ((Below.refl _ _).alloc (Nat.le_refl _) (.cells #[.int .i64 0, .int .i64 0, .int .i64 0, .int .i64 0] 93)) 0 0)
  have h1 := ((heldF_new (w.alloc (.cells #[.int .i64 (W : Int), .int .i64 (H : Int), .slice ad zs.length cap] 25)) [.int .i64 (n1 : Int), .int .i64 (f1 : Int), .int .i64 p] 89).keep (Upd.of_below ((Below.refl _ _).alloc (Nat.le_refl _) (.cells #[.int .i64 (n2 : Int), .int .i64 (f2 : Int), .int .i64 q] 89)) 0 0)).keep (Upd.of_below ((Below.refl _ _).alloc (Nat.le_refl _) (.cells #[.int .i64 0, .int .i64 0, .int .i64 0, .int .i64 0] 93)) 0 0)
  have h2 := (heldF_new ((w.alloc (.cells #[.int .i64 (W : Int), .int .i64 (H : Int), .slice ad zs.length cap] 25)).alloc (.cells #[.int .i64 (n1 : Int), .int .i64 (f1 : Int), .int .i64 p] 89)) [.int .i64 (n2 : Int), .int .i64 (f2 : Int), .int .i64 q] 89).keep (Upd.of_below ((Below.refl _ _).alloc (Nat.le_refl _) (.cells #[.int .i64 0, .int .i64 0, .int .i64 0, .int .i64 0] 93)) 0 0)
  have h3 := heldF_new (((w.alloc (.cells #[.int .i64 (W : Int), .int .i64 (H : Int), .slice ad zs.length cap] 25)).alloc (.cells #[.int .i64 (n1 : Int), .int .i64 (f1 : Int), .int .i64 p] 89)).alloc (.cells #[.int .i64 (n2 : Int), .int .i64 (f2 : Int), .int .i64 q] 89)) [.int .i64 0, .int .i64 0, .int .i64 0, .int .i64 0] 93
  have e1 : (w.alloc (.cells #[.int .i64 (W : Int), .int .i64 (H : Int), .slice ad zs.length cap] 25)).heap.size = w.heap.size + 1 := by simp
  have e2 : ((w.alloc (.cells #[.int .i64 (W : Int), .int .i64 (H : Int), .slice ad zs.length cap] 25)).alloc (.cells #[.int .i64 (n1 : Int), .int .i64 (f1 : Int), .int .i64 p] 89)).heap.size = w.heap.size + 2 := by simp
  have e3 : (((w.alloc (.cells #[.int .i64 (W : Int), .int .i64 (H : Int), .slice ad zs.length cap] 25)).alloc (.cells #[.int .i64 (n1 : Int), .int .i64 (f1 : Int), .int .i64 p] 89)).alloc (.cells #[.int .i64 (n2 : Int), .int .i64 (f2 : Int), .int .i64 q] 89)).heap.size = w.heap.size + 3 := by simp
  rw [e1] at h1
  rw [e2] at h2
  rw [e3] at h3
  clear e1 e2 e3
  have hA0 := hide (hA.below hB0)
  replace hB0 := hide hB0
  replace h0 := hide h0
  replace h1 := hide h1
  replace h2 := hide h2
  replace h3 := hide h3
  have hP1 := hide (fun (X : World) (h : ArgI X ad zs) => implPlAt W H n1 n2 ad cap zs X hp b1 b3 h)
  have hP2 := hide (fun (X : World) (h : ArgI X ad zs) => implPlAt W H f1 n2 ad cap zs X hp b2 b3 h)
  have hP3 := hide (fun (X : World) (h : ArgI X ad zs) => implPlAt W H n1 f2 ad cap zs X hp b1 b4 h)
  have hP4 := hide (fun (X : World) (h : ArgI X ad zs) => implPlAt W H f1 f2 ad cap zs X hp b2 b4 h)
  generalize zs.getD (n2 * W + n1) 0 = v1 at hP1 ⊢
  generalize zs.getD (n2 * W + f1) 0 = v2 at hP2 ⊢
  generalize zs.getD (f2 * W + n1) 0 = v3 at hP3 ⊢
  generalize zs.getD (f2 * W + f1) 0 = v4 at hP4 ⊢
  clear hA hp b1 b2 b3 b4
  go_enter Try.func91, Try.ntmps91
  go_wp2_with fail
  generalize (((w.alloc (.cells #[.int .i64 (W : Int), .int .i64 (H : Int), .slice ad zs.length cap] 25)).alloc (.cells #[.int .i64 (n1 : Int), .int .i64 (f1 : Int), .int .i64 p] 89)).alloc (.cells #[.int .i64 (n2 : Int), .int .i64 (f2 : Int), .int .i64 q] 89)).alloc (.cells #[.int .i64 0, .int .i64 0, .int .i64 0, .int .i64 0] 93) = w0 at hB0 h0 h1 h2 h3 hA0 ⊢
  have c00 := fun X : UpdT w0 => (((unhide h0).1.updT X).2 0 _ rfl)
  have c01 := fun X : UpdT w0 => (((unhide h0).1.updT X).2 1 _ rfl)
  have c02 := fun X : UpdT w0 => (((unhide h0).1.updT X).2 2 _ rfl)
  have c10 := fun X : UpdT w0 => (((unhide h1).1.updT X).2 0 _ rfl)
  have c11 := fun X : UpdT w0 => (((unhide h1).1.updT X).2 1 _ rfl)
  have c20 := fun X : UpdT w0 => (((unhide h2).1.updT X).2 0 _ rfl)
  have c21 := fun X : UpdT w0 => (((unhide h2).1.updT X).2 1 _ rfl)
  refine wq_region_tail 27 (by kernel_rfl) (by kernel_rfl) ?_
  simp only [List.take_succ_cons, List.take_zero, List.drop_succ_cons, List.drop_zero]
  refine WQ.step (fun K hK => ?_)
  go_simp
  refine hK _ ?_
  clear hK K
  refine WQ.step (fun K hK => ?_)
  go_simp
  refine hK _ ?_
  clear hK K
  refine WQ.step (fun K hK => ?_)
  go_simp
  refine hK _ ?_
  clear hK K
  refine WQ.step (fun K hK => ?_)
  go_simp
  refine hK _ ?_
  clear hK K
  refine WQ.step (fun K hK => ?_)
  go_simp
  refine hK _ ?_
  clear hK K
  refine WQ.step (fun K hK => ?_)
  go_simp
  refine ⟨_, fun X => Calls.updT X (unhide hP1 X.to ((unhide hA0).below (X.upd.below (Nat.le_refl _) (.inr (Nat.zero_le _))))), hK _ ?_⟩
  clear hK K
  refine WQ.step (fun K hK => ?_)
  go_simp
  refine hK _ ?_
  clear hK K
  refine WQ.step (fun K hK => ?_)
  go_simp
  refine hK _ ?_
  clear hK K
  refine WQ.step (fun K hK => ?_)
  go_simp
  refine hK _ ?_
  clear hK K
  refine WQ.step (fun K hK => ?_)
  go_simp
  refine hK _ ?_
  clear hK K
  refine WQ.step (fun K hK => ?_)
  go_simp
  refine hK _ ?_
  clear hK K
  refine WQ.step (fun K hK => ?_)
  go_simp
  refine ⟨_, fun X => Calls.updT X (unhide hP2 X.to ((unhide hA0).below (X.upd.below (Nat.le_refl _) (.inr (Nat.zero_le _))))), hK _ ?_⟩
  clear hK K
  refine WQ.step (fun K hK => ?_)
  go_simp
  refine hK _ ?_
  clear hK K
  refine WQ.step (fun K hK => ?_)
  go_simp
  refine hK _ ?_
  clear hK K
  refine WQ.step (fun K hK => ?_)
  go_simp
  refine hK _ ?_
  clear hK K
  refine WQ.step (fun K hK => ?_)
  go_simp
  refine hK _ ?_
  clear hK K
  refine WQ.step (fun K hK => ?_)
  go_simp
  refine hK _ ?_
  clear hK K
  refine WQ.step (fun K hK => ?_)
  go_simp
  refine hK _ ?_
  clear hK K
  refine WQ.step (fun K hK => ?_)
  go_simp
  refine ⟨_, fun X => Calls.updT X (unhide hP3 X.to ((unhide hA0).below (X.upd.below (Nat.le_refl _) (.inr (Nat.zero_le _))))), hK _ ?_⟩
  clear hK K
  refine WQ.step (fun K hK => ?_)
  go_simp
  refine hK _ ?_
  clear hK K
  refine WQ.step (fun K hK => ?_)
  go_simp
  refine hK _ ?_
  clear hK K
  refine WQ.step (fun K hK => ?_)
  go_simp
  refine hK _ ?_
  clear hK K
  refine WQ.step (fun K hK => ?_)
  go_simp
  refine hK _ ?_
  clear hK K
  refine WQ.step (fun K hK => ?_)
  go_simp
  refine hK _ ?_
  clear hK K
  refine WQ.step (fun K hK => ?_)
  go_simp
  refine ⟨_, fun X => Calls.updT X (unhide hP4 X.to ((unhide hA0).below (X.upd.below (Nat.le_refl _) (.inr (Nat.zero_le _))))), hK _ ?_⟩
  clear hK K
  refine WQ.step (fun K hK => ?_)
  go_simp
  refine hK _ ?_
  clear hK K
  refine WQ.step (fun K hK => ?_)
  go_simp
  refine hK _ ?_
  clear hK K
  refine WQ.nil ?_
  rintro _ ⟨X, rfl⟩
  clear c00 c01 c02 c10 c11 c20 c21 hP1 hP2 hP3 hP4
  have hX := X.upd
  generalize X.to = w1 at hX ⊢
  replace h3 := hide ((unhide h3).keep hX)
  replace hB0 := hide (below_upd (unhide hB0) hX (Nat.le_refl _) (.inr (Nat.le_refl _)))
  have z0 := (unhide h3).1.2 0 _ rfl
  have z1 := (unhide h3).1.2 1 _ rfl
  have z2 := (unhide h3).1.2 2 _ rfl
  have z3 := (unhide h3).1.2 3 _ rfl
  have f0' := (unhide h3).2 0
  have f1' := (unhide h3).2 1
  have f2' := (unhide h3).2 2
  have f3' := (unhide h3).2 3
  clear h0 h1 h2 h3 hX hA0
  go_wp2
  refine bodyPost_ret (v := .agg #[.int .i64 v1, .int .i64 v2, .int .i64 v3, .int .i64 v4]) (by simp [results, Try.results91, go_sem, z0, z1, z2, z3]) rfl ⟨rfl, Upd.of_below (((((unhide hB0).setCell (by simp; omega) _).setCell (by simp; omega) _).setCell (by simp; omega) _).setCell (by simp; omega) _) 0 0⟩
end Go.Proofs.Ytnalmingbglgfaa

/- The program's blending of four samples. -/
namespace Go.Proofs.Ytnalmingbglgfaa
open Go.RowKit

theorem idx_c0 (s0 s1 s2 s3 : Int) (W : World) : (Instr.index 93 (.agg #[.int .i64 s0, .int .i64 s1, .int .i64 s2, .int .i64 s3]) (.int .i64 0)).run Try.prog W = .ok (.agg #[.int .i64 s0, .int .i64 s1]) W := by kernel_rfl
theorem idx_c1 (s0 s1 s2 s3 : Int) (W : World) : (Instr.index 93 (.agg #[.int .i64 s0, .int .i64 s1, .int .i64 s2, .int .i64 s3]) (.int .i64 1)).run Try.prog W = .ok (.agg #[.int .i64 s2, .int .i64 s3]) W := by kernel_rfl
theorem idx_p0 (s0 s1 : Int) (W : World) : (Instr.index 91 (.agg #[.int .i64 s0, .int .i64 s1]) (.int .i64 0)).run Try.prog W = .ok (.int .i64 s0) W := by kernel_rfl
theorem idx_p1 (s0 s1 : Int) (W : World) : (Instr.index 91 (.agg #[.int .i64 s0, .int .i64 s1]) (.int .i64 1)).run Try.prog W = .ok (.int .i64 s1) W := by kernel_rfl
set_option maxHeartbeats 8000000 in
set_option maxRecDepth 100000 in
theorem implBlended16 (s0 s1 s2 s3 a0 a1 a2 a3 P0 P1 P2 P3 : Int) (w : World) (e0 : a0 * s0 = P0) (e1 : a1 * s1 = P1) (e2 : a2 * s2 = P2) (e3 : a3 * s3 = P3)
    (p0 : 0 ≤ P0 ∧ P0 ≤ 33554432) (p1 : 0 ≤ P1 ∧ P1 ≤ 33554432) (p2 : 0 ≤ P2 ∧ P2 ≤ 33554432) (p3 : 0 ≤ P3 ∧ P3 ≤ 33554432) :
    Calls Try.prog 90 #[.agg #[.int .i64 s0, .int .i64 s1, .int .i64 s2, .int .i64 s3], .agg #[.int .i64 a0, .int .i64 a1, .int .i64 a2, .int .i64 a3], .int .i64 8] w fun e w' => e = .returned (.int .i64 ((P0 + P1 + P2 + P3 + 32768) / 65536)) ∧ Upd 0 0 w w' := by
  have hB0 := hide (((Below.refl w.heap.size w).alloc (Nat.le_refl _) (.cells #[.int .i64 s0, .int .i64 s1, .int .i64 s2, .int .i64 s3] 93)).alloc (by simp) (.cells #[.int .i64 a0, .int .i64 a1, .int .i64 a2, .int .i64 a3] 93))
  have h1 := hide ((heldF_new w [.int .i64 s0, .int .i64 s1, .int .i64 s2, .int .i64 s3] 93).keep (Upd.of_below ((Below.refl _ _).alloc (Nat.le_refl _) (.cells #[.int .i64 a0, .int .i64 a1, .int .i64 a2, .int .i64 a3] 93)) 0 0))
  have h2 := heldF_new (w.alloc (.cells #[.int .i64 s0, .int .i64 s1, .int .i64 s2, .int .i64 s3] 93)) [.int .i64 a0, .int .i64 a1, .int .i64 a2, .int .i64 a3] 93
  have ee : (w.alloc (.cells #[.int .i64 s0, .int .i64 s1, .int .i64 s2, .int .i64 s3] 93)).heap.size = w.heap.size + 1 := by simp
  rw [ee] at h2
  clear ee
  replace h2 := hide h2
  have hR := hide (fun X => implRound16 (P0 + P1 + P2 + P3) X (by omega) (by omega))
  obtain ⟨p00, p01⟩ := p0
  obtain ⟨p10, p11⟩ := p1
  obtain ⟨p20, p21⟩ := p2
  obtain ⟨p30, p31⟩ := p3
  have x0 := idx_c0 s0 s1 s2 s3
  have x1 := idx_c1 s0 s1 s2 s3
  have y0 := idx_p0
  have y1 := idx_p1
  go_enter Try.func90, Try.ntmps90
  go_wp2_with fail
  generalize (w.alloc (.cells #[.int .i64 s0, .int .i64 s1, .int .i64 s2, .int .i64 s3] 93)).alloc (.cells #[.int .i64 a0, .int .i64 a1, .int .i64 a2, .int .i64 a3] 93) = w0 at hB0 h1 h2 ⊢
  have c0 := (unhide h1).1.2 0 _ rfl
  have c1 := (unhide h1).1.2 1 _ rfl
  have c2 := (unhide h1).1.2 2 _ rfl
  have c3 := (unhide h1).1.2 3 _ rfl
  go_wp2_with fail
  clear c0 c1 c2 c3 h1
  go_loopw [7, 13] (fun s k wr => ((k = .int .i64 0 ∧ s = .int .i64 0) ∨ (k = .int .i64 1 ∧ s = .int .i64 (P0 + P1)) ∨ (k = .int .i64 2 ∧ s = .int .i64 (P0 + P1 + P2 + P3))) ∧ Hid (HeldF wr (w.heap.size + 1) [.int .i64 a0, .int .i64 a1, .int .i64 a2, .int .i64 a3]) ∧ Hid (Below w.heap.size w wr)) (fun _ k _ => 2 - (intOf k).toNat)
  case atStart => exact ⟨.inl ⟨rfl, rfl⟩, h2, hB0⟩
  case round =>
    clear h2 hB0
    obtain ⟨hrel, h2, hB0⟩ := hrel
    rcases hrel with ⟨rfl, rfl⟩ | ⟨rfl, rfl⟩ | ⟨rfl, rfl⟩
    ·
      have d0 := (unhide h2).1.2 0 _ rfl
      have d1 := (unhide h2).1.2 1 _ rfl
      have hu := Upd.of_below ((Below.refl wr.heap.size wr).alloc (Nat.le_refl _) (.cells #[.int .i64 s0, .int .i64 s1] 91)) 0 0
      have h22 := hide ((unhide h2).keep hu)
      have hB2 := hide (below_upd (unhide hB0) hu (Nat.le_refl _) (.inr (Nat.le_refl _)))
      clear hu
      go_upto_region 5 with fail
      clear d0 d1
      have k0 := (heldF_new wr [.int .i64 s0, .int .i64 s1] 91).1.2 0 _ rfl
      have k1 := (heldF_new wr [.int .i64 s0, .int .i64 s1] 91).1.2 1 _ rfl
      simp only [List.toArray] at k0 k1
      generalize wr.alloc (.cells #[.int .i64 s0, .int .i64 s1] 91) = wn at h22 hB2 k0 k1 ⊢
      have d0 := (unhide h22).1.2 0 _ rfl
      have d1 := (unhide h22).1.2 1 _ rfl
      go_wp2_with fail
      go_loop [7, 18] (fun s j => (j = .int .i64 0 ∧ s = .int .i64 (0)) ∨ (j = .int .i64 1 ∧ s = .int .i64 P0) ∨ (j = .int .i64 2 ∧ s = .int .i64 (P0 + P1))) (fun _ j => 2 - (intOf j).toNat)
      case atStart => exact .inl ⟨rfl, rfl⟩
      case round =>
        rcases hrel with ⟨rfl, rfl⟩ | ⟨rfl, rfl⟩ | ⟨rfl, rfl⟩
        · go_wp2
          go_round
          case rel => exact .inr (.inl ⟨rfl, rfl⟩)
          case measure => simp [intOf]
        · go_wp2
          go_round
          case rel => exact .inr (.inr ⟨rfl, rfl⟩)
          case measure => simp [intOf]
        · clear d0 d1 k0 k1
          go_wp2
          go_roundw
          case rel => exact ⟨.inr (.inl ⟨rfl, rfl⟩), h22, hB2⟩
          case measure => simp [intOf]
    ·
      have d0 := (unhide h2).1.2 2 _ rfl
      have d1 := (unhide h2).1.2 3 _ rfl
      have hu := Upd.of_below ((Below.refl wr.heap.size wr).alloc (Nat.le_refl _) (.cells #[.int .i64 s2, .int .i64 s3] 91)) 0 0
      have h22 := hide ((unhide h2).keep hu)
      have hB2 := hide (below_upd (unhide hB0) hu (Nat.le_refl _) (.inr (Nat.le_refl _)))
      clear hu
      go_upto_region 5 with fail
      clear d0 d1
      have k0 := (heldF_new wr [.int .i64 s2, .int .i64 s3] 91).1.2 0 _ rfl
      have k1 := (heldF_new wr [.int .i64 s2, .int .i64 s3] 91).1.2 1 _ rfl
      simp only [List.toArray] at k0 k1
      generalize wr.alloc (.cells #[.int .i64 s2, .int .i64 s3] 91) = wn at h22 hB2 k0 k1 ⊢
      have d0 := (unhide h22).1.2 2 _ rfl
      have d1 := (unhide h22).1.2 3 _ rfl
      go_wp2_with fail
      go_loop [7, 18] (fun s j => (j = .int .i64 0 ∧ s = .int .i64 (P0 + P1)) ∨ (j = .int .i64 1 ∧ s = .int .i64 (P0 + P1 + P2)) ∨ (j = .int .i64 2 ∧ s = .int .i64 (P0 + P1 + P2 + P3))) (fun _ j => 2 - (intOf j).toNat)
      case atStart => exact .inl ⟨rfl, rfl⟩
      case round =>
        rcases hrel with ⟨rfl, rfl⟩ | ⟨rfl, rfl⟩ | ⟨rfl, rfl⟩
        · go_wp2
          go_round
          case rel => exact .inr (.inl ⟨rfl, rfl⟩)
          case measure => simp [intOf]
        · go_wp2
          go_round
          case rel => exact .inr (.inr ⟨rfl, rfl⟩)
          case measure => simp [intOf]
        · clear d0 d1 k0 k1
          go_wp2
          go_roundw
          case rel => exact ⟨.inr (.inr ⟨rfl, rfl⟩), h22, hB2⟩
          case measure => simp [intOf]
    · go_wp2_with fail
      refine (unhide hR _).mono ?_
      rintro e wz ⟨rfl, rfl⟩
      go_wp2
      go_ret
      exact ⟨rfl, Upd.of_below (unhide hB0) 0 0⟩
end Go.Proofs.Ytnalmingbglgfaa

/- Lists of Passs: 6 numbers each; the walks of the laws' own helpers on them. -/
namespace Go.Proofs.Ytnalmingbglgfaa
open Go.RowKit

abbrev Ps := Int × Int × Int × Int × Int × Int
abbrev Ps0 : Ps := (0, 0, 0, 0, 0, 0)
def cellsPs (ps : List Ps) : List Value := ps.flatMap fun p => [.int .i64 p.1, .int .i64 p.2.1, .int .i64 p.2.2.1, .int .i64 p.2.2.2.1, .int .i64 p.2.2.2.2.1, .int .i64 p.2.2.2.2.2]
theorem cellsPs_length (ps : List Ps) : (cellsPs ps).length = ps.length * 6 := by
  induction ps with
  | nil => rfl
  | cons p ps ih => unfold cellsPs at ih ⊢; rw [List.flatMap_cons, List.length_append, ih]; simp; omega
theorem cellsPs_snoc (ps : List Ps) (p : Ps) : cellsPs (ps ++ [p]) = cellsPs ps ++ [.int .i64 p.1, .int .i64 p.2.1, .int .i64 p.2.2.1, .int .i64 p.2.2.2.1, .int .i64 p.2.2.2.2.1, .int .i64 p.2.2.2.2.2] := by unfold cellsPs; simp
def RowPs (ys : List Value) (ps : List Ps) (k : Nat) : Prop := ∀ j, j < k → ys[j * 6]? = some (.int .i64 (ps.getD j Ps0).1) ∧ ys[j * 6 + 1]? = some (.int .i64 (ps.getD j Ps0).2.1) ∧ ys[j * 6 + 2]? = some (.int .i64 (ps.getD j Ps0).2.2.1) ∧ ys[j * 6 + 3]? = some (.int .i64 (ps.getD j Ps0).2.2.2.1) ∧ ys[j * 6 + 4]? = some (.int .i64 (ps.getD j Ps0).2.2.2.2.1) ∧ ys[j * 6 + 5]? = some (.int .i64 (ps.getD j Ps0).2.2.2.2.2)
theorem cellsPs_at (ps : List Ps) : RowPs (cellsPs ps) ps ps.length := by
  induction ps with
  | nil => intro j hj; simp at hj
  | cons p ps ih =>
    intro j hj
    have e : cellsPs (p :: ps) = [.int .i64 p.1, .int .i64 p.2.1, .int .i64 p.2.2.1, .int .i64 p.2.2.2.1, .int .i64 p.2.2.2.2.1, .int .i64 p.2.2.2.2.2] ++ cellsPs ps := by unfold cellsPs; simp
    rw [e]
    cases j with
    | zero => exact ⟨rfl, rfl, rfl, rfl, rfl, rfl⟩
    | succ j =>
      have h := ih j (by simpa using hj)
      rw [List.getElem?_append_right (by simp; omega), List.getElem?_append_right (by simp; omega), List.getElem?_append_right (by simp; omega), List.getElem?_append_right (by simp; omega), List.getElem?_append_right (by simp; omega), List.getElem?_append_right (by simp; omega)]
      simp only [List.length_cons, List.length_nil, List.getD_cons_succ]
      rw [show (j + 1) * 6 - (0 + 1 + 1 + 1 + 1 + 1 + 1) = j * 6 by omega, show (j + 1) * 6 + 1 - (0 + 1 + 1 + 1 + 1 + 1 + 1) = j * 6 + 1 by omega, show (j + 1) * 6 + 2 - (0 + 1 + 1 + 1 + 1 + 1 + 1) = j * 6 + 2 by omega, show (j + 1) * 6 + 3 - (0 + 1 + 1 + 1 + 1 + 1 + 1) = j * 6 + 3 by omega, show (j + 1) * 6 + 4 - (0 + 1 + 1 + 1 + 1 + 1 + 1) = j * 6 + 4 by omega, show (j + 1) * 6 + 5 - (0 + 1 + 1 + 1 + 1 + 1 + 1) = j * 6 + 5 by omega]
      exact h
theorem cellsPs_of {ys : List Value} {ps : List Ps} (hl : ys.length = ps.length * 6) (h : RowPs ys ps ps.length) : ys = cellsPs ps := by
  apply List.ext_getElem?
  intro i
  by_cases hi : i < ps.length * 6
  · have h1 := h (i / 6) (by omega)
    have h2 := cellsPs_at ps (i / 6) (by omega)
    rcases (show i = i / 6 * 6 ∨ i = i / 6 * 6 + 1 ∨ i = i / 6 * 6 + 2 ∨ i = i / 6 * 6 + 3 ∨ i = i / 6 * 6 + 4 ∨ i = i / 6 * 6 + 5 by omega) with e | e | e | e | e | e
    · rw [e, h1.1, h2.1]
    · rw [e, h1.2.1, h2.2.1]
    · rw [e, h1.2.2.1, h2.2.2.1]
    · rw [e, h1.2.2.2.1, h2.2.2.2.1]
    · rw [e, h1.2.2.2.2.1, h2.2.2.2.2.1]
    · rw [e, h1.2.2.2.2.2, h2.2.2.2.2.2]
  · rw [List.getElem?_eq_none (by omega), List.getElem?_eq_none (by rw [cellsPs_length]; omega)]
def AtPs (w : World) (b off : Nat) (ps : List Ps) : Prop := ∀ j, j < ps.length → w.cell? ⟨b, off + j * 6, none⟩ = some (.int .i64 (ps.getD j Ps0).1) ∧ w.cell? ⟨b, off + j * 6 + 1, none⟩ = some (.int .i64 (ps.getD j Ps0).2.1) ∧ w.cell? ⟨b, off + j * 6 + 2, none⟩ = some (.int .i64 (ps.getD j Ps0).2.2.1) ∧ w.cell? ⟨b, off + j * 6 + 3, none⟩ = some (.int .i64 (ps.getD j Ps0).2.2.2.1) ∧ w.cell? ⟨b, off + j * 6 + 4, none⟩ = some (.int .i64 (ps.getD j Ps0).2.2.2.2.1) ∧ w.cell? ⟨b, off + j * 6 + 5, none⟩ = some (.int .i64 (ps.getD j Ps0).2.2.2.2.2)
def InPs (ps : List Ps) : Prop := ∀ j, (-9223372036854775808 ≤ (ps.getD j Ps0).1 ∧ (ps.getD j Ps0).1 ≤ 9223372036854775807) ∧ (-9223372036854775808 ≤ (ps.getD j Ps0).2.1 ∧ (ps.getD j Ps0).2.1 ≤ 9223372036854775807) ∧ (-9223372036854775808 ≤ (ps.getD j Ps0).2.2.1 ∧ (ps.getD j Ps0).2.2.1 ≤ 9223372036854775807) ∧ (-9223372036854775808 ≤ (ps.getD j Ps0).2.2.2.1 ∧ (ps.getD j Ps0).2.2.2.1 ≤ 9223372036854775807) ∧ (-9223372036854775808 ≤ (ps.getD j Ps0).2.2.2.2.1 ∧ (ps.getD j Ps0).2.2.2.2.1 ≤ 9223372036854775807) ∧ (-9223372036854775808 ≤ (ps.getD j Ps0).2.2.2.2.2 ∧ (ps.getD j Ps0).2.2.2.2.2 ≤ 9223372036854775807)
def ArgPs (w : World) (ad : Option Addr) (ps : List Ps) : Prop := ps ≠ [] → ∃ b off, ad = some ⟨b, off, none⟩ ∧ b < w.heap.size ∧ AtPs w b off ps
theorem ArgPs.below {w w' : World} {ad : Option Addr} {ps : List Ps} (h : ArgPs w ad ps) (hb : Below w.heap.size w w') : ArgPs w' ad ps := by
  intro hne
  obtain ⟨b, off, e, hl, hc⟩ := h hne
  exact ⟨b, off, e, Nat.lt_of_lt_of_le hl hb.size, fun j hj => ⟨(hb.cell (by simpa using hl)).trans (hc j hj).1, (hb.cell (by simpa using hl)).trans (hc j hj).2.1, (hb.cell (by simpa using hl)).trans (hc j hj).2.2.1, (hb.cell (by simpa using hl)).trans (hc j hj).2.2.2.1, (hb.cell (by simpa using hl)).trans (hc j hj).2.2.2.2.1, (hb.cell (by simpa using hl)).trans (hc j hj).2.2.2.2.2⟩⟩
def RdPs (w : World) (v : Value) (ps : List Ps) : Prop := ∃ ad cap, v = .slice ad ps.length cap ∧ ArgPs w ad ps
theorem RdPs.below {w w' : World} {v : Value} {ps : List Ps} (h : RdPs w v ps) (hb : Below w.heap.size w w') : RdPs w' v ps := by
  obtain ⟨ad, cap, e, h⟩ := h
  exact ⟨ad, cap, e, h.below hb⟩
def marksPs (k n : Nat) : List Ps := (List.range n).map fun j => (((k + 6 * j : Nat) : Int), ((k + 6 * j + 1 : Nat) : Int), ((k + 6 * j + 2 : Nat) : Int), ((k + 6 * j + 3 : Nat) : Int), ((k + 6 * j + 4 : Nat) : Int), ((k + 6 * j + 5 : Nat) : Int))
@[simp] theorem marksPs_length (k n : Nat) : (marksPs k n).length = n := by simp [marksPs]
theorem marksPs_at (k n j : Nat) (h : j < n) : (marksPs k n).getD j Ps0 = (((k + 6 * j : Nat) : Int), ((k + 6 * j + 1 : Nat) : Int), ((k + 6 * j + 2 : Nat) : Int), ((k + 6 * j + 3 : Nat) : Int), ((k + 6 * j + 4 : Nat) : Int), ((k + 6 * j + 5 : Nat) : Int)) := by
  unfold marksPs; rw [List.getD_eq_getElem?_getD, List.getElem?_map, List.getElem?_range h]; rfl
end Go.Proofs.Ytnalmingbglgfaa

/- The program's mixes for another side. -/
namespace Go.Proofs.Ytnalmingbglgfaa
open Go.RowKit

def RowMx (ys : List Value) (old side k : Nat) : Prop := ∀ j, j < k → ys[j * 3]? = some (.int .i64 ((min (fromF j old side / 256) (old - 1) : Nat) : Int)) ∧ ys[j * 3 + 1]? = some (.int .i64 ((min (fromF j old side / 256 + 1) (old - 1) : Nat) : Int)) ∧ ys[j * 3 + 2]? = some (.int .i64 ((fromF j old side % 256 : Nat) : Int))
theorem infoMx : (Try.prog.info? 89).map (fun i => (i.zero, i.size, i.bytes)) = some (some (.agg #[.int .i64 0, .int .i64 0, .int .i64 0]), 3, 24) := by kernel_rfl
theorem RowMx.snoc {ys : List Value} {old side k : Nat} (h : RowMx ys old side k) (hk : k * 3 + 2 < ys.length) :
    RowMx (((ys.set (k * 3) (.int .i64 ((min (fromF k old side / 256) (old - 1) : Nat) : Int))).set (k * 3 + 1) (.int .i64 ((min (fromF k old side / 256 + 1) (old - 1) : Nat) : Int))).set (k * 3 + 2) (.int .i64 ((fromF k old side % 256 : Nat) : Int))) old side (k + 1) := by
  intro j hj
  by_cases e : j = k
  · subst e
    refine ⟨?_, ?_, ?_⟩
    · rw [List.getElem?_set_ne (by omega), List.getElem?_set_ne (by omega), List.getElem?_set_self (by first | omega | (simp; omega))]
    · rw [List.getElem?_set_ne (by omega), List.getElem?_set_self (by first | omega | (simp; omega))]
    · rw [List.getElem?_set_self (by first | omega | (simp; omega))]
  · have := h j (by omega)
    refine ⟨?_, ?_, ?_⟩
    · rw [List.getElem?_set_ne (by omega), List.getElem?_set_ne (by omega), List.getElem?_set_ne (by omega)]; exact this.1
    · rw [List.getElem?_set_ne (by omega), List.getElem?_set_ne (by omega), List.getElem?_set_ne (by omega)]; exact this.2.1
    · rw [List.getElem?_set_ne (by omega), List.getElem?_set_ne (by omega), List.getElem?_set_ne (by omega)]; exact this.2.2
theorem clipU (n a b c : Int) (h : max a (min b n) = c) (W : World) : Calls Try.prog 78 #[.int .i64 n, .int .i64 a, .int .i64 b] W fun e w' => e = .returned (.int .i64 c) ∧ w' = W := by
  refine (implClipInt n a b W).mono ?_
  rintro e w' ⟨rfl, rfl⟩
  rw [h]
  exact ⟨rfl, rfl⟩
set_option maxHeartbeats 8000000 in
set_option maxRecDepth 100000 in
theorem implResizeMixes (old side : Nat) (w : World) (ho : 1 ≤ old ∧ old ≤ 512) (hs : 1 ≤ side ∧ side ≤ 512) :
    Calls Try.prog 55 #[.int .i64 (old : Int), .int .i64 (side : Int)] w fun e w' =>
      ∃ ys, e = .returned (.slice (some ⟨w.heap.size, 0, none⟩) side side) ∧ w'.ownsRow w.heap.size 89 3 (.slice (some ⟨w.heap.size, 0, none⟩) side side) side ys ∧ RowMx ys old side side ∧ Upd 0 0 w w' := by
  obtain ⟨i0, hi, hz0, hz1, hz2⟩ := info_parts infoMx
  obtain ⟨o1, o2⟩ := ho
  obtain ⟨s1, s2⟩ := hs
  have hC := hide clipU
  go_enter Try.func55, Try.ntmps55
  go_wp2_with (at_make; refine wpList_make_full _ rfl _ _ 67 rfl w.heap.size 89 i0 (.agg #[.int .i64 0, .int .i64 0, .int .i64 0]) 3 Try.underlying67 hi hz0 hz1 .i64 .i64 _ _ side rfl rfl (by omega) (by omega) (by rw [hz2]; omega) (by unfold maxLen; omega) (Nat.le_refl _) ?_; intro w1 hown hgrow)
  have hbel := (Below.refl w.heap.size w).grown hgrow (Nat.le_refl _) (by simp)
  generalize (madeCells (Value.cells (.agg #[.int .i64 0, .int .i64 0, .int .i64 0])) (side * 3)).toList = ys0 at hown
  clear hgrow
  go_loopw [13, 6, 7, 8] (fun i _ _ _ wr => ∃ k : Nat, ∃ ys, k ≤ side ∧ i = .int .i64 k ∧ wr.ownsRow w.heap.size 89 3 (.slice (some ⟨w.heap.size, 0, none⟩) side side) side ys ∧ Hid (RowMx ys old side k) ∧ Below w.heap.size w wr) (fun i _ _ _ _ => side - (intOf i).toNat)
  case atStart => exact ⟨0, ys0, Nat.zero_le _, rfl, hown, fun j hj => by omega, hbel⟩
  case round =>
    clear hown hbel
    obtain ⟨k, ys, hk, rfl, hown, hrow, hbel⟩ := hrel
    by_cases hlt : k < side
    · obtain ⟨P, hP⟩ : ∃ P, (2 * k + 1) * old = P := ⟨_, rfl⟩
      have eP : (2 * (k : Int) + 1) * (old : Int) = (P : Int) := by rw [← hP]; simp
      have hPb : P ≤ 1024 * 512 := by rw [← hP]; exact Nat.mul_le_mul (by omega) o2
      have hF : fromF k old side = P * 256 / (2 * side) - 128 := by unfold fromF; rw [hP]
      have eQ : ((P : Int) * 256).tdiv (2 * (side : Int)) = ((P * 256 / (2 * side) : Nat) : Int) := by
        rw [Int.tdiv_eq_ediv_of_nonneg (by omega)]; simp
      have eQ2 : ((P : Int) * 256) / (2 * (side : Int)) = ((P * 256 / (2 * side) : Nat) : Int) := by simp
      have hQb : P * 256 / (2 * side) ≤ 1024 * 512 * 256 := Nat.le_trans (Nat.div_le_self _ _) (Nat.mul_le_mul hPb (Nat.le_refl _))
      generalize P * 256 / (2 * side) = Q at hF eQ eQ2 hQb
      have hn0 : ¬ side = 0 := by omega
      have hl : ys.length = side * 3 := hown.1
      have hsn := hide (RowMx.snoc (unhide hrow) (by omega))
      generalize hS : fromF k old side = S at hF hsn
      replace hP := hide hP
      replace hS := hide hS
      replace hrow := hide hrow
      have hown' := hide hown
      have hbel' := hide hbel
      clear hown hbel hrow
      have dS : ((S : Int).tdiv 256) = ((S / 256 : Nat) : Int) := by rw [Int.tdiv_eq_ediv_of_nonneg (by omega)]; simp
      have mS : ((S : Int).tmod 256) = ((S % 256 : Nat) : Int) := by rw [Int.tmod_eq_emod_of_nonneg (by omega)]; simp
      have hSb : S ≤ 1024 * 512 * 256 := by omega
      have kI : (0 : Int) ≤ (k : Int) := by omega
      have kL : (k : Int) < (side : Int) := by omega
      have hC1 := hide (fun W => clipU ((S / 256 : Nat) : Int) 0 ((old : Int) - 1) ((min (S / 256) (old - 1) : Nat) : Int) (by omega) W)
      have hC2 := hide (fun W => clipU (((S / 256 : Nat) : Int) + 1) 0 ((old : Int) - 1) ((min (S / 256 + 1) (old - 1) : Nat) : Int) (by omega) W)
      generalize hv0 : ((min (S / 256) (old - 1) : Nat) : Int) = v0 at hC1 hsn
      generalize hv1 : ((min (S / 256 + 1) (old - 1) : Nat) : Int) = v1 at hC2 hsn
      clear hv0 hv1
      clear hC
      by_cases hq : Q ≤ 128
      · have e0 : S = 0 := by omega
        subst e0
        clear hF dS mS hSb
        simp only [Nat.zero_div, Nat.zero_mod, Int.natCast_zero] at hC1 hC2 hsn
        go_upto_region 7 with fail
        have hown := unhide hown'
        have d0 : ∃ a, wr.cell? ⟨w.heap.size, k * 3, none⟩ = some a := by rw [hown.cellAt _ (by omega)]; exact ⟨_, List.getElem?_eq_getElem (by omega)⟩
        have d1 : ∃ a, wr.cell? ⟨w.heap.size, k * 3 + 1, none⟩ = some a := by rw [hown.cellAt _ (by omega)]; exact ⟨_, List.getElem?_eq_getElem (by omega)⟩
        have d2 : ∃ a, wr.cell? ⟨w.heap.size, k * 3 + 2, none⟩ = some a := by rw [hown.cellAt _ (by omega)]; exact ⟨_, List.getElem?_eq_getElem (by omega)⟩
        obtain ⟨a0, d0⟩ := d0
        obtain ⟨a1, d1⟩ := d1
        obtain ⟨a2, d2⟩ := d2
        have f0 := hown.frozenAt (k * 3)
        have f1 := hown.frozenAt (k * 3 + 1)
        have f2 := hown.frozenAt (k * 3 + 2)
        have hst := hide ((((hown.stored (k * 3) (.int .i64 v0)).1.stored (k * 3 + 1) (.int .i64 v1)).1.stored (k * 3 + 2) (.int .i64 0)).1)
        have hB2 := hide ((((unhide hbel').setCell (p := ⟨w.heap.size, k * 3, none⟩) (Nat.le_refl _) (.int .i64 v0)).setCell (p := ⟨w.heap.size, k * 3 + 1, none⟩) (Nat.le_refl _) (.int .i64 v1)).setCell (p := ⟨w.heap.size, k * 3 + 2, none⟩) (Nat.le_refl _) (.int .i64 0))
        clear hown hown' hbel'
        go_wp2_with fail
        refine (unhide hC1 _).mono ?_
        rintro e w2 ⟨rfl, rfl⟩
        go_wp2_with fail
        refine (unhide hC2 _).mono ?_
        rintro e w2 ⟨rfl, rfl⟩
        go_wp2
        go_roundw
        case rel => exact ⟨k + 1, _, by omega, by go_num, unhide hst, hsn, unhide hB2⟩
        case measure => simp [intOf]; omega
      · obtain ⟨T, rfl⟩ : ∃ T, Q = T + 128 := ⟨Q - 128, by omega⟩
        obtain rfl : S = T := by omega
        clear hF
        go_upto_region 7 with fail
        have hown := unhide hown'
        have d0 : ∃ a, wr.cell? ⟨w.heap.size, k * 3, none⟩ = some a := by rw [hown.cellAt _ (by omega)]; exact ⟨_, List.getElem?_eq_getElem (by omega)⟩
        have d1 : ∃ a, wr.cell? ⟨w.heap.size, k * 3 + 1, none⟩ = some a := by rw [hown.cellAt _ (by omega)]; exact ⟨_, List.getElem?_eq_getElem (by omega)⟩
        have d2 : ∃ a, wr.cell? ⟨w.heap.size, k * 3 + 2, none⟩ = some a := by rw [hown.cellAt _ (by omega)]; exact ⟨_, List.getElem?_eq_getElem (by omega)⟩
        obtain ⟨a0, d0⟩ := d0
        obtain ⟨a1, d1⟩ := d1
        obtain ⟨a2, d2⟩ := d2
        have f0 := hown.frozenAt (k * 3)
        have f1 := hown.frozenAt (k * 3 + 1)
        have f2 := hown.frozenAt (k * 3 + 2)
        have hst := hide ((((hown.stored (k * 3) (.int .i64 v0)).1.stored (k * 3 + 1) (.int .i64 v1)).1.stored (k * 3 + 2) (.int .i64 ((S % 256 : Nat) : Int))).1)
        have hB2 := hide ((((unhide hbel').setCell (p := ⟨w.heap.size, k * 3, none⟩) (Nat.le_refl _) (.int .i64 v0)).setCell (p := ⟨w.heap.size, k * 3 + 1, none⟩) (Nat.le_refl _) (.int .i64 v1)).setCell (p := ⟨w.heap.size, k * 3 + 2, none⟩) (Nat.le_refl _) (.int .i64 ((S % 256 : Nat) : Int)))
        clear hown hown' hbel'
        go_wp2_with fail
        refine (unhide hC1 _).mono ?_
        rintro e w2 ⟨rfl, rfl⟩
        go_wp2_with fail
        refine (unhide hC2 _).mono ?_
        rintro e w2 ⟨rfl, rfl⟩
        go_wp2
        go_roundw
        case rel => exact ⟨k + 1, _, by omega, by go_num, unhide hst, hsn, unhide hB2⟩
        case measure => simp [intOf]; omega
    · have hkl : k = side := by omega
      subst hkl
      replace hown := hide hown
      replace hrow := hide hrow
      go_wp2
      go_ret
      exact ⟨ys, rfl, unhide hown, unhide (unhide hrow), Upd.of_below hbel 0 0⟩
end Go.Proofs.Ytnalmingbglgfaa

/- The program's mixed. -/
namespace Go.Proofs.Ytnalmingbglgfaa
open Go.RowKit

def MxAt (X : World) (b old side : Nat) : Prop := ∀ j, j < side → X.cell? ⟨b, j * 3, none⟩ = some (.int .i64 ((min (fromF j old side / 256) (old - 1) : Nat) : Int)) ∧ X.cell? ⟨b, j * 3 + 1, none⟩ = some (.int .i64 ((min (fromF j old side / 256 + 1) (old - 1) : Nat) : Int)) ∧ X.cell? ⟨b, j * 3 + 2, none⟩ = some (.int .i64 ((fromF j old side % 256 : Nat) : Int))
theorem MxAt.below {X Y : World} {b old side : Nat} (h : MxAt X b old side) (hb : b < X.heap.size) (u : Below X.heap.size X Y) : MxAt Y b old side := fun j hj =>
  ⟨(u.cell (by simpa using hb)).trans (h j hj).1, (u.cell (by simpa using hb)).trans (h j hj).2.1, (u.cell (by simpa using hb)).trans (h j hj).2.2⟩
theorem mxAt_of {X : World} {b base old side : Nat} {ys : List Value} (h : X.ownsRow base 89 3 (.slice (some ⟨b, 0, none⟩) side side) side ys) (hr : RowMx ys old side side) : MxAt X b old side := by
  intro j hj
  have hl : ys.length = side * 3 := h.1
  have h1 := hr j hj
  exact ⟨(h.cellAt _ (by omega)).trans h1.1, (h.cellAt _ (by omega)).trans h1.2.1, (h.cellAt _ (by omega)).trans h1.2.2⟩
theorem blend_sum (p q s0 s1 s2 s3 : Int) : (256 - q) * (256 - p) * s0 + (256 - q) * p * s1 + q * (256 - p) * s2 + q * p * s3 = (256 - q) * ((256 - p) * s0 + p * s1) + q * ((256 - p) * s2 + p * s3) := by
  rw [Int.mul_add, Int.mul_add, Int.mul_assoc, Int.mul_assoc, Int.mul_assoc, Int.mul_assoc]
  omega
theorem mixStep (W H S T : Nat) (ad : Option Addr) (cap : Nat) (zs : List Int) (hp : PlOk W H zs) : ∃ s0 s1 s2 s3 A B C D : Int,
    (∀ X, ArgI X ad zs → Calls Try.prog 91 #[.agg #[.int .i64 (W : Int), .int .i64 (H : Int), .slice ad zs.length cap], .agg #[.int .i64 ((min (S / 256) (W - 1) : Nat) : Int), .int .i64 ((min (S / 256 + 1) (W - 1) : Nat) : Int), .int .i64 ((S % 256 : Nat) : Int)], .agg #[.int .i64 ((min (T / 256) (H - 1) : Nat) : Int), .int .i64 ((min (T / 256 + 1) (H - 1) : Nat) : Int), .int .i64 ((T % 256 : Nat) : Int)]] X fun e w' => e = .returned (.agg #[.int .i64 s0, .int .i64 s1, .int .i64 s2, .int .i64 s3]) ∧ Upd 0 0 X w') ∧
    (∀ X, Calls Try.prog 92 #[.agg #[.int .i64 ((min (S / 256) (W - 1) : Nat) : Int), .int .i64 ((min (S / 256 + 1) (W - 1) : Nat) : Int), .int .i64 ((S % 256 : Nat) : Int)], .agg #[.int .i64 ((min (T / 256) (H - 1) : Nat) : Int), .int .i64 ((min (T / 256 + 1) (H - 1) : Nat) : Int), .int .i64 ((T % 256 : Nat) : Int)], .int .i64 8] X fun e w' => e = .returned (.agg #[.int .i64 A, .int .i64 B, .int .i64 C, .int .i64 D]) ∧ Upd 0 0 X w') ∧
    (∀ X, Calls Try.prog 90 #[.agg #[.int .i64 s0, .int .i64 s1, .int .i64 s2, .int .i64 s3], .agg #[.int .i64 A, .int .i64 B, .int .i64 C, .int .i64 D], .int .i64 8] X fun e w' => e = .returned (.int .i64 (blendF zs W H S T)) ∧ Upd 0 0 X w') := by
  have hW := hp.w
  have hH := hp.h
  have hb : ∀ x y, 0 ≤ nearF zs W H x y ∧ nearF zs W H x y ≤ 255 := fun x y => nearF_bd hp.s W H x y
  have hpl : S % 256 < 256 := Nat.mod_lt _ (by omega)
  have hql : T % 256 < 256 := Nat.mod_lt _ (by omega)
  have bA := mul_bd (a := 256 - ((T % 256 : Nat) : Int)) (b := 256 - ((S % 256 : Nat) : Int)) (m := 256) (n := 256) (by omega) (by omega) (by omega) (by omega)
  have bB := mul_bd (a := 256 - ((T % 256 : Nat) : Int)) (b := ((S % 256 : Nat) : Int)) (m := 256) (n := 256) (by omega) (by omega) (by omega) (by omega)
  have bC := mul_bd (a := ((T % 256 : Nat) : Int)) (b := 256 - ((S % 256 : Nat) : Int)) (m := 256) (n := 256) (by omega) (by omega) (by omega) (by omega)
  have bD := mul_bd (a := ((T % 256 : Nat) : Int)) (b := ((S % 256 : Nat) : Int)) (m := 256) (n := 256) (by omega) (by omega) (by omega) (by omega)
  refine ⟨nearF zs W H (S / 256) (T / 256), nearF zs W H (S / 256 + 1) (T / 256), nearF zs W H (S / 256) (T / 256 + 1), nearF zs W H (S / 256 + 1) (T / 256 + 1), _, _, _, _,
    fun X hX => implCorners W H (min (S / 256) (W - 1)) (min (S / 256 + 1) (W - 1)) (min (T / 256) (H - 1)) (min (T / 256 + 1) (H - 1)) _ _ ad cap zs X hp hX (by omega) (by omega) (by omega) (by omega),
    fun X => implWeights8 _ _ (S % 256) _ _ (T % 256) X (by omega) (by omega) _ _ _ _ rfl rfl rfl rfl (by omega) (by omega) (by omega) (by omega), fun X => ?_⟩
  have i0 := mul_bd bA.1 bA.2 (hb (S / 256) (T / 256)).1 (hb (S / 256) (T / 256)).2
  have i1 := mul_bd bB.1 bB.2 (hb (S / 256 + 1) (T / 256)).1 (hb (S / 256 + 1) (T / 256)).2
  have i2 := mul_bd bC.1 bC.2 (hb (S / 256) (T / 256 + 1)).1 (hb (S / 256) (T / 256 + 1)).2
  have i3 := mul_bd bD.1 bD.2 (hb (S / 256 + 1) (T / 256 + 1)).1 (hb (S / 256 + 1) (T / 256 + 1)).2
  refine (implBlended16 _ _ _ _ _ _ _ _ _ _ _ _ X rfl rfl rfl rfl (by omega) (by omega) (by omega) (by omega)).mono ?_
  rintro e w' ⟨rfl, hu⟩
  refine ⟨?_, hu⟩
  rw [blend_sum]
  rfl
end Go.Proofs.Ytnalmingbglgfaa

/- The program's mixed: the walk. -/
namespace Go.Proofs.Ytnalmingbglgfaa
open Go.RowKit

theorem twoHeld (w : World) (x0 x1 x2 y0 y1 y2 : Int) :
    HeldF (((w.alloc (.cells #[.int .i64 x0, .int .i64 x1, .int .i64 x2] 89)).alloc (.cells #[.int .i64 y0, .int .i64 y1, .int .i64 y2] 89)).drew) w.heap.size [.int .i64 x0, .int .i64 x1, .int .i64 x2] ∧
    HeldF (((w.alloc (.cells #[.int .i64 x0, .int .i64 x1, .int .i64 x2] 89)).alloc (.cells #[.int .i64 y0, .int .i64 y1, .int .i64 y2] 89)).drew) (w.heap.size + 1) [.int .i64 y0, .int .i64 y1, .int .i64 y2] ∧
    Upd 0 0 w (((w.alloc (.cells #[.int .i64 x0, .int .i64 x1, .int .i64 x2] 89)).alloc (.cells #[.int .i64 y0, .int .i64 y1, .int .i64 y2] 89)).drew) := by
  have e : (w.alloc (.cells #[.int .i64 x0, .int .i64 x1, .int .i64 x2] 89)).heap.size = w.heap.size + 1 := by simp
  have h1 := (heldF_new w [.int .i64 x0, .int .i64 x1, .int .i64 x2] 89).keep (Upd.of_below ((Below.refl _ _).alloc (Nat.le_refl _) (.cells #[.int .i64 y0, .int .i64 y1, .int .i64 y2] 89)) 0 0)
  have h2 := heldF_new (w.alloc (.cells #[.int .i64 x0, .int .i64 x1, .int .i64 x2] 89)) [.int .i64 y0, .int .i64 y1, .int .i64 y2] 89
  rw [e] at h2
  have hu := Upd.of_below (((Below.refl w.heap.size w).alloc (Nat.le_refl _) (.cells #[.int .i64 x0, .int .i64 x1, .int .i64 x2] 89)).alloc (by simp) (.cells #[.int .i64 y0, .int .i64 y1, .int .i64 y2] 89)) 0 0
  exact ⟨h1.keep (Upd.drew1 _), h2.keep (Upd.drew1 _), hu.trans (Upd.drew1 _)⟩
set_option maxHeartbeats 8000000 in
set_option maxRecDepth 100000 in
theorem implMixed8 (W H sw sh N b1 b2 : Nat) (ad : Option Addr) (cap : Nat) (zs : List Int) (w : World) (hp : PlOk W H zs) (hA : ArgI w ad zs) (hb1 : b1 < w.heap.size) (hb2 : b2 < w.heap.size)
    (sw1 : 1 ≤ sw) (sw2 : sw ≤ 512) (sh1 : 1 ≤ sh) (sh2 : sh ≤ 512) (hN : sw * sh = N) (h1 : MxAt w b1 W sw) (h2 : MxAt w b2 H sh) :
    Calls Try.prog 54 #[.agg #[.int .i64 (W : Int), .int .i64 (H : Int), .slice ad zs.length cap], .slice (some ⟨b1, 0, none⟩) sw sw, .slice (some ⟨b2, 0, none⟩) sh sh, .int .i64 8] w fun e w' =>
      ∃ u, e = .returned u ∧ OwnPl w' w.heap.size w'.heap.size u ((sw : Int), (sh : Int), resizeL zs W H sw sh N) ∧ Upd 0 0 w w' := by
  have hB0 := ((Below.refl w.heap.size w).alloc (Nat.le_refl _) (.cells #[.int .i64 (W : Int), .int .i64 (H : Int), .slice ad zs.length cap] 25)).alloc (by simp) (.cells #[.int .i64 0, .int .i64 0, .slice none 0 0] 25)
  have hs0 : ((w.alloc (.cells #[.int .i64 (W : Int), .int .i64 (H : Int), .slice ad zs.length cap] 25)).alloc (.cells #[.int .i64 0, .int .i64 0, .slice none 0 0] 25)).heap.size = w.heap.size + 2 := by simp
  have hbx := (heldF_new w [.int .i64 (W : Int), .int .i64 (H : Int), .slice ad zs.length cap] 25).keep (Upd.of_below ((Below.refl _ _).alloc (Nat.le_refl _) (.cells #[.int .i64 0, .int .i64 0, .slice none 0 0] 25)) 0 0)
  have e1 : (w.alloc (.cells #[.int .i64 (W : Int), .int .i64 (H : Int), .slice ad zs.length cap] 25)).heap.size = w.heap.size + 1 := by simp
  have hrs := heldF_new (w.alloc (.cells #[.int .i64 (W : Int), .int .i64 (H : Int), .slice ad zs.length cap] 25)) [.int .i64 0, .int .i64 0, .slice none 0 0] 25
  rw [e1] at hrs
  clear e1
  replace hB0 := hide hB0
  replace hbx := hide hbx
  replace hrs := hide hrs
  have hN1 : 1 ≤ N := by rw [← hN]; exact Nat.mul_le_mul sw1 sh1
  have hN2 : N ≤ 262144 := by rw [← hN]; exact Nat.mul_le_mul sw2 sh2
  have hE := hide (implEmptyPlane sw sh N · hN hN1 (by omega))
  have hL : Hid (∀ k, resizeL zs W H sw sh (k + 1) = resizeL zs W H sw sh k ++ [blendF zs W H (fromF (k % sw) W sw) (fromF (k / sw) H sh)]) := hide (fun k => resizeL_succ zs W H sw sh k)
  replace hN := hide hN
  replace h1 := hide h1
  replace h2 := hide h2
  have hA0 := hide hA
  have hp2 := hide hp
  clear hA hp
  go_enter Try.func54, Try.ntmps54
  go_wp2_with fail
  generalize ((w.alloc (.cells #[.int .i64 (W : Int), .int .i64 (H : Int), .slice ad zs.length cap] 25)).alloc (.cells #[.int .i64 0, .int .i64 0, .slice none 0 0] 25)) = w1 at hrs hB0 hs0 hbx ⊢
  refine (unhide hE _).mono ?_
  rintro e w2 ⟨g, rfl, hg0, hg1, hrow, hu⟩
  replace hbx := hide ((unhide hbx).keep hu)
  replace hrs := hide ((unhide hrs).keep hu)
  replace hB0 := hide (below_upd (unhide hB0) hu (Nat.le_refl _) (.inr (Nat.le_refl _)))
  have hs2 : w.heap.size + 2 ≤ w2.heap.size := by have := hu.size; omega
  have hg2 : w.heap.size + 2 ≤ g := by omega
  clear hu hE hg0 hs0
  have hvv := hide (heldF_new w2 [.int .i64 (sw : Int), .int .i64 (sh : Int), .slice (some ⟨g, 0, none⟩) N N] 25)
  have hu2 := Upd.of_below ((Below.refl w2.heap.size w2).alloc (Nat.le_refl _) (.cells #[.int .i64 (sw : Int), .int .i64 (sh : Int), .slice (some ⟨g, 0, none⟩) N N] 25)) 0 0
  replace hbx := hide ((unhide hbx).keep hu2)
  replace hrs := hide ((unhide hrs).keep hu2)
  replace hB0 := hide (below_upd (unhide hB0) hu2 (Nat.le_refl _) (.inr (Nat.le_refl _)))
  replace hrow := hide ((Own.of hrow).keep hu2).1
  clear hu2
  go_upto_region 2 with fail
  obtain ⟨c, hc⟩ : ∃ c, w2.heap.size = c := ⟨_, rfl⟩
  generalize w2.alloc (.cells #[.int .i64 (sw : Int), .int .i64 (sh : Int), .slice (some ⟨g, 0, none⟩) N N] 25) = wv at hvv hbx hrs hB0 hrow ⊢
  rw [hc] at hg1 hs2 hvv ⊢
  clear hc w1 w2
  have k0 := (unhide hvv).1.2 2 _ rfl
  go_wp2_with fail
  clear k0
  have hM := hide (fun S T => mixStep W H S T ad cap zs (unhide hp2))
  go_loopw [21] (fun i wr => ∃ k : Nat, i = .int .i64 (k : Int) ∧ k ≤ N ∧ Hid (HeldF wr c [.int .i64 (sw : Int), .int .i64 (sh : Int), .slice (some ⟨g, 0, none⟩) N N]) ∧ Hid (wr.ownsRow g 3 1 (.slice (some ⟨g, 0, none⟩) N N) N (ints (resizeL zs W H sw sh k ++ List.replicate (N - k) 0))) ∧ Hid (HeldF wr w.heap.size [.int .i64 (W : Int), .int .i64 (H : Int), .slice ad zs.length cap]) ∧ Hid (HeldF wr (w.heap.size + 1) [.int .i64 0, .int .i64 0, .slice none 0 0]) ∧ Hid (Below w.heap.size w wr)) (fun i _ => N - (intOf i).toNat)
  case atStart => exact ⟨0, rfl, Nat.zero_le _, hvv, hrow, hbx, hrs, hB0⟩
  case round =>
    clear hvv hrow hbx hrs hB0
    obtain ⟨k, rfl, hkN, hot, hrow, hbx, hrs, hB0⟩ := hrel
    by_cases hlt : k < N
    · have hp : k % sw < sw := Nat.mod_lt _ (by omega)
      have hq : k / sw < sh := Nat.div_lt_of_lt_mul (by have := unhide hN; rw [this]; exact hlt)
      have m1 := ((unhide h1).below hb1 (unhide hB0)) _ hp
      have m2 := ((unhide h2).below hb2 (unhide hB0)) _ hq
      have hnew := hide (unhide hL k)
      have hM1 := unhide hM (fromF (k % sw) W sw) (fromF (k / sw) H sh)
      obtain ⟨p, hpe⟩ : ∃ p, k % sw = p := ⟨_, rfl⟩
      obtain ⟨q, hqe⟩ : ∃ q, k / sw = q := ⟨_, rfl⟩
      have e1 : (k : Int).tmod (sw : Int) = (p : Int) := by rw [← hpe, Int.tmod_eq_emod_of_nonneg (by omega)]; simp
      have e2 : (k : Int).tdiv (sw : Int) = (q : Int) := by rw [← hqe, Int.tdiv_eq_ediv_of_nonneg (by omega)]; simp
      have e3 : (k : Int) / (sw : Int) = (q : Int) := by rw [← hqe]; simp
      have e4 : (k : Int) % (sw : Int) = (p : Int) := by rw [← hpe]; simp
      rw [hpe] at hp m1 hnew hM1
      rw [hqe] at hq m2 hnew hM1
      clear hpe hqe
      generalize hS : fromF p W sw = S at m1 hnew hM1
      generalize hT : fromF q H sh = T at m2 hnew hM1
      clear hS hT
      obtain ⟨n1, hn1⟩ : ∃ z : Int, ((min (S / 256) (W - 1) : Nat) : Int) = z := ⟨_, rfl⟩
      obtain ⟨f1, hf1⟩ : ∃ z : Int, ((min (S / 256 + 1) (W - 1) : Nat) : Int) = z := ⟨_, rfl⟩
      obtain ⟨p1, hp1⟩ : ∃ z : Int, ((S % 256 : Nat) : Int) = z := ⟨_, rfl⟩
      obtain ⟨n2, hn2⟩ : ∃ z : Int, ((min (T / 256) (H - 1) : Nat) : Int) = z := ⟨_, rfl⟩
      obtain ⟨f2, hf2⟩ : ∃ z : Int, ((min (T / 256 + 1) (H - 1) : Nat) : Int) = z := ⟨_, rfl⟩
      obtain ⟨p2, hp3⟩ : ∃ z : Int, ((T % 256 : Nat) : Int) = z := ⟨_, rfl⟩
      rw [hn1, hf1, hp1] at m1 hM1
      rw [hn2, hf2, hp3] at m2 hM1
      clear hn1 hf1 hp1 hn2 hf2 hp3
      obtain ⟨m10, m11, m12⟩ := m1
      obtain ⟨m20, m21, m22⟩ := m2
      obtain ⟨s0, s1, s2, s3, A, B, C, D, hK1, hK2, hK3⟩ := hM1
      replace hK1 := hide hK1
      replace hK2 := hide hK2
      replace hK3 := hide hK3
      generalize blendF zs W H S T = v at hK3 hnew
      have hsz : w.heap.size ≤ wr.heap.size := (unhide hB0).size
      have l1 : b1 < wr.heap.size := by omega
      have l2 : b2 < wr.heap.size := by omega
      have cl := (unhide hot).1.1
      have d0 := (unhide hot).1.2 0 _ rfl
      have hsw0 : ¬ sw = 0 := by omega
      go_upto_region 5 with fail
      go_cut [11, 12] (fun u v wx => ∃ a b : Nat, u = .pointer (some ⟨a, 0, none⟩) ∧ v = .pointer (some ⟨b, 0, none⟩) ∧ Hid (HeldF wx a [.int .i64 n1, .int .i64 f1, .int .i64 p1]) ∧ Hid (HeldF wx b [.int .i64 n2, .int .i64 f2, .int .i64 p2]) ∧ Hid (Upd 0 0 wr wx))
      case first =>
        have hS : ∀ X : World, Below wr.heap.size wr X → X.cell? ⟨c, 0, none⟩ = some (.int .i64 (sw : Int)) ∧ X.cell? ⟨b1, p * 3, none⟩ = some (.int .i64 n1) ∧ X.cell? ⟨b1, p * 3 + 1, none⟩ = some (.int .i64 f1) ∧ X.cell? ⟨b1, p * 3 + 2, none⟩ = some (.int .i64 p1) ∧ X.cell? ⟨b2, q * 3, none⟩ = some (.int .i64 n2) ∧ X.cell? ⟨b2, q * 3 + 1, none⟩ = some (.int .i64 f2) ∧ X.cell? ⟨b2, q * 3 + 2, none⟩ = some (.int .i64 p2) := fun X hX => ⟨(hX.cell (by simpa using cl)).trans d0, (hX.cell (by simpa using l1)).trans m10, (hX.cell (by simpa using l1)).trans m11, (hX.cell (by simpa using l1)).trans m12, (hX.cell (by simpa using l2)).trans m20, (hX.cell (by simpa using l2)).trans m21, (hX.cell (by simpa using l2)).trans m22⟩
        replace hS := hide hS
        have wq : IntKind.i64.wrap (q : Int) = (q : Int) := wrapI (by omega)
        have wp : IntKind.i64.wrap (p : Int) = (p : Int) := wrapI (by omega)
        have ip0 : (0 : Int) ≤ (p : Int) := by omega
        have ip1 : (p : Int) < (sw : Int) := by omega
        have iq0 : (0 : Int) ≤ (q : Int) := by omega
        have iq1 : (q : Int) < (sh : Int) := by omega
        clear d0 cl m10 m11 m12 m20 m21 m22
        go_region_held3 (fun X => X.cell? ⟨c, 0, none⟩ = some (.int .i64 (sw : Int)) ∧ X.cell? ⟨b1, p * 3, none⟩ = some (.int .i64 n1) ∧ X.cell? ⟨b1, p * 3 + 1, none⟩ = some (.int .i64 f1) ∧ X.cell? ⟨b1, p * 3 + 2, none⟩ = some (.int .i64 p1) ∧ X.cell? ⟨b2, q * 3, none⟩ = some (.int .i64 n2) ∧ X.cell? ⟨b2, q * 3 + 1, none⟩ = some (.int .i64 f2) ∧ X.cell? ⟨b2, q * 3 + 2, none⟩ = some (.int .i64 p2)) ((refine unhide hS _ ?_; (repeat (first | exact Below.refl _ _ | refine below_drewN ?_ 1 | refine Below.setCell ?_ (by first | (simp; done) | (simp; omega)) _ | refine Below.alloc ?_ (by first | (simp; done) | (simp; omega)) _)))) (fail)
        · have ht := hide (twoHeld wr n1 f1 p1 n2 f2 p2)
          go_wp2
          go_meet
          exact ⟨wr.heap.size, wr.heap.size + 1, rfl, rfl, hide (unhide ht).1, hide (unhide ht).2.1, hide (unhide ht).2.2⟩
        · have ht := hide (twoHeld wr n2 f2 p2 n1 f1 p1)
          go_wp2
          go_meet
          exact ⟨wr.heap.size + 1, wr.heap.size, rfl, rfl, hide (unhide ht).2.1, hide (unhide ht).1, hide (unhide ht).2.2⟩
      case rest =>
        obtain ⟨a, b, rfl, rfl, hx, hy, hu⟩ := hcut
        clear d0 cl m10 m11 m12 m20 m21 m22 e1 e2 e3 e4 hsz l1 l2
        replace hot := hide ((unhide hot).keep (unhide hu))
        replace hbx := hide ((unhide hbx).keep (unhide hu))
        replace hrs := hide ((unhide hrs).keep (unhide hu))
        replace hB0 := hide (below_upd (unhide hB0) (unhide hu) (Nat.le_refl _) (.inr (Nat.le_refl _)))
        have hrow0 := ((Own.of (unhide hrow)).keep (unhide hu)).1
        replace hrow := hide hrow0
        clear hrow0 hu
        have hAr := hide ((unhide hA0).below (unhide hB0))
        have c2 := fun X : UpdT wc => (((unhide hot).1.updT X).2 2 _ rfl)
        have g0 := fun X : UpdT wc => (((unhide hbx).1.updT X).2 0 _ rfl)
        have g1 := fun X : UpdT wc => (((unhide hbx).1.updT X).2 1 _ rfl)
        have g2 := fun X : UpdT wc => (((unhide hbx).1.updT X).2 2 _ rfl)
        have x0 := fun X : UpdT wc => (((unhide hx).1.updT X).2 0 _ rfl)
        have x1 := fun X : UpdT wc => (((unhide hx).1.updT X).2 1 _ rfl)
        have x2 := fun X : UpdT wc => (((unhide hx).1.updT X).2 2 _ rfl)
        have y0 := fun X : UpdT wc => (((unhide hy).1.updT X).2 0 _ rfl)
        have y1 := fun X : UpdT wc => (((unhide hy).1.updT X).2 1 _ rfl)
        have y2 := fun X : UpdT wc => (((unhide hy).1.updT X).2 2 _ rfl)
        have kI : (0 : Int) ≤ (k : Int) := by omega
        have kL : (k : Int) < (N : Int) := by omega
        go_upto_region 6 with fail
        refine wq_region_tail 14 (by kernel_rfl) (by kernel_rfl) ?_
        simp only [List.take_succ_cons, List.take_zero, List.drop_succ_cons, List.drop_zero]
        iterate 6
          refine WQ.step (fun K hK => ?_)
          go_simp
          refine hK _ ?_
          clear hK K
        refine WQ.step (fun K hK => ?_)
        go_simp
        refine ⟨_, fun X => Calls.updT X (unhide hK1 X.to ((unhide hAr).below (X.upd.below (Nat.le_refl _) (.inr (Nat.zero_le _))))), hK _ ?_⟩
        clear hK K
        refine WQ.step (fun K hK => ?_)
        go_simp
        refine hK _ ?_
        clear hK K
        refine WQ.step (fun K hK => ?_)
        go_simp
        refine hK _ ?_
        clear hK K
        refine WQ.step (fun K hK => ?_)
        go_simp
        refine hK _ ?_
        clear hK K
        refine WQ.step (fun K hK => ?_)
        go_simp
        refine ⟨_, fun X => Calls.updT X (unhide hK2 X.to), hK _ ?_⟩
        clear hK K
        refine WQ.step (fun K hK => ?_)
        go_simp
        refine hK _ ?_
        clear hK K
        refine WQ.step (fun K hK => ?_)
        go_simp
        refine ⟨_, fun X => Calls.updT X (unhide hK3 X.to), hK _ ?_⟩
        clear hK K
        refine WQ.step (fun K hK => ?_)
        go_simp
        refine hK _ ?_
        clear hK K
        refine WQ.nil ?_
        rintro _ ⟨X, rfl⟩
        clear c2 g0 g1 g2 x0 x1 x2 y0 y1 y2 hx hy hAr hK1 hK2 hK3
        have hX := X.upd
        generalize X.to = wt at hX ⊢
        replace hot := hide ((unhide hot).keep hX)
        replace hbx := hide ((unhide hbx).keep hX)
        replace hrs := hide ((unhide hrs).keep hX)
        replace hB0 := hide (below_upd (unhide hB0) hX (Nat.le_refl _) (.inr (Nat.le_refl _)))
        have hrow2 := ((Own.of (unhide hrow)).keep hX).1
        clear hX hrow
        have hps := part_set (resizeL_length zs W H sw sh k) hlt v
        rw [← unhide hnew] at hps
        have hdst : ∃ u, wt.cell? ⟨g, k, none⟩ = some u := by
          rw [hrow2.cellAt k (by omega)]; exact ⟨_, List.getElem?_eq_getElem (by have := hrow2.1; omega)⟩
        obtain ⟨u, hdst⟩ := hdst
        have hfz := hrow2.frozenAt k
        have hst := (hrow2.stored k (.int .i64 v)).1
        rw [ints_set, hps] at hst
        have hb3 := hide ((unhide hB0).setCell (p := ⟨g, k, none⟩) (by simp; omega) (.int .i64 v))
        have hot3 := hide ((unhide hot).other (g' := g) (by omega) k (.int .i64 v))
        have hbx3 := hide ((unhide hbx).other (g' := g) (by omega) k (.int .i64 v))
        have hrs3 := hide ((unhide hrs).other (g' := g) (by omega) k (.int .i64 v))
        replace hst := hide hst
        clear hps hrow2 hot hbx hrs hB0
        go_wp2
        go_roundw
        case rel => exact ⟨k + 1, by go_num, by omega, hot3, hst, hbx3, hrs3, hb3⟩
        case measure => simp [intOf]; omega
    · have hke : k = N := by omega
      subst hke
      rw [Nat.sub_self, List.replicate_zero, List.append_nil] at hrow
      have d0 := (unhide hot).1.2 0 _ rfl
      have d1 := (unhide hot).1.2 1 _ rfl
      have d2 := (unhide hot).1.2 2 _ rfl
      have z0 := (unhide hrs).1.2 0 _ rfl
      have z1 := (unhide hrs).1.2 1 _ rfl
      have z2 := (unhide hrs).1.2 2 _ rfl
      have f0 := (unhide hrs).2 0
      have f1 := (unhide hrs).2 1
      have f2 := (unhide hrs).2 2
      have hgl := (unhide hrow).lt g rfl
      replace hgl := hide hgl
      clear hot hbx hrs
      go_wp2
      refine bodyPost_ret (v := .agg #[.int .i64 (sw : Int), .int .i64 (sh : Int), .slice (some ⟨g, 0, none⟩) k k]) (by simp [results, Try.results54, go_sem, z0, z1, z2]) rfl ⟨_, rfl, ?_, Upd.of_below ((((unhide hB0).setCell (by simp) _).setCell (by simp) _).setCell (by simp) _) 0 0⟩
      refine ⟨_, rfl, ?_⟩
      show Own 3 1 _ _ _ _ (resizeL zs W H sw sh k).length (ints (resizeL zs W H sw sh k))
      rw [resizeL_length]
      have ho := Own.of (unhide hrow)
      refine own_mono (a := g) (b := wr.heap.size) ⟨?_, ho.2⟩ (by omega) (by simp)
      exact ownsRow_setCell_below (ownsRow_setCell_below (ownsRow_setCell_below ho.1 (show w.heap.size + 1 < g by omega) _) (show w.heap.size + 1 < g by omega) _) (show w.heap.size + 1 < g by omega) _
end Go.Proofs.Ytnalmingbglgfaa

/- The program's Resize. -/
namespace Go.Proofs.Ytnalmingbglgfaa
open Go.RowKit

theorem implMixesG (old side : Nat) (w : World) (ho : 1 ≤ old ∧ old ≤ 512) (hs : 1 ≤ side ∧ side ≤ 512) :
    Calls Try.prog 55 #[.int .i64 (old : Int), .int .i64 (side : Int)] w fun e w' =>
      ∃ g, e = .returned (.slice (some ⟨g, 0, none⟩) side side) ∧ Hid (MxAt w' g old side ∧ g < w'.heap.size) ∧ Hid (Upd 0 0 w w') :=
  (implResizeMixes old side w ho hs).mono fun _ _ ⟨_, he, ho, hr, hu⟩ => ⟨_, he, hide ⟨mxAt_of ho hr, (ho.lt _ rfl).2⟩, hide hu⟩
set_option maxHeartbeats 8000000 in
set_option maxRecDepth 100000 in
theorem implResize (v : Value) (d : Pl) (wi he : Int) (w : World) (hn : d.2.2.length ≤ 1048576) (hR : InPl d) (hv : RdPl w v d) (_hl1 : -9223372036854775808 ≤ wi) (_hh1 : wi ≤ 9223372036854775807) (_hl2 : -9223372036854775808 ≤ he) (_hh2 : he ≤ 9223372036854775807) :
    Calls Try.prog 15 #[v, .int .i64 wi, .int .i64 he] w fun e w' => ∃ u, e = .returned u ∧ OwnPl w' w.heap.size w'.heap.size u (resizeF d wi he) ∧ Upd 0 0 w w' := by
  obtain ⟨vl, rfl, h⟩ := hv
  obtain ⟨ad, cap, rfl, hA⟩ := h
  obtain ⟨a1, b1, zs⟩ := d
  simp only [Plv, Pls] at hn hA ⊢
  have hG := hide (fun (W : World) (h : ArgI W ad zs) => implGoodPlane _ (a1, b1, zs) W hn hR ⟨_, rfl, ad, cap, rfl, h⟩)
  have hSd : Hid (∀ W : World, Calls Try.prog 53 #[.int .i64 wi, .int .i64 he] W fun e w' => e = .returned (.bool (decide (SidesOk wi he))) ∧ w' = W) := hide (fun W => implGoodSidesP wi he W)
  have hB0 := (((Below.refl w.heap.size w).alloc (Nat.le_refl _) (.cells #[.int .i64 a1, .int .i64 b1, .slice ad zs.length cap] 25)).alloc (by simp) (.cells #[.int .i64 0, .int .i64 0, .slice none 0 0] 25))
  have hs0 : ((w.alloc (.cells #[.int .i64 a1, .int .i64 b1, .slice ad zs.length cap] 25)).alloc (.cells #[.int .i64 0, .int .i64 0, .slice none 0 0] 25)).heap.size = w.heap.size + 2 := by simp
  have hbx := (heldF_new w [.int .i64 a1, .int .i64 b1, .slice ad zs.length cap] 25).keep (Upd.of_below ((Below.refl _ _).alloc (Nat.le_refl _) (.cells #[.int .i64 0, .int .i64 0, .slice none 0 0] 25)) 0 0)
  have hrs := heldF_new (w.alloc (.cells #[.int .i64 a1, .int .i64 b1, .slice ad zs.length cap] 25)) [.int .i64 0, .int .i64 0, .slice none 0 0] 25
  have e1 : (w.alloc (.cells #[.int .i64 a1, .int .i64 b1, .slice ad zs.length cap] 25)).heap.size = w.heap.size + 1 := by simp
  rw [e1] at hrs
  clear e1
  have hA0 := hide (hA.below hB0)
  have hAw := hide hA
  replace hB0 := hide hB0
  replace hbx := hide hbx
  replace hrs := hide hrs
  clear hA
  go_enter Try.func15, Try.ntmps15
  go_upto_region 1 with fail
  generalize (w.alloc (.cells #[.int .i64 a1, .int .i64 b1, .slice ad zs.length cap] 25)).alloc (.cells #[.int .i64 0, .int .i64 0, .slice none 0 0] 25) = w0 at hB0 hs0 hbx hrs hA0 ⊢
  obtain ⟨okB, hok⟩ : ∃ okB, okB = (goodPlB (a1, b1, zs) && decide (SidesOk wi he)) := ⟨_, rfl⟩
  replace hok := hide hok
  go_cut [15] (fun s15 wx => s15 = .bool (!okB) ∧ Hid (Upd 0 0 w0 wx))
  case first =>
    have c0 := (unhide hbx).1.2 0 _ rfl
    have c1 := (unhide hbx).1.2 1 _ rfl
    have c2 := (unhide hbx).1.2 2 _ rfl
    go_wp2_with fail
    refine (unhide hG w0 (unhide hA0)).mono ?_
    rintro e w1 ⟨rfl, hu⟩
    clear c0 c1 c2
    cases hgb : goodPlB (a1, b1, zs)
    · have e : okB = false := by rw [unhide hok, hgb]; rfl
      subst e
      replace hu := hide hu
      clear hok hgb
      go_wp2
      go_meet
      exact ⟨rfl, hu⟩
    · have e : okB = decide (SidesOk wi he) := by rw [unhide hok, hgb]; rfl
      replace hu := hide hu
      clear hok hgb
      go_wp2_with fail
      refine (unhide hSd _).mono ?_
      rintro e w2 ⟨rfl, rfl⟩
      rw [← e]
      clear e
      go_wp2
      go_meet
      exact ⟨rfl, hu⟩
  case rest =>
  obtain ⟨rfl, hu0⟩ := hcut
  replace hbx := hide ((unhide hbx).keep (unhide hu0))
  replace hrs := hide ((unhide hrs).keep (unhide hu0))
  replace hA0 := hide ((unhide hA0).below ((unhide hu0).below (Nat.le_refl _) (.inr (Nat.zero_le _))))
  replace hB0 := hide (below_upd (unhide hB0) (unhide hu0) (Nat.le_refl _) (.inr (Nat.le_refl _)))
  have hs1 : w.heap.size + 2 ≤ wc.heap.size := by have := (unhide hu0).size; omega
  clear hG hu0 hs0 hSd
  by_cases hg : GoodPl (a1, b1, zs) ∧ SidesOk wi he
  case neg =>
    have hF := hide (resizeF_no hg)
    have e : okB = false := by
      rw [unhide hok]
      by_cases hg1 : GoodPl (a1, b1, zs)
      · rw [goodPlB_yes hg1, decide_eq_false (fun h => hg ⟨hg1, h⟩)]; rfl
      · rw [goodPlB_no hg1]; rfl
    subst e
    have z0 := (unhide hrs).1.2 0 _ rfl
    have z1 := (unhide hrs).1.2 1 _ rfl
    have z2 := (unhide hrs).1.2 2 _ rfl
    have f0 := (unhide hrs).2 0
    have f1 := (unhide hrs).2 1
    have f2 := (unhide hrs).2 2
    clear hbx hA0 hR hok hg
    go_wp2
    refine bodyPost_ret (v := .agg #[.int .i64 0, .int .i64 0, .slice none 0 0]) (by simp [results, Try.results15, go_sem, z0, z1, z2]) rfl ⟨_, rfl, ?_, Upd.of_below ((((unhide hB0).setCell (by simp) _).setCell (by simp) _).setCell (by simp) _) 0 0⟩
    rw [unhide hF]
    exact ⟨_, rfl, World.ownsRow_nil _ _ _ _, fun k hk => by simp [Value.ownBlock] at hk⟩
  obtain ⟨hg1, hsd⟩ := hg
  have e : okB = true := by rw [unhide hok, goodPlB_yes hg1, decide_eq_true hsd]; rfl
  subst e
  clear hok
  have hF := hide (resizeF_yes hg1 hsd)
  obtain ⟨W, H, rfl, rfl, hp⟩ := hg1.nat
  obtain ⟨⟨s1, s2⟩, ⟨s3, s4⟩, s5⟩ := hsd
  obtain ⟨sw, rfl⟩ := Int.eq_ofNat_of_zero_le (show 0 ≤ wi by omega)
  obtain ⟨sh, rfl⟩ := Int.eq_ofNat_of_zero_le (show 0 ≤ he by omega)
  simp only [Int.toNat_natCast] at hF
  have sw1 : 1 ≤ sw := by omega
  have sw2 : sw ≤ 512 := by omega
  have sh1 : 1 ≤ sh := by omega
  have sh2 : sh ≤ 512 := by omega
  obtain ⟨N, hN⟩ : ∃ N, sw * sh = N := ⟨_, rfl⟩
  have hp2 := hide hp
  have hW := hp.w
  have hH := hp.h
  have hM := hide (fun (old side : Nat) (X : World) (a1 : 1 ≤ old) (a2 : old ≤ 512) (b1 : 1 ≤ side) (b2 : side ≤ 512) => implMixesG old side X ⟨a1, a2⟩ ⟨b1, b2⟩)
  obtain ⟨W1, W2⟩ := hW
  obtain ⟨H1, H2⟩ := hH
  rw [hN] at hF
  replace hN := hide hN
  clear hR hg1 hp
  go_upto_region 3 with fail
  generalize wc = w1 at hrs hA0 hB0 hs1 hbx ⊢
  have c0 := (unhide hbx).1.2 0 _ rfl
  have c1 := (unhide hbx).1.2 1 _ rfl
  have c2 := (unhide hbx).1.2 2 _ rfl
  have cl := (unhide hbx).1.1
  have hS : ∀ X : World, Below w1.heap.size w1 X → X.cell? ⟨w.heap.size, 0, none⟩ = some (.int .i64 (W : Int)) ∧ X.cell? ⟨w.heap.size, 1, none⟩ = some (.int .i64 (H : Int)) ∧ X.cell? ⟨w.heap.size, 2, none⟩ = some (.slice ad zs.length cap) := fun X hX => ⟨(hX.cell (by simp; omega)).trans c0, (hX.cell (by simp; omega)).trans c1, (hX.cell (by simp; omega)).trans c2⟩
  replace hS := hide hS
  clear c0 c1 c2 cl
  clear s1 s2 s3 s4 s5 _hl1 _hl2 _hh1 _hh2 hn
  go_region_held3 (fun X => X.cell? ⟨w.heap.size, 0, none⟩ = some (.int .i64 (W : Int)) ∧ X.cell? ⟨w.heap.size, 1, none⟩ = some (.int .i64 (H : Int)) ∧ X.cell? ⟨w.heap.size, 2, none⟩ = some (.slice ad zs.length cap)) ((first | (refine unhide hS _ ?_; (repeat (first | exact Below.refl _ _ | refine below_drewN ?_ 1 | refine below_upd ?_ (unhide hum2) (by first | (simp; done) | (simp; omega)) (.inr (Nat.le_refl _)) | refine below_upd ?_ (unhide hub) (by first | (simp; done) | (simp; omega)) (.inr (Nat.le_refl _)) | refine below_upd ?_ (unhide hua) (by first | (simp; done) | (simp; omega)) (.inr (Nat.le_refl _)))); done) | exact ⟨(((((unhide hbx).keep (unhide hum2)).other (g' := w.heap.size + 1) (by omega) 0 _).other (g' := w.heap.size + 1) (by omega) 1 _).other (g' := w.heap.size + 1) (by omega) 2 _).1.2 0 _ rfl, (((((unhide hbx).keep (unhide hum2)).other (g' := w.heap.size + 1) (by omega) 0 _).other (g' := w.heap.size + 1) (by omega) 1 _).other (g' := w.heap.size + 1) (by omega) 2 _).1.2 1 _ rfl, (((((unhide hbx).keep (unhide hum2)).other (g' := w.heap.size + 1) (by omega) 0 _).other (g' := w.heap.size + 1) (by omega) 1 _).other (g' := w.heap.size + 1) (by omega) 2 _).1.2 2 _ rfl⟩)) (first | (go_at_call 55; refine (unhide hM _ _ _ ?_ ?_ ?_ ?_).mono ?_; omega; omega; omega; omega; first | (have hz := hua; clear hz; rintro e wb ⟨gb, rfl, hob, hub⟩) | rintro e wa ⟨ga, rfl, hoa, hua⟩) | (go_at_call 54; refine (implMixed8 W H sw sh N ga gb ad cap zs wb (unhide hp2) ((unhide hA0).below ((((Upd.drew1 w1).trans (unhide hua)).trans (unhide hub)).below (Nat.le_refl _) (.inr (Nat.zero_le _)))) (Nat.lt_of_lt_of_le (unhide hoa).2 (unhide hub).size) (unhide hob).2 sw1 sw2 sh1 sh2 (unhide hN) ((unhide hoa).1.below (unhide hoa).2 ((unhide hub).below (Nat.le_refl _) (.inr (Nat.zero_le _)))) (unhide hob).1).mono ?_; rintro e wm ⟨um, rfl, hom, hum⟩; obtain ⟨am, cm, rfl⟩ := hom.form; have hum2 := hide ((((Upd.drew1 w1).trans (unhide hua)).trans (unhide hub)).trans hum); have hr2 := hide ((unhide hrs).keep (unhide hum2)); have hsb := hide (Nat.le_trans (((Upd.drew1 w1).trans (unhide hua)).trans (unhide hub)).size (Nat.le_refl wb.heap.size)); clear hum; replace hom := hide hom; have z0 := (unhide hr2).1.2 0 _ rfl; have z1 := (unhide hr2).1.2 1 _ rfl; have z2 := (unhide hr2).1.2 2 _ rfl; have y0 := (unhide hr2).2 0; have y1 := (unhide hr2).2 1; have y2 := (unhide hr2).2 2; simp only [Plv, Pls]))
  all_goals
    go_wp2
    refine bodyPost_ret (v := .agg #[.int .i64 (sw : Int), .int .i64 (sh : Int), .slice am N cm]) (by simp [results, Try.results15, go_sem, z0, z1, z2]) rfl ⟨_, rfl, ?_, Upd.of_below ((((below_upd (unhide hB0) (unhide hum2) (Nat.le_refl _) (.inr (Nat.le_refl _))).setCell (by simp) _).setCell (by simp) _).setCell (by simp) _) 0 0⟩
    rw [unhide hF]
    obtain ⟨vl, hvl, ho⟩ := unhide hom
    have hvl2 : vl = .slice am N cm := by simpa [Plv, Pls] using hvl.symm
    subst hvl2
    refine ⟨_, rfl, ?_⟩
    have hsb2 := unhide hsb
    refine own_mono (a := wb.heap.size) (b := wm.heap.size) ⟨?_, ho.2⟩ (by omega) (by simp)
    exact ownsRow_setCell_below (ownsRow_setCell_below (ownsRow_setCell_below ho.1 (show w.heap.size + 1 < wb.heap.size by omega) _) (show w.heap.size + 1 < wb.heap.size by omega) _) (show w.heap.size + 1 < wb.heap.size by omega) _
end Go.Proofs.Ytnalmingbglgfaa

/- The specification's Resize. -/
namespace Go.Proofs.Ytnalmingbglgfaa
open Go.RowKit

theorem AccSt.keep {w wr w' : World} {c : Nat} {W H sw sh : Int} {ad : Option Addr} {n cap : Nat} {L : List Int} {ad2 : Option Addr} {cp : Nat} (h : AccSt w wr c W H sw sh ad n cap L ad2 cp) (hu : Upd 0 0 wr w') : AccSt w w' c W H sw sh ad n cap L ad2 cp :=
  ⟨h.o.keep hu, ((Own.of h.r).keep hu).1, h.b.keep hu, h.z.keep hu, below_upd h.k hu (Nat.le_refl _) (.inr (Nat.le_refl _))⟩
set_option maxHeartbeats 8000000 in
set_option maxRecDepth 100000 in
theorem specResize (v : Value) (d : Pl) (wi he : Int) (w : World) (hn : d.2.2.length ≤ 1048576) (hR : InPl d) (hv : RdPl w v d) (_hl1 : -9223372036854775808 ≤ wi) (_hh1 : wi ≤ 9223372036854775807) (_hl2 : -9223372036854775808 ≤ he) (_hh2 : he ≤ 9223372036854775807) :
    Calls Try.prog 19 #[v, .int .i64 wi, .int .i64 he] w fun e w' => ∃ u, e = .returned u ∧ OwnPl w' w.heap.size w'.heap.size u (resizeF d wi he) ∧ Upd 0 0 w w' := by
  obtain ⟨vl, rfl, h⟩ := hv
  obtain ⟨ad, cap, rfl, hA⟩ := h
  obtain ⟨a1, b1, zs⟩ := d
  simp only [Plv, Pls] at hn hA ⊢
  have hG := hide (fun (W : World) (h : ArgI W ad zs) => specGoodPlane _ (a1, b1, zs) W hn hR ⟨_, rfl, ad, cap, rfl, h⟩)
  have hSd := hide (fun (W : World) => specL7Sides wi he W)
  have hB0 := (((Below.refl w.heap.size w).alloc (Nat.le_refl _) (.cells #[.int .i64 a1, .int .i64 b1, .slice ad zs.length cap] 25)).alloc (by simp) (.cells #[.int .i64 0, .int .i64 0, .slice none 0 0] 25))
  have hs0 : ((w.alloc (.cells #[.int .i64 a1, .int .i64 b1, .slice ad zs.length cap] 25)).alloc (.cells #[.int .i64 0, .int .i64 0, .slice none 0 0] 25)).heap.size = w.heap.size + 2 := by simp
  have hbx := (heldF_new w [.int .i64 a1, .int .i64 b1, .slice ad zs.length cap] 25).keep (Upd.of_below ((Below.refl _ _).alloc (Nat.le_refl _) (.cells #[.int .i64 0, .int .i64 0, .slice none 0 0] 25)) 0 0)
  have hrs := heldF_new (w.alloc (.cells #[.int .i64 a1, .int .i64 b1, .slice ad zs.length cap] 25)) [.int .i64 0, .int .i64 0, .slice none 0 0] 25
  have e1 : (w.alloc (.cells #[.int .i64 a1, .int .i64 b1, .slice ad zs.length cap] 25)).heap.size = w.heap.size + 1 := by simp
  rw [e1] at hrs
  clear e1
  have hA0 := hide (hA.below hB0)
  have hAw := hide hA
  replace hB0 := hide hB0
  replace hbx := hide hbx
  replace hrs := hide hrs
  clear hA
  go_enter Try.func19, Try.ntmps19
  go_upto_region 1 with fail
  generalize (w.alloc (.cells #[.int .i64 a1, .int .i64 b1, .slice ad zs.length cap] 25)).alloc (.cells #[.int .i64 0, .int .i64 0, .slice none 0 0] 25) = w0 at hB0 hs0 hbx hrs hA0 ⊢
  obtain ⟨okB, hok⟩ : ∃ okB, okB = (goodPlB (a1, b1, zs) && decide (SidesOk wi he)) := ⟨_, rfl⟩
  replace hok := hide hok
  go_cut [26] (fun s26 wx => s26 = .bool (!okB) ∧ Hid (Upd 0 0 w0 wx))
  case first =>
    have c0 := (unhide hbx).1.2 0 _ rfl
    have c1 := (unhide hbx).1.2 1 _ rfl
    have c2 := (unhide hbx).1.2 2 _ rfl
    go_wp2_with fail
    refine (unhide hG w0 (unhide hA0)).mono ?_
    rintro e w1 ⟨rfl, hu⟩
    clear c0 c1 c2
    cases hgb : goodPlB (a1, b1, zs)
    · have e : okB = false := by rw [unhide hok, hgb]; rfl
      subst e
      replace hu := hide hu
      clear hok hgb
      go_wp2
      go_meet
      exact ⟨rfl, hu⟩
    · have e : okB = decide (SidesOk wi he) := by rw [unhide hok, hgb]; rfl
      replace hu := hide hu
      clear hok hgb
      go_wp2_with fail
      refine (unhide hSd _).mono ?_
      rintro e w2 ⟨rfl, rfl⟩
      rw [← e]
      clear e
      go_wp2
      go_meet
      exact ⟨rfl, hu⟩
  case rest =>
  obtain ⟨rfl, hu0⟩ := hcut
  replace hbx := hide ((unhide hbx).keep (unhide hu0))
  replace hrs := hide ((unhide hrs).keep (unhide hu0))
  replace hA0 := hide ((unhide hA0).below ((unhide hu0).below (Nat.le_refl _) (.inr (Nat.zero_le _))))
  replace hB0 := hide (below_upd (unhide hB0) (unhide hu0) (Nat.le_refl _) (.inr (Nat.le_refl _)))
  have hs1 : w.heap.size + 2 ≤ wc.heap.size := by have := (unhide hu0).size; omega
  clear hG hu0 hs0 hSd
  by_cases hg : GoodPl (a1, b1, zs) ∧ SidesOk wi he
  case neg =>
    have hF := hide (resizeF_no hg)
    have e : okB = false := by
      rw [unhide hok]
      by_cases hg1 : GoodPl (a1, b1, zs)
      · rw [goodPlB_yes hg1, decide_eq_false (fun h => hg ⟨hg1, h⟩)]; rfl
      · rw [goodPlB_no hg1]; rfl
    subst e
    have z0 := (unhide hrs).1.2 0 _ rfl
    have z1 := (unhide hrs).1.2 1 _ rfl
    have z2 := (unhide hrs).1.2 2 _ rfl
    have f0 := (unhide hrs).2 0
    have f1 := (unhide hrs).2 1
    have f2 := (unhide hrs).2 2
    clear hbx hA0 hR hok hg
    go_wp2
    refine bodyPost_ret (v := .agg #[.int .i64 0, .int .i64 0, .slice none 0 0]) (by simp [results, Try.results19, go_sem, z0, z1, z2]) rfl ⟨_, rfl, ?_, Upd.of_below ((((unhide hB0).setCell (by simp) _).setCell (by simp) _).setCell (by simp) _) 0 0⟩
    rw [unhide hF]
    exact ⟨_, rfl, World.ownsRow_nil _ _ _ _, fun k hk => by simp [Value.ownBlock] at hk⟩
  obtain ⟨hg1, hsd⟩ := hg
  have e : okB = true := by rw [unhide hok, goodPlB_yes hg1, decide_eq_true hsd]; rfl
  subst e
  clear hok
  have hF := hide (resizeF_yes hg1 hsd)
  obtain ⟨W, H, rfl, rfl, hp⟩ := hg1.nat
  obtain ⟨⟨s1, s2⟩, ⟨s3, s4⟩, s5⟩ := hsd
  obtain ⟨sw, rfl⟩ := Int.eq_ofNat_of_zero_le (show 0 ≤ wi by omega)
  obtain ⟨sh, rfl⟩ := Int.eq_ofNat_of_zero_le (show 0 ≤ he by omega)
  simp only [Int.toNat_natCast] at hF
  have sw1 : 1 ≤ sw := by omega
  have sw2 : sw ≤ 512 := by omega
  have sh1 : 1 ≤ sh := by omega
  have sh2 : sh ≤ 512 := by omega
  have hNN4 : sw * sh ≤ 4096 := by
    have e : (sw : Int) * (sh : Int) = ((sw * sh : Nat) : Int) := by simp
    omega
  obtain ⟨W1, W2⟩ := hp.w
  obtain ⟨H1, H2⟩ := hp.h
  have hNN : Hid (∀ y x, y < sh → x < sw → y * sw + x < 4096) := hide (fun y x hy hx => by
    have h1 : (y + 1) * sw ≤ sh * sw := Nat.mul_le_mul hy (Nat.le_refl _)
    rw [Nat.add_mul, Nat.one_mul, Nat.mul_comm sh sw] at h1
    omega)
  have hFx := hide (fun (x : Nat) (X : World) (h : x < sw) => specL7From x W sw X h ⟨W1, W2⟩ sw2)
  have hFy := hide (fun (x : Nat) (X : World) (h : x < sh) => specL7From x H sh X h ⟨H1, H2⟩ sh2)
  have hAt := hide (fun (x y : Nat) (X : World) (h1 : x ≤ 1000000) (h2 : y ≤ 1000000) (h : ArgI X ad zs) => specL7At W H x y ad cap zs X hp h1 h2 h)
  have hL : Hid (∀ k, resizeL zs W H sw sh (k + 1) = resizeL zs W H sw sh k ++ [blendF zs W H (fromF (k % sw) W sw) (fromF (k / sw) H sh)]) := hide (fun k => resizeL_succ zs W H sw sh k)
  have hsm := hide hp.s
  clear hg1 hR hp _hl1 _hh1 _hl2 _hh2 s1 s2 s3 s4 s5
  go_upto_region 4 with fail
  obtain ⟨c, hc⟩ : ∃ c, wc.heap.size = c := ⟨_, rfl⟩
  have hu2 := Upd.of_below ((Below.refl wc.heap.size wc).alloc (Nat.le_refl _) (.cells #[.int .i64 (sw : Int), .int .i64 (sh : Int), .slice none 0 0] 25)) 0 0
  have hot2 := heldF_new wc [.int .i64 (sw : Int), .int .i64 (sh : Int), .slice none 0 0] 25
  have hbx2 := (unhide hbx).keep hu2
  have hrs2 := (unhide hrs).keep hu2
  have hB2 := below_upd (unhide hB0) hu2 (Nat.le_refl _) (.inr (Nat.le_refl _))
  rw [hc] at hs1 hot2 ⊢
  clear hu2 hbx hrs hB0 hA0 hc
  generalize wc.alloc (.cells #[.int .i64 (sw : Int), .int .i64 (sh : Int), .slice none 0 0] 25) = w2 at hot2 hbx2 hrs2 hB2 ⊢
  have hSt : Hid (AccSt w w2 c W H sw sh ad zs.length cap (resizeL zs W H sw sh 0) none 0) := hide ⟨hot2, World.ownsRow_nil _ _ _ _, hbx2, hrs2, hB2⟩
  clear hot2 hbx2 hrs2 hB2
  go_wp2_with fail
  go_loopw [8] (fun s wr => ∃ (y m : Nat) (ad2 : Option Addr) (cp : Nat), s = .int .i64 (y : Int) ∧ y ≤ sh ∧ Hid (m = y * sw) ∧ Hid (AccSt w wr c W H sw sh ad zs.length cap (resizeL zs W H sw sh m) ad2 cp)) (fun s _ => sh - (intOf s).toNat)
  case atStart => exact ⟨0, 0, none, 0, rfl, Nat.zero_le _, hide (by simp), hSt⟩
  case round =>
    clear hSt
    obtain ⟨y, m, ad2, cp, rfl, hy, hm, hSt⟩ := hrel
    by_cases hyl : y < sh
    · have a1 := (unhide hSt).b.1.2 1 _ rfl
      have htb := fromF_bd hyl H2
      obtain ⟨tt, htt⟩ : ∃ k, fromF y H sh = k := ⟨_, rfl⟩
      have hFy2 := unhide hFy y wr hyl
      rw [htt] at hFy2 htb
      replace hFy2 := hide hFy2
      replace htt := hide htt
      go_wp2_with fail
      refine (unhide hFy2).mono ?_
      rintro e wv ⟨rfl, rfl⟩
      clear a1 hFy2
      go_wp2_with fail
      go_loopw [10] (fun s wr => ∃ (x : Nat) (ad2 : Option Addr) (cp : Nat), s = .int .i64 (x : Int) ∧ x ≤ sw ∧ Hid (AccSt w wr c W H sw sh ad zs.length cap (resizeL zs W H sw sh (m + x)) ad2 cp)) (fun s _ => sw - (intOf s).toNat)
      case atStart => exact ⟨0, ad2, cp, rfl, Nat.zero_le _, hSt⟩
      case round =>
        clear hSt
        obtain ⟨x, ad2, cp, rfl, hx, hSt⟩ := hrel
        by_cases hxl : x < sw
        · have a0 := (unhide hSt).b.1.2 0 _ rfl
          have hsb := fromF_bd hxl W2
          obtain ⟨ss, hss⟩ : ∃ k, fromF x W sw = k := ⟨_, rfl⟩
          have hFx2 := unhide hFx x wr hxl
          rw [hss] at hFx2 hsb
          have hnew : Hid (resizeL zs W H sw sh (m + (x + 1)) = resizeL zs W H sw sh (m + x) ++ [blendF zs W H ss tt]) := hide (by
            have := unhide hL (m + x)
            rw [unhide hm, (mod_row hxl).1, (mod_row hxl).2, hss, unhide htt] at this
            rw [unhide hm]; exact this)
          have hml : m + x < 4096 := by have := unhide hNN y x hyl hxl; rw [← unhide hm] at this; omega
          replace hFx2 := hide hFx2
          replace hss := hide hss
          go_wp2_with fail
          refine (unhide hFx2).mono ?_
          rintro e wv ⟨rfl, rfl⟩
          clear a0 hFx2
          have eA := i64_and_255 ss
          have eB := i64_and_255 tt
          have hBl : Hid (blendF zs W H ss tt = ((256 - ((tt % 256 : Nat) : Int)) * topF zs W H ss (tt / 256) + ((tt % 256 : Nat) : Int) * topF zs W H ss (tt / 256 + 1) + 32768) / 65536) := hide rfl
          have hT1 : Hid (topF zs W H ss (tt / 256) = (256 - ((ss % 256 : Nat) : Int)) * nearF zs W H (ss / 256) (tt / 256) + ((ss % 256 : Nat) : Int) * nearF zs W H (ss / 256 + 1) (tt / 256)) := hide rfl
          have hT2 : Hid (topF zs W H ss (tt / 256 + 1) = (256 - ((ss % 256 : Nat) : Int)) * nearF zs W H (ss / 256) (tt / 256 + 1) + ((ss % 256 : Nat) : Int) * nearF zs W H (ss / 256 + 1) (tt / 256 + 1)) := hide rfl
          have bT1 := topF_bd (unhide hsm) W H ss (tt / 256)
          have bT2 := topF_bd (unhide hsm) W H ss (tt / 256 + 1)
          have b00 := nearF_bd (unhide hsm) W H (ss / 256) (tt / 256)
          have b10 := nearF_bd (unhide hsm) W H (ss / 256 + 1) (tt / 256)
          have b01 := nearF_bd (unhide hsm) W H (ss / 256) (tt / 256 + 1)
          have b11 := nearF_bd (unhide hsm) W H (ss / 256 + 1) (tt / 256 + 1)
          have hAr := hide ((unhide hAw).below (unhide hSt).k)
          have hf : ss % 256 < 256 := Nat.mod_lt _ (by omega)
          have hg : tt % 256 < 256 := Nat.mod_lt _ (by omega)
          have eI : (ss : Int) / 256 = ((ss / 256 : Nat) : Int) := by omega
          have eJ : (tt : Int) / 256 = ((tt / 256 : Nat) : Int) := by omega
          have hi : ss / 256 ≤ 512 := by omega
          have hj : tt / 256 ≤ 512 := by omega
          obtain ⟨f, hfe⟩ : ∃ k, ss % 256 = k := ⟨_, rfl⟩
          obtain ⟨g, hge⟩ : ∃ k, tt % 256 = k := ⟨_, rfl⟩
          obtain ⟨i, hie⟩ : ∃ k, ss / 256 = k := ⟨_, rfl⟩
          obtain ⟨j, hje⟩ : ∃ k, tt / 256 = k := ⟨_, rfl⟩
          rw [hfe] at eA hT1 hT2 hf
          rw [hge] at eB hBl hg
          rw [hie] at eI hT1 hT2 b00 b10 b01 b11 hi
          rw [hje] at eJ hBl hT1 hT2 bT1 bT2 b00 b10 b01 b11 hj
          replace hfe := hide hfe
          replace hge := hide hge
          replace hie := hide hie
          replace hje := hide hje
          have hN00 := hide (fun (X : World) h => unhide hAt i j X (by omega) (by omega) h)
          have hN10 := hide (fun (X : World) h => unhide hAt (i + 1) j X (by omega) (by omega) h)
          have hN01 := hide (fun (X : World) h => unhide hAt i (j + 1) X (by omega) (by omega) h)
          have hN11 := hide (fun (X : World) h => unhide hAt (i + 1) (j + 1) X (by omega) (by omega) h)
          have eU : ((i + 1 : Nat) : Int) = (i : Int) + 1 := by omega
          have eV : ((j + 1 : Nat) : Int) = (j : Int) + 1 := by omega
          rw [eU] at hN10 hN11
          rw [eV] at hN01 hN11
          clear eU eV
          generalize topF zs W H ss j = T1 at hBl hT1 bT1
          generalize topF zs W H ss (j + 1) = T2 at hBl hT2 bT2
          generalize blendF zs W H ss tt = BB at hBl hnew
          generalize nearF zs W H i j = v00 at hT1 b00 hN00
          generalize nearF zs W H (i + 1) j = v10 at hT1 b10 hN10
          generalize nearF zs W H i (j + 1) = v01 at hT2 b01 hN01
          generalize nearF zs W H (i + 1) (j + 1) = v11 at hT2 b11 hN11
          obtain ⟨F, hFF⟩ : ∃ F, 256 - (f : Int) = F := ⟨_, rfl⟩
          have F0 : 0 ≤ F := by omega
          have F1 : F ≤ 256 := by omega
          rw [hFF] at hT1 hT2
          have w1 : IntKind.i64.wrap (256 - (f : Int)) = F := by rw [hFF]; exact wrapI (by omega)
          obtain ⟨A, hA⟩ : ∃ A, F * v00 = A := ⟨_, rfl⟩
          obtain ⟨B, hB⟩ : ∃ B, (f : Int) * v10 = B := ⟨_, rfl⟩
          obtain ⟨C, hC⟩ : ∃ C, F * v01 = C := ⟨_, rfl⟩
          obtain ⟨D, hD⟩ : ∃ D, (f : Int) * v11 = D := ⟨_, rfl⟩
          have mA := mul_bd F0 F1 b00.1 b00.2
          have mB := mul_bd (show (0 : Int) ≤ f by omega) (show (f : Int) ≤ 256 by omega) b10.1 b10.2
          have mC := mul_bd F0 F1 b01.1 b01.2
          have mD := mul_bd (show (0 : Int) ≤ f by omega) (show (f : Int) ≤ 256 by omega) b11.1 b11.2
          rw [hA] at mA hT1
          rw [hB] at mB hT1
          rw [hC] at mC hT2
          rw [hD] at mD hT2
          have wA : IntKind.i64.wrap (F * v00) = A := by rw [hA]; exact wrapI (by omega)
          have wB : IntKind.i64.wrap ((f : Int) * v10) = B := by rw [hB]; exact wrapI (by omega)
          have wC : IntKind.i64.wrap (F * v01) = C := by rw [hC]; exact wrapI (by omega)
          have wD : IntKind.i64.wrap ((f : Int) * v11) = D := by rw [hD]; exact wrapI (by omega)
          have wT1 : IntKind.i64.wrap (A + B) = T1 := by rw [← unhide hT1]; exact wrapI (by omega)
          have wT2 : IntKind.i64.wrap (C + D) = T2 := by rw [← unhide hT2]; exact wrapI (by omega)
          have wi : IntKind.i64.wrap ((i : Int) + 1) = (i : Int) + 1 := wrapI (by omega)
          have wj : IntKind.i64.wrap ((j : Int) + 1) = (j : Int) + 1 := wrapI (by omega)
          clear hFF hA hB hC hD mA mB mC mD hT1 hT2 F0 F1
          go_upto_region 16 with fail
          clear eA eB eI eJ
          have b0 := fun X : UpdT wv => (((unhide hSt).b.1.updT X).2 0 _ rfl)
          have b1 := fun X : UpdT wv => (((unhide hSt).b.1.updT X).2 1 _ rfl)
          have b2 := fun X : UpdT wv => (((unhide hSt).b.1.updT X).2 2 _ rfl)
          refine wq_region_upd (by kernel_rfl) (by kernel_rfl) ?_
          refine WQ.step (fun K hK => ?_)
          go_simp
          refine hK _ ?_
          clear hK K
          refine WQ.step (fun K hK => ?_)
          go_simp
          refine hK _ ?_
          clear hK K
          refine WQ.step (fun K hK => ?_)
          go_simp
          refine hK _ ?_
          clear hK K
          refine WQ.step (fun K hK => ?_)
          go_simp
          refine hK _ ?_
          clear hK K
          refine WQ.step (fun K hK => ?_)
          go_simp
          refine hK _ ?_
          clear hK K
          refine WQ.step (fun K hK => ?_)
          go_simp
          refine ⟨_, fun X => Calls.updT X (unhide hN00 X.to ((unhide hAr).below (X.upd.below (Nat.le_refl _) (.inr (Nat.zero_le _))))), hK _ ?_⟩
          clear hK K
          refine WQ.step (fun K hK => ?_)
          go_simp
          refine hK _ ?_
          clear hK K
          refine WQ.step (fun K hK => ?_)
          go_simp
          refine hK _ ?_
          clear hK K
          refine WQ.step (fun K hK => ?_)
          go_simp
          refine hK _ ?_
          clear hK K
          refine WQ.step (fun K hK => ?_)
          go_simp
          refine hK _ ?_
          clear hK K
          refine WQ.step (fun K hK => ?_)
          go_simp
          refine hK _ ?_
          clear hK K
          refine WQ.step (fun K hK => ?_)
          go_simp
          refine hK _ ?_
          clear hK K
          refine WQ.step (fun K hK => ?_)
          go_simp
          refine ⟨_, fun X => Calls.updT X (unhide hN10 X.to ((unhide hAr).below (X.upd.below (Nat.le_refl _) (.inr (Nat.zero_le _))))), hK _ ?_⟩
          clear hK K
          refine WQ.step (fun K hK => ?_)
          go_simp
          refine hK _ ?_
          clear hK K
          refine WQ.step (fun K hK => ?_)
          go_simp
          refine hK _ ?_
          clear hK K
          refine WQ.step (fun K hK => ?_)
          go_simp
          refine hK _ ?_
          clear hK K
          refine WQ.nil ?_
          rintro _ ⟨X, rfl⟩
          clear b0 b1 b2
          have hX := X.upd
          generalize X.to = wu at hX ⊢
          replace hSt := hide ((unhide hSt).keep hX)
          replace hAr := hide ((unhide hAr).below (hX.below (Nat.le_refl _) (.inr (Nat.zero_le _))))
          clear hX
          go_upto_region 17 with fail
          have b0 := fun X : UpdT wu => (((unhide hSt).b.1.updT X).2 0 _ rfl)
          have b1 := fun X : UpdT wu => (((unhide hSt).b.1.updT X).2 1 _ rfl)
          have b2 := fun X : UpdT wu => (((unhide hSt).b.1.updT X).2 2 _ rfl)
          refine wq_region_upd (by kernel_rfl) (by kernel_rfl) ?_
          refine WQ.step (fun K hK => ?_)
          go_simp
          refine hK _ ?_
          clear hK K
          refine WQ.step (fun K hK => ?_)
          go_simp
          refine hK _ ?_
          clear hK K
          refine WQ.step (fun K hK => ?_)
          go_simp
          refine hK _ ?_
          clear hK K
          refine WQ.step (fun K hK => ?_)
          go_simp
          refine hK _ ?_
          clear hK K
          refine WQ.step (fun K hK => ?_)
          go_simp
          refine hK _ ?_
          clear hK K
          refine WQ.step (fun K hK => ?_)
          go_simp
          refine hK _ ?_
          clear hK K
          refine WQ.step (fun K hK => ?_)
          go_simp
          refine ⟨_, fun X => Calls.updT X (unhide hN01 X.to ((unhide hAr).below (X.upd.below (Nat.le_refl _) (.inr (Nat.zero_le _))))), hK _ ?_⟩
          clear hK K
          refine WQ.step (fun K hK => ?_)
          go_simp
          refine hK _ ?_
          clear hK K
          refine WQ.step (fun K hK => ?_)
          go_simp
          refine hK _ ?_
          clear hK K
          refine WQ.step (fun K hK => ?_)
          go_simp
          refine hK _ ?_
          clear hK K
          refine WQ.step (fun K hK => ?_)
          go_simp
          refine hK _ ?_
          clear hK K
          refine WQ.step (fun K hK => ?_)
          go_simp
          refine hK _ ?_
          clear hK K
          refine WQ.step (fun K hK => ?_)
          go_simp
          refine hK _ ?_
          clear hK K
          refine WQ.step (fun K hK => ?_)
          go_simp
          refine hK _ ?_
          clear hK K
          refine WQ.step (fun K hK => ?_)
          go_simp
          refine ⟨_, fun X => Calls.updT X (unhide hN11 X.to ((unhide hAr).below (X.upd.below (Nat.le_refl _) (.inr (Nat.zero_le _))))), hK _ ?_⟩
          clear hK K
          refine WQ.step (fun K hK => ?_)
          go_simp
          refine hK _ ?_
          clear hK K
          refine WQ.step (fun K hK => ?_)
          go_simp
          refine hK _ ?_
          clear hK K
          refine WQ.step (fun K hK => ?_)
          go_simp
          refine hK _ ?_
          clear hK K
          refine WQ.nil ?_
          rintro _ ⟨X, rfl⟩
          clear b0 b1 b2 w1 wA wB wC wD wT1 wT2 wi wj hN00 hN10 hN01 hN11
          have hX := X.upd
          generalize X.to = wx at hX ⊢
          replace hSt := hide ((unhide hSt).keep hX)
          clear hX hAr
          obtain ⟨G, hGG⟩ : ∃ G, 256 - (g : Int) = G := ⟨_, rfl⟩
          have G0 : 0 ≤ G := by omega
          have G1 : G ≤ 256 := by omega
          obtain ⟨P, hP⟩ : ∃ P, G * T1 = P := ⟨_, rfl⟩
          obtain ⟨Q, hQ⟩ : ∃ Q, (g : Int) * T2 = Q := ⟨_, rfl⟩
          have mP := mul_bd G0 G1 bT1.1 bT1.2
          have mQ := mul_bd (show (0 : Int) ≤ g by omega) (show (g : Int) ≤ 256 by omega) bT2.1 bT2.2
          rw [hP] at mP
          rw [hQ] at mQ
          rw [hGG, hP, hQ] at hBl
          obtain ⟨P0, P1⟩ := mP
          obtain ⟨Q0, Q1⟩ := mQ
          have hBl2 : (P + Q + 32768) / 65536 = BB := (unhide hBl).symm
          obtain ⟨L, hCe⟩ : ∃ L, resizeL zs W H sw sh (m + x) = L := ⟨_, rfl⟩
          have hCl : L.length = m + x := by rw [← hCe, resizeL_length]
          rw [hCe] at hSt hnew
          have hCb : L.length ≤ 5000 := by omega
          replace hCe := hide hCe
          replace hCl := hide hCl
          obtain ⟨ho, hr, hbb, hz, hk⟩ := unhide hSt
          have p4 := ho.1.2 2 _ rfl
          have hs5 : c < wx.heap.size := ho.1.1
          replace ho := hide ho
          replace hr := hide hr
          replace hbb := hide hbb
          replace hz := hide hz
          replace hk := hide hk
          clear hSt
          have hu5 := Upd.of_below ((Below.refl wx.heap.size wx).alloc (Nat.le_refl _) (.cells #[.int .i64 BB] 3)) 0 0
          have pB5 := hide ((unhide ho).keep hu5)
          have bB5 := hide ((unhide hbb).keep hu5)
          have zB5 := hide ((unhide hz).keep hu5)
          have kB5 := hide (below_upd (unhide hk) hu5 (Nat.le_refl _) (.inr (Nat.le_refl _)))
          have hO5 := hide ((Own.of (unhide hr)).keep hu5).1
          have hnk := heldF_new wx [.int .i64 BB] 3
          have hrn : Hid (RdJ (wx.alloc (.cells #[.int .i64 BB] 3)) (.slice (some ⟨wx.heap.size, 0, none⟩) 1 1) [BB]) := hide (.inr ⟨wx.heap.size, 0, 1, rfl, by simp, fun j hj => by
            have hj0 : j = 0 := by simp at hj; omega
            subst hj0
            exact hnk.1.2 0 _ rfl⟩)
          clear hu5 hnk ho hr hbb hz hk
          go_upto_region 18 with fail
          go_wp2_with (at_builtin; go_loud (refine wpList_appI rfl (.tmp 92) (.tmp 103) rfl (c + 1) (.slice ad2 L.length cp) L rfl (unhide hO5) _ [BB] rfl (unhide hrn) (by simp; omega) (by simp; omega) ?_; intro v6 w6 ho6 hg6 _; have hu6 := upd_of_grownI hg6 (unhide hO5); have pB6 := hide ((unhide pB5).upd hu6 (.inl (Nat.le_refl _))); have bB6 := hide ((unhide bB5).upd hu6 (.inl (by omega))); have zB6 := hide ((unhide zB5).upd hu6 (.inl (by omega))); have kB6 := hide (below_upd (unhide kB5) hu6 (Nat.le_refl _) (.inl (by omega))); obtain ⟨ad6, cp6, rfl, _⟩ := OwnI.rd (Own.of ho6); have p60 := (unhide pB6).1.2 2 _ rfl; have z60 := (unhide pB6).2 2; replace ho6 := hide ho6; clear hg6 hu6))
          have hst := (unhide pB6).set 2 (.slice ad6 (L.length + 1) cp6) (by simp)
          simp only [List.set_cons_zero, List.set_cons_succ] at hst
          have hac := ownsRow_setCell_below (a := ⟨c, 2, none⟩) (unhide ho6) (show c < c + 1 by omega) (.slice ad6 (L.length + 1) cp6)
          have hbb6 := (unhide bB6).other (g' := c) (by omega) 2 (.slice ad6 (L.length + 1) cp6)
          have hzz6 := (unhide zB6).other (g' := c) (by omega) 2 (.slice ad6 (L.length + 1) cp6)
          have hkk6 := (unhide kB6).setCell (p := ⟨c, 2, none⟩) (show w.heap.size ≤ c by omega) (.slice ad6 (L.length + 1) cp6)
          have hle : (L ++ [BB]).length = L.length + 1 := by simp
          have hfin : Hid (AccSt w (w6.setCell ⟨c, 2, none⟩ (.slice ad6 (L.length + 1) cp6)) c W H sw sh ad zs.length cap (resizeL zs W H sw sh (m + (x + 1))) ad6 cp6) := hide ⟨by rw [unhide hnew, hle]; exact hst, by rw [unhide hnew]; exact hac, hbb6, hzz6, hkk6⟩
          clear hst hac hbb6 hzz6 hkk6 pB6 bB6 zB6 kB6 ho6 p60 z60
          go_roundw
          case rel => exact ⟨x + 1, ad6, cp6, by go_num, by omega, hfin⟩
          case measure => simp [intOf]; omega
        · have hxe : x = sw := by omega
          subst hxe
          have hmn : Hid (m + x = (y + 1) * x) := hide (by rw [unhide hm, Nat.add_mul, Nat.one_mul])
          go_wp2_with fail
          refine ⟨?_, ?measure⟩
          · (repeat apply Exists.intro)
            refine ⟨?rel, rfl⟩
            case rel => exact ⟨y + 1, m + x, ad2, cp, by go_num, by omega, hmn, hSt⟩
          · simp [intOf]; omega
    · have hye : y = sh := by omega
      subst hye
      obtain ⟨ho, hr, hbb, hz, hk⟩ := unhide hSt
      have hmn : Hid (m = sw * y) := hide (by rw [unhide hm, Nat.mul_comm])
      have a0 := ho.1.2 0 _ rfl
      have a1 := ho.1.2 1 _ rfl
      have a2 := ho.1.2 2 _ rfl
      have z0 := hz.1.2 0 _ rfl
      have z1 := hz.1.2 1 _ rfl
      have z2 := hz.1.2 2 _ rfl
      have f0 := hz.2 0
      have f1 := hz.2 1
      have f2 := hz.2 2
      replace hr := hide hr
      replace hk := hide hk
      clear hSt ho hbb hz
      go_wp2
      refine bodyPost_ret (v := .agg #[.int .i64 (sw : Int), .int .i64 (y : Int), .slice ad2 (resizeL zs W H sw y m).length cp]) (by simp [results, Try.results19, go_sem, z0, z1, z2]) rfl ⟨_, rfl, ?_, Upd.of_below ((((unhide hk).setCell (by simp) _).setCell (by simp) _).setCell (by simp) _) 0 0⟩
      rw [unhide hF, ← unhide hmn]
      refine ⟨_, rfl, ?_⟩
      have ho := Own.of (unhide hr)
      refine own_mono (a := c + 1) (b := wr.heap.size) ⟨?_, ho.2⟩ (by omega) (by simp)
      exact ownsRow_setCell_below (ownsRow_setCell_below (ownsRow_setCell_below ho.1 (show w.heap.size + 1 < c + 1 by omega) _) (show w.heap.size + 1 < c + 1 by omega) _) (show w.heap.size + 1 < c + 1 by omega) _
end Go.Proofs.Ytnalmingbglgfaa

/- The program's mixes for twice the side. -/
namespace Go.Proofs.Ytnalmingbglgfaa
open Go.RowKit

def RowMg (ys : List Value) (old k : Nat) : Prop := ∀ j, j < k → ys[j * 3]? = some (.int .i64 ((j / 2 : Nat) : Int)) ∧ ys[j * 3 + 1]? = some (.int .i64 ((otherF j old : Nat) : Int)) ∧ ys[j * 3 + 2]? = some (.int .i64 1)
theorem RowMg.snoc {ys : List Value} {old k : Nat} (h : RowMg ys old k) (hk : k * 3 + 2 < ys.length) :
    RowMg (((ys.set (k * 3) (.int .i64 ((k / 2 : Nat) : Int))).set (k * 3 + 1) (.int .i64 ((otherF k old : Nat) : Int))).set (k * 3 + 2) (.int .i64 1)) old (k + 1) := by
  intro j hj
  by_cases e : j = k
  · subst e
    refine ⟨?_, ?_, ?_⟩
    · rw [List.getElem?_set_ne (by omega), List.getElem?_set_ne (by omega), List.getElem?_set_self (by first | omega | (simp; omega))]
    · rw [List.getElem?_set_ne (by omega), List.getElem?_set_self (by first | omega | (simp; omega))]
    · rw [List.getElem?_set_self (by first | omega | (simp; omega))]
  · have := h j (by omega)
    refine ⟨?_, ?_, ?_⟩
    · rw [List.getElem?_set_ne (by omega), List.getElem?_set_ne (by omega), List.getElem?_set_ne (by omega)]; exact this.1
    · rw [List.getElem?_set_ne (by omega), List.getElem?_set_ne (by omega), List.getElem?_set_ne (by omega)]; exact this.2.1
    · rw [List.getElem?_set_ne (by omega), List.getElem?_set_ne (by omega), List.getElem?_set_ne (by omega)]; exact this.2.2
set_option maxHeartbeats 8000000 in
set_option maxRecDepth 100000 in
theorem implGrowMixes (old side : Nat) (w : World) (ho : 1 ≤ old ∧ old ≤ 512) (hs : 1 ≤ side ∧ side ≤ 512) (h2 : side ≤ 2 * old) :
    Calls Try.prog 57 #[.int .i64 (old : Int), .int .i64 (side : Int)] w fun e w' =>
      ∃ ys, e = .returned (.slice (some ⟨w.heap.size, 0, none⟩) side side) ∧ w'.ownsRow w.heap.size 89 3 (.slice (some ⟨w.heap.size, 0, none⟩) side side) side ys ∧ RowMg ys old side ∧ Upd 0 0 w w' := by
  obtain ⟨i0, hi, hz0, hz1, hz2⟩ := info_parts infoMx
  obtain ⟨o1, o2⟩ := ho
  obtain ⟨s1, s2⟩ := hs
  have hC := hide clipU
  go_enter Try.func57, Try.ntmps57
  go_wp2_with (at_make; refine wpList_make_full _ rfl _ _ 67 rfl w.heap.size 89 i0 (.agg #[.int .i64 0, .int .i64 0, .int .i64 0]) 3 Try.underlying67 hi hz0 hz1 .i64 .i64 _ _ side rfl rfl (by omega) (by omega) (by rw [hz2]; omega) (by unfold maxLen; omega) (Nat.le_refl _) ?_; intro w1 hown hgrow)
  have hbel := (Below.refl w.heap.size w).grown hgrow (Nat.le_refl _) (by simp)
  generalize (madeCells (Value.cells (.agg #[.int .i64 0, .int .i64 0, .int .i64 0])) (side * 3)).toList = ys0 at hown
  clear hgrow
  go_loopw [13, 6, 7, 8] (fun i _ _ _ wr => ∃ k : Nat, ∃ ys, k ≤ side ∧ i = .int .i64 k ∧ wr.ownsRow w.heap.size 89 3 (.slice (some ⟨w.heap.size, 0, none⟩) side side) side ys ∧ Hid (RowMg ys old k) ∧ Below w.heap.size w wr) (fun i _ _ _ _ => side - (intOf i).toNat)
  case atStart => exact ⟨0, ys0, Nat.zero_le _, rfl, hown, fun j hj => by omega, hbel⟩
  case round =>
    clear hown hbel
    obtain ⟨k, ys, hk, rfl, hown, hrow, hbel⟩ := hrel
    by_cases hlt : k < side
    · have hl : ys.length = side * 3 := hown.1
      have hsn := hide (RowMg.snoc (unhide hrow) (by omega))
      replace hrow := hide hrow
      have hown' := hide hown
      have hbel' := hide hbel
      clear hown hbel hrow
      have kI : (0 : Int) ≤ (k : Int) := by omega
      have kL : (k : Int) < (side : Int) := by omega
      obtain ⟨n, hn⟩ : ∃ n, k / 2 = n := ⟨_, rfl⟩
      have e1 : (k : Int).tdiv 2 = (n : Int) := by rw [← hn, Int.tdiv_eq_ediv_of_nonneg (by omega)]; simp
      have e2 : (k : Int) / 2 = (n : Int) := by omega
      rw [hn] at hsn
      have hnb : n < old := by omega
      by_cases hodd : k % 2 = 1
      · have hf : otherF k old = min (n + 1) (old - 1) := by unfold otherF; rw [if_pos hodd, hn]
        have e3 : (k : Int).tmod 2 = 1 := by rw [Int.tmod_eq_emod_of_nonneg (by omega)]; omega
        have e4 : (k : Int) % 2 = 1 := by omega
        have hC2 := hide (fun W => unhide hC ((n : Int) + 1) 0 ((old : Int) - 1) ((otherF k old : Nat) : Int) (by omega) W)
        generalize hv0 : ((n : Nat) : Int) = v0 at hsn
        generalize hv1 : ((otherF k old : Nat) : Int) = v1 at hC2 hsn
        subst hv0
        clear hv1 hf hodd hC hn
        have hown := unhide hown'
        have d0 : ∃ a, wr.cell? ⟨w.heap.size, k * 3, none⟩ = some a := by rw [hown.cellAt _ (by omega)]; exact ⟨_, List.getElem?_eq_getElem (by omega)⟩
        have d1 : ∃ a, wr.cell? ⟨w.heap.size, k * 3 + 1, none⟩ = some a := by rw [hown.cellAt _ (by omega)]; exact ⟨_, List.getElem?_eq_getElem (by omega)⟩
        have d2 : ∃ a, wr.cell? ⟨w.heap.size, k * 3 + 2, none⟩ = some a := by rw [hown.cellAt _ (by omega)]; exact ⟨_, List.getElem?_eq_getElem (by omega)⟩
        obtain ⟨a0, d0⟩ := d0
        obtain ⟨a1, d1⟩ := d1
        obtain ⟨a2, d2⟩ := d2
        have f0 := hown.frozenAt (k * 3)
        have f1 := hown.frozenAt (k * 3 + 1)
        have f2 := hown.frozenAt (k * 3 + 2)
        have hst := hide ((((hown.stored (k * 3) (.int .i64 (n : Int))).1.stored (k * 3 + 1) (.int .i64 v1)).1.stored (k * 3 + 2) (.int .i64 1)).1)
        have hB2 := hide ((((unhide hbel').setCell (p := ⟨w.heap.size, k * 3, none⟩) (Nat.le_refl _) (.int .i64 (n : Int))).setCell (p := ⟨w.heap.size, k * 3 + 1, none⟩) (Nat.le_refl _) (.int .i64 v1)).setCell (p := ⟨w.heap.size, k * 3 + 2, none⟩) (Nat.le_refl _) (.int .i64 1))
        clear hown hown' hbel'
        go_wp2_with fail
        refine (unhide hC2 _).mono ?_
        rintro e w2 ⟨rfl, rfl⟩
        go_wp2
        go_roundw
        case rel => exact ⟨k + 1, _, by omega, by go_num, unhide hst, hsn, unhide hB2⟩
        case measure => simp [intOf]; omega
      · have hf : otherF k old = n - 1 := by unfold otherF; rw [if_neg hodd, hn]
        have e3 : (k : Int).tmod 2 = 0 := by rw [Int.tmod_eq_emod_of_nonneg (by omega)]; omega
        have e4 : (k : Int) % 2 = 0 := by omega
        have hC2 := hide (fun W => unhide hC ((n : Int) - 1) 0 ((old : Int) - 1) ((otherF k old : Nat) : Int) (by omega) W)
        generalize hv0 : ((n : Nat) : Int) = v0 at hsn
        generalize hv1 : ((otherF k old : Nat) : Int) = v1 at hC2 hsn
        subst hv0
        clear hv1 hf hodd hC hn
        have hown := unhide hown'
        have d0 : ∃ a, wr.cell? ⟨w.heap.size, k * 3, none⟩ = some a := by rw [hown.cellAt _ (by omega)]; exact ⟨_, List.getElem?_eq_getElem (by omega)⟩
        have d1 : ∃ a, wr.cell? ⟨w.heap.size, k * 3 + 1, none⟩ = some a := by rw [hown.cellAt _ (by omega)]; exact ⟨_, List.getElem?_eq_getElem (by omega)⟩
        have d2 : ∃ a, wr.cell? ⟨w.heap.size, k * 3 + 2, none⟩ = some a := by rw [hown.cellAt _ (by omega)]; exact ⟨_, List.getElem?_eq_getElem (by omega)⟩
        obtain ⟨a0, d0⟩ := d0
        obtain ⟨a1, d1⟩ := d1
        obtain ⟨a2, d2⟩ := d2
        have f0 := hown.frozenAt (k * 3)
        have f1 := hown.frozenAt (k * 3 + 1)
        have f2 := hown.frozenAt (k * 3 + 2)
        have hst := hide ((((hown.stored (k * 3) (.int .i64 (n : Int))).1.stored (k * 3 + 1) (.int .i64 v1)).1.stored (k * 3 + 2) (.int .i64 1)).1)
        have hB2 := hide ((((unhide hbel').setCell (p := ⟨w.heap.size, k * 3, none⟩) (Nat.le_refl _) (.int .i64 (n : Int))).setCell (p := ⟨w.heap.size, k * 3 + 1, none⟩) (Nat.le_refl _) (.int .i64 v1)).setCell (p := ⟨w.heap.size, k * 3 + 2, none⟩) (Nat.le_refl _) (.int .i64 1))
        clear hown hown' hbel'
        go_wp2_with fail
        refine (unhide hC2 _).mono ?_
        rintro e w2 ⟨rfl, rfl⟩
        go_wp2
        go_roundw
        case rel => exact ⟨k + 1, _, by omega, by go_num, unhide hst, hsn, unhide hB2⟩
        case measure => simp [intOf]; omega
    · have hkl : k = side := by omega
      subst hkl
      replace hown := hide hown
      replace hrow := hide hrow
      go_wp2
      go_ret
      exact ⟨ys, rfl, unhide hown, unhide (unhide hrow), Upd.of_below hbel 0 0⟩
end Go.Proofs.Ytnalmingbglgfaa

/- The program's weights and blending for twice the side. -/
namespace Go.Proofs.Ytnalmingbglgfaa
open Go.RowKit

set_option maxHeartbeats 4000000 in
set_option maxRecDepth 100000 in
theorem implWeights2 (n1 f1 n2 f2 : Nat) (w : World) :
    Calls Try.prog 92 #[.agg #[.int .i64 (n1 : Int), .int .i64 (f1 : Int), .int .i64 1], .agg #[.int .i64 (n2 : Int), .int .i64 (f2 : Int), .int .i64 1], .int .i64 2] w fun e w' => e = .returned (.agg #[.int .i64 9, .int .i64 3, .int .i64 3, .int .i64 1]) ∧ Upd 0 0 w w' := by
  have hB0 := hide ((((Below.refl w.heap.size w).alloc (Nat.le_refl _) (.cells #[.int .i64 (n1 : Int), .int .i64 (f1 : Int), .int .i64 1] 89)).alloc (by simp) (.cells #[.int .i64 (n2 : Int), .int .i64 (f2 : Int), .int .i64 1] 89)).alloc (by simp; omega) (.cells #[.int .i64 0, .int .i64 0, .int .i64 0, .int .i64 0] 93))
  have h1 := hide (((heldF_new w [.int .i64 (n1 : Int), .int .i64 (f1 : Int), .int .i64 1] 89).keep (Upd.of_below ((Below.refl _ _).alloc (Nat.le_refl _) (.cells #[.int .i64 (n2 : Int), .int .i64 (f2 : Int), .int .i64 1] 89)) 0 0)).keep (Upd.of_below ((Below.refl _ _).alloc (Nat.le_refl _) (.cells #[.int .i64 0, .int .i64 0, .int .i64 0, .int .i64 0] 93)) 0 0))
  have h2 := (heldF_new (w.alloc (.cells #[.int .i64 (n1 : Int), .int .i64 (f1 : Int), .int .i64 1] 89)) [.int .i64 (n2 : Int), .int .i64 (f2 : Int), .int .i64 1] 89).keep (Upd.of_below ((Below.refl _ _).alloc (Nat.le_refl _) (.cells #[.int .i64 0, .int .i64 0, .int .i64 0, .int .i64 0] 93)) 0 0)
  have h3 := heldF_new ((w.alloc (.cells #[.int .i64 (n1 : Int), .int .i64 (f1 : Int), .int .i64 1] 89)).alloc (.cells #[.int .i64 (n2 : Int), .int .i64 (f2 : Int), .int .i64 1] 89)) [.int .i64 0, .int .i64 0, .int .i64 0, .int .i64 0] 93
  have e1 : (w.alloc (.cells #[.int .i64 (n1 : Int), .int .i64 (f1 : Int), .int .i64 1] 89)).heap.size = w.heap.size + 1 := by simp
  have e2 : ((w.alloc (.cells #[.int .i64 (n1 : Int), .int .i64 (f1 : Int), .int .i64 1] 89)).alloc (.cells #[.int .i64 (n2 : Int), .int .i64 (f2 : Int), .int .i64 1] 89)).heap.size = w.heap.size + 2 := by simp
  rw [e1] at h2
  rw [e2] at h3
  clear e1 e2
  replace h2 := hide h2
  replace h3 := hide h3
  go_enter Try.func92, Try.ntmps92
  go_wp2_with fail
  generalize ((w.alloc (.cells #[.int .i64 (n1 : Int), .int .i64 (f1 : Int), .int .i64 1] 89)).alloc (.cells #[.int .i64 (n2 : Int), .int .i64 (f2 : Int), .int .i64 1] 89)).alloc (.cells #[.int .i64 0, .int .i64 0, .int .i64 0, .int .i64 0] 93) = w0 at hB0 h1 h2 h3 ⊢
  have c0 := (unhide h1).1.2 2 _ rfl
  have c1 := (unhide h2).1.2 2 _ rfl
  refine wp_region_still_lit (by kernel_rfl) (by kernel_rfl) ?_
  iterate 12 still_step
  refine wpStill_nil ?_
  have z0 := (unhide h3).1.2 0 _ rfl
  have z1 := (unhide h3).1.2 1 _ rfl
  have z2 := (unhide h3).1.2 2 _ rfl
  have z3 := (unhide h3).1.2 3 _ rfl
  have f0 := (unhide h3).2 0
  have f1' := (unhide h3).2 1
  have f2' := (unhide h3).2 2
  have f3 := (unhide h3).2 3
  clear h1 h2 h3
  go_wp2
  refine bodyPost_ret (v := .agg #[.int .i64 9, .int .i64 3, .int .i64 3, .int .i64 1]) (by simp [results, Try.results92, go_sem, z0, z1, z2, z3]) rfl ⟨rfl, Upd.of_below (((((below_drewN (unhide hB0) 1).setCell (by simp; omega) _).setCell (by simp; omega) _).setCell (by simp; omega) _).setCell (by simp; omega) _) 0 0⟩
set_option maxHeartbeats 8000000 in
set_option maxRecDepth 100000 in
theorem implBlended4 (s0 s1 s2 s3 a0 a1 a2 a3 P0 P1 P2 P3 : Int) (w : World) (e0 : a0 * s0 = P0) (e1 : a1 * s1 = P1) (e2 : a2 * s2 = P2) (e3 : a3 * s3 = P3)
    (p0 : 0 ≤ P0 ∧ P0 ≤ 33554432) (p1 : 0 ≤ P1 ∧ P1 ≤ 33554432) (p2 : 0 ≤ P2 ∧ P2 ≤ 33554432) (p3 : 0 ≤ P3 ∧ P3 ≤ 33554432) :
    Calls Try.prog 90 #[.agg #[.int .i64 s0, .int .i64 s1, .int .i64 s2, .int .i64 s3], .agg #[.int .i64 a0, .int .i64 a1, .int .i64 a2, .int .i64 a3], .int .i64 2] w fun e w' => e = .returned (.int .i64 ((P0 + P1 + P2 + P3 + 8) / 16)) ∧ Upd 0 0 w w' := by
  have hB0 := hide (((Below.refl w.heap.size w).alloc (Nat.le_refl _) (.cells #[.int .i64 s0, .int .i64 s1, .int .i64 s2, .int .i64 s3] 93)).alloc (by simp) (.cells #[.int .i64 a0, .int .i64 a1, .int .i64 a2, .int .i64 a3] 93))
  have h1 := hide ((heldF_new w [.int .i64 s0, .int .i64 s1, .int .i64 s2, .int .i64 s3] 93).keep (Upd.of_below ((Below.refl _ _).alloc (Nat.le_refl _) (.cells #[.int .i64 a0, .int .i64 a1, .int .i64 a2, .int .i64 a3] 93)) 0 0))
  have h2 := heldF_new (w.alloc (.cells #[.int .i64 s0, .int .i64 s1, .int .i64 s2, .int .i64 s3] 93)) [.int .i64 a0, .int .i64 a1, .int .i64 a2, .int .i64 a3] 93
  have ee : (w.alloc (.cells #[.int .i64 s0, .int .i64 s1, .int .i64 s2, .int .i64 s3] 93)).heap.size = w.heap.size + 1 := by simp
  rw [ee] at h2
  clear ee
  replace h2 := hide h2
  have hR := hide (fun X => implRound4 (P0 + P1 + P2 + P3) X (by omega) (by omega))
  obtain ⟨p00, p01⟩ := p0
  obtain ⟨p10, p11⟩ := p1
  obtain ⟨p20, p21⟩ := p2
  obtain ⟨p30, p31⟩ := p3
  have x0 := idx_c0 s0 s1 s2 s3
  have x1 := idx_c1 s0 s1 s2 s3
  have y0 := idx_p0
  have y1 := idx_p1
  go_enter Try.func90, Try.ntmps90
  go_wp2_with fail
  generalize (w.alloc (.cells #[.int .i64 s0, .int .i64 s1, .int .i64 s2, .int .i64 s3] 93)).alloc (.cells #[.int .i64 a0, .int .i64 a1, .int .i64 a2, .int .i64 a3] 93) = w0 at hB0 h1 h2 ⊢
  have c0 := (unhide h1).1.2 0 _ rfl
  have c1 := (unhide h1).1.2 1 _ rfl
  have c2 := (unhide h1).1.2 2 _ rfl
  have c3 := (unhide h1).1.2 3 _ rfl
  go_wp2_with fail
  clear c0 c1 c2 c3 h1
  go_loopw [7, 13] (fun s k wr => ((k = .int .i64 0 ∧ s = .int .i64 0) ∨ (k = .int .i64 1 ∧ s = .int .i64 (P0 + P1)) ∨ (k = .int .i64 2 ∧ s = .int .i64 (P0 + P1 + P2 + P3))) ∧ Hid (HeldF wr (w.heap.size + 1) [.int .i64 a0, .int .i64 a1, .int .i64 a2, .int .i64 a3]) ∧ Hid (Below w.heap.size w wr)) (fun _ k _ => 2 - (intOf k).toNat)
  case atStart => exact ⟨.inl ⟨rfl, rfl⟩, h2, hB0⟩
  case round =>
    clear h2 hB0
    obtain ⟨hrel, h2, hB0⟩ := hrel
    rcases hrel with ⟨rfl, rfl⟩ | ⟨rfl, rfl⟩ | ⟨rfl, rfl⟩
    ·
      have d0 := (unhide h2).1.2 0 _ rfl
      have d1 := (unhide h2).1.2 1 _ rfl
      have hu := Upd.of_below ((Below.refl wr.heap.size wr).alloc (Nat.le_refl _) (.cells #[.int .i64 s0, .int .i64 s1] 91)) 0 0
      have h22 := hide ((unhide h2).keep hu)
      have hB2 := hide (below_upd (unhide hB0) hu (Nat.le_refl _) (.inr (Nat.le_refl _)))
      clear hu
      go_upto_region 5 with fail
      clear d0 d1
      have k0 := (heldF_new wr [.int .i64 s0, .int .i64 s1] 91).1.2 0 _ rfl
      have k1 := (heldF_new wr [.int .i64 s0, .int .i64 s1] 91).1.2 1 _ rfl
      simp only [List.toArray] at k0 k1
      generalize wr.alloc (.cells #[.int .i64 s0, .int .i64 s1] 91) = wn at h22 hB2 k0 k1 ⊢
      have d0 := (unhide h22).1.2 0 _ rfl
      have d1 := (unhide h22).1.2 1 _ rfl
      go_wp2_with fail
      go_loop [7, 18] (fun s j => (j = .int .i64 0 ∧ s = .int .i64 (0)) ∨ (j = .int .i64 1 ∧ s = .int .i64 P0) ∨ (j = .int .i64 2 ∧ s = .int .i64 (P0 + P1))) (fun _ j => 2 - (intOf j).toNat)
      case atStart => exact .inl ⟨rfl, rfl⟩
      case round =>
        rcases hrel with ⟨rfl, rfl⟩ | ⟨rfl, rfl⟩ | ⟨rfl, rfl⟩
        · go_wp2
          go_round
          case rel => exact .inr (.inl ⟨rfl, rfl⟩)
          case measure => simp [intOf]
        · go_wp2
          go_round
          case rel => exact .inr (.inr ⟨rfl, rfl⟩)
          case measure => simp [intOf]
        · clear d0 d1 k0 k1
          go_wp2
          go_roundw
          case rel => exact ⟨.inr (.inl ⟨rfl, rfl⟩), h22, hB2⟩
          case measure => simp [intOf]
    ·
      have d0 := (unhide h2).1.2 2 _ rfl
      have d1 := (unhide h2).1.2 3 _ rfl
      have hu := Upd.of_below ((Below.refl wr.heap.size wr).alloc (Nat.le_refl _) (.cells #[.int .i64 s2, .int .i64 s3] 91)) 0 0
      have h22 := hide ((unhide h2).keep hu)
      have hB2 := hide (below_upd (unhide hB0) hu (Nat.le_refl _) (.inr (Nat.le_refl _)))
      clear hu
      go_upto_region 5 with fail
      clear d0 d1
      have k0 := (heldF_new wr [.int .i64 s2, .int .i64 s3] 91).1.2 0 _ rfl
      have k1 := (heldF_new wr [.int .i64 s2, .int .i64 s3] 91).1.2 1 _ rfl
      simp only [List.toArray] at k0 k1
      generalize wr.alloc (.cells #[.int .i64 s2, .int .i64 s3] 91) = wn at h22 hB2 k0 k1 ⊢
      have d0 := (unhide h22).1.2 2 _ rfl
      have d1 := (unhide h22).1.2 3 _ rfl
      go_wp2_with fail
      go_loop [7, 18] (fun s j => (j = .int .i64 0 ∧ s = .int .i64 (P0 + P1)) ∨ (j = .int .i64 1 ∧ s = .int .i64 (P0 + P1 + P2)) ∨ (j = .int .i64 2 ∧ s = .int .i64 (P0 + P1 + P2 + P3))) (fun _ j => 2 - (intOf j).toNat)
      case atStart => exact .inl ⟨rfl, rfl⟩
      case round =>
        rcases hrel with ⟨rfl, rfl⟩ | ⟨rfl, rfl⟩ | ⟨rfl, rfl⟩
        · go_wp2
          go_round
          case rel => exact .inr (.inl ⟨rfl, rfl⟩)
          case measure => simp [intOf]
        · go_wp2
          go_round
          case rel => exact .inr (.inr ⟨rfl, rfl⟩)
          case measure => simp [intOf]
        · clear d0 d1 k0 k1
          go_wp2
          go_roundw
          case rel => exact ⟨.inr (.inr ⟨rfl, rfl⟩), h22, hB2⟩
          case measure => simp [intOf]
    · go_wp2_with fail
      refine (unhide hR _).mono ?_
      rintro e wz ⟨rfl, rfl⟩
      go_wp2
      go_ret
      exact ⟨rfl, Upd.of_below (unhide hB0) 0 0⟩
end Go.Proofs.Ytnalmingbglgfaa

/- The program's mixed for twice the side. -/
namespace Go.Proofs.Ytnalmingbglgfaa
open Go.RowKit

def MgAt (X : World) (b old side : Nat) : Prop := ∀ j, j < side → X.cell? ⟨b, j * 3, none⟩ = some (.int .i64 ((j / 2 : Nat) : Int)) ∧ X.cell? ⟨b, j * 3 + 1, none⟩ = some (.int .i64 ((otherF j old : Nat) : Int)) ∧ X.cell? ⟨b, j * 3 + 2, none⟩ = some (.int .i64 1)
theorem MgAt.below {X Y : World} {b old side : Nat} (h : MgAt X b old side) (hb : b < X.heap.size) (u : Below X.heap.size X Y) : MgAt Y b old side := fun j hj =>
  ⟨(u.cell (by simpa using hb)).trans (h j hj).1, (u.cell (by simpa using hb)).trans (h j hj).2.1, (u.cell (by simpa using hb)).trans (h j hj).2.2⟩
theorem mgAt_of {X : World} {b base old side : Nat} {ys : List Value} (h : X.ownsRow base 89 3 (.slice (some ⟨b, 0, none⟩) side side) side ys) (hr : RowMg ys old side) : MgAt X b old side := by
  intro j hj
  have hl : ys.length = side * 3 := h.1
  have h1 := hr j hj
  exact ⟨(h.cellAt _ (by omega)).trans h1.1, (h.cellAt _ (by omega)).trans h1.2.1, (h.cellAt _ (by omega)).trans h1.2.2⟩
theorem growStep (W H x y : Nat) (ad : Option Addr) (cap : Nat) (zs : List Int) (hp : PlOk W H zs) (hx : x < 2 * W) (hy : y < 2 * H) : ∃ s0 s1 s2 s3 A B C D : Int,
    (∀ X, ArgI X ad zs → Calls Try.prog 91 #[.agg #[.int .i64 (W : Int), .int .i64 (H : Int), .slice ad zs.length cap], .agg #[.int .i64 ((x / 2 : Nat) : Int), .int .i64 ((otherF x W : Nat) : Int), .int .i64 1], .agg #[.int .i64 ((y / 2 : Nat) : Int), .int .i64 ((otherF y H : Nat) : Int), .int .i64 1]] X fun e w' => e = .returned (.agg #[.int .i64 s0, .int .i64 s1, .int .i64 s2, .int .i64 s3]) ∧ Upd 0 0 X w') ∧
    (∀ X, Calls Try.prog 92 #[.agg #[.int .i64 ((x / 2 : Nat) : Int), .int .i64 ((otherF x W : Nat) : Int), .int .i64 1], .agg #[.int .i64 ((y / 2 : Nat) : Int), .int .i64 ((otherF y H : Nat) : Int), .int .i64 1], .int .i64 2] X fun e w' => e = .returned (.agg #[.int .i64 A, .int .i64 B, .int .i64 C, .int .i64 D]) ∧ Upd 0 0 X w') ∧
    (∀ X, Calls Try.prog 90 #[.agg #[.int .i64 s0, .int .i64 s1, .int .i64 s2, .int .i64 s3], .agg #[.int .i64 A, .int .i64 B, .int .i64 C, .int .i64 D], .int .i64 2] X fun e w' => e = .returned (.int .i64 (growF zs W H x y)) ∧ Upd 0 0 X w') := by
  have hW := hp.w
  have hH := hp.h
  have hb : ∀ x y, 0 ≤ nearF zs W H x y ∧ nearF zs W H x y ≤ 255 := fun x y => nearF_bd hp.s W H x y
  have ox := otherF_lt hx
  have oy := otherF_lt hy
  have hn : ∀ a b, a < W → b < H → zs.getD (b * W + a) 0 = nearF zs W H a b := fun a b ha hb => by unfold nearF; rw [Nat.min_eq_left (by omega), Nat.min_eq_left (by omega)]
  refine ⟨nearF zs W H (x / 2) (y / 2), nearF zs W H (otherF x W) (y / 2), nearF zs W H (x / 2) (otherF y H), nearF zs W H (otherF x W) (otherF y H), 9, 3, 3, 1, fun X hX => ?_, fun X => implWeights2 _ _ _ _ X, fun X => ?_⟩
  · have h := implCorners W H (x / 2) (otherF x W) (y / 2) (otherF y H) 1 1 ad cap zs X hp hX (by omega) ox (by omega) oy
    rw [hn _ _ (by omega) (by omega), hn _ _ ox (by omega), hn _ _ (by omega) oy, hn _ _ ox oy] at h
    exact h
  have i0 := hb (x / 2) (y / 2)
  have i1 := hb (otherF x W) (y / 2)
  have i2 := hb (x / 2) (otherF y H)
  have i3 := hb (otherF x W) (otherF y H)
  refine (implBlended4 _ _ _ _ _ _ _ _ _ _ _ _ X rfl rfl rfl rfl (by omega) (by omega) (by omega) (by omega)).mono ?_
  rintro e w' ⟨rfl, hu⟩
  refine ⟨?_, hu⟩
  unfold growF
  rw [Int.one_mul]
set_option maxHeartbeats 8000000 in
set_option maxRecDepth 100000 in
theorem implMixed2 (W H sw sh N b1 b2 : Nat) (ad : Option Addr) (cap : Nat) (zs : List Int) (w : World) (hp : PlOk W H zs) (hA : ArgI w ad zs) (hb1 : b1 < w.heap.size) (hb2 : b2 < w.heap.size)
    (sw1 : 1 ≤ sw) (sw2 : sw ≤ 512) (sw3 : sw ≤ 2 * W) (sh1 : 1 ≤ sh) (sh2 : sh ≤ 512) (sh3 : sh ≤ 2 * H) (hN : sw * sh = N) (h1 : MgAt w b1 W sw) (h2 : MgAt w b2 H sh) :
    Calls Try.prog 54 #[.agg #[.int .i64 (W : Int), .int .i64 (H : Int), .slice ad zs.length cap], .slice (some ⟨b1, 0, none⟩) sw sw, .slice (some ⟨b2, 0, none⟩) sh sh, .int .i64 2] w fun e w' =>
      ∃ u, e = .returned u ∧ OwnPl w' w.heap.size w'.heap.size u ((sw : Int), (sh : Int), growL zs W H sw N) ∧ Upd 0 0 w w' := by
  have hB0 := ((Below.refl w.heap.size w).alloc (Nat.le_refl _) (.cells #[.int .i64 (W : Int), .int .i64 (H : Int), .slice ad zs.length cap] 25)).alloc (by simp) (.cells #[.int .i64 0, .int .i64 0, .slice none 0 0] 25)
  have hs0 : ((w.alloc (.cells #[.int .i64 (W : Int), .int .i64 (H : Int), .slice ad zs.length cap] 25)).alloc (.cells #[.int .i64 0, .int .i64 0, .slice none 0 0] 25)).heap.size = w.heap.size + 2 := by simp
  have hbx := (heldF_new w [.int .i64 (W : Int), .int .i64 (H : Int), .slice ad zs.length cap] 25).keep (Upd.of_below ((Below.refl _ _).alloc (Nat.le_refl _) (.cells #[.int .i64 0, .int .i64 0, .slice none 0 0] 25)) 0 0)
  have e1 : (w.alloc (.cells #[.int .i64 (W : Int), .int .i64 (H : Int), .slice ad zs.length cap] 25)).heap.size = w.heap.size + 1 := by simp
  have hrs := heldF_new (w.alloc (.cells #[.int .i64 (W : Int), .int .i64 (H : Int), .slice ad zs.length cap] 25)) [.int .i64 0, .int .i64 0, .slice none 0 0] 25
  rw [e1] at hrs
  clear e1
  replace hB0 := hide hB0
  replace hbx := hide hbx
  replace hrs := hide hrs
  have hN1 : 1 ≤ N := by rw [← hN]; exact Nat.mul_le_mul sw1 sh1
  have hN2 : N ≤ 262144 := by rw [← hN]; exact Nat.mul_le_mul sw2 sh2
  have hE := hide (implEmptyPlane sw sh N · hN hN1 (by omega))
  have hL : Hid (∀ k, growL zs W H sw (k + 1) = growL zs W H sw k ++ [growF zs W H (k % sw) (k / sw)]) := hide (fun k => growL_succ zs W H sw k)
  replace hN := hide hN
  replace h1 := hide h1
  replace h2 := hide h2
  have hA0 := hide hA
  have hp2 := hide hp
  clear hA hp
  go_enter Try.func54, Try.ntmps54
  go_wp2_with fail
  generalize ((w.alloc (.cells #[.int .i64 (W : Int), .int .i64 (H : Int), .slice ad zs.length cap] 25)).alloc (.cells #[.int .i64 0, .int .i64 0, .slice none 0 0] 25)) = w1 at hrs hB0 hs0 hbx ⊢
  refine (unhide hE _).mono ?_
  rintro e w2 ⟨g, rfl, hg0, hg1, hrow, hu⟩
  replace hbx := hide ((unhide hbx).keep hu)
  replace hrs := hide ((unhide hrs).keep hu)
  replace hB0 := hide (below_upd (unhide hB0) hu (Nat.le_refl _) (.inr (Nat.le_refl _)))
  have hs2 : w.heap.size + 2 ≤ w2.heap.size := by have := hu.size; omega
  have hg2 : w.heap.size + 2 ≤ g := by omega
  clear hu hE hg0 hs0
  have hvv := hide (heldF_new w2 [.int .i64 (sw : Int), .int .i64 (sh : Int), .slice (some ⟨g, 0, none⟩) N N] 25)
  have hu2 := Upd.of_below ((Below.refl w2.heap.size w2).alloc (Nat.le_refl _) (.cells #[.int .i64 (sw : Int), .int .i64 (sh : Int), .slice (some ⟨g, 0, none⟩) N N] 25)) 0 0
  replace hbx := hide ((unhide hbx).keep hu2)
  replace hrs := hide ((unhide hrs).keep hu2)
  replace hB0 := hide (below_upd (unhide hB0) hu2 (Nat.le_refl _) (.inr (Nat.le_refl _)))
  replace hrow := hide ((Own.of hrow).keep hu2).1
  clear hu2
  go_upto_region 2 with fail
  obtain ⟨c, hc⟩ : ∃ c, w2.heap.size = c := ⟨_, rfl⟩
  generalize w2.alloc (.cells #[.int .i64 (sw : Int), .int .i64 (sh : Int), .slice (some ⟨g, 0, none⟩) N N] 25) = wv at hvv hbx hrs hB0 hrow ⊢
  rw [hc] at hg1 hs2 hvv ⊢
  clear hc w1 w2
  have k0 := (unhide hvv).1.2 2 _ rfl
  go_wp2_with fail
  clear k0
  have hM := hide (fun S T (h1 : S < 2 * W) (h2 : T < 2 * H) => growStep W H S T ad cap zs (unhide hp2) h1 h2)
  go_loopw [21] (fun i wr => ∃ k : Nat, i = .int .i64 (k : Int) ∧ k ≤ N ∧ Hid (HeldF wr c [.int .i64 (sw : Int), .int .i64 (sh : Int), .slice (some ⟨g, 0, none⟩) N N]) ∧ Hid (wr.ownsRow g 3 1 (.slice (some ⟨g, 0, none⟩) N N) N (ints (growL zs W H sw k ++ List.replicate (N - k) 0))) ∧ Hid (HeldF wr w.heap.size [.int .i64 (W : Int), .int .i64 (H : Int), .slice ad zs.length cap]) ∧ Hid (HeldF wr (w.heap.size + 1) [.int .i64 0, .int .i64 0, .slice none 0 0]) ∧ Hid (Below w.heap.size w wr)) (fun i _ => N - (intOf i).toNat)
  case atStart => exact ⟨0, rfl, Nat.zero_le _, hvv, hrow, hbx, hrs, hB0⟩
  case round =>
    clear hvv hrow hbx hrs hB0
    obtain ⟨k, rfl, hkN, hot, hrow, hbx, hrs, hB0⟩ := hrel
    by_cases hlt : k < N
    · have hp : k % sw < sw := Nat.mod_lt _ (by omega)
      have hq : k / sw < sh := Nat.div_lt_of_lt_mul (by have := unhide hN; rw [this]; exact hlt)
      have m1 := ((unhide h1).below hb1 (unhide hB0)) _ hp
      have m2 := ((unhide h2).below hb2 (unhide hB0)) _ hq
      have hnew := hide (unhide hL k)
      have hM1 := unhide hM (k % sw) (k / sw) (by omega) (by omega)
      obtain ⟨p, hpe⟩ : ∃ p, k % sw = p := ⟨_, rfl⟩
      obtain ⟨q, hqe⟩ : ∃ q, k / sw = q := ⟨_, rfl⟩
      have e1 : (k : Int).tmod (sw : Int) = (p : Int) := by rw [← hpe, Int.tmod_eq_emod_of_nonneg (by omega)]; simp
      have e2 : (k : Int).tdiv (sw : Int) = (q : Int) := by rw [← hqe, Int.tdiv_eq_ediv_of_nonneg (by omega)]; simp
      have e3 : (k : Int) / (sw : Int) = (q : Int) := by rw [← hqe]; simp
      have e4 : (k : Int) % (sw : Int) = (p : Int) := by rw [← hpe]; simp
      rw [hpe] at hp m1 hnew hM1
      rw [hqe] at hq m2 hnew hM1
      clear hpe hqe
      obtain ⟨n1, hn1⟩ : ∃ z : Int, ((p / 2 : Nat) : Int) = z := ⟨_, rfl⟩
      obtain ⟨f1, hf1⟩ : ∃ z : Int, ((otherF p W : Nat) : Int) = z := ⟨_, rfl⟩
      obtain ⟨n2, hn2⟩ : ∃ z : Int, ((q / 2 : Nat) : Int) = z := ⟨_, rfl⟩
      obtain ⟨f2, hf2⟩ : ∃ z : Int, ((otherF q H : Nat) : Int) = z := ⟨_, rfl⟩
      rw [hn1, hf1] at m1 hM1
      rw [hn2, hf2] at m2 hM1
      clear hn1 hf1 hn2 hf2
      obtain ⟨m10, m11, m12⟩ := m1
      obtain ⟨m20, m21, m22⟩ := m2
      obtain ⟨s0, s1, s2, s3, A, B, C, D, hK1, hK2, hK3⟩ := hM1
      replace hK1 := hide hK1
      replace hK2 := hide hK2
      replace hK3 := hide hK3
      generalize growF zs W H p q = v at hK3 hnew
      have hsz : w.heap.size ≤ wr.heap.size := (unhide hB0).size
      have l1 : b1 < wr.heap.size := by omega
      have l2 : b2 < wr.heap.size := by omega
      have cl := (unhide hot).1.1
      have d0 := (unhide hot).1.2 0 _ rfl
      have hsw0 : ¬ sw = 0 := by omega
      go_upto_region 5 with fail
      go_cut [11, 12] (fun u v wx => ∃ a b : Nat, u = .pointer (some ⟨a, 0, none⟩) ∧ v = .pointer (some ⟨b, 0, none⟩) ∧ Hid (HeldF wx a [.int .i64 n1, .int .i64 f1, .int .i64 1]) ∧ Hid (HeldF wx b [.int .i64 n2, .int .i64 f2, .int .i64 1]) ∧ Hid (Upd 0 0 wr wx))
      case first =>
        have hS : ∀ X : World, Below wr.heap.size wr X → X.cell? ⟨c, 0, none⟩ = some (.int .i64 (sw : Int)) ∧ X.cell? ⟨b1, p * 3, none⟩ = some (.int .i64 n1) ∧ X.cell? ⟨b1, p * 3 + 1, none⟩ = some (.int .i64 f1) ∧ X.cell? ⟨b1, p * 3 + 2, none⟩ = some (.int .i64 1) ∧ X.cell? ⟨b2, q * 3, none⟩ = some (.int .i64 n2) ∧ X.cell? ⟨b2, q * 3 + 1, none⟩ = some (.int .i64 f2) ∧ X.cell? ⟨b2, q * 3 + 2, none⟩ = some (.int .i64 1) := fun X hX => ⟨(hX.cell (by simpa using cl)).trans d0, (hX.cell (by simpa using l1)).trans m10, (hX.cell (by simpa using l1)).trans m11, (hX.cell (by simpa using l1)).trans m12, (hX.cell (by simpa using l2)).trans m20, (hX.cell (by simpa using l2)).trans m21, (hX.cell (by simpa using l2)).trans m22⟩
        replace hS := hide hS
        have wq : IntKind.i64.wrap (q : Int) = (q : Int) := wrapI (by omega)
        have wp : IntKind.i64.wrap (p : Int) = (p : Int) := wrapI (by omega)
        have ip0 : (0 : Int) ≤ (p : Int) := by omega
        have ip1 : (p : Int) < (sw : Int) := by omega
        have iq0 : (0 : Int) ≤ (q : Int) := by omega
        have iq1 : (q : Int) < (sh : Int) := by omega
        clear d0 cl m10 m11 m12 m20 m21 m22
        go_region_held3 (fun X => X.cell? ⟨c, 0, none⟩ = some (.int .i64 (sw : Int)) ∧ X.cell? ⟨b1, p * 3, none⟩ = some (.int .i64 n1) ∧ X.cell? ⟨b1, p * 3 + 1, none⟩ = some (.int .i64 f1) ∧ X.cell? ⟨b1, p * 3 + 2, none⟩ = some (.int .i64 1) ∧ X.cell? ⟨b2, q * 3, none⟩ = some (.int .i64 n2) ∧ X.cell? ⟨b2, q * 3 + 1, none⟩ = some (.int .i64 f2) ∧ X.cell? ⟨b2, q * 3 + 2, none⟩ = some (.int .i64 1)) ((refine unhide hS _ ?_; (repeat (first | exact Below.refl _ _ | refine below_drewN ?_ 1 | refine Below.setCell ?_ (by first | (simp; done) | (simp; omega)) _ | refine Below.alloc ?_ (by first | (simp; done) | (simp; omega)) _)))) (fail)
        · have ht := hide (twoHeld wr n1 f1 1 n2 f2 1)
          go_wp2
          go_meet
          exact ⟨wr.heap.size, wr.heap.size + 1, rfl, rfl, hide (unhide ht).1, hide (unhide ht).2.1, hide (unhide ht).2.2⟩
        · have ht := hide (twoHeld wr n2 f2 1 n1 f1 1)
          go_wp2
          go_meet
          exact ⟨wr.heap.size + 1, wr.heap.size, rfl, rfl, hide (unhide ht).2.1, hide (unhide ht).1, hide (unhide ht).2.2⟩
      case rest =>
        obtain ⟨a, b, rfl, rfl, hx, hy, hu⟩ := hcut
        clear d0 cl m10 m11 m12 m20 m21 m22 e1 e2 e3 e4 hsz l1 l2
        replace hot := hide ((unhide hot).keep (unhide hu))
        replace hbx := hide ((unhide hbx).keep (unhide hu))
        replace hrs := hide ((unhide hrs).keep (unhide hu))
        replace hB0 := hide (below_upd (unhide hB0) (unhide hu) (Nat.le_refl _) (.inr (Nat.le_refl _)))
        have hrow0 := ((Own.of (unhide hrow)).keep (unhide hu)).1
        replace hrow := hide hrow0
        clear hrow0 hu
        have hAr := hide ((unhide hA0).below (unhide hB0))
        have c2 := fun X : UpdT wc => (((unhide hot).1.updT X).2 2 _ rfl)
        have g0 := fun X : UpdT wc => (((unhide hbx).1.updT X).2 0 _ rfl)
        have g1 := fun X : UpdT wc => (((unhide hbx).1.updT X).2 1 _ rfl)
        have g2 := fun X : UpdT wc => (((unhide hbx).1.updT X).2 2 _ rfl)
        have x0 := fun X : UpdT wc => (((unhide hx).1.updT X).2 0 _ rfl)
        have x1 := fun X : UpdT wc => (((unhide hx).1.updT X).2 1 _ rfl)
        have x2 := fun X : UpdT wc => (((unhide hx).1.updT X).2 2 _ rfl)
        have y0 := fun X : UpdT wc => (((unhide hy).1.updT X).2 0 _ rfl)
        have y1 := fun X : UpdT wc => (((unhide hy).1.updT X).2 1 _ rfl)
        have y2 := fun X : UpdT wc => (((unhide hy).1.updT X).2 2 _ rfl)
        have kI : (0 : Int) ≤ (k : Int) := by omega
        have kL : (k : Int) < (N : Int) := by omega
        go_upto_region 6 with fail
        refine wq_region_tail 14 (by kernel_rfl) (by kernel_rfl) ?_
        simp only [List.take_succ_cons, List.take_zero, List.drop_succ_cons, List.drop_zero]
        iterate 6
          refine WQ.step (fun K hK => ?_)
          go_simp
          refine hK _ ?_
          clear hK K
        refine WQ.step (fun K hK => ?_)
        go_simp
        refine ⟨_, fun X => Calls.updT X (unhide hK1 X.to ((unhide hAr).below (X.upd.below (Nat.le_refl _) (.inr (Nat.zero_le _))))), hK _ ?_⟩
        clear hK K
        refine WQ.step (fun K hK => ?_)
        go_simp
        refine hK _ ?_
        clear hK K
        refine WQ.step (fun K hK => ?_)
        go_simp
        refine hK _ ?_
        clear hK K
        refine WQ.step (fun K hK => ?_)
        go_simp
        refine hK _ ?_
        clear hK K
        refine WQ.step (fun K hK => ?_)
        go_simp
        refine ⟨_, fun X => Calls.updT X (unhide hK2 X.to), hK _ ?_⟩
        clear hK K
        refine WQ.step (fun K hK => ?_)
        go_simp
        refine hK _ ?_
        clear hK K
        refine WQ.step (fun K hK => ?_)
        go_simp
        refine ⟨_, fun X => Calls.updT X (unhide hK3 X.to), hK _ ?_⟩
        clear hK K
        refine WQ.step (fun K hK => ?_)
        go_simp
        refine hK _ ?_
        clear hK K
        refine WQ.nil ?_
        rintro _ ⟨X, rfl⟩
        clear c2 g0 g1 g2 x0 x1 x2 y0 y1 y2 hx hy hAr hK1 hK2 hK3
        have hX := X.upd
        generalize X.to = wt at hX ⊢
        replace hot := hide ((unhide hot).keep hX)
        replace hbx := hide ((unhide hbx).keep hX)
        replace hrs := hide ((unhide hrs).keep hX)
        replace hB0 := hide (below_upd (unhide hB0) hX (Nat.le_refl _) (.inr (Nat.le_refl _)))
        have hrow2 := ((Own.of (unhide hrow)).keep hX).1
        clear hX hrow
        have hps := part_set (growL_length zs W H sw k) hlt v
        rw [← unhide hnew] at hps
        have hdst : ∃ u, wt.cell? ⟨g, k, none⟩ = some u := by
          rw [hrow2.cellAt k (by omega)]; exact ⟨_, List.getElem?_eq_getElem (by have := hrow2.1; omega)⟩
        obtain ⟨u, hdst⟩ := hdst
        have hfz := hrow2.frozenAt k
        have hst := (hrow2.stored k (.int .i64 v)).1
        rw [ints_set, hps] at hst
        have hb3 := hide ((unhide hB0).setCell (p := ⟨g, k, none⟩) (by simp; omega) (.int .i64 v))
        have hot3 := hide ((unhide hot).other (g' := g) (by omega) k (.int .i64 v))
        have hbx3 := hide ((unhide hbx).other (g' := g) (by omega) k (.int .i64 v))
        have hrs3 := hide ((unhide hrs).other (g' := g) (by omega) k (.int .i64 v))
        replace hst := hide hst
        clear hps hrow2 hot hbx hrs hB0
        go_wp2
        go_roundw
        case rel => exact ⟨k + 1, by go_num, by omega, hot3, hst, hbx3, hrs3, hb3⟩
        case measure => simp [intOf]; omega
    · have hke : k = N := by omega
      subst hke
      rw [Nat.sub_self, List.replicate_zero, List.append_nil] at hrow
      have d0 := (unhide hot).1.2 0 _ rfl
      have d1 := (unhide hot).1.2 1 _ rfl
      have d2 := (unhide hot).1.2 2 _ rfl
      have z0 := (unhide hrs).1.2 0 _ rfl
      have z1 := (unhide hrs).1.2 1 _ rfl
      have z2 := (unhide hrs).1.2 2 _ rfl
      have f0 := (unhide hrs).2 0
      have f1 := (unhide hrs).2 1
      have f2 := (unhide hrs).2 2
      have hgl := (unhide hrow).lt g rfl
      replace hgl := hide hgl
      clear hot hbx hrs
      go_wp2
      refine bodyPost_ret (v := .agg #[.int .i64 (sw : Int), .int .i64 (sh : Int), .slice (some ⟨g, 0, none⟩) k k]) (by simp [results, Try.results54, go_sem, z0, z1, z2]) rfl ⟨_, rfl, ?_, Upd.of_below ((((unhide hB0).setCell (by simp) _).setCell (by simp) _).setCell (by simp) _) 0 0⟩
      refine ⟨_, rfl, ?_⟩
      show Own 3 1 _ _ _ _ (growL zs W H sw k).length (ints (growL zs W H sw k))
      rw [growL_length]
      have ho := Own.of (unhide hrow)
      refine own_mono (a := g) (b := wr.heap.size) ⟨?_, ho.2⟩ (by omega) (by simp)
      exact ownsRow_setCell_below (ownsRow_setCell_below (ownsRow_setCell_below ho.1 (show w.heap.size + 1 < g by omega) _) (show w.heap.size + 1 < g by omega) _) (show w.heap.size + 1 < g by omega) _
end Go.Proofs.Ytnalmingbglgfaa

/- The program's Grow, at good planes. -/
namespace Go.Proofs.Ytnalmingbglgfaa
open Go.RowKit

theorem implMixesH (old side : Nat) (w : World) (ho : 1 ≤ old ∧ old ≤ 512) (hs : 1 ≤ side ∧ side ≤ 512) (h2 : side ≤ 2 * old) :
    Calls Try.prog 57 #[.int .i64 (old : Int), .int .i64 (side : Int)] w fun e w' =>
      ∃ g, e = .returned (.slice (some ⟨g, 0, none⟩) side side) ∧ Hid (MgAt w' g old side ∧ g < w'.heap.size) ∧ Hid (Upd 0 0 w w') :=
  (implGrowMixes old side w ho hs h2).mono fun _ _ ⟨_, he, ho, hr, hu⟩ => ⟨_, he, hide ⟨mgAt_of ho hr, (ho.lt _ rfl).2⟩, hide hu⟩
theorem implIsGrown (old side : Nat) (w : World) (ho : 1 ≤ old ∧ old ≤ 512) (h : side = 2 * old ∨ side = 2 * old - 1) :
    Calls Try.prog 56 #[.int .i64 (old : Int), .int .i64 (side : Int)] w fun e w' => e = .returned (.bool true) ∧ w' = w := by
  obtain ⟨o1, o2⟩ := ho
  rcases h with h | h
  · have e1 : (side : Int) = 2 * (old : Int) := by omega
    rw [e1]
    clear e1 h
    go_enter Try.func56, Try.ntmps56
    go_wp2
    go_ret
    exact ⟨rfl, rfl⟩
  · have e1 : (side : Int) = 2 * (old : Int) - 1 := by omega
    rw [e1]
    clear e1 h
    have e2 : (2 * (old : Int) - 1 == 2 * (old : Int)) = false := beq_eq_false_iff_ne.2 (by omega)
    go_enter Try.func56, Try.ntmps56
    go_wp2
    go_ret
    exact ⟨rfl, rfl⟩
/-- What Grow answers at a good plane and sides that fit. -/
def growPl (W H sw sh : Nat) (zs : List Int) : Pl := if sw * sh ≤ 4096 then ((sw : Int), (sh : Int), growL zs W H sw (sw * sh)) else (0, 0, [])
set_option maxHeartbeats 8000000 in
set_option maxRecDepth 100000 in
theorem implGrow (W H sw sh : Nat) (zs : List Int) (ad : Option Addr) (cap : Nat) (w : World) (hp : PlOk W H zs) (hg1 : GoodPl ((W : Int), (H : Int), zs)) (hR : InPl ((W : Int), (H : Int), zs)) (hA : ArgI w ad zs)
    (hw : sw = 2 * W ∨ sw = 2 * W - 1) (hh : sh = 2 * H ∨ sh = 2 * H - 1) (sw2 : sw ≤ 512) (sh2 : sh ≤ 512) :
    Calls Try.prog 17 #[.agg #[.int .i64 (W : Int), .int .i64 (H : Int), .slice ad zs.length cap], .int .i64 (sw : Int), .int .i64 (sh : Int)] w fun e w' => ∃ u, e = .returned u ∧ OwnPl w' w.heap.size w'.heap.size u (growPl W H sw sh zs) ∧ Upd 0 0 w w' := by
  have hn : ((W : Int), (H : Int), zs).2.2.length ≤ 1048576 := by have h1 := hp.l; have h2 := hp.m; show zs.length ≤ 1048576; omega
  have hG := hide (fun (W' : World) (h : ArgI W' ad zs) => implGoodPlane _ ((W : Int), (H : Int), zs) W' hn hR ⟨_, rfl, ad, cap, rfl, h⟩)
  have hgt := hide (goodPlB_yes hg1)
  have hW := hp.w
  have hH := hp.h
  have hI1 := hide (fun X => implIsGrown W sw X hW hw)
  have hI2 := hide (fun X => implIsGrown H sh X hH hh)
  have hB0 := (((Below.refl w.heap.size w).alloc (Nat.le_refl _) (.cells #[.int .i64 (W : Int), .int .i64 (H : Int), .slice ad zs.length cap] 25)).alloc (by simp) (.cells #[.int .i64 0, .int .i64 0, .slice none 0 0] 25))
  have hs0 : ((w.alloc (.cells #[.int .i64 (W : Int), .int .i64 (H : Int), .slice ad zs.length cap] 25)).alloc (.cells #[.int .i64 0, .int .i64 0, .slice none 0 0] 25)).heap.size = w.heap.size + 2 := by simp
  have hbx := (heldF_new w [.int .i64 (W : Int), .int .i64 (H : Int), .slice ad zs.length cap] 25).keep (Upd.of_below ((Below.refl _ _).alloc (Nat.le_refl _) (.cells #[.int .i64 0, .int .i64 0, .slice none 0 0] 25)) 0 0)
  have hrs := heldF_new (w.alloc (.cells #[.int .i64 (W : Int), .int .i64 (H : Int), .slice ad zs.length cap] 25)) [.int .i64 0, .int .i64 0, .slice none 0 0] 25
  have e1 : (w.alloc (.cells #[.int .i64 (W : Int), .int .i64 (H : Int), .slice ad zs.length cap] 25)).heap.size = w.heap.size + 1 := by simp
  rw [e1] at hrs
  clear e1
  have hA0 := hide (hA.below hB0)
  have hAw := hide hA
  replace hB0 := hide hB0
  replace hbx := hide hbx
  replace hrs := hide hrs
  clear hA
  go_enter Try.func17, Try.ntmps17
  go_upto_region 1 with fail
  generalize (w.alloc (.cells #[.int .i64 (W : Int), .int .i64 (H : Int), .slice ad zs.length cap] 25)).alloc (.cells #[.int .i64 0, .int .i64 0, .slice none 0 0] 25) = w0 at hB0 hs0 hbx hrs hA0 ⊢
  obtain ⟨Pd, hPd⟩ : ∃ Pd, sw * sh = Pd := ⟨_, rfl⟩
  have hPi : (sw : Int) * (sh : Int) = (Pd : Int) := by rw [← hPd]; simp
  have hPb : Pd ≤ 262144 := by rw [← hPd]; exact Nat.mul_le_mul sw2 sh2
  obtain ⟨okB, hok⟩ : ∃ okB, okB = decide (Pd ≤ 4096) := ⟨_, rfl⟩
  replace hok := hide hok
  replace hPd := hide hPd
  replace hp := hide hp
  replace hw := hide hw
  replace hh := hide hh
  go_cut [29] (fun s29 wx => s29 = .bool (!okB) ∧ Hid (Upd 0 0 w0 wx))
  case first =>
    have c0 := (unhide hbx).1.2 0 _ rfl
    have c1 := (unhide hbx).1.2 1 _ rfl
    have c2 := (unhide hbx).1.2 2 _ rfl
    go_wp2_with fail
    refine (unhide hG w0 (unhide hA0)).mono ?_
    rintro e w1 ⟨rfl, hu⟩
    clear c0 c1 c2
    have hb1 := (unhide hbx).keep hu
    have c0 := hb1.1.2 0 _ rfl
    have c1 := hb1.1.2 1 _ rfl
    clear hb1
    replace hu := hide hu
    rw [unhide hgt]
    go_wp2_with fail
    refine (unhide hI1 _).mono ?_
    rintro e w2 ⟨rfl, rfl⟩
    go_wp2_with fail
    refine (unhide hI2 _).mono ?_
    rintro e w2 ⟨rfl, rfl⟩
    by_cases hlt : Pd ≤ 4096
    · have e : okB = true := by rw [unhide hok]; exact decide_eq_true hlt
      subst e
      clear hok
      go_wp2
      go_meet
      exact ⟨by rw [decide_eq_false (by omega)]; rfl, hu⟩
    · have e : okB = false := by rw [unhide hok]; exact decide_eq_false hlt
      subst e
      clear hok
      go_wp2
      go_meet
      exact ⟨by rw [decide_eq_true (by omega)]; rfl, hu⟩
  case rest =>
  obtain ⟨rfl, hu0⟩ := hcut
  replace hbx := hide ((unhide hbx).keep (unhide hu0))
  replace hrs := hide ((unhide hrs).keep (unhide hu0))
  replace hA0 := hide ((unhide hA0).below ((unhide hu0).below (Nat.le_refl _) (.inr (Nat.zero_le _))))
  replace hB0 := hide (below_upd (unhide hB0) (unhide hu0) (Nat.le_refl _) (.inr (Nat.le_refl _)))
  have hs1 : w.heap.size + 2 ≤ wc.heap.size := by have := (unhide hu0).size; omega
  clear hG hu0 hs0 hI1 hI2 hgt hPi
  by_cases hg : Pd ≤ 4096
  case neg =>
    have hF : Hid (growPl W H sw sh zs = (0, 0, [])) := hide (by unfold growPl; rw [if_neg (by rw [unhide hPd]; exact hg)])
    have e : okB = false := by rw [unhide hok]; exact decide_eq_false hg
    subst e
    have z0 := (unhide hrs).1.2 0 _ rfl
    have z1 := (unhide hrs).1.2 1 _ rfl
    have z2 := (unhide hrs).1.2 2 _ rfl
    have f0 := (unhide hrs).2 0
    have f1 := (unhide hrs).2 1
    have f2 := (unhide hrs).2 2
    clear hbx hA0 hR hok hg hPb
    go_wp2
    refine bodyPost_ret (v := .agg #[.int .i64 0, .int .i64 0, .slice none 0 0]) (by simp [results, Try.results17, go_sem, z0, z1, z2]) rfl ⟨_, rfl, ?_, Upd.of_below ((((unhide hB0).setCell (by simp) _).setCell (by simp) _).setCell (by simp) _) 0 0⟩
    rw [unhide hF]
    exact ⟨_, rfl, World.ownsRow_nil _ _ _ _, fun k hk => by simp [Value.ownBlock] at hk⟩
  have e : okB = true := by rw [unhide hok]; exact decide_eq_true hg
  subst e
  clear hok
  have hF : Hid (growPl W H sw sh zs = ((sw : Int), (sh : Int), growL zs W H sw Pd)) := hide (by unfold growPl; rw [if_pos (by rw [unhide hPd]; exact hg), unhide hPd])
  have hp2 := hp
  have sw1 : 1 ≤ sw := by have := unhide hw; omega
  have sh1 : 1 ≤ sh := by have := unhide hh; omega
  have sw3 : sw ≤ 2 * W := by have := unhide hw; omega
  have sh3 : sh ≤ 2 * H := by have := unhide hh; omega
  have hM := hide (fun (old side : Nat) (X : World) (a1 : 1 ≤ old) (a2 : old ≤ 512) (b1 : 1 ≤ side) (b2 : side ≤ 512) (b3 : side ≤ 2 * old) => implMixesH old side X ⟨a1, a2⟩ ⟨b1, b2⟩ b3)
  obtain ⟨W1, W2⟩ := hW
  obtain ⟨H1, H2⟩ := hH
  clear hR hg1 hp hPb
  go_upto_region 3 with fail
  generalize wc = w1 at hrs hA0 hB0 hs1 hbx ⊢
  have c0 := (unhide hbx).1.2 0 _ rfl
  have c1 := (unhide hbx).1.2 1 _ rfl
  have c2 := (unhide hbx).1.2 2 _ rfl
  have cl := (unhide hbx).1.1
  have hS : ∀ X : World, Below w1.heap.size w1 X → X.cell? ⟨w.heap.size, 0, none⟩ = some (.int .i64 (W : Int)) ∧ X.cell? ⟨w.heap.size, 1, none⟩ = some (.int .i64 (H : Int)) ∧ X.cell? ⟨w.heap.size, 2, none⟩ = some (.slice ad zs.length cap) := fun X hX => ⟨(hX.cell (by simp; omega)).trans c0, (hX.cell (by simp; omega)).trans c1, (hX.cell (by simp; omega)).trans c2⟩
  replace hS := hide hS
  clear c0 c1 c2 cl
  clear hn
  go_region_held3 (fun X => X.cell? ⟨w.heap.size, 0, none⟩ = some (.int .i64 (W : Int)) ∧ X.cell? ⟨w.heap.size, 1, none⟩ = some (.int .i64 (H : Int)) ∧ X.cell? ⟨w.heap.size, 2, none⟩ = some (.slice ad zs.length cap)) ((first | (refine unhide hS _ ?_; (repeat (first | exact Below.refl _ _ | refine below_drewN ?_ 1 | refine below_upd ?_ (unhide hum2) (by first | (simp; done) | (simp; omega)) (.inr (Nat.le_refl _)) | refine below_upd ?_ (unhide hub) (by first | (simp; done) | (simp; omega)) (.inr (Nat.le_refl _)) | refine below_upd ?_ (unhide hua) (by first | (simp; done) | (simp; omega)) (.inr (Nat.le_refl _)))); done) | exact ⟨(((((unhide hbx).keep (unhide hum2)).other (g' := w.heap.size + 1) (by omega) 0 _).other (g' := w.heap.size + 1) (by omega) 1 _).other (g' := w.heap.size + 1) (by omega) 2 _).1.2 0 _ rfl, (((((unhide hbx).keep (unhide hum2)).other (g' := w.heap.size + 1) (by omega) 0 _).other (g' := w.heap.size + 1) (by omega) 1 _).other (g' := w.heap.size + 1) (by omega) 2 _).1.2 1 _ rfl, (((((unhide hbx).keep (unhide hum2)).other (g' := w.heap.size + 1) (by omega) 0 _).other (g' := w.heap.size + 1) (by omega) 1 _).other (g' := w.heap.size + 1) (by omega) 2 _).1.2 2 _ rfl⟩)) (first | (go_at_call 57; refine (unhide hM _ _ _ ?_ ?_ ?_ ?_ ?_).mono ?_; omega; omega; omega; omega; omega; first | (have hz := hua; clear hz; rintro e wb ⟨gb, rfl, hob, hub⟩) | rintro e wa ⟨ga, rfl, hoa, hua⟩) | (go_at_call 54; refine (implMixed2 W H sw sh Pd ga gb ad cap zs wb (unhide hp2) ((unhide hA0).below ((((Upd.drew1 w1).trans (unhide hua)).trans (unhide hub)).below (Nat.le_refl _) (.inr (Nat.zero_le _)))) (Nat.lt_of_lt_of_le (unhide hoa).2 (unhide hub).size) (unhide hob).2 sw1 sw2 sw3 sh1 sh2 sh3 (unhide hPd) ((unhide hoa).1.below (unhide hoa).2 ((unhide hub).below (Nat.le_refl _) (.inr (Nat.zero_le _)))) (unhide hob).1).mono ?_; rintro e wm ⟨um, rfl, hom, hum⟩; obtain ⟨am, cm, rfl⟩ := hom.form; have hum2 := hide ((((Upd.drew1 w1).trans (unhide hua)).trans (unhide hub)).trans hum); have hr2 := hide ((unhide hrs).keep (unhide hum2)); have hsb := hide (Nat.le_trans (((Upd.drew1 w1).trans (unhide hua)).trans (unhide hub)).size (Nat.le_refl wb.heap.size)); clear hum; replace hom := hide hom; have z0 := (unhide hr2).1.2 0 _ rfl; have z1 := (unhide hr2).1.2 1 _ rfl; have z2 := (unhide hr2).1.2 2 _ rfl; have y0 := (unhide hr2).2 0; have y1 := (unhide hr2).2 1; have y2 := (unhide hr2).2 2; simp only [Plv, Pls]))
  all_goals
    go_wp2
    refine bodyPost_ret (v := .agg #[.int .i64 (sw : Int), .int .i64 (sh : Int), .slice am Pd cm]) (by simp [results, Try.results17, go_sem, z0, z1, z2]) rfl ⟨_, rfl, ?_, Upd.of_below ((((below_upd (unhide hB0) (unhide hum2) (Nat.le_refl _) (.inr (Nat.le_refl _))).setCell (by simp) _).setCell (by simp) _).setCell (by simp) _) 0 0⟩
    rw [unhide hF]
    obtain ⟨vl, hvl, ho⟩ := unhide hom
    have hvl2 : vl = .slice am Pd cm := by simpa [Plv, Pls] using hvl.symm
    subst hvl2
    refine ⟨_, rfl, ?_⟩
    have hsb2 := unhide hsb
    refine own_mono (a := wb.heap.size) (b := wm.heap.size) ⟨?_, ho.2⟩ (by omega) (by simp)
    exact ownsRow_setCell_below (ownsRow_setCell_below (ownsRow_setCell_below ho.1 (show w.heap.size + 1 < wb.heap.size by omega) _) (show w.heap.size + 1 < wb.heap.size by omega) _) (show w.heap.size + 1 < wb.heap.size by omega) _
end Go.Proofs.Ytnalmingbglgfaa

/- The specification's nearest sample, left of and above the plane. -/
namespace Go.Proofs.Ytnalmingbglgfaa
open Go.RowKit

set_option maxHeartbeats 4000000 in
set_option maxRecDepth 100000 in
theorem specL7AtL (W H y : Nat) (ad : Option Addr) (cap : Nat) (zs : List Int) (w : World) (hp : PlOk W H zs) (_hy : y ≤ 1000000) (hA : ArgI w ad zs) :
    Calls Try.prog 60 #[.agg #[.int .i64 (W : Int), .int .i64 (H : Int), .slice ad zs.length cap], .int .i64 (-1), .int .i64 (y : Int)] w fun e w' => e = .returned (.int .i64 (nearF zs W H 0 y)) ∧ Upd 0 0 w w' := by
  obtain ⟨W1, W2⟩ := hp.w
  obtain ⟨H1, H2⟩ := hp.h
  have hR : Hid (nearF zs W H 0 y = zs.getD (min y (H - 1) * W + min 0 (W - 1)) 0) := hide rfl
  obtain ⟨hlt, hyW⟩ := hp.at_lt (x := min 0 (W - 1)) (y := min y (H - 1)) (by omega) (by omega)
  have hB := (Below.refl w.heap.size w).alloc (Nat.le_refl _) (.cells #[.int .i64 (W : Int), .int .i64 (H : Int), .slice ad zs.length cap] 25)
  have hU := hide (Upd.of_below hB 0 0)
  obtain ⟨bb, off, rfl, hbl, hcl⟩ := (hA.below hB) (ne_of_lt_length hlt)
  have hlen : zs.length ≤ 4096 := by have := hp.l; have := hp.m; omega
  generalize nearF zs W H 0 y = R at hR ⊢
  clear hA hB hp
  by_cases hyH : y < H
  ·
    rw [show min 0 (W - 1) = 0 by omega, show min y (H - 1) = y by omega] at hlt hR
    rw [show min y (H - 1) = y by omega] at hyW
    have hck := hcl _ hlt
    rw [← unhide hR] at hck
    obtain ⟨p, hpe⟩ : ∃ p, y * W = p := ⟨_, rfl⟩
    have e1 : (y : Int) * (W : Int) = (p : Int) := by rw [← hpe]; simp
    rw [hpe] at hlt hck hyW
    clear hcl hR hpe
    simp only [Nat.add_zero] at hlt hck
    have k1 : (0 : Int) ≤ (p : Int) := by omega
    have k2 : (p : Int) < (zs.length : Int) := by omega
    go_enter Try.func60, Try.ntmps60
    go_wp2
    go_ret
    exact ⟨rfl, unhide hU⟩
  ·
    rw [show min 0 (W - 1) = 0 by omega, show min y (H - 1) = (H - 1) by omega] at hlt hR
    rw [show min y (H - 1) = (H - 1) by omega] at hyW
    have hck := hcl _ hlt
    rw [← unhide hR] at hck
    obtain ⟨p, hpe⟩ : ∃ p, (H - 1) * W = p := ⟨_, rfl⟩
    have e1 : ((H : Int) - 1) * (W : Int) = (p : Int) := by rw [← hpe, Int.natCast_mul, Int.natCast_sub (by omega)]; rfl
    rw [hpe] at hlt hck hyW
    clear hcl hR hpe
    simp only [Nat.add_zero] at hlt hck
    have k1 : (0 : Int) ≤ (p : Int) := by omega
    have k2 : (p : Int) < (zs.length : Int) := by omega
    go_enter Try.func60, Try.ntmps60
    go_wp2
    go_ret
    exact ⟨rfl, unhide hU⟩
set_option maxHeartbeats 4000000 in
set_option maxRecDepth 100000 in
theorem specL7AtT (W H x : Nat) (ad : Option Addr) (cap : Nat) (zs : List Int) (w : World) (hp : PlOk W H zs) (hx : x ≤ 1000000) (hA : ArgI w ad zs) :
    Calls Try.prog 60 #[.agg #[.int .i64 (W : Int), .int .i64 (H : Int), .slice ad zs.length cap], .int .i64 (x : Int), .int .i64 (-1)] w fun e w' => e = .returned (.int .i64 (nearF zs W H x 0)) ∧ Upd 0 0 w w' := by
  obtain ⟨W1, W2⟩ := hp.w
  obtain ⟨H1, H2⟩ := hp.h
  have hR : Hid (nearF zs W H x 0 = zs.getD (min 0 (H - 1) * W + min x (W - 1)) 0) := hide rfl
  obtain ⟨hlt, hyW⟩ := hp.at_lt (x := min x (W - 1)) (y := min 0 (H - 1)) (by omega) (by omega)
  have hB := (Below.refl w.heap.size w).alloc (Nat.le_refl _) (.cells #[.int .i64 (W : Int), .int .i64 (H : Int), .slice ad zs.length cap] 25)
  have hU := hide (Upd.of_below hB 0 0)
  obtain ⟨bb, off, rfl, hbl, hcl⟩ := (hA.below hB) (ne_of_lt_length hlt)
  have hlen : zs.length ≤ 4096 := by have := hp.l; have := hp.m; omega
  generalize nearF zs W H x 0 = R at hR ⊢
  clear hA hB hp
  by_cases hxW : x < W
  ·
    rw [show min x (W - 1) = x by omega, show min 0 (H - 1) = 0 by omega] at hlt hR
    rw [show min 0 (H - 1) = 0 by omega] at hyW
    have hck := hcl _ hlt
    rw [← unhide hR] at hck
    simp only [Nat.zero_mul, Nat.zero_add] at hlt hck
    clear hcl hR hyW
    have k1 : (0 : Int) ≤ (x : Int) := by omega
    have k2 : (x : Int) < (zs.length : Int) := by omega
    have k3 : ((x : Int)).toNat = x := by omega
    go_enter Try.func60, Try.ntmps60
    go_wp2
    go_ret
    exact ⟨rfl, unhide hU⟩
  ·
    rw [show min x (W - 1) = (W - 1) by omega, show min 0 (H - 1) = 0 by omega] at hlt hR
    rw [show min 0 (H - 1) = 0 by omega] at hyW
    have hck := hcl _ hlt
    rw [← unhide hR] at hck
    simp only [Nat.zero_mul, Nat.zero_add] at hlt hck
    clear hcl hR hyW
    have k1 : (0 : Int) ≤ ((W : Int) - 1) := by omega
    have k2 : ((W : Int) - 1) < (zs.length : Int) := by omega
    have k3 : (((W : Int) - 1)).toNat = (W - 1) := by omega
    go_enter Try.func60, Try.ntmps60
    go_wp2
    go_ret
    exact ⟨rfl, unhide hU⟩
set_option maxHeartbeats 4000000 in
set_option maxRecDepth 100000 in
theorem specL7AtLT (W H : Nat) (ad : Option Addr) (cap : Nat) (zs : List Int) (w : World) (hp : PlOk W H zs) (hA : ArgI w ad zs) :
    Calls Try.prog 60 #[.agg #[.int .i64 (W : Int), .int .i64 (H : Int), .slice ad zs.length cap], .int .i64 (-1), .int .i64 (-1)] w fun e w' => e = .returned (.int .i64 (nearF zs W H 0 0)) ∧ Upd 0 0 w w' := by
  obtain ⟨W1, W2⟩ := hp.w
  obtain ⟨H1, H2⟩ := hp.h
  have hR : Hid (nearF zs W H 0 0 = zs.getD (min 0 (H - 1) * W + min 0 (W - 1)) 0) := hide rfl
  obtain ⟨hlt, hyW⟩ := hp.at_lt (x := min 0 (W - 1)) (y := min 0 (H - 1)) (by omega) (by omega)
  have hB := (Below.refl w.heap.size w).alloc (Nat.le_refl _) (.cells #[.int .i64 (W : Int), .int .i64 (H : Int), .slice ad zs.length cap] 25)
  have hU := hide (Upd.of_below hB 0 0)
  obtain ⟨bb, off, rfl, hbl, hcl⟩ := (hA.below hB) (ne_of_lt_length hlt)
  have hlen : zs.length ≤ 4096 := by have := hp.l; have := hp.m; omega
  generalize nearF zs W H 0 0 = R at hR ⊢
  clear hA hB hp
  rw [show min 0 (W - 1) = 0 by omega, show min 0 (H - 1) = 0 by omega] at hlt hR
  rw [show min 0 (H - 1) = 0 by omega] at hyW
  have hck := hcl _ hlt
  rw [← unhide hR] at hck
  simp only [Nat.zero_mul, Nat.zero_add] at hlt hck
  clear hcl hR hyW
  simp only [Nat.add_zero] at hck
  have k2 : (0 : Int) < (zs.length : Int) := by omega
  go_enter Try.func60, Try.ntmps60
  go_wp2
  go_ret
  exact ⟨rfl, unhide hU⟩
theorem specL7AtI (W H : Nat) (a b : Int) (x y : Nat) (ad : Option Addr) (cap : Nat) (zs : List Int) (w : World) (hp : PlOk W H zs) (ha : (a = -1 ∧ x = 0) ∨ a = x) (hb : (b = -1 ∧ y = 0) ∨ b = y) (hx : x ≤ 1000000) (hy : y ≤ 1000000) (hA : ArgI w ad zs) :
    Calls Try.prog 60 #[.agg #[.int .i64 (W : Int), .int .i64 (H : Int), .slice ad zs.length cap], .int .i64 a, .int .i64 b] w fun e w' => e = .returned (.int .i64 (nearF zs W H x y)) ∧ Upd 0 0 w w' := by
  rcases ha with ⟨rfl, rfl⟩ | rfl <;> rcases hb with ⟨rfl, rfl⟩ | rfl
  · exact specL7AtLT W H ad cap zs w hp hA
  · exact specL7AtL W H y ad cap zs w hp hy hA
  · exact specL7AtT W H x ad cap zs w hp hx hA
  · exact specL7At W H x y ad cap zs w hp hx hy hA
theorem nearF_other {zs : List Int} {W H x y n : Nat} (h : n = if x % 2 = 1 then x / 2 + 1 else x / 2 - 1) : nearF zs W H n y = nearF zs W H (otherF x W) y := by
  unfold nearF otherF
  subst h
  split
  · rw [show min (min (x / 2 + 1) (W - 1)) (W - 1) = min (x / 2 + 1) (W - 1) by omega]
  · rfl
end Go.Proofs.Ytnalmingbglgfaa
