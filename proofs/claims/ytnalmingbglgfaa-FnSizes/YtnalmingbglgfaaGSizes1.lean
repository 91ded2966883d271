/- The texts behind FnSizes, part 1: what each of them says stands at its head. -/
import Derived.Test.YtnalmingbglgfaaGSizes0
import Derived.Deep.RegionHeld3
import Derived.Deep.QuietTactic
import Derived.BigQuiet
import Derived.StillTailTactics
import Derived.Deep.RegionWith
import Derived.Deep.LoopGhost
import Derived.Deep.DeepCutAuto
import Derived.StillTail
/- The drawing of a plane and other sides. -/
namespace Go.Proofs.Ytnalmingbglgfaa
open Go.RowKit

/-- What stands while other sides are drawn. -/
structure DzSt (w wr : World) (N : Nat) (ad : Option Addr) (cap : Nat) (zs : List Int) (m : Nat) (A B : Int) (v : Value) (xs : List Int) : Prop where
  box : HeldF wr N [.int .i64 A, .int .i64 B, v]
  res : HeldF wr w.heap.size [.int .i64 0, .int .i64 0, .slice none 0 0]
  own : OwnUp wr (w.heap.size + 1) v xs
  cur : CurIn wr (w.heap.size + 1) ad cap zs m
  bel : Below w.heap.size w wr
  nw : w.heap.size + 1 < N
theorem DzSt.pick {w wr wx : World} {N : Nat} {ad : Option Addr} {cap : Nat} {zs : List Int} {m m' : Nat} {A B : Int} {v : Value} {xs : List Int} (h : DzSt w wr N ad cap zs m A B v xs) (hc : CurIn wx (w.heap.size + 1) ad cap zs m') (ho : OnlyAt (w.heap.size + 1) wr wx) : DzSt w wx N ad cap zs m' A B v xs := by
  have h1 := h.nw
  have h2 := h.box.1.1
  exact ⟨h.box.only ho (by omega), h.res.only ho (by omega), h.own.only ho (Nat.le_refl _), hc, h.bel.trans (ho.below (by omega) (by omega)), h.nw⟩
theorem DzSt.fin {w wr : World} {N : Nat} {ad : Option Addr} {cap : Nat} {zs : List Int} {m : Nat} {A B : Int} {v : Value} {xs : List Int} (h : DzSt w wr N ad cap zs m A B v xs) (u0 u1 u2 : Value) :
    RdI (((wr.setCell ⟨w.heap.size, 0, none⟩ u0).setCell ⟨w.heap.size, 1, none⟩ u1).setCell ⟨w.heap.size, 2, none⟩ u2) v xs ∧ Below w.heap.size w (((wr.setCell ⟨w.heap.size, 0, none⟩ u0).setCell ⟨w.heap.size, 1, none⟩ u1).setCell ⟨w.heap.size, 2, none⟩ u2) :=
  ⟨(((h.own.set (c := w.heap.size) (by omega) 0 u0).set (c := w.heap.size) (by omega) 1 u1).set (c := w.heap.size) (by omega) 2 u2).rd, ((h.bel.setCell (p := ⟨w.heap.size, 0, none⟩) (Nat.le_refl _) u0).setCell (p := ⟨w.heap.size, 1, none⟩) (Nat.le_refl _) u1).setCell (p := ⟨w.heap.size, 2, none⟩) (Nat.le_refl _) u2⟩

set_option maxHeartbeats 16000000 in
set_option maxRecDepth 100000 in
theorem specDrawResize (ad : Option Addr) (cap : Nat) (zs : List Int) (w : World) (h : ArgB w ad zs) (hl : zs.length ≤ 1048576) :
    Calls Try.prog 12 #[.slice ad zs.length cap] w fun e w' => ∃ (A B : Int) (v : Value) (xs : List Int) (wi he : Int), e = .returned (.tuple #[.agg #[.int .i64 A, .int .i64 B, v], .int .i64 wi, .int .i64 he]) ∧ (0 ≤ A ∧ A ≤ 32) ∧ (1 ≤ B ∧ B ≤ 31) ∧ xs.length ≤ 961 ∧ InR (-1) 256 xs ∧ (0 ≤ wi ∧ wi ≤ 513) ∧ (0 ≤ he ∧ he ≤ 513) ∧ RdI w' v xs ∧ Below w.heap.size w w' := by
  have hb0 := (Below.refl w.heap.size w).alloc (Nat.le_refl _) (.cells #[.int .i64 0, .int .i64 0, .slice none 0 0] 25)
  have hr0 := heldF_new w [.int .i64 0, .int .i64 0, .slice none 0 0] 25
  have hs0 : (w.alloc (.cells #[.int .i64 0, .int .i64 0, .slice none 0 0] 25)).heap.size = w.heap.size + 1 := by simp
  have h1 := h.below hb0
  have hc0 := curIn_new _ ad cap zs h1
  have hb1 := hb0.alloc (by simp) (.cells #[.slice ad zs.length cap, .int .i64 0, .int .u64 0] 60)
  have hr1 := hr0.keep (Upd.of_below ((Below.refl _ _).alloc (Nat.le_refl _) (.cells #[.slice ad zs.length cap, .int .i64 0, .int .u64 0] 60)) 0 0)
  rw [hs0] at hc0
  have hs1 : w.heap.size + 2 = ((w.alloc (.cells #[.int .i64 0, .int .i64 0, .slice none 0 0] 25)).alloc (.cells #[.slice ad zs.length cap, .int .i64 0, .int .u64 0] 60)).heap.size := by simp
  replace hc0 := hide hc0
  replace hb1 := hide hb1
  replace hr1 := hide hr1
  clear hb0 hr0 hs0 h h1
  go_enter Try.func12, Try.ntmps12
  go_wp2_with fail
  generalize (w.alloc (.cells #[.int .i64 0, .int .i64 0, .slice none 0 0] 25)).alloc (.cells #[.slice ad zs.length cap, .int .i64 0, .int .u64 0] 60) = w0 at hc0 hb1 hr1 hs1 ⊢
  refine (specL7Plane (w.heap.size + 1) ad cap zs w0 (unhide hc0) hl).mono ?_
  rintro e w1 ⟨A, B, v, xs, rfl, hA, hB, hxn, hxR, hO, hc1, ho⟩
  have hs2 := ho.size
  have hb2 := (Below.refl w1.heap.size w1).alloc (Nat.le_refl _) (.cells #[.int .i64 A, .int .i64 B, v] 25)
  have hD : DzSt w (w1.alloc (.cells #[.int .i64 A, .int .i64 B, v] 25)) w1.heap.size ad cap zs 7000 A B v xs :=
    ⟨heldF_new w1 [.int .i64 A, .int .i64 B, v] 25, ((unhide hr1).only ho (by omega)).keep (Upd.of_below hb2 0 0), by
      obtain ⟨lo, hi, k1, k2⟩ := hO
      exact ⟨lo, hi, k1.keep (Upd.of_below hb2 0 0), by omega⟩, hc1.grown hb2, ((unhide hb1).trans (ho.below (by omega) (by omega))).trans (hb2.mono (by omega)), by omega⟩
  obtain ⟨av, cv, rfl, _⟩ := hO.rd
  replace hD := hide hD
  replace hxR := hide hxR
  clear hO hc0 hb1 hr1 hc1 ho hb2
  go_wp2_with fail
  obtain ⟨N, hN⟩ : ∃ N, w1.heap.size = N := ⟨_, rfl⟩
  rw [hN] at hD ⊢
  generalize w1.alloc (.cells #[.int .i64 A, .int .i64 B, .slice av xs.length cv] 25) = w2 at hD ⊢
  clear hN hs1 hs2
  refine (curPickAny (w.heap.size + 1) ad cap zs 7000 20 w2 (unhide hD).cur (by omega) hl (by omega)).mono ?_
  rintro e w3 ⟨wi, rfl, wi0, wi1, hc3, ho3⟩
  replace wi1 := wi1 (by omega)
  replace hD := hide ((unhide hD).pick hc3 ho3)
  clear hc3 ho3
  go_wp2_with fail
  refine (curPickAny (w.heap.size + 1) ad cap zs 7003 20 w3 (unhide hD).cur (by omega) hl (by omega)).mono ?_
  rintro e w4 ⟨he, rfl, he0, he1, hc4, ho4⟩
  replace he1 := he1 (by omega)
  replace hD := hide ((unhide hD).pick hc4 ho4)
  clear hc4 ho4
  go_wp2_with fail
  refine (curPickAny (w.heap.size + 1) ad cap zs 7006 14 w4 (unhide hD).cur (by omega) hl (by omega)).mono ?_
  rintro e w5 ⟨pk, rfl, pk0, pk1, hc5, ho5⟩
  replace hD := hide ((unhide hD).pick hc5 ho5)
  clear hc5 ho5
  by_cases p0 : pk = 0
  · subst p0
    go_wp2_with fail
    refine (curPickAny (w.heap.size + 1) ad cap zs 7009 2 w5 (unhide hD).cur (by omega) hl (by omega)).mono ?_
    rintro e w6 ⟨px, rfl, px0, px1, hc6, ho6⟩
    replace px1 := px1 (by omega)
    replace hD := hide ((unhide hD).pick hc6 ho6)
    clear hc6 ho6
    go_wp2_with fail
    refine (curPickAny (w.heap.size + 1) ad cap zs 7012 9 w6 (unhide hD).cur (by omega) hl (by omega)).mono ?_
    rintro e w7 ⟨py, rfl, py0, py1, hc7, ho7⟩
    replace py1 := py1 (by omega)
    replace hD := hide ((unhide hD).pick hc7 ho7)
    clear hc7 ho7
    have b0 := (unhide hD).box.1.2 0 _ rfl
    have b1 := (unhide hD).box.1.2 1 _ rfl
    have b2 := (unhide hD).box.1.2 2 _ rfl
    have r0 := (unhide hD).res.1.2 0 _ rfl
    have r1 := (unhide hD).res.1.2 1 _ rfl
    have r2 := (unhide hD).res.1.2 2 _ rfl
    have g0 := (unhide hD).res.2 0
    have g1 := (unhide hD).res.2 1
    have g2 := (unhide hD).res.2 2
    have hfin := hide (fun u0 u1 u2 => (unhide hD).fin u0 u1 u2)
    clear hD
    go_wp2
    refine bodyPost_ret (v := .tuple #[.agg #[.int .i64 A, .int .i64 B, .slice av xs.length cv], .int .i64 (512 + px), .int .i64 (1 + py)]) (by simp [results, Try.results12, go_sem, r0, r1, r2]) rfl ?_
    obtain ⟨f1, f2⟩ := unhide hfin (.int .i64 A) (.int .i64 B) (.slice av xs.length cv)
    exact ⟨A, B, _, xs, _, _, rfl, hA, hB, hxn, unhide hxR, by omega, by omega, f1, f2⟩
  · have q0 : (pk == 0) = false := beq_eq_false_iff_ne.2 p0
    by_cases p1 : pk = 1
    · subst p1
      go_wp2_with fail
      refine (curPickAny (w.heap.size + 1) ad cap zs 7009 2 w5 (unhide hD).cur (by omega) hl (by omega)).mono ?_
      rintro e w6 ⟨px, rfl, px0, px1, hc6, ho6⟩
      replace px1 := px1 (by omega)
      replace hD := hide ((unhide hD).pick hc6 ho6)
      clear hc6 ho6
      have b0 := (unhide hD).box.1.2 0 _ rfl
      have b1 := (unhide hD).box.1.2 1 _ rfl
      have b2 := (unhide hD).box.1.2 2 _ rfl
      have r0 := (unhide hD).res.1.2 0 _ rfl
      have r1 := (unhide hD).res.1.2 1 _ rfl
      have r2 := (unhide hD).res.1.2 2 _ rfl
      have g0 := (unhide hD).res.2 0
      have g1 := (unhide hD).res.2 1
      have g2 := (unhide hD).res.2 2
      have hfin := hide (fun u0 u1 u2 => (unhide hD).fin u0 u1 u2)
      clear hD
      go_wp2
      refine bodyPost_ret (v := .tuple #[.agg #[.int .i64 A, .int .i64 B, .slice av xs.length cv], .int .i64 (1 + wi), .int .i64 (px)]) (by simp [results, Try.results12, go_sem, r0, r1, r2]) rfl ?_
      obtain ⟨f1, f2⟩ := unhide hfin (.int .i64 A) (.int .i64 B) (.slice av xs.length cv)
      exact ⟨A, B, _, xs, _, _, rfl, hA, hB, hxn, unhide hxR, by omega, by omega, f1, f2⟩
    · have q1 : (pk == 1) = false := beq_eq_false_iff_ne.2 p1
      have b0 := (unhide hD).box.1.2 0 _ rfl
      have b1 := (unhide hD).box.1.2 1 _ rfl
      have b2 := (unhide hD).box.1.2 2 _ rfl
      have r0 := (unhide hD).res.1.2 0 _ rfl
      have r1 := (unhide hD).res.1.2 1 _ rfl
      have r2 := (unhide hD).res.1.2 2 _ rfl
      have g0 := (unhide hD).res.2 0
      have g1 := (unhide hD).res.2 1
      have g2 := (unhide hD).res.2 2
      have hfin := hide (fun u0 u1 u2 => (unhide hD).fin u0 u1 u2)
      clear hD
      go_wp2
      refine bodyPost_ret (v := .tuple #[.agg #[.int .i64 A, .int .i64 B, .slice av xs.length cv], .int .i64 (1 + wi), .int .i64 (1 + he)]) (by simp [results, Try.results12, go_sem, r0, r1, r2]) rfl ?_
      obtain ⟨f1, f2⟩ := unhide hfin (.int .i64 A) (.int .i64 B) (.slice av xs.length cv)
      exact ⟨A, B, _, xs, _, _, rfl, hA, hB, hxn, unhide hxR, by omega, by omega, f1, f2⟩
end Go.Proofs.Ytnalmingbglgfaa

/- The specification's Ends. -/
namespace Go.Proofs.Ytnalmingbglgfaa
open Go.RowKit

set_option maxHeartbeats 8000000 in
theorem specEnds (v : Value) (zs : List Int) (w : World) (hn : zs.length ≤ 1048576) (hv : RdI w v zs) :
    Calls Try.prog 16 #[v] w fun e w' => ∃ lo hi, e = .returned (.tuple #[.int .i64 lo, .int .i64 hi]) ∧ InR lo hi zs ∧ w' = w := by
  obtain ⟨ad, cap, rfl, hA⟩ := hv
  replace hA := hide hA
  go_enter Try.func16, Try.ntmps16
  go_wp2
  go_loop [4, 5, 10] (fun l h i => ∃ (k : Nat) (lo hi : Int), k ≤ zs.length ∧ l = .int .i64 lo ∧ h = .int .i64 hi ∧ i = .int .i64 k ∧ Hid (∀ j, j < k → lo ≤ zs.getD j 0 ∧ zs.getD j 0 ≤ hi)) (fun _ _ i => zs.length - (intOf i).toNat)
  case atStart => exact ⟨0, 0, 0, Nat.zero_le _, rfl, rfl, rfl, fun j hj => by omega⟩
  case round =>
    obtain ⟨k, lo, hi, hk, rfl, rfl, rfl, hok⟩ := hrel
    by_cases hlt : k < zs.length
    · obtain ⟨bb, off, rfl, hbl, hcl⟩ := (unhide hA) (ne_of_lt_length hlt)
      have hck := hcl k hlt
      have hnew : Hid (∀ lo' hi', lo' ≤ zs.getD k 0 → zs.getD k 0 ≤ hi' → (k = 0 ∨ (lo' ≤ lo ∧ hi ≤ hi')) → ∀ j, j < k + 1 → lo' ≤ zs.getD j 0 ∧ zs.getD j 0 ≤ hi') := hide (fun lo' hi' h1 h2 h3 j hj => by
        rcases Nat.lt_or_eq_of_le (Nat.le_of_lt_succ hj) with h' | h'
        · have := unhide hok j h'; omega
        · subst h'; exact ⟨h1, h2⟩)
      clear hcl hbl hok
      generalize zs.getD k 0 = x at hck hnew
      by_cases hk0 : k = 0
      · subst hk0
        rw [Nat.add_zero] at hck
        have hn2 := hide (unhide hnew x x (Int.le_refl _) (Int.le_refl _) (.inl rfl))
        clear hnew
        go_wp2
        go_round
        case rel => exact ⟨1, x, x, by omega, rfl, rfl, rfl, hn2⟩
        case measure => simp [intOf]; omega
      · have hkb : ((k : Int) == 0) = false := beq_eq_false_iff_ne.2 (by omega)
        by_cases h1 : x < lo
        · by_cases h2 : hi < x
          · have hn2 := hide (unhide hnew x x (Int.le_refl _) (Int.le_refl _) (.inr ⟨by omega, by omega⟩))
            clear hnew
            go_wp2
            go_round
            case rel => exact ⟨k + 1, x, x, by omega, rfl, rfl, by go_num, hn2⟩
            case measure => simp [intOf]; omega
          · have hn2 := hide (unhide hnew x hi (Int.le_refl _) (by omega) (.inr ⟨by omega, by omega⟩))
            clear hnew
            go_wp2
            go_round
            case rel => exact ⟨k + 1, x, hi, by omega, rfl, rfl, by go_num, hn2⟩
            case measure => simp [intOf]; omega
        · by_cases h2 : hi < x
          · have hn2 := hide (unhide hnew lo x (by omega) (Int.le_refl _) (.inr ⟨by omega, by omega⟩))
            clear hnew
            go_wp2
            go_round
            case rel => exact ⟨k + 1, lo, x, by omega, rfl, rfl, by go_num, hn2⟩
            case measure => simp [intOf]; omega
          · have hn2 := hide (unhide hnew lo hi (by omega) (by omega) (.inr ⟨by omega, by omega⟩))
            clear hnew
            go_wp2
            go_round
            case rel => exact ⟨k + 1, lo, hi, by omega, rfl, rfl, by go_num, hn2⟩
            case measure => simp [intOf]; omega
    · have hkl : k = zs.length := by omega
      subst hkl
      go_wp2
      go_ret2
      exact ⟨lo, hi, rfl, unhide hok, rfl⟩
end Go.Proofs.Ytnalmingbglgfaa

/- Plain: sides of pictures. -/
namespace Go.Proofs.Ytnalmingbglgfaa
open Go.RowKit

def sideB (w : Int) : Bool := decide (1 ≤ w ∧ w ≤ 512)
def sidesB (w h : Int) : Bool := sideB w && sideB h
theorem sideB_yes {w : Int} (h : 1 ≤ w ∧ w ≤ 512) : sideB w = true := decide_eq_true h
theorem sideB_no {w : Int} (h : ¬ (1 ≤ w ∧ w ≤ 512)) : sideB w = false := decide_eq_false h
theorem sideB_iff {w : Int} : sideB w = true ↔ 1 ≤ w ∧ w ≤ 512 := by unfold sideB; simp
theorem sidesB_yes {w h : Int} (a : 1 ≤ w ∧ w ≤ 512) (b : 1 ≤ h ∧ h ≤ 512) : sidesB w h = true := by unfold sidesB; rw [sideB_yes a, sideB_yes b]; rfl
theorem sidesB_no {w h : Int} (a : ¬ ((1 ≤ w ∧ w ≤ 512) ∧ 1 ≤ h ∧ h ≤ 512)) : sidesB w h = false := by
  unfold sidesB
  by_cases h1 : 1 ≤ w ∧ w ≤ 512
  · rw [sideB_yes h1, sideB_no (fun h2 => a ⟨h1, h2⟩)]; rfl
  · rw [sideB_no h1]; rfl
end Go.Proofs.Ytnalmingbglgfaa

/- How much a list of ints holds. -/
namespace Go.Proofs.Ytnalmingbglgfaa
open Go.RowKit

theorem bcellU {W w1 : World} (hb : Upd 0 0 W w1) : (∀ b o, b < W.heap.size → w1.cell? ⟨b, o, none⟩ = W.cell? ⟨b, o, none⟩) ∧ (∀ b o, b < W.heap.size → w1.frozen? ⟨b, o, none⟩ = W.frozen? ⟨b, o, none⟩) :=
  ⟨fun b o h => hb.none.cell (p := ⟨b, o, none⟩) h, fun b o h => hb.none.frozen (p := ⟨b, o, none⟩) h⟩

theorem Upd.drew1 (w : World) : Upd 0 0 w w.drew := ⟨rfl, rfl, rfl, Nat.le_refl _, fun _ _ _ => rfl⟩
theorem Own.set {e : TypeId} {s : Nat} {w : World} {a b : Nat} {v : Value} {n : Nat} {xs : List Value} (h : Own e s w a b v n xs) {c : Nat} (hc : c < a) (o : Nat) (u : Value) : Own e s (w.setCell ⟨c, o, none⟩ u) a b v n xs :=
  ⟨ownsRow_setCell_below h.1 hc u, h.2⟩

end Go.Proofs.Ytnalmingbglgfaa

/- Images as arguments and answers: four numbers and a list; the walks of the laws' own helpers on them. -/
namespace Go.Proofs.Ytnalmingbglgfaa
open Go.RowKit

abbrev Im := Int × Int × Int × Int × List Int
abbrev imv (d : Im) (vl : Value) : Value := .agg #[.int .i64 d.1, .int .i64 d.2.1, .int .i64 d.2.2.1, .int .i64 d.2.2.2.1, vl]
abbrev imc (d : Im) (vl : Value) : List Value := [.int .i64 d.1, .int .i64 d.2.1, .int .i64 d.2.2.1, .int .i64 d.2.2.2.1, vl]
abbrev ims (d : Im) : List Int := d.2.2.2.2
def RdIm (w : World) (v : Value) (d : Im) : Prop := ∃ vl, v = imv d vl ∧ RdI w vl (ims d)
def OwnIm (w : World) (a b : Nat) (v : Value) (d : Im) : Prop := ∃ vl, v = imv d vl ∧ OwnI w a b vl (ims d)
theorem OwnIm.rd {w : World} {a b : Nat} {v : Value} {d : Im} (h : OwnIm w a b v d) : RdIm w v d := by
  obtain ⟨vl, rfl, h⟩ := h
  exact ⟨vl, rfl, h.rd⟩
theorem RdIm.below {w w' : World} {v : Value} {d : Im} (h : RdIm w v d) (hb : Below w.heap.size w w') : RdIm w' v d := by
  obtain ⟨vl, rfl, h⟩ := h
  exact ⟨vl, rfl, h.below hb⟩
theorem OwnIm.upd {w w' : World} {a b c e : Nat} {v : Value} {d : Im} (h : OwnIm w a b v d) (u : Upd c e w w') (hd : b ≤ c ∨ e ≤ a) : OwnIm w' a b v d := by
  obtain ⟨vl, rfl, h⟩ := h
  exact ⟨vl, rfl, h.upd u hd⟩
theorem OwnIm.keep {w w' : World} {a b : Nat} {v : Value} {d : Im} (h : OwnIm w a b v d) (u : Upd 0 0 w w') : OwnIm w' a b v d := h.upd u (.inr (Nat.zero_le _))
theorem OwnIm.form {w : World} {a b : Nat} {v : Value} {d : Im} (h : OwnIm w a b v d) : ∃ ad cap, v = imv d (.slice ad (ims d).length cap) := by
  obtain ⟨vl, rfl, h⟩ := h
  obtain ⟨ad, cap, rfl, _⟩ := h.rd
  exact ⟨ad, cap, rfl⟩
/-- All numbers fit. -/
def InIm (d : Im) : Prop := (-9223372036854775808 ≤ d.1 ∧ d.1 ≤ 9223372036854775807) ∧ (-9223372036854775808 ≤ d.2.1 ∧ d.2.1 ≤ 9223372036854775807) ∧ (-9223372036854775808 ≤ d.2.2.1 ∧ d.2.2.1 ≤ 9223372036854775807) ∧ (-9223372036854775808 ≤ d.2.2.2.1 ∧ d.2.2.2.1 ≤ 9223372036854775807) ∧ InI (ims d)
def imCount (d : Im) : Nat := (ims d).length
def imMarked (k : Nat) (d : Im) : Im := (d.1, d.2.1, d.2.2.1, d.2.2.2.1, marks k (ims d).length)

end Go.Proofs.Ytnalmingbglgfaa

/- Planes as arguments and answers; the walks of the laws' own helpers on them. -/
namespace Go.Proofs.Ytnalmingbglgfaa
open Go.RowKit

abbrev Pl := Int × Int × List Int
abbrev Plv (d : Pl) (vl : Value) : Value := .agg #[.int .i64 d.1, .int .i64 d.2.1, vl]
abbrev Pls (d : Pl) : List Int := d.2.2
def RdPl (w : World) (v : Value) (d : Pl) : Prop := ∃ vl, v = Plv d vl ∧ RdI w vl (Pls d)
def OwnPl (w : World) (a b : Nat) (v : Value) (d : Pl) : Prop := ∃ vl, v = Plv d vl ∧ OwnI w a b vl (Pls d)
theorem OwnPl.rd {w : World} {a b : Nat} {v : Value} {d : Pl} (h : OwnPl w a b v d) : RdPl w v d := by
  obtain ⟨vl, rfl, h⟩ := h
  exact ⟨vl, rfl, h.rd⟩
theorem RdPl.below {w w' : World} {v : Value} {d : Pl} (h : RdPl w v d) (hb : Below w.heap.size w w') : RdPl w' v d := by
  obtain ⟨vl, rfl, h⟩ := h
  exact ⟨vl, rfl, h.below hb⟩
theorem OwnPl.upd {w w' : World} {a b c e : Nat} {v : Value} {d : Pl} (h : OwnPl w a b v d) (u : Upd c e w w') (hd : b ≤ c ∨ e ≤ a) : OwnPl w' a b v d := by
  obtain ⟨vl, rfl, h⟩ := h
  exact ⟨vl, rfl, h.upd u hd⟩
theorem OwnPl.keep {w w' : World} {a b : Nat} {v : Value} {d : Pl} (h : OwnPl w a b v d) (u : Upd 0 0 w w') : OwnPl w' a b v d := h.upd u (.inr (Nat.zero_le _))
theorem OwnPl.form {w : World} {a b : Nat} {v : Value} {d : Pl} (h : OwnPl w a b v d) : ∃ ad cap, v = Plv d (.slice ad (Pls d).length cap) := by
  obtain ⟨vl, rfl, h⟩ := h
  obtain ⟨ad, cap, rfl, _⟩ := h.rd
  exact ⟨ad, cap, rfl⟩
def PlCount (d : Pl) : Nat := (Pls d).length
def PlMarked (k : Nat) (d : Pl) : Pl := (d.1, d.2.1, marks k (Pls d).length)
/-- All numbers fit. -/
def InPl (d : Pl) : Prop := (-9223372036854775808 ≤ d.1 ∧ d.1 ≤ 9223372036854775807) ∧ (-9223372036854775808 ≤ d.2.1 ∧ d.2.1 ≤ 9223372036854775807) ∧ InI d.2.2

end Go.Proofs.Ytnalmingbglgfaa

/- Plain: good planes. -/
namespace Go.Proofs.Ytnalmingbglgfaa
open Go.RowKit

def SidesOk (a b : Int) : Prop := (1 ≤ a ∧ a ≤ 512) ∧ (1 ≤ b ∧ b ≤ 512) ∧ a * b ≤ 4096
instance (a b : Int) : Decidable (SidesOk a b) := by unfold SidesOk; infer_instance
def GoodPl (d : Pl) : Prop := SidesOk d.1 d.2.1 ∧ (d.2.2.length : Int) = d.1 * d.2.1 ∧ SmpOk d.2.2 8
noncomputable def goodPlB (d : Pl) : Bool := open Classical in decide (GoodPl d)
theorem goodPlB_yes {d : Pl} (h : GoodPl d) : goodPlB d = true := by unfold goodPlB; simpa using h
theorem goodPlB_no {d : Pl} (h : ¬ GoodPl d) : goodPlB d = false := by unfold goodPlB; simpa using h
theorem prod_side {w h : Int} (hw : 1 ≤ w ∧ w ≤ 512) (hh : 1 ≤ h ∧ h ≤ 512) : ∃ P : Int, w * h = P ∧ 1 ≤ P ∧ P ≤ 262144 := by
  obtain ⟨W, rfl⟩ := Int.eq_ofNat_of_zero_le (show 0 ≤ w by omega)
  obtain ⟨H, rfl⟩ := Int.eq_ofNat_of_zero_le (show 0 ≤ h by omega)
  have h1 : W * H ≤ 512 * 512 := Nat.mul_le_mul (by omega) (by omega)
  have h2 : 1 * 1 ≤ W * H := Nat.mul_le_mul (by omega) (by omega)
  exact ⟨((W * H : Nat) : Int), by simp, by omega, by omega⟩
end Go.Proofs.Ytnalmingbglgfaa

/- Plain: a plane made smaller. -/
namespace Go.Proofs.Ytnalmingbglgfaa
open Go.RowKit

/-- The first n samples from x on in row j. -/
def rowSum (zs : List Int) (W j x : Nat) : Nat → Int
  | 0 => 0
  | n + 1 => rowSum zs W j x n + zs.getD (j * W + (x + n)) 0
/-- .. of the first m rows from y on. -/
def boxSum (zs : List Int) (W x nx y : Nat) : Nat → Int
  | 0 => 0
  | m + 1 => boxSum zs W x nx y m + rowSum zs W (y + m) x nx
def manyF (W by_ x : Nat) : Nat := min (x + by_) W - x
def meanF (zs : List Int) (W H by_ x y : Nat) : Int :=
  (boxSum zs W x (manyF W by_ x) y (manyF H by_ y) + ((manyF W by_ x * manyF H by_ y / 2 : Nat) : Int)) / ((manyF W by_ x * manyF H by_ y : Nat) : Int)
def stepsF (n by_ : Nat) : Nat := (n + by_ - 1) / by_
def shrinkL (zs : List Int) (W H by_ : Nat) (k : Nat) : List Int := (List.range k).map fun i => meanF zs W H by_ (i % stepsF W by_ * by_) (i / stepsF W by_ * by_)
theorem shrinkL_zero (zs : List Int) (W H b : Nat) : shrinkL zs W H b 0 = [] := rfl
theorem shrinkL_succ (zs : List Int) (W H b k : Nat) : shrinkL zs W H b (k + 1) = shrinkL zs W H b k ++ [meanF zs W H b (k % stepsF W b * b) (k / stepsF W b * b)] := by
  unfold shrinkL; rw [List.range_succ, List.map_append]; rfl
@[simp] theorem shrinkL_length (zs : List Int) (W H b k : Nat) : (shrinkL zs W H b k).length = k := by simp [shrinkL]
theorem smp_bd {zs : List Int} (h : SmpOk zs 8) (k : Nat) : 0 ≤ zs.getD k 0 ∧ zs.getD k 0 ≤ 255 := by
  by_cases hk : k < zs.length
  · have h1 := h k hk
    have h2 : zs.getD k 0 < 2 ^ 8 := h1.2
    exact ⟨h1.1, by omega⟩
  · rw [List.getD_eq_getElem?_getD, List.getElem?_eq_none (by omega)]; simp
theorem rowSum_bd {zs : List Int} (h : SmpOk zs 8) (W j x n : Nat) : 0 ≤ rowSum zs W j x n ∧ rowSum zs W j x n ≤ 255 * n := by
  induction n with
  | zero => unfold rowSum; omega
  | succ n ih => have := smp_bd h (j * W + (x + n)); unfold rowSum; omega
theorem boxSum_bd {zs : List Int} (h : SmpOk zs 8) (W x nx y m : Nat) (hx : nx ≤ 4) : 0 ≤ boxSum zs W x nx y m ∧ boxSum zs W x nx y m ≤ 1020 * m := by
  induction m with
  | zero => unfold boxSum; omega
  | succ m ih => have := rowSum_bd h W (y + m) x nx; unfold boxSum; omega
theorem manyF_bd {W b x : Nat} (hx : x < W) (hb : 1 ≤ b) : 1 ≤ manyF W b x ∧ manyF W b x ≤ b ∧ x + manyF W b x ≤ W ∧ x + manyF W b x = min (x + b) W := by unfold manyF; omega
theorem stepsF_lt {W b i : Nat} (hb : b = 2 ∨ b = 4) (hi : i < stepsF W b) : i * b < W := by
  unfold stepsF at hi
  rcases hb with rfl | rfl <;> omega
theorem stepsF_bd {W b : Nat} (hb : b = 2 ∨ b = 4) (hW : 1 ≤ W) : 1 ≤ stepsF W b ∧ stepsF W b ≤ W := by
  unfold stepsF
  rcases hb with rfl | rfl <;> omega
/-- What Shrink answers. -/
noncomputable def shrinkF (d : Pl) (b : Int) : Pl :=
  open Classical in if GoodPl d ∧ (b = 2 ∨ b = 4) then (((stepsF d.1.toNat b.toNat : Nat) : Int), ((stepsF d.2.1.toNat b.toNat : Nat) : Int), shrinkL d.2.2 d.1.toNat d.2.1.toNat b.toNat (stepsF d.1.toNat b.toNat * stepsF d.2.1.toNat b.toNat)) else (0, 0, [])
theorem shrinkF_yes {d : Pl} {b : Int} (h : GoodPl d) (hb : b = 2 ∨ b = 4) : shrinkF d b = (((stepsF d.1.toNat b.toNat : Nat) : Int), ((stepsF d.2.1.toNat b.toNat : Nat) : Int), shrinkL d.2.2 d.1.toNat d.2.1.toNat b.toNat (stepsF d.1.toNat b.toNat * stepsF d.2.1.toNat b.toNat)) := by
  unfold shrinkF; rw [if_pos ⟨h, hb⟩]
theorem shrinkF_no {d : Pl} {b : Int} (h : ¬ (GoodPl d ∧ (b = 2 ∨ b = 4))) : shrinkF d b = (0, 0, []) := by
  unfold shrinkF; rw [if_neg h]
theorem shrinkF_len (d : Pl) (b : Int) : (shrinkF d b).2.2.length ≤ 1048576 := by
  by_cases h : GoodPl d ∧ (b = 2 ∨ b = 4)
  · rw [shrinkF_yes h.1 h.2]
    simp only [shrinkL_length]
    obtain ⟨⟨h1, h2, _⟩, _⟩ := h.1
    obtain ⟨b, rfl⟩ := Int.eq_ofNat_of_zero_le (show 0 ≤ b by omega)
    have hb : b = 2 ∨ b = 4 := by omega
    have e1 := (stepsF_bd (W := d.1.toNat) hb (by omega)).2
    have e2 := (stepsF_bd (W := d.2.1.toNat) hb (by omega)).2
    rw [Int.toNat_natCast]
    exact Nat.le_trans (Nat.mul_le_mul (Nat.le_trans e1 (show d.1.toNat ≤ 512 by omega)) (Nat.le_trans e2 (show d.2.1.toNat ≤ 512 by omega))) (by omega)
  · rw [shrinkF_no h]; simp
end Go.Proofs.Ytnalmingbglgfaa

/- A region that draws its order, whose operations read old memory and whose calls only lay new blocks: one walk of the text's order serves. -/
namespace Go.Proofs.Ytnalmingbglgfaa
open Go.RowKit

/-- The worlds in which all that was there is as it was. -/
def UpdT (w : World) : Type := { w' : World // Upd 0 0 w w' }
def UpdT.to {w : World} (x : UpdT w) : World := x.1
instance (w : World) : Nonempty (UpdT w) := ⟨⟨w, Upd.refl _ _ _⟩⟩
theorem UpdT.upd {w : World} (x : UpdT w) : Upd 0 0 w x.to := x.2
theorem wp_region_upd {P : Program} {id : Nat} {Q : Exit → Act → World → Prop} {a : Act} {w : World} {l : List Oper} (hm : P.follows .mixedOrders = true) (hB : Region.lexB .any l.toArray = true)
    (h : wpQuiet P l.toArray (fun w' => ∃ x : UpdT w, w' = x.to) (fun a' => ∀ w', (∃ x : UpdT w, w' = x.to) → Q .normal a' w') l a) : (Code.region id l.toArray true).wp P Q a w :=
  wp_region_quiet (C := fun w' => ∃ x : UpdT w, w' = x.to) hm hB ⟨⟨{ w with drawn := w.drawn + 1 }, ⟨rfl, rfl, rfl, Nat.le_refl _, fun _ _ _ => rfl⟩⟩, rfl⟩ (by simpa using h)
/-- A call that only lays new blocks, in such a world. -/
theorem Calls.updT {P : Program} {f : FuncId} {args : Array Value} {w : World} {v : Value} (x : UpdT w) (h : Calls P f args x.to fun e w' => e = .returned v ∧ Upd 0 0 x.to w') :
    Calls P f args x.to fun e w' => e = .returned v ∧ ∃ y : UpdT w, w' = y.to :=
  h.mono fun _ w' ⟨he, hu⟩ => ⟨he, ⟨w', x.upd.trans hu⟩, rfl⟩
theorem Calls.updT_same {P : Program} {f : FuncId} {args : Array Value} {w : World} {v : Value} (x : UpdT w) (h : Calls P f args x.to fun e w' => e = .returned v ∧ w' = x.to) :
    Calls P f args x.to fun e w' => e = .returned v ∧ ∃ y : UpdT w, w' = y.to :=
  h.mono fun _ _ ⟨he, hw⟩ => ⟨he, x, hw⟩
theorem Held.updT {w : World} {g : Nat} {cs : List Value} (h : Held w g cs) (x : UpdT w) : Held x.to g cs := h.keep x.upd
end Go.Proofs.Ytnalmingbglgfaa

/- The walk of a region that draws its order, behind a wrapper that no elaborator looks through (a guard's test is then never evaluated unasked). -/
namespace Go.Proofs.Ytnalmingbglgfaa
open Go.RowKit

structure WQ (P : Program) (ops : Array Oper) (C : World → Prop) (Q : Act → Prop) (l : List Oper) (a : Act) : Prop where
  h : wpQuiet P ops C Q l a
theorem WQ.nil {P : Program} {ops : Array Oper} {C : World → Prop} {Q : Act → Prop} {a : Act} (h : Q a) : WQ P ops C Q [] a := ⟨h⟩
theorem WQ.step {P : Program} {ops : Array Oper} {C : World → Prop} {Q : Act → Prop} {a : Act} {o : Oper} {rest : List Oper}
    (h : ∀ K : Act → Prop, (∀ a, WQ P ops C Q rest a → K a) → if Region.wanted o (yielded ops a.tmps) then o.quiet P a C K else K (a.put o.dst undef)) : WQ P ops C Q (o :: rest) a :=
  ⟨wpQuiet_step (fun K hK => h K (fun a ha => hK a ha.h))⟩
theorem wq_region_upd {P : Program} {id : Nat} {Q : Exit → Act → World → Prop} {a : Act} {w : World} {l : List Oper} (hm : P.follows .mixedOrders = true) (hB : Region.lexB .any l.toArray = true)
    (h : WQ P l.toArray (fun w' => ∃ x : UpdT w, w' = x.to) (fun a' => ∀ w', (∃ x : UpdT w, w' = x.to) → Q .normal a' w') l a) : (Code.region id l.toArray true).wp P Q a w :=
  wp_region_upd hm hB h.h
end Go.Proofs.Ytnalmingbglgfaa

/- The program's samples of a plane, and means of them. -/
namespace Go.Proofs.Ytnalmingbglgfaa
open Go.RowKit

/-- A good plane's facts, in natural numbers. -/
structure PlOk (W H : Nat) (zs : List Int) : Prop where
  w : 1 ≤ W ∧ W ≤ 512
  h : 1 ≤ H ∧ H ≤ 512
  l : zs.length = W * H
  m : W * H ≤ 4096
  s : SmpOk zs 8
theorem GoodPl.nat {a b : Int} {zs : List Int} (h : GoodPl (a, b, zs)) : ∃ W H : Nat, a = W ∧ b = H ∧ PlOk W H zs := by
  obtain ⟨⟨h1, h2, h3⟩, hl, hs⟩ := h
  simp only at h1 h2 h3 hl hs
  obtain ⟨W, rfl⟩ := Int.eq_ofNat_of_zero_le (show 0 ≤ a by omega)
  obtain ⟨H, rfl⟩ := Int.eq_ofNat_of_zero_le (show 0 ≤ b by omega)
  have e : (W : Int) * (H : Int) = ((W * H : Nat) : Int) := by simp
  exact ⟨W, H, rfl, rfl, ⟨by omega, by omega, by omega, by omega, hs⟩⟩
theorem PlOk.at_lt {W H : Nat} {zs : List Int} (h : PlOk W H zs) {x y : Nat} (hx : x < W) (hy : y < H) : y * W + x < zs.length ∧ y * W ≤ 4096 := by
  have h1 : (y + 1) * W ≤ H * W := Nat.mul_le_mul hy (Nat.le_refl _)
  have h2 := h.m
  rw [h.l, Nat.mul_comm W H]
  rw [Nat.mul_comm W H] at h2
  rw [Nat.add_mul, Nat.one_mul] at h1
  omega

set_option maxHeartbeats 4000000 in
set_option maxRecDepth 100000 in
theorem implPlAt (W H x y : Nat) (ad : Option Addr) (cap : Nat) (zs : List Int) (w : World) (hp : PlOk W H zs) (hx : x < W) (hy : y < H) (hA : ArgI w ad zs) :
    Calls Try.prog 88 #[.agg #[.int .i64 (W : Int), .int .i64 (H : Int), .slice ad zs.length cap], .int .i64 (x : Int), .int .i64 (y : Int)] w fun e w' => e = .returned (.int .i64 (zs.getD (y * W + x) 0)) ∧ Upd 0 0 w w' := by
  obtain ⟨hlt, hyW⟩ := hp.at_lt hx hy
  obtain ⟨p, hpe⟩ : ∃ p, y * W = p := ⟨_, rfl⟩
  have e1 : (y : Int) * (W : Int) = (p : Int) := by rw [← hpe]; simp
  rw [hpe] at hlt hyW ⊢
  have hB := (Below.refl w.heap.size w).alloc (Nat.le_refl _) (.cells #[.int .i64 (W : Int), .int .i64 (H : Int), .slice ad zs.length cap] 25)
  have hU := hide (Upd.of_below hB 0 0)
  obtain ⟨bb, off, rfl, hbl, hcl⟩ := (hA.below hB) (ne_of_lt_length hlt)
  have hck := hcl (p + x) hlt
  generalize zs.getD (p + x) 0 = v at hck ⊢
  have hWs := hp.w
  have hlen : zs.length ≤ 4096 := by have := hp.l; have := hp.m; omega
  clear hcl hbl hA hB hp hpe
  have k1 : (0 : Int) ≤ (p : Int) + (x : Int) := by omega
  have k2 : (p : Int) + (x : Int) < (zs.length : Int) := by omega
  have k3 : ((p : Int) + (x : Int)).toNat = p + x := by omega
  go_enter Try.func88, Try.ntmps88
  go_wp2
  go_ret
  exact ⟨rfl, unhide hU⟩
end Go.Proofs.Ytnalmingbglgfaa

/- Plain: a plane in other sides. -/
namespace Go.Proofs.Ytnalmingbglgfaa
open Go.RowKit

/-- Where a sample comes from, in parts of 256. -/
def fromF (x old new : Nat) : Nat := (2 * x + 1) * old * 256 / (2 * new) - 128
/-- A sample, the nearest one where there is none. -/
def nearF (zs : List Int) (W H x y : Nat) : Int := zs.getD (min y (H - 1) * W + min x (W - 1)) 0
def topF (zs : List Int) (W H s j : Nat) : Int := (256 - ((s % 256 : Nat) : Int)) * nearF zs W H (s / 256) j + ((s % 256 : Nat) : Int) * nearF zs W H (s / 256 + 1) j
def blendF (zs : List Int) (W H s t : Nat) : Int := ((256 - ((t % 256 : Nat) : Int)) * topF zs W H s (t / 256) + ((t % 256 : Nat) : Int) * topF zs W H s (t / 256 + 1) + 32768) / 65536
def resizeL (zs : List Int) (W H w h k : Nat) : List Int := (List.range k).map fun i => blendF zs W H (fromF (i % w) W w) (fromF (i / w) H h)
theorem resizeL_zero (zs : List Int) (W H w h : Nat) : resizeL zs W H w h 0 = [] := rfl
theorem resizeL_succ (zs : List Int) (W H w h k : Nat) : resizeL zs W H w h (k + 1) = resizeL zs W H w h k ++ [blendF zs W H (fromF (k % w) W w) (fromF (k / w) H h)] := by
  unfold resizeL; rw [List.range_succ, List.map_append]; rfl
@[simp] theorem resizeL_length (zs : List Int) (W H w h k : Nat) : (resizeL zs W H w h k).length = k := by simp [resizeL]
theorem mul_bd {a b m n : Int} (a0 : 0 ≤ a) (a1 : a ≤ m) (b0 : 0 ≤ b) (b1 : b ≤ n) : 0 ≤ a * b ∧ a * b ≤ m * n :=
  ⟨Int.mul_nonneg a0 b0, Int.mul_le_mul a1 b1 b0 (Int.le_trans a0 a1)⟩
theorem nearF_bd {zs : List Int} (h : SmpOk zs 8) (W H x y : Nat) : 0 ≤ nearF zs W H x y ∧ nearF zs W H x y ≤ 255 := smp_bd h _
theorem fromF_bd {x W w : Nat} (hx : x < w) (hW : W ≤ 512) : fromF x W w ≤ 131072 := by
  unfold fromF
  have h0 : W * 256 ≤ 131072 := by omega
  have h1 : (2 * x + 1) * W * 256 ≤ (2 * w) * 131072 := by
    rw [Nat.mul_assoc]
    exact Nat.mul_le_mul (by omega) h0
  have h2 : (2 * x + 1) * W * 256 / (2 * w) ≤ 131072 := Nat.div_le_of_le_mul h1
  generalize (2 * x + 1) * W * 256 / (2 * w) = q at h2
  omega
theorem topF_bd {zs : List Int} (h : SmpOk zs 8) (W H s j : Nat) : 0 ≤ topF zs W H s j ∧ topF zs W H s j ≤ 65280 := by
  have a := nearF_bd h W H (s / 256) j
  have b := nearF_bd h W H (s / 256 + 1) j
  unfold topF
  generalize nearF zs W H (s / 256) j = p at a
  generalize nearF zs W H (s / 256 + 1) j = q at b
  have hf : s % 256 < 256 := Nat.mod_lt _ (by omega)
  generalize s % 256 = f at hf
  have h1 : (256 - (f : Int)) * p ≤ (256 - (f : Int)) * 255 := Int.mul_le_mul_of_nonneg_left a.2 (by omega)
  have h2 : (f : Int) * q ≤ (f : Int) * 255 := Int.mul_le_mul_of_nonneg_left b.2 (by omega)
  have h3 : 0 ≤ (256 - (f : Int)) * p := Int.mul_nonneg (by omega) a.1
  have h4 : 0 ≤ (f : Int) * q := Int.mul_nonneg (by omega) b.1
  generalize (256 - (f : Int)) * p = P at h1 h3
  generalize (f : Int) * q = Q at h2 h4
  omega
/-- What Resize answers. -/
noncomputable def resizeF (d : Pl) (w h : Int) : Pl :=
  open Classical in if GoodPl d ∧ SidesOk w h then (w, h, resizeL d.2.2 d.1.toNat d.2.1.toNat w.toNat h.toNat (w.toNat * h.toNat)) else (0, 0, [])
theorem resizeF_yes {d : Pl} {w h : Int} (a : GoodPl d) (b : SidesOk w h) : resizeF d w h = (w, h, resizeL d.2.2 d.1.toNat d.2.1.toNat w.toNat h.toNat (w.toNat * h.toNat)) := by
  unfold resizeF; rw [if_pos ⟨a, b⟩]
theorem resizeF_no {d : Pl} {w h : Int} (a : ¬ (GoodPl d ∧ SidesOk w h)) : resizeF d w h = (0, 0, []) := by
  unfold resizeF; rw [if_neg a]
theorem resizeF_len (d : Pl) (w h : Int) : (resizeF d w h).2.2.length ≤ 1048576 := by
  by_cases a : GoodPl d ∧ SidesOk w h
  · rw [resizeF_yes a.1 a.2]
    simp only [resizeL_length]
    obtain ⟨h1, h2, _⟩ := a.2
    exact Nat.le_trans (Nat.mul_le_mul (show w.toNat ≤ 512 by omega) (show h.toNat ≤ 512 by omega)) (by omega)
  · rw [resizeF_no a]; simp
end Go.Proofs.Ytnalmingbglgfaa

/- Plain: a plane twice as wide and high. -/
namespace Go.Proofs.Ytnalmingbglgfaa
open Go.RowKit

/-- The neighbour of the sample that lies at x/2, on the side on which x lies. -/
def otherF (x old : Nat) : Nat := if x % 2 = 1 then min (x / 2 + 1) (old - 1) else x / 2 - 1
def growF (zs : List Int) (W H x y : Nat) : Int := (9 * nearF zs W H (x / 2) (y / 2) + 3 * nearF zs W H (otherF x W) (y / 2) + 3 * nearF zs W H (x / 2) (otherF y H) + nearF zs W H (otherF x W) (otherF y H) + 8) / 16
def growL (zs : List Int) (W H w k : Nat) : List Int := (List.range k).map fun i => growF zs W H (i % w) (i / w)
theorem growL_zero (zs : List Int) (W H w : Nat) : growL zs W H w 0 = [] := rfl
theorem growL_succ (zs : List Int) (W H w k : Nat) : growL zs W H w (k + 1) = growL zs W H w k ++ [growF zs W H (k % w) (k / w)] := by
  unfold growL; rw [List.range_succ, List.map_append]; rfl
@[simp] theorem growL_length (zs : List Int) (W H w k : Nat) : (growL zs W H w k).length = k := by simp [growL]
theorem otherF_lt {x old : Nat} (h : x < 2 * old) : otherF x old < old := by
  unfold otherF; split <;> omega
end Go.Proofs.Ytnalmingbglgfaa

/- Plain: what the changes of a plane's sides keep: the samples' ends, and the plane at its own sides. -/
namespace Go.Proofs.Ytnalmingbglgfaa
open Go.RowKit

theorem nearF_between {zs : List Int} {W H : Nat} {lo hi : Int} (hp : PlOk W H zs) (h : ∀ i, i < zs.length → lo ≤ zs.getD i 0 ∧ zs.getD i 0 ≤ hi) (x y : Nat) : lo ≤ nearF zs W H x y ∧ nearF zs W H x y ≤ hi := by
  have hW := hp.w
  have hH := hp.h
  exact h _ (hp.at_lt (x := min x (W - 1)) (y := min y (H - 1)) (by omega) (by omega)).1
theorem growF_between {zs : List Int} {W H : Nat} {lo hi : Int} (hp : PlOk W H zs) (h : ∀ i, i < zs.length → lo ≤ zs.getD i 0 ∧ zs.getD i 0 ≤ hi) (x y : Nat) : lo ≤ growF zs W H x y ∧ growF zs W H x y ≤ hi := by
  have a := nearF_between hp h (x / 2) (y / 2)
  have b := nearF_between hp h (otherF x W) (y / 2)
  have c := nearF_between hp h (x / 2) (otherF y H)
  have d := nearF_between hp h (otherF x W) (otherF y H)
  unfold growF
  omega
theorem mix_between {f p q lo hi m : Int} (f0 : 0 ≤ f) (f1 : f ≤ m) (hp : lo ≤ p ∧ p ≤ hi) (hq : lo ≤ q ∧ q ≤ hi) : m * lo ≤ (m - f) * p + f * q ∧ (m - f) * p + f * q ≤ m * hi := by
  have h1 := Int.mul_le_mul_of_nonneg_left hp.1 (show 0 ≤ m - f by omega)
  have h2 := Int.mul_le_mul_of_nonneg_left hp.2 (show 0 ≤ m - f by omega)
  have h3 := Int.mul_le_mul_of_nonneg_left hq.1 f0
  have h4 := Int.mul_le_mul_of_nonneg_left hq.2 f0
  have e1 : (m - f) * lo + f * lo = m * lo := by rw [← Int.add_mul]; congr 1; omega
  have e2 : (m - f) * hi + f * hi = m * hi := by rw [← Int.add_mul]; congr 1; omega
  omega
theorem blendF_between {zs : List Int} {W H : Nat} {lo hi : Int} (hp : PlOk W H zs) (h : ∀ i, i < zs.length → lo ≤ zs.getD i 0 ∧ zs.getD i 0 ≤ hi) (s t : Nat) : lo ≤ blendF zs W H s t ∧ blendF zs W H s t ≤ hi := by
  have hs : s % 256 < 256 := Nat.mod_lt _ (by omega)
  have ht : t % 256 < 256 := Nat.mod_lt _ (by omega)
  have a := mix_between (f := ((s % 256 : Nat) : Int)) (m := 256) (by omega) (by omega) (nearF_between hp h (s / 256) (t / 256)) (nearF_between hp h (s / 256 + 1) (t / 256))
  have b := mix_between (f := ((s % 256 : Nat) : Int)) (m := 256) (by omega) (by omega) (nearF_between hp h (s / 256) (t / 256 + 1)) (nearF_between hp h (s / 256 + 1) (t / 256 + 1))
  have c := mix_between (f := ((t % 256 : Nat) : Int)) (m := 256) (by omega) (by omega) a b
  unfold blendF topF
  omega
theorem fromF_own {x W : Nat} (h : 1 ≤ W) : fromF x W W = 256 * x := by
  unfold fromF
  rw [show (2 * x + 1) * W * 256 = (2 * W) * ((2 * x + 1) * 128) by rw [Nat.mul_right_comm, Nat.mul_comm ((2 * x + 1) * 256) W, show (2 * x + 1) * 256 = 2 * ((2 * x + 1) * 128) by omega, Nat.mul_comm 2 W, Nat.mul_assoc], Nat.mul_div_cancel_left _ (by omega)]
  omega
theorem blendF_own (zs : List Int) (W H x y : Nat) : blendF zs W H (256 * x) (256 * y) = nearF zs W H x y := by
  unfold blendF topF
  rw [show 256 * x % 256 = 0 by omega, show 256 * y % 256 = 0 by omega, show 256 * x / 256 = x by omega, show 256 * y / 256 = y by omega]
  simp only [Int.natCast_zero, Int.sub_zero, Int.zero_mul, Int.add_zero]
  omega
theorem resizeL_own {zs : List Int} {W H : Nat} (hp : PlOk W H zs) : resizeL zs W H W H (W * H) = zs := by
  have hW := hp.w
  have hH := hp.h
  apply List.ext_getElem?
  intro i
  by_cases h1 : i < W * H
  · have h2 : i < zs.length := by rw [hp.l]; exact h1
    have hx : i % W < W := Nat.mod_lt _ (by omega)
    have hy : i / W < H := Nat.div_lt_of_lt_mul h1
    unfold resizeL
    rw [List.getElem?_map, List.getElem?_range h1, Option.map_some, fromF_own hW.1, fromF_own hH.1, blendF_own]
    unfold nearF
    rw [Nat.min_eq_left (by omega), Nat.min_eq_left (by omega), Nat.mul_comm, Nat.div_add_mod, List.getD_eq_getElem?_getD, List.getElem?_eq_getElem h2]
    rfl
  · rw [List.getElem?_eq_none (by rw [resizeL_length]; omega), List.getElem?_eq_none (by rw [hp.l]; omega)]
end Go.Proofs.Ytnalmingbglgfaa

/- Plain: no sample of another size is beyond the ends of those that there were. -/
namespace Go.Proofs.Ytnalmingbglgfaa
open Go.RowKit

theorem rowSum_btw {zs : List Int} {lo hi : Int} {W j x : Nat} : ∀ n, (∀ i, i < n → lo ≤ zs.getD (j * W + (x + i)) 0 ∧ zs.getD (j * W + (x + i)) 0 ≤ hi) → (n : Int) * lo ≤ rowSum zs W j x n ∧ rowSum zs W j x n ≤ (n : Int) * hi
  | 0, _ => by unfold rowSum; simp
  | n + 1, h => by
    have h1 := rowSum_btw n (fun i hi => h i (by omega))
    have h2 := h n (by omega)
    have e1 : ((n + 1 : Nat) : Int) * lo = (n : Int) * lo + lo := by push_cast; rw [Int.add_mul]; omega
    have e2 : ((n + 1 : Nat) : Int) * hi = (n : Int) * hi + hi := by push_cast; rw [Int.add_mul]; omega
    unfold rowSum
    omega
theorem boxSum_btw {zs : List Int} {lo hi : Int} {W x nx y : Nat} : ∀ m, (∀ j, j < m → ∀ i, i < nx → lo ≤ zs.getD ((y + j) * W + (x + i)) 0 ∧ zs.getD ((y + j) * W + (x + i)) 0 ≤ hi) → (m : Int) * ((nx : Int) * lo) ≤ boxSum zs W x nx y m ∧ boxSum zs W x nx y m ≤ (m : Int) * ((nx : Int) * hi)
  | 0, _ => by unfold boxSum; simp
  | m + 1, h => by
    have h1 := boxSum_btw m (fun j hj => h j (by omega))
    have h2 := rowSum_btw (zs := zs) (lo := lo) (hi := hi) (W := W) (j := y + m) (x := x) nx (h m (by omega))
    have e1 : ((m + 1 : Nat) : Int) * ((nx : Int) * lo) = (m : Int) * ((nx : Int) * lo) + (nx : Int) * lo := by push_cast; rw [Int.add_mul]; omega
    have e2 : ((m + 1 : Nat) : Int) * ((nx : Int) * hi) = (m : Int) * ((nx : Int) * hi) + (nx : Int) * hi := by push_cast; rw [Int.add_mul]; omega
    unfold boxSum
    omega
theorem mean_btw {S lo hi : Int} {N : Nat} (hN : 1 ≤ N) (h1 : (N : Int) * lo ≤ S) (h2 : S ≤ (N : Int) * hi) : lo ≤ (S + ((N / 2 : Nat) : Int)) / (N : Int) ∧ (S + ((N / 2 : Nat) : Int)) / (N : Int) ≤ hi := by
  constructor
  · exact (Int.le_ediv_iff_mul_le (by omega)).2 (by rw [Int.mul_comm]; omega)
  · have h3 : (S + ((N / 2 : Nat) : Int)) / (N : Int) < hi + 1 := (Int.ediv_lt_iff_lt_mul (by omega)).2 (by rw [Int.add_mul, Int.mul_comm hi]; omega)
    omega
theorem meanF_btw {zs : List Int} {W H b x y : Nat} {lo hi : Int} (hp : PlOk W H zs) (h : InR lo hi zs) (hb : 1 ≤ b) (hx : x < W) (hy : y < H) : lo ≤ meanF zs W H b x y ∧ meanF zs W H b x y ≤ hi := by
  obtain ⟨a1, a2, a3, _⟩ := manyF_bd (b := b) hx hb
  obtain ⟨c1, c2, c3, _⟩ := manyF_bd (b := b) hy hb
  have hs := boxSum_btw (zs := zs) (lo := lo) (hi := hi) (W := W) (x := x) (nx := manyF W b x) (y := y) (manyF H b y) (fun j hj i hi => h _ (hp.at_lt (by omega) (by omega)).1)
  unfold meanF
  generalize manyF W b x = nx at *
  generalize manyF H b y = ny at *
  have e1 : (ny : Int) * ((nx : Int) * lo) = ((nx * ny : Nat) : Int) * lo := by push_cast; rw [← Int.mul_assoc, Int.mul_comm (ny : Int)]
  have e2 : (ny : Int) * ((nx : Int) * hi) = ((nx * ny : Nat) : Int) * hi := by push_cast; rw [← Int.mul_assoc, Int.mul_comm (ny : Int)]
  rw [e1, e2] at hs
  exact mean_btw (Nat.mul_le_mul a1 c1) hs.1 hs.2
theorem map_btw {f : Nat → Int} {lo hi : Int} {n : Nat} (h : ∀ i, i < n → lo ≤ f i ∧ f i ≤ hi) : InR lo hi ((List.range n).map f) := by
  intro j hj
  have hn : j < n := by simpa using hj
  rw [List.getD_eq_getElem?_getD, List.getElem?_map, List.getElem?_range hn]
  exact h j hn
theorem mod_div_lt {i a b : Nat} (h : i < a * b) : i % a < a ∧ i / a < b := by
  have ha : 0 < a := by rcases Nat.eq_zero_or_pos a with e | e; · subst e; simp at h
                        · exact e
  exact ⟨Nat.mod_lt _ ha, Nat.div_lt_of_lt_mul h⟩
theorem shrinkL_btw {zs : List Int} {W H b : Nat} {lo hi : Int} (hp : PlOk W H zs) (h : InR lo hi zs) (hb : b = 2 ∨ b = 4) : InR lo hi (shrinkL zs W H b (stepsF W b * stepsF H b)) :=
  map_btw (fun i hi => by
    obtain ⟨h1, h2⟩ := mod_div_lt hi
    exact meanF_btw hp h (by omega) (stepsF_lt hb h1) (stepsF_lt hb h2))
theorem resizeL_btw {zs : List Int} {W H w k : Nat} {h' : Nat} {lo hi : Int} (hp : PlOk W H zs) (h : InR lo hi zs) : InR lo hi (resizeL zs W H w h' k) :=
  map_btw (fun _ _ => blendF_between hp h _ _)
theorem growL_btw {zs : List Int} {W H w k : Nat} {lo hi : Int} (hp : PlOk W H zs) (h : InR lo hi zs) : InR lo hi (growL zs W H w k) :=
  map_btw (fun _ _ => growF_between hp h _ _)
theorem nil_inR (lo hi : Int) : InR lo hi [] := fun j hj => by simp at hj
end Go.Proofs.Ytnalmingbglgfaa

/- The walk of the specification's test of sides. -/
namespace Go.Proofs.Ytnalmingbglgfaa
open Go.RowKit

set_option maxHeartbeats 1000000 in
theorem specL4Sides (a b : Int) (w : World) : Calls Try.prog 86 #[.int .i64 a, .int .i64 b] w fun e w' => e = .returned (.bool (sidesB a b)) ∧ w' = w := by
  by_cases ha : 1 ≤ a ∧ a ≤ 512
  · have hE : sidesB a b = sideB b := by unfold sidesB; rw [sideB_yes ha]; rfl
    rw [hE]
    obtain ⟨a1, a2⟩ := ha
    by_cases hb : 1 ≤ b ∧ b ≤ 512
    · rw [sideB_yes hb]
      obtain ⟨b1, b2⟩ := hb
      clear hE
      go_enter Try.func86, Try.ntmps86
      go_wp2
      go_ret
      exact ⟨rfl, rfl⟩
    · rw [sideB_no hb]
      clear hE
      by_cases h1 : b < 1
      · have q1 : decide (1 ≤ b) = false := by simp; omega
        clear hb
        go_enter Try.func86, Try.ntmps86
        go_wp2
        go_ret
        exact ⟨rfl, rfl⟩
      · have q1 : decide (1 ≤ b) = true := by simp; omega
        have q2 : decide (b ≤ 512) = false := by simp; omega
        clear hb
        go_enter Try.func86, Try.ntmps86
        go_wp2
        go_ret
        exact ⟨rfl, rfl⟩
  · have hE : sidesB a b = false := by unfold sidesB; rw [sideB_no ha]; rfl
    rw [hE]
    clear hE
    by_cases h1 : a < 1
    · have q1 : decide (1 ≤ a) = false := by simp; omega
      clear ha
      go_enter Try.func86, Try.ntmps86
      go_wp2
      go_ret
      exact ⟨rfl, rfl⟩
    · have q1 : decide (1 ≤ a) = true := by simp; omega
      have q2 : decide (a ≤ 512) = false := by simp; omega
      clear ha
      go_enter Try.func86, Try.ntmps86
      go_wp2
      go_ret
      exact ⟨rfl, rfl⟩

end Go.Proofs.Ytnalmingbglgfaa

/- The walks of GoodPlane: the specification's. -/
namespace Go.Proofs.Ytnalmingbglgfaa
open Go.RowKit

set_option maxHeartbeats 4000000 in
theorem specL7Sides (a b : Int) (w : World) : Calls Try.prog 48 #[.int .i64 a, .int .i64 b] w fun e w' => e = .returned (.bool (decide (SidesOk a b))) ∧ w' = w := by
  have hS := hide (fun W => specL4Sides a b W)
  by_cases h : (1 ≤ a ∧ a ≤ 512) ∧ (1 ≤ b ∧ b ≤ 512)
  case neg =>
    rw [decide_eq_false (fun h' => h ⟨h'.1, h'.2.1⟩)]
    rw [sidesB_no h] at hS
    clear h
    go_enter Try.func48, Try.ntmps48
    go_wp2_with fail
    refine (unhide hS _).mono ?_
    rintro e w1 ⟨rfl, rfl⟩
    go_wp2
    go_ret
    exact ⟨rfl, rfl⟩
  obtain ⟨ha, hb⟩ := h
  obtain ⟨P, hP, P1, P2⟩ := prod_side ha hb
  have hR : decide (SidesOk a b) = decide (P ≤ 4096) := by
    by_cases h : P ≤ 4096
    · rw [decide_eq_true h]; exact decide_eq_true ⟨ha, hb, by omega⟩
    · rw [decide_eq_false h]; exact decide_eq_false (fun h' => h (by have := h'.2.2; omega))
  rw [hR]
  rw [sidesB_yes ha hb] at hS
  clear ha hb hR
  go_enter Try.func48, Try.ntmps48
  go_wp2_with fail
  refine (unhide hS _).mono ?_
  rintro e w1 ⟨rfl, rfl⟩
  go_wp2
  go_ret
  exact ⟨rfl, rfl⟩
set_option maxHeartbeats 8000000 in
set_option maxRecDepth 100000 in
theorem specGoodPlane (v : Value) (d : Pl) (w : World) (hn : d.2.2.length ≤ 1048576) (_hR : InPl d) (hv : RdPl w v d) :
    Calls Try.prog 13 #[v] w fun e w' => e = .returned (.bool (goodPlB d)) ∧ Upd 0 0 w w' := by
  obtain ⟨vl, rfl, h⟩ := hv
  obtain ⟨ad, cap, rfl, hA⟩ := h
  obtain ⟨a, b, zs⟩ := d
  simp only [Plv, Pls] at hn hA ⊢
  have hB := (Below.refl w.heap.size w).alloc (Nat.le_refl _) (.cells #[.int .i64 a, .int .i64 b, .slice ad zs.length cap] 25)
  have hU := hide (Upd.of_below hB 0 0)
  have hS := hide (fun W => specL7Sides a b W)
  by_cases hs : SidesOk a b
  case neg =>
    rw [goodPlB_no (fun h => hs h.1)]
    rw [decide_eq_false hs] at hS
    clear hs hB hA
    go_enter Try.func13, Try.ntmps13
    go_wp2_with fail
    refine (unhide hS _).mono ?_
    rintro e w1 ⟨rfl, rfl⟩
    go_wp2
    go_ret
    exact ⟨rfl, unhide hU⟩
  rw [decide_eq_true hs] at hS
  obtain ⟨P, hP, P1, P2⟩ := prod_side hs.1 hs.2.1
  by_cases hl : (zs.length : Int) = P
  case neg =>
    rw [goodPlB_no (fun h => hl (by have := h.2.1; simp only at this; omega))]
    have r3 : ((zs.length : Int) != P) = true := bne_iff_ne.2 hl
    clear hs hB hA hl
    go_enter Try.func13, Try.ntmps13
    go_wp2_with fail
    refine (unhide hS _).mono ?_
    rintro e w1 ⟨rfl, rfl⟩
    go_wp2
    go_ret
    exact ⟨rfl, unhide hU⟩
  have r3 : ((zs.length : Int) != P) = false := by simp [hl]
  have hG2 : Hid ((∀ k, k < zs.length → (0 ≤ zs.getD k 0 ∧ zs.getD k 0 ≤ 255)) → goodPlB (a, b, zs) = true) := hide (fun h => goodPlB_yes ⟨hs, by show (zs.length : Int) = a * b; rw [hP, hl], fun j hj => ⟨(h j hj).1, by have := (h j hj).2; show zs.getD j 0 < 2 ^ 8; omega⟩⟩)
  have hB2 : Hid (∀ k, k < zs.length → ¬ (0 ≤ zs.getD k 0 ∧ zs.getD k 0 ≤ 255) → goodPlB (a, b, zs) = false) := hide (fun k hk h => goodPlB_no (fun h' => h (by have := h'.2.2 k hk; simp only at this; have h2 : zs.getD k 0 < 2 ^ 8 := this.2; exact ⟨this.1, by omega⟩)))
  replace hA := hide (hA.below hB)
  replace hl := hide hl
  clear hB hs
  have hW3 : (w.alloc (.cells #[.int .i64 a, .int .i64 b, .slice ad zs.length cap] 25)).cell? ⟨w.heap.size, 2, none⟩ = some (.slice ad zs.length cap) := by rw [World.cell?_alloc_at _ _ _ _ rfl]; rfl
  go_enter Try.func13, Try.ntmps13
  go_wp2_with fail
  refine (unhide hS _).mono ?_
  rintro e w1 ⟨rfl, rfl⟩
  go_wp2_with fail
  generalize w.alloc (.cells #[.int .i64 a, .int .i64 b, .slice ad zs.length cap] 25) = W1 at hU hA hW3 ⊢
  go_loop [25] (fun i => ∃ k : Nat, k ≤ zs.length ∧ i = .int .i64 k ∧ Hid (∀ j, j < k → (0 ≤ zs.getD j 0 ∧ zs.getD j 0 ≤ 255))) (fun i => zs.length - (intOf i).toNat)
  case atStart => exact ⟨0, Nat.zero_le _, rfl, fun j hj => by omega⟩
  case round =>
    obtain ⟨k, hk', rfl, hok⟩ := hrel
    by_cases hlt : k < zs.length
    · obtain ⟨bb, off, rfl, hbl, hcl⟩ := (unhide hA) (ne_of_lt_length hlt)
      have hck := hcl k hlt
      have hbad := hide (unhide hB2 k hlt)
      have hOk : Hid ((0 ≤ zs.getD k 0 ∧ zs.getD k 0 ≤ 255) → ∀ j, j < k + 1 → (0 ≤ zs.getD j 0 ∧ zs.getD j 0 ≤ 255)) := hide (fun h j hj => by
        rcases Nat.lt_or_eq_of_le (Nat.le_of_lt_succ hj) with h' | h'
        · exact unhide hok j h'
        · subst h'; exact h)
      clear hcl hbl
      generalize zs.getD k 0 = x at hck hbad hOk
      by_cases h1 : x < 0
      · have hB := hide (unhide hbad (fun h => by have := h.1; omega))
        clear hbad hOk
        go_wp2
        go_ret
        exact ⟨by rw [unhide hB]; rfl, unhide hU⟩
      · by_cases h2 : 255 < x
        · have hB := hide (unhide hbad (fun h => by have := h.2; omega))
          clear hbad hOk
          go_wp2
          go_ret
          exact ⟨by rw [unhide hB]; rfl, unhide hU⟩
        · have hok2 := hide (unhide hOk ⟨by omega, by omega⟩)
          clear hbad hOk
          go_wp2
          all_goals
            go_round
            case rel => exact ⟨k + 1, by omega, by go_num, unhide hok2⟩
            case measure => simp [intOf]; omega
    · have hkl : k = zs.length := by omega
      subst hkl
      have hs := hide (unhide hG2 (unhide hok))
      go_wp2
      go_ret
      exact ⟨by rw [unhide hs]; rfl, unhide hU⟩
end Go.Proofs.Ytnalmingbglgfaa

/- The program's means of samples. -/
namespace Go.Proofs.Ytnalmingbglgfaa
open Go.RowKit

set_option maxHeartbeats 8000000 in
set_option maxRecDepth 100000 in
theorem implMeanFrom (W H x y b : Nat) (ad : Option Addr) (cap : Nat) (zs : List Int) (w : World) (hp : PlOk W H zs) (hx : x < W) (hy : y < H) (hb : b = 2 ∨ b = 4) (hA : ArgI w ad zs) :
    Calls Try.prog 52 #[.agg #[.int .i64 (W : Int), .int .i64 (H : Int), .slice ad zs.length cap], .int .i64 (x : Int), .int .i64 (y : Int), .int .i64 (b : Int)] w fun e w' => e = .returned (.int .i64 (meanF zs W H b x y)) ∧ Upd 0 0 w w' := by
  obtain ⟨nx1, nx2, nx3, nx4⟩ := manyF_bd (b := b) hx (by omega)
  obtain ⟨ny1, ny2, ny3, ny4⟩ := manyF_bd (b := b) hy (by omega)
  have hM : Hid (meanF zs W H b x y = (boxSum zs W x (manyF W b x) y (manyF H b y) + ((manyF W b x * manyF H b y / 2 : Nat) : Int)) / ((manyF W b x * manyF H b y : Nat) : Int)) := hide rfl
  generalize meanF zs W H b x y = M at hM ⊢
  generalize manyF W b x = nx at nx1 nx2 nx3 nx4 hM
  generalize manyF H b y = ny at ny1 ny2 ny3 ny4 hM
  obtain ⟨hW1, hW2⟩ := hp.w
  obtain ⟨hH1, hH2⟩ := hp.h
  have hb4 : b ≤ 4 := by omega
  have hb1 : 1 ≤ b := by omega
  have hbx := heldF_new w [.int .i64 (W : Int), .int .i64 (H : Int), .slice ad zs.length cap] 25
  have hB0 := (Below.refl w.heap.size w).alloc (Nat.le_refl _) (.cells #[.int .i64 (W : Int), .int .i64 (H : Int), .slice ad zs.length cap] 25)
  replace hA := hide hA
  replace hbx := hide hbx
  have hB := hide hB0
  clear hB0 hb
  obtain ⟨R, hR⟩ : ∃ R, R = x + nx := ⟨_, rfl⟩
  obtain ⟨T, hT⟩ : ∃ T, T = y + ny := ⟨_, rfl⟩
  have hmx : (if (W : Int) < (x : Int) + (b : Int) then (W : Int) else (x : Int) + (b : Int)) = (R : Int) := by split <;> omega
  have hmy : (if (H : Int) < (y : Int) + (b : Int) then (H : Int) else (y : Int) + (b : Int)) = (T : Int) := by split <;> omega
  have hnx4 : nx ≤ 4 := by omega
  have hny4 : ny ≤ 4 := by omega
  obtain ⟨N, hN⟩ : ∃ N, nx * ny = N := ⟨_, rfl⟩
  have hN1 : 1 ≤ N := by rw [← hN]; exact Nat.mul_le_mul nx1 ny1
  have hN2 : N ≤ 16 := by rw [← hN]; exact Nat.mul_le_mul hnx4 hny4
  rw [hN] at hM
  have eN : (R : Int) - (x : Int) = (nx : Int) := by omega
  have eM : (T : Int) - (y : Int) = (ny : Int) := by omega
  have eP : (nx : Int) * (ny : Int) = (N : Int) := by rw [← hN]; simp
  clear hN nx4 ny4
  have hRW : R ≤ W := by omega
  have hTH : T ≤ H := by omega
  replace hR := hide hR
  replace hT := hide hT
  have r1 : IntKind.i64.wrap ((x : Int) + (b : Int)) = (x : Int) + (b : Int) := by simp [IntKind.wrap, IntKind.bits, IntKind.signed]; omega
  have r2 : IntKind.i64.wrap ((y : Int) + (b : Int)) = (y : Int) + (b : Int) := by simp [IntKind.wrap, IntKind.bits, IntKind.signed]; omega
  go_enter Try.func52, Try.ntmps52
  go_wp2_with fail
  generalize w.alloc (.cells #[.int .i64 (W : Int), .int .i64 (H : Int), .slice ad zs.length cap] 25) = w0 at hbx hB ⊢
  have c0 := (unhide hbx).1.2 0 _ rfl
  have c1 := (unhide hbx).1.2 1 _ rfl
  have c2 := (unhide hbx).1.2 2 _ rfl
  refine wp_region_still_lit (by kernel_rfl) (by kernel_rfl) ?_
  iterate 14 still_step
  refine wpStill_nil ?_
  clear hmx hmy r1 r2
  have hS0 := hide (fun m => boxSum_bd hp.s W x nx y m hnx4)
  have hS1 := hide (fun j n => rowSum_bd hp.s W j x n)
  have e2 : (N : Int) / 2 = ((N / 2 : Nat) : Int) := by omega
  obtain ⟨N2, hN2e⟩ : ∃ N2, N / 2 = N2 := ⟨_, rfl⟩
  rw [hN2e] at hM e2
  have hN28 : N2 ≤ 8 := by omega
  replace hN2e := hide hN2e
  have hbl : Hid (Upd 0 0 w w0.drew) := hide (Upd.of_below (below_drewN (unhide hB) 1) 0 0)
  have hxd := hide ((unhide hbx).keep (Upd.drew1 w0))
  have hAt := hide (fun (x' y' : Nat) (W' : World) (h : ArgI W' ad zs) (h1 : x' < W) (h2 : y' < H) => implPlAt W H x' y' ad cap zs W' hp h1 h2 h)
  have hA1 : Hid (ArgI w0.drew ad zs) := hide ((unhide hA).below (below_drewN (unhide hB) 1))
  clear c0 c1 c2 hB hbx
  go_wp2_with fail
  have hHel : Hid (HeldF w0.drew w.heap.size [.int .i64 (W : Int), .int .i64 (H : Int), .slice ad zs.length cap] ∧ Upd 0 0 w w0.drew ∧ ArgI w0.drew ad zs) := hide ⟨unhide hxd, unhide hbl, unhide hA1⟩
  clear hxd hbl hA1
  go_loopw [12, 13] (fun s r wr => ∃ (j : Nat) (Sv : Int), s = .int .i64 Sv ∧ r = .int .i64 (j : Int) ∧ y ≤ j ∧ j ≤ T ∧ Hid (Sv = (N2 : Int) + boxSum zs W x nx y (j - y)) ∧ Hid (HeldF wr w.heap.size [.int .i64 (W : Int), .int .i64 (H : Int), .slice ad zs.length cap] ∧ Upd 0 0 w wr ∧ ArgI wr ad zs)) (fun _ r _ => T - (intOf r).toNat)
  case atStart => exact ⟨y, N2, rfl, rfl, Nat.le_refl _, by have := unhide hT; omega, hide (by rw [Nat.sub_self]; unfold boxSum; omega), hHel⟩
  case round =>
    clear hHel
    obtain ⟨j, Sv, rfl, rfl, hj0, hj1, hSv, hHel⟩ := hrel
    have hSb : 0 ≤ Sv ∧ Sv ≤ 10000 := by
      have h1 := unhide hS0 (j - y)
      have h2 := unhide hSv
      have h3 := unhide hT
      generalize boxSum zs W x nx y (j - y) = q at h1 h2
      omega
    obtain ⟨s0, s1⟩ := hSb
    by_cases hjT : j < T
    · have hstep : Hid (boxSum zs W x nx y (j + 1 - y) = boxSum zs W x nx y (j - y) + rowSum zs W j x nx) := hide (by
        rw [show j + 1 - y = (j - y) + 1 by omega]
        show boxSum zs W x nx y (j - y) + rowSum zs W (y + (j - y)) x nx = _
        rw [show y + (j - y) = j by omega])
      go_wp2_with fail
      go_loopw [12, 14] (fun s c wr => ∃ (i : Nat) (Sw : Int), s = .int .i64 Sw ∧ c = .int .i64 (i : Int) ∧ x ≤ i ∧ i ≤ R ∧ Hid (Sw = Sv + rowSum zs W j x (i - x)) ∧ Hid (HeldF wr w.heap.size [.int .i64 (W : Int), .int .i64 (H : Int), .slice ad zs.length cap] ∧ Upd 0 0 w wr ∧ ArgI wr ad zs)) (fun _ c _ => R - (intOf c).toNat)
      case atStart => exact ⟨x, Sv, rfl, rfl, Nat.le_refl _, by have := unhide hR; omega, hide (by rw [Nat.sub_self]; unfold rowSum; omega), hHel⟩
      case round =>
        clear hHel
        obtain ⟨i, Sw, rfl, rfl, hi0, hi1, hSw, hHel⟩ := hrel
        have hSb : 0 ≤ Sw ∧ Sw ≤ 12000 := by
          have h1 := unhide hS1 j (i - x)
          have h2 := unhide hSw
          have h3 := unhide hR
          generalize rowSum zs W j x (i - x) = q at h1 h2
          omega
        obtain ⟨t0, t1⟩ := hSb
        by_cases hiR : i < R
        · have hst2 : Hid (rowSum zs W j x (i + 1 - x) = rowSum zs W j x (i - x) + zs.getD (j * W + i) 0) := hide (by
            rw [show i + 1 - x = (i - x) + 1 by omega]
            show rowSum zs W j x (i - x) + zs.getD (j * W + (x + (i - x))) 0 = _
            rw [show x + (i - x) = i by omega])
          have hA2 := hide (unhide hAt i j _ (unhide hHel).2.2 (by omega) (by omega))
          have hv := smp_bd hp.s (j * W + i)
          generalize zs.getD (j * W + i) 0 = v at hst2 hA2 hv
          obtain ⟨v0, v1⟩ := hv
          have c0 := (unhide hHel).1.1.2 0 _ rfl
          have c1 := (unhide hHel).1.1.2 1 _ rfl
          have c2 := (unhide hHel).1.1.2 2 _ rfl
          go_wp2_with fail
          refine (unhide hA2).mono ?_
          rintro e wz ⟨rfl, hz⟩
          have hHel2 : Hid (HeldF wz w.heap.size [.int .i64 (W : Int), .int .i64 (H : Int), .slice ad zs.length cap] ∧ Upd 0 0 w wz ∧ ArgI wz ad zs) := hide ⟨(unhide hHel).1.keep hz, (unhide hHel).2.1.trans hz, (unhide hHel).2.2.below (hz.below (Nat.le_refl _) (.inr (Nat.zero_le _)))⟩
          clear c0 c1 c2 hA2 hz hHel
          go_wp2
          go_roundw
          case rel => exact ⟨i + 1, Sw + v, rfl, by go_num, by omega, by omega, hide (by rw [unhide hst2, unhide hSw]; omega), hHel2⟩
          case measure => simp [intOf]; omega
        · have hie : i = R := by omega
          subst hie
          have hen : Hid (Sw = (N2 : Int) + boxSum zs W x nx y (j + 1 - y)) := hide (by
            rw [unhide hstep, unhide hSw, unhide hSv, show i - x = nx by have := unhide hR; omega]; omega)
          go_wp2
          go_roundw
          case rel => exact ⟨j + 1, Sw, rfl, by go_num, by omega, by omega, hen, hHel⟩
          case measure => simp [intOf]; omega
    · have hje : j = T := by omega
      subst hje
      have hen : Hid (Sv / (N : Int) = M) := hide (by
        rw [unhide hM, unhide hSv, show j - y = ny by have := unhide hT; omega, Int.add_comm])
      have hU := hide (unhide hHel).2.1
      clear hHel hSv
      have hq : (N : Int) ≠ 0 := by omega
      go_wp2
      go_ret
      exact ⟨ret_int (unhide hen), unhide hU⟩
end Go.Proofs.Ytnalmingbglgfaa

/- The program's empty planes. -/
namespace Go.Proofs.Ytnalmingbglgfaa
open Go.RowKit

theorem implStepsN (n b : Nat) (w : World) (hn : 1 ≤ n ∧ n ≤ 512) (hb : b = 2 ∨ b = 4) : Calls Try.prog 51 #[.int .i64 (n : Int), .int .i64 0, .int .i64 (b : Int)] w fun e w' => e = .returned (.int .i64 ((stepsF n b : Nat) : Int)) ∧ w' = w := by
  have hE : Hid (((n : Int) + (b : Int) - 1) / (b : Int) = ((stepsF n b : Nat) : Int)) := hide (by
    unfold stepsF; rcases hb with rfl | rfl <;> omega)
  obtain ⟨n1, n2⟩ := hn
  have hb1 : 1 ≤ b := by omega
  have hb4 : b ≤ 4 := by omega
  clear hb
  have hq : (b : Int) ≠ 0 := by omega
  go_enter Try.func51, Try.ntmps51
  go_wp2
  go_ret
  exact ⟨ret_int (unhide hE), rfl⟩
set_option maxHeartbeats 4000000 in
set_option maxRecDepth 100000 in
theorem implEmptyPlane (a b N : Nat) (w : World) (hN : a * b = N) (h1 : 1 ≤ N) (hN2 : N ≤ 1048576) :
    Calls Try.prog 50 #[.int .i64 (a : Int), .int .i64 (b : Int)] w fun e w' => ∃ g, e = .returned (.agg #[.int .i64 (a : Int), .int .i64 (b : Int), .slice (some ⟨g, 0, none⟩) N N]) ∧ w.heap.size ≤ g ∧ g < w'.heap.size ∧ w'.ownsRow g 3 1 (.slice (some ⟨g, 0, none⟩) N N) N (ints (List.replicate N 0)) ∧ Upd 0 0 w w' := by
  obtain ⟨i0, hi, hz0, hz1, hz2⟩ := info_parts infoI
  have eP : (a : Int) * (b : Int) = (N : Int) := by rw [← hN]; simp
  clear hN
  have hB0 := hide ((Below.refl w.heap.size w).alloc (Nat.le_refl _) (.cells #[.int .i64 0, .int .i64 0, .slice none 0 0] 25))
  have hrs := hide (heldF_new w [.int .i64 0, .int .i64 0, .slice none 0 0] 25)
  have hs0 : (w.alloc (.cells #[.int .i64 0, .int .i64 0, .slice none 0 0] 25)).heap.size = w.heap.size + 1 := by simp
  go_enter Try.func50, Try.ntmps50
  go_wp2_with (at_make; refine wpList_make_full _ rfl _ _ 23 rfl (w.alloc (.cells #[.int .i64 0, .int .i64 0, .slice none 0 0] 25)).heap.size 3 i0 (.int .i64 0) 1 Try.underlying23 hi hz0 hz1 .i64 .i64 _ _ N rfl rfl (by omega) (by omega) (by rw [hz2]; omega) (by unfold maxLen; omega) (Nat.le_refl _) ?_; intro w1 hown hgrow; have hu := Upd.of_below ((Below.refl (w.alloc (.cells #[.int .i64 0, .int .i64 0, .slice none 0 0] 25)).heap.size (w.alloc (.cells #[.int .i64 0, .int .i64 0, .slice none 0 0] 25))).grown hgrow (Nat.le_refl _) (by simp)) 0 0; replace hrs := hide ((unhide hrs).keep hu); replace hB0 := hide (below_upd (unhide hB0) hu (Nat.le_refl _) (.inr (Nat.le_refl _))); have hlt := hown.lt w.heap.size.succ (by rw [hs0]; rfl); have hown2 := hide hown; have z0 := (unhide hrs).1.2 0 _ rfl; have z1 := (unhide hrs).1.2 1 _ rfl; have z2 := (unhide hrs).1.2 2 _ rfl; have f0 := (unhide hrs).2 0; have f1 := (unhide hrs).2 1; have f2 := (unhide hrs).2 2; clear hown hgrow hu)
  rw [hs0] at hown2
  have hrow : w1.ownsRow (w.heap.size + 1) 3 1 (.slice (some ⟨w.heap.size + 1, 0, none⟩) N N) N (ints (List.replicate N 0)) := by
    rw [ints_zeros]; simpa [toList_madeCells_one, Value.cells] using unhide hown2
  have hl2 := hlt.2
  clear hown2 hlt
  refine bodyPost_ret (v := .agg #[.int .i64 (a : Int), .int .i64 (b : Int), .slice (some ⟨w.heap.size + 1, 0, none⟩) N N]) (by simp [results, Try.results50, go_sem, z0, z1, z2]) rfl ⟨w.heap.size + 1, rfl, by omega, by simpa using hl2, ?_, ?_⟩
  · exact ownsRow_setCell_below (ownsRow_setCell_below (ownsRow_setCell_below hrow (by simp) _) (by simp) _) (by simp) _
  · exact Upd.of_below ((((unhide hB0).setCell (by simp) _).setCell (by simp) _).setCell (by simp) _) 0 0
end Go.Proofs.Ytnalmingbglgfaa

/- The walk of the program's test of a side. -/
namespace Go.Proofs.Ytnalmingbglgfaa
open Go.RowKit

set_option maxHeartbeats 1000000 in
theorem implGoodSide (a : Int) (w : World) : Calls Try.prog 89 #[.int .i64 a] w fun e w' => e = .returned (.bool (sideB a)) ∧ w' = w := by
  by_cases ha : 1 ≤ a ∧ a ≤ 512
  · rw [sideB_yes ha]
    obtain ⟨a1, a2⟩ := ha
    go_enter Try.func89, Try.ntmps89
    go_wp2
    go_ret
    exact ⟨rfl, rfl⟩
  · rw [sideB_no ha]
    by_cases h1 : a < 1
    · have q1 : decide (1 ≤ a) = false := by simp; omega
      clear ha
      go_enter Try.func89, Try.ntmps89
      go_wp2
      go_ret
      exact ⟨rfl, rfl⟩
    · have q1 : decide (1 ≤ a) = true := by simp; omega
      have q2 : decide (a ≤ 512) = false := by simp; omega
      clear ha
      go_enter Try.func89, Try.ntmps89
      go_wp2
      go_ret
      exact ⟨rfl, rfl⟩

end Go.Proofs.Ytnalmingbglgfaa

/- The program's tests of sides. -/
namespace Go.Proofs.Ytnalmingbglgfaa
open Go.RowKit

theorem sides_prod {w h : Int} (hw : 1 ≤ w ∧ w ≤ 512) (hh : 1 ≤ h ∧ h ≤ 512) : ∃ P : Int, w * h = P ∧ 1 ≤ P ∧ P ≤ 262144 := by
  obtain ⟨W, rfl⟩ := Int.eq_ofNat_of_zero_le (show 0 ≤ w by omega)
  obtain ⟨H, rfl⟩ := Int.eq_ofNat_of_zero_le (show 0 ≤ h by omega)
  have h1 : W * H ≤ 512 * 512 := Nat.mul_le_mul (by omega) (by omega)
  have h2 : 1 * 1 ≤ W * H := Nat.mul_le_mul (by omega) (by omega)
  exact ⟨((W * H : Nat) : Int), by simp, by omega, by omega⟩
set_option maxHeartbeats 2000000 in
theorem implGoodSidesP (a b : Int) (w : World) : Calls Try.prog 53 #[.int .i64 a, .int .i64 b] w fun e w' => e = .returned (.bool (decide ((1 ≤ a ∧ a ≤ 512) ∧ (1 ≤ b ∧ b ≤ 512) ∧ a * b ≤ 4096))) ∧ w' = w := by
  have hA := hide (fun W => implGoodSide a W)
  have hB := hide (fun W => implGoodSide b W)
  by_cases ha : 1 ≤ a ∧ a ≤ 512
  case neg =>
    rw [decide_eq_false (fun h => ha h.1)]
    rw [sideB_no ha] at hA
    clear ha
    go_enter Try.func53, Try.ntmps53
    go_wp2_with fail
    refine (unhide hA _).mono ?_
    rintro e w1 ⟨rfl, rfl⟩
    go_wp2
    go_ret
    exact ⟨rfl, rfl⟩
  by_cases hb : 1 ≤ b ∧ b ≤ 512
  case neg =>
    rw [decide_eq_false (fun h => hb h.2.1)]
    rw [sideB_yes ha] at hA
    rw [sideB_no hb] at hB
    clear ha hb
    go_enter Try.func53, Try.ntmps53
    go_wp2_with fail
    refine (unhide hA _).mono ?_
    rintro e w1 ⟨rfl, rfl⟩
    go_wp2_with fail
    refine (unhide hB _).mono ?_
    rintro e w1 ⟨rfl, rfl⟩
    go_wp2
    go_ret
    exact ⟨rfl, rfl⟩
  obtain ⟨P, hP, P1, P2⟩ := sides_prod ha hb
  have hR : decide ((1 ≤ a ∧ a ≤ 512) ∧ (1 ≤ b ∧ b ≤ 512) ∧ a * b ≤ 4096) = decide (P ≤ 4096) := by
    by_cases h : P ≤ 4096
    · rw [decide_eq_true h]; exact decide_eq_true ⟨ha, hb, by omega⟩
    · rw [decide_eq_false h]; exact decide_eq_false (fun h' => h (by have := h'.2.2; omega))
  rw [hR]
  rw [sideB_yes ha] at hA
  rw [sideB_yes hb] at hB
  clear ha hb hR
  go_enter Try.func53, Try.ntmps53
  go_wp2_with fail
  refine (unhide hA _).mono ?_
  rintro e w1 ⟨rfl, rfl⟩
  go_wp2_with fail
  refine (unhide hB _).mono ?_
  rintro e w1 ⟨rfl, rfl⟩
  go_wp2
  go_ret
  exact ⟨rfl, rfl⟩
end Go.Proofs.Ytnalmingbglgfaa

/- The walks of TakeLow and TakeHigh: the program's reader in high order. -/
namespace Go.Proofs.Ytnalmingbglgfaa
open Go.RowKit

theorem wrap_i64_in (n : Int) (h : -9223372036854775808 ≤ n ∧ n ≤ 9223372036854775807) : IntKind.i64.wrap n = n := by
  simp [IntKind.wrap, IntKind.bits, IntKind.signed]; omega
theorem div_bd (x : Nat) (hx : x < 256) (k : Nat) : 0 ≤ (x : Int) / 2 ^ k ∧ (x : Int) / 2 ^ k < 18446744073709551616 := by
  have h := Nat.div_le_self x (2 ^ k)
  rw [show ((x : Int) / 2 ^ k) = ((x / 2 ^ k : Nat) : Int) by simp]
  generalize x / 2 ^ k = y at h ⊢
  omega
end Go.Proofs.Ytnalmingbglgfaa

/- Plain facts behind the writer of bits. -/
namespace Go.Proofs.Ytnalmingbglgfaa
open Go.RowKit

def roomI (L : Nat) : Int := (((8 - L % 8) % 8 : Nat) : Int)
theorem div_bdv (v : Nat) (hv : v < 18446744073709551616) (k : Nat) : 0 ≤ (v : Int) / 2 ^ k ∧ (v : Int) / 2 ^ k < 18446744073709551616 := by
  have h := Nat.div_le_self v (2 ^ k)
  rw [show ((v : Int) / 2 ^ k) = ((v / 2 ^ k : Nat) : Int) by simp]
  generalize v / 2 ^ k = y at h ⊢
  omega

theorem or8 (h : Bool) (x r m ch : Nat) (hx : x < 256) (hm : r + m ≤ 8) (hf : if h then x % 2 ^ (8 - r) = 0 else x < 2 ^ r) (hc : ch < 2 ^ m) : bits .or .u8 (x : Int) (IntKind.u8.wrap (IntKind.u64.wrap ((ch : Int) * 2 ^ cex h r m))) = ((x + ch * 2 ^ cex h r m : Nat) : Int) := by
  have ho := or_into h x r m ch hm hf hc
  have hl : ch * 2 ^ cex h r m < 256 := by
    have h1 : (ch + 1) * 2 ^ cex h r m ≤ 2 ^ m * 2 ^ cex h r m := Nat.mul_le_mul_right _ hc
    rw [← Nat.pow_add] at h1
    have h2 : 2 ^ (m + cex h r m) ≤ 2 ^ 8 := Nat.pow_le_pow_right (by omega) (by unfold cex; split <;> omega)
    have h3 : 0 < 2 ^ cex h r m := Nat.pow_pos (by omega)
    rw [Nat.add_mul, Nat.one_mul] at h1
    omega
  have e : IntKind.u8.wrap (IntKind.u64.wrap ((ch : Int) * 2 ^ cex h r m)) = ((ch * 2 ^ cex h r m : Nat) : Int) := by
    rw [IntKind.wrap_u64, IntKind.wrap_u8', show ((ch : Int) * 2 ^ cex h r m) = ((ch * 2 ^ cex h r m : Nat) : Int) by simp]; omega
  rw [e, u8_or_nat _ _ hx hl, ho]
end Go.Proofs.Ytnalmingbglgfaa

/- The walk of the writer of bits in high order: the program's. -/
namespace Go.Proofs.Ytnalmingbglgfaa
open Go.RowKit


end Go.Proofs.Ytnalmingbglgfaa

/- The walks of PackRow: the program's. -/
namespace Go.Proofs.Ytnalmingbglgfaa
open Go.RowKit

theorem own_nilYS (w : World) (a b : Nat) : OwnY w a b (.slice none 0 0) [] := ⟨World.ownsRow_nil _ _ _ _, fun k hk => by simp [Value.ownBlock] at hk⟩

noncomputable def smpB (zs : List Int) (d : Int) : Bool := open Classical in decide (SmpOk zs d)
theorem smpB_yes {zs : List Int} {d : Int} (h : SmpOk zs d) : smpB zs d = true := by unfold smpB; simpa using h
theorem smpB_no {zs : List Int} {d : Int} (h : ¬ SmpOk zs d) : smpB zs d = false := by unfold smpB; simpa using h
theorem smpB_iff {zs : List Int} {d : Int} : smpB zs d = true ↔ SmpOk zs d := by unfold smpB; simp

set_option maxHeartbeats 2000000 in
theorem implGoodSamples (v : Value) (zs : List Int) (D : Nat) (w : World) (hD : D ≤ 16) (hn : zs.length ≤ 1048576) (hv : RdI w v zs) :
    Calls Try.prog 87 #[v, .int .i64 D] w fun e w' => e = .returned (.bool (smpB zs D)) ∧ w' = w := by
  obtain ⟨ad, cap, rfl, hA⟩ := hv
  replace hA := hide hA
  have hBad : Hid (∀ k, k < zs.length → ¬ (0 ≤ zs.getD k 0 ∧ zs.getD k 0 < 2 ^ D) → smpB zs D = false) := hide (fun k hk' hb => smpB_no (fun h => hb (by have := h k hk'; simpa using this)))
  have hGood : Hid ((∀ k, k < zs.length → (0 ≤ zs.getD k 0 ∧ zs.getD k 0 < 2 ^ D)) → smpB zs D = true) := hide (fun h => smpB_yes (fun j hj => by have := h j hj; simpa using this))
  have hp := two_pow_16 hD
  go_enter Try.func87, Try.ntmps87
  go_wp2
  go_loop [9] (fun i => ∃ k : Nat, k ≤ zs.length ∧ i = .int .i64 k ∧ Hid (∀ j, j < k → (0 ≤ zs.getD j 0 ∧ zs.getD j 0 < 2 ^ D))) (fun i => zs.length - (intOf i).toNat)
  case atStart => exact ⟨0, Nat.zero_le _, rfl, fun j hj => by omega⟩
  case round =>
    obtain ⟨k, hk', rfl, hok⟩ := hrel
    by_cases hlt : k < zs.length
    · obtain ⟨b, off, rfl, hbl, hcl⟩ := (unhide hA) (ne_of_lt_length hlt)
      have hck := hcl k hlt
      have hbad := hide (unhide hBad k hlt)
      have hOk : Hid ((0 ≤ zs.getD k 0 ∧ zs.getD k 0 < 2 ^ D) → ∀ j, j < k + 1 → (0 ≤ zs.getD j 0 ∧ zs.getD j 0 < 2 ^ D)) := hide (fun h j hj => by
        rcases Nat.lt_or_eq_of_le (Nat.le_of_lt_succ hj) with h' | h'
        · exact unhide hok j h'
        · subst h'; exact h)
      clear hcl hbl
      generalize zs.getD k 0 = x at hck hbad hOk
      by_cases h1 : x < 0
      · have hB := hide (unhide hbad (fun h => by have := h.1; omega))
        clear hbad hOk
        go_wp2
        go_ret
        exact ⟨by rw [unhide hB]; rfl, rfl⟩
      · by_cases h2 : x < 2 ^ D
        · have hok2 := hide (unhide hOk ⟨by omega, h2⟩)
          clear hbad hOk
          go_wp2
          all_goals
            go_round
            case rel => exact ⟨k + 1, by omega, by go_num, unhide hok2⟩
            case measure => simp [intOf]; omega
        · have hB := hide (unhide hbad (fun h => h2 h.2))
          clear hbad hOk
          go_wp2
          go_ret
          exact ⟨by rw [unhide hB]; rfl, rfl⟩
    · have hkl : k = zs.length := by omega
      subst hkl
      have hs := hide (unhide hGood (unhide hok))
      go_wp2
      go_ret
      exact ⟨by rw [unhide hs]; rfl, rfl⟩

end Go.Proofs.Ytnalmingbglgfaa

/- The walk of GoodPlane: the program's. -/
namespace Go.Proofs.Ytnalmingbglgfaa
open Go.RowKit

set_option maxHeartbeats 8000000 in
set_option maxRecDepth 100000 in
theorem implGoodPlane (v : Value) (d : Pl) (w : World) (hn : d.2.2.length ≤ 1048576) (_hR : InPl d) (hv : RdPl w v d) :
    Calls Try.prog 49 #[v] w fun e w' => e = .returned (.bool (goodPlB d)) ∧ Upd 0 0 w w' := by
  obtain ⟨vl, rfl, h⟩ := hv
  obtain ⟨ad, cap, rfl, hA⟩ := h
  obtain ⟨a, b, zs⟩ := d
  simp only [Plv, Pls] at hn hA ⊢
  have hB := (Below.refl w.heap.size w).alloc (Nat.le_refl _) (.cells #[.int .i64 a, .int .i64 b, .slice ad zs.length cap] 25)
  have hU := hide (Upd.of_below hB 0 0)
  have hS := hide (fun W => implGoodSidesP a b W)
  have hG := hide (fun (W : World) h => implGoodSamples (.slice ad zs.length cap) zs 8 W (by omega) hn h)
  have hrd := hide (show RdI (w.alloc (.cells #[.int .i64 a, .int .i64 b, .slice ad zs.length cap] 25)) (.slice ad zs.length cap) zs from ⟨ad, cap, rfl, hA.below hB⟩)
  clear hB hA
  by_cases hs : SidesOk a b
  case neg =>
    rw [goodPlB_no (fun h => hs h.1)]
    have hs' : decide ((1 ≤ a ∧ a ≤ 512) ∧ (1 ≤ b ∧ b ≤ 512) ∧ a * b ≤ 4096) = false := decide_eq_false hs
    rw [hs'] at hS
    clear hs hs'
    go_enter Try.func49, Try.ntmps49
    go_wp2_with fail
    refine (unhide hS _).mono ?_
    rintro e w1 ⟨rfl, rfl⟩
    go_wp2
    go_ret
    exact ⟨rfl, unhide hU⟩
  have hs' : decide ((1 ≤ a ∧ a ≤ 512) ∧ (1 ≤ b ∧ b ≤ 512) ∧ a * b ≤ 4096) = true := decide_eq_true hs
  rw [hs'] at hS
  clear hs'
  obtain ⟨P, hP, P1, P2⟩ := prod_side hs.1 hs.2.1
  by_cases hl : (zs.length : Int) = P
  case neg =>
    rw [goodPlB_no (fun h => hl (by have := h.2.1; simp only at this; omega))]
    have r3 : ((zs.length : Int) == P) = false := by simp [hl]
    clear hs hl
    go_enter Try.func49, Try.ntmps49
    go_wp2_with fail
    refine (unhide hS _).mono ?_
    rintro e w1 ⟨rfl, rfl⟩
    go_wp2
    go_ret
    exact ⟨rfl, unhide hU⟩
  have r3 : ((zs.length : Int) == P) = true := by simp [hl]
  have hE : Hid (goodPlB (a, b, zs) = smpB zs 8) := hide (by
    by_cases h : SmpOk zs 8
    · rw [smpB_yes h]; exact goodPlB_yes ⟨hs, by show (zs.length : Int) = a * b; rw [hP, hl], h⟩
    · rw [smpB_no h]; exact goodPlB_no (fun h' => h h'.2.2))
  replace hl := hide hl
  clear hs
  rw [unhide hE]
  clear hE
  go_enter Try.func49, Try.ntmps49
  go_wp2_with fail
  refine (unhide hS _).mono ?_
  rintro e w1 ⟨rfl, rfl⟩
  go_wp2_with fail
  refine (unhide hG _ (unhide hrd)).mono ?_
  rintro e w1 ⟨rfl, rfl⟩
  go_wp2
  go_ret
  exact ⟨rfl, unhide hU⟩
end Go.Proofs.Ytnalmingbglgfaa

/- A region that draws its order: a head of operations that are quiet in a class of worlds (loads, arithmetic, calls that lay new blocks alone), and a tail that waits for all of them: the head is walked once, in the text's order; the tail behind it. -/
namespace Go.Proofs.Ytnalmingbglgfaa
open Go.RowKit

section
variable {P : Program} {ops : Array Oper} {md : Region.Mode} {C : World → Prop}
/-- Whatever order is picked among the first n, with 'L' to be shown behind them. -/
def wpHeadQ (P : Program) (md : Region.Mode) (ops : Array Oper) (C : World → Prop) (n : Nat) (L : Array Bool → Act → Prop) : Nat → Array Bool → Act → Prop
  | 0, b, a => L b a
  | f + 1, b, a => Region.ready md ops b ≠ [] ∧ ∀ i ∈ Region.ready md ops b, i < n ∧ qOp P ops C i (wpHeadQ P md ops C n L f (b.setIfInBounds i true)) a
theorem wpAny_of_headQ {n g : Nat} {L : Array Bool → Act → Prop} {Q' : Exit → Act → World → Prop} (hL : ∀ b a w, C w → L b a → wpAny P md ops Q' g b a w) (f : Nat) :
    ∀ (b : Array Bool) (a : Act) (w : World), C w → wpHeadQ P md ops C n L f b a → wpAny P md ops Q' (f + g) b a w := by
  induction f with
  | zero => intro b a w hC h; rw [Nat.zero_add]; exact hL _ _ _ hC h
  | succ f ih =>
    intro b a w hC h
    rw [show f + 1 + g = (f + g) + 1 by omega]
    exact ⟨fun h0 => absurd h0 h.1, fun i hi => wpOp_of_qOp hC (fun a' w' hC' h' => ih _ a' w' hC' h') (h.2 i hi).2⟩
theorem wpHeadQ_first {n i : Nat} {oi : Oper} {v : Value} {L : Array Bool → Act → Prop} (hi : ops[i]? = some oi) (hsel : ∀ (j : Nat) (o : Oper) cs b, ops[j]? = some o → o.op ≠ .select cs b)
    (hs : Region.sinkB md ops n = true) (hc : Region.chainB md ops n = true) (hn : n < ops.size) (hin : i < n) (hdone : ∀ b a, L b a → ∀ j ∈ Region.ready md ops b, n ≤ j) (f : Nat) :
    ∀ (b : Array Bool) (a : Act), HeadInv md ops n b →
      (∀ j oj, ops[j]? = some oj → j ≠ i → b.getD j true = false → (∀ e ∈ oj.after, Region.binds md e = true → e.on ≠ i) → oi.apart ops oj = true) →
      i ∈ Region.ready md ops b → YieldsIn P ops C oi v a →
      wpHeadQ P md ops C n L f (b.setIfInBounds i true) (a.put oi.dst v) → wpHeadQ P md ops C n L (f + 1) b a := by
  induction f with
  | zero =>
    intro b a inv _ hr hy H
    refine ⟨fun h => (by rw [h] at hr; cases hr), fun j hj => ?_⟩
    have hjn : j < n := Nat.lt_of_not_le fun h => tail_waits hs hc hn inv _ i rfl hin (mem_ready.1 hr).1 j h hj
    refine ⟨hjn, ?_⟩
    by_cases hji : j = i
    · subst hji; exact hy.qOp hi H
    · exact absurd (hdone _ _ H j (ready_mono hj hji)) (by omega)
  | succ f ih =>
    intro b a inv hfree hr hy H
    refine ⟨fun h => (by rw [h] at hr; cases hr), fun j hj => ?_⟩
    have hun := (mem_ready.1 hr).1
    have hjn : j < n := Nat.lt_of_not_le fun h => tail_waits hs hc hn inv _ i rfl hin hun j h hj
    refine ⟨hjn, ?_⟩
    by_cases hji : j = i
    · subst hji; exact hy.qOp hi H
    · obtain ⟨hjun, oj, hoj, hall⟩ := mem_ready.1 hj
      have hnot : ∀ e ∈ oj.after, Region.binds md e = true → e.on ≠ i := fun e he hb heq => by
        have h1 := hall e he hb
        rw [heq, getD_both hun] at h1
        cases h1
      have h2 := qOp_put hoj (hfree j oj hoj hji hjun hnot) (fun cs b => hsel i oi cs b hi) (fun cs b => hsel j oj cs b hoj) hy (H.2 j (ready_mono hj hji)).2
      refine qOp_mono (fun a' h3 => ih (b.setIfInBounds j true) a' (inv.set hj hjn) (fun k ok hk hki hun' hno => hfree k ok hk hki ?_ hno) (ready_mono hr (Ne.symm hji)) h3.1 ?_) h2
      · by_cases hjk : j = k
        · subst hjk; exact hjun
        · rw [getD_set_ne true hjk] at hun'; exact hun'
      · rw [Array.setIfInBounds_comm _ _ hji]
        exact h3.2
theorem wpHeadQ_lex {n g : Nat} {Lq : Act → Prop} (hsel : Region.noSelect ops = true) (hs : Region.sinkB md ops n = true) (hc : Region.chainB md ops n = true) (hn : n < ops.size) (l : List Oper) :
    ∀ (k : Nat) (b : Array Bool) (a : Act), (∀ j, j < l.length → l[j]? = ops[k + j]?) → k + l.length = n → HeadInv md ops n b →
    Region.lexHead md ops g l.length k b = true → wpQuiet P ops C Lq l a → wpHeadQ P md ops C n (fun b' a' => Region.seqB md ops g n b' = true ∧ Lq a') l.length b a := by
  induction l with
  | nil =>
    intro k b a hl hk inv hB h
    have hkn : k = n := by simpa using hk
    subst hkn
    exact ⟨by simpa [Region.lexHead] using hB, h⟩
  | cons o l ih =>
    intro k b a hl hk inv hB h
    have h0 : ops[k]? = some o := by simpa using (hl 0 (by simp)).symm
    simp only [List.length_cons, Region.lexHead, Bool.and_eq_true] at hB
    obtain ⟨⟨hr, hf⟩, hB'⟩ := hB
    have hkn : k < n := by simp only [List.length_cons] at hk; omega
    have hr' : k ∈ Region.ready md ops b := by simpa using hr
    have hst : qOp P ops C k (wpQuiet P ops C Lq l) a := by unfold qOp; simp only [h0]; exact h
    obtain ⟨v, hy, hK⟩ := yieldsIn_of_qOp h0 hst
    exact wpHeadQ_first h0 (Region.noSelect_spec hsel) hs hc hn hkn (fun b' a' hL => seqB_ready hL.1) l.length b a inv (Region.free_spec h0 hf) hr' hy
      (ih (k + 1) _ _ (fun j hj => by have := hl (j + 1) (by simp; omega); simpa [Nat.add_assoc, Nat.add_comm 1 j] using this) (by simp only [List.length_cons] at hk; omega) (inv.set hr' hkn) hB' hK)
theorem wp_region_quiet_tail {id : Nat} {Q : Exit → Act → World → Prop} {a : Act} {w : World} {l : List Oper} (n : Nat) (hm : P.follows .mixedOrders = true) (hB : Region.lexTailB .any l.toArray n = true) (hC : C { w with drawn := w.drawn + 1 })
    (h : wpQuiet P l.toArray C (fun a' => ∀ w', C w' → wpList P l.toArray Q (l.drop n) a' w') (l.take n) a) : (Code.region id l.toArray true).wp P Q a w := by
  simp only [Region.lexTailB, Bool.and_eq_true, decide_eq_true_eq] at hB
  obtain ⟨⟨⟨⟨hsel, hn⟩, hs⟩, hc⟩, hlex⟩ := hB
  have hn' : n < l.length := by simpa using hn
  have htl : (l.take n).length = n := by simp; omega
  have hdl : (l.drop n).length = l.toArray.size - n := by simp
  have inv0 : HeadInv .any l.toArray n (Array.replicate l.toArray.size false) :=
    ⟨by simp, fun j oj _ hl => (by rw [getD_replicate_false] at hl; cases hl), fun t _ ht => getD_in (by simpa using ht) (getD_replicate_false _ _)⟩
  have H := wpHeadQ_lex (md := .any) (g := l.toArray.size - n) hsel hs hc hn (l.take n) 0 _ a (fun j hj => by
    have hj' : j < n := by rw [htl] at hj; exact hj
    simp [hj']) (by simpa using htl) inv0 (by rw [htl]; exact hlex) h
  refine wp_region_any hm ?_
  have := wpAny_of_headQ (Q' := Q) (g := l.toArray.size - n) (fun b a' w' hC' hL => by
    have := wpAny_of_seq (md := .any) (Q' := Q) (l.drop n) n b a' w' (fun j => by simp [List.getElem?_drop]) (by rw [hdl]; exact hL.1) (hL.2 w' hC')
    rwa [hdl] at this) _ _ _ _ hC H
  rw [htl, show n + (l.toArray.size - n) = l.toArray.size by omega] at this
  exact this
end
/-- .. at the class 'all that was there is as it was', behind the wrapper. -/
theorem wq_region_tail {P : Program} {id : Nat} {Q : Exit → Act → World → Prop} {a : Act} {w : World} {l : List Oper} (n : Nat) (hm : P.follows .mixedOrders = true) (hB : Region.lexTailB .any l.toArray n = true)
    (h : WQ P l.toArray (fun w' => ∃ x : UpdT w, w' = x.to) (fun a' => ∀ w', (∃ x : UpdT w, w' = x.to) → wpList P l.toArray Q (l.drop n) a' w') (l.take n) a) : (Code.region id l.toArray true).wp P Q a w :=
  wp_region_quiet_tail (C := fun w' => ∃ x : UpdT w, w' = x.to) n hm hB ⟨⟨{ w with drawn := w.drawn + 1 }, ⟨rfl, rfl, rfl, Nat.le_refl _, fun _ _ _ => rfl⟩⟩, rfl⟩ h.h
end Go.Proofs.Ytnalmingbglgfaa

/- The program's Shrink. -/
namespace Go.Proofs.Ytnalmingbglgfaa
open Go.RowKit

theorem part_set {A : List Int} {k N : Nat} (hA : A.length = k) (hk : k < N) (v : Int) : (A ++ List.replicate (N - k) 0).set k v = (A ++ [v]) ++ List.replicate (N - (k + 1)) 0 := by
  rw [List.set_append, if_neg (by omega), show k - A.length = 0 by omega, show N - k = (N - (k + 1)) + 1 by omega, List.replicate_succ]
  simp
theorem byB {b : Int} : ((b != 2) && (b != 4)) = !decide (b = 2 ∨ b = 4) := by
  by_cases h : b = 2 ∨ b = 4
  · rcases h with rfl | rfl <;> rfl
  · simp [h]; omega
set_option maxHeartbeats 8000000 in
set_option maxRecDepth 100000 in
theorem implShrink (v : Value) (d : Pl) (b : Int) (w : World) (hn : d.2.2.length ≤ 1048576) (hR : InPl d) (hv : RdPl w v d) (_hl : -9223372036854775808 ≤ b) (_hh : b ≤ 9223372036854775807) :
    Calls Try.prog 14 #[v, .int .i64 b] w fun e w' => ∃ u, e = .returned u ∧ OwnPl w' w.heap.size w'.heap.size u (shrinkF d b) ∧ Upd 0 0 w w' := by
  obtain ⟨vl, rfl, h⟩ := hv
  obtain ⟨ad, cap, rfl, hA⟩ := h
  obtain ⟨a1, b1, zs⟩ := d
  simp only [Plv, Pls] at hn hA ⊢
  have hG := hide (fun (W : World) (h : ArgI W ad zs) => implGoodPlane _ (a1, b1, zs) W hn hR ⟨_, rfl, ad, cap, rfl, h⟩)
  have hB0 := (((Below.refl w.heap.size w).alloc (Nat.le_refl _) (.cells #[.int .i64 a1, .int .i64 b1, .slice ad zs.length cap] 25)).alloc (by simp) (.cells #[.int .i64 0, .int .i64 0, .slice none 0 0] 25))
  have hs0 : ((w.alloc (.cells #[.int .i64 a1, .int .i64 b1, .slice ad zs.length cap] 25)).alloc (.cells #[.int .i64 0, .int .i64 0, .slice none 0 0] 25)).heap.size = w.heap.size + 2 := by simp
  have hbx := (heldF_new w [.int .i64 a1, .int .i64 b1, .slice ad zs.length cap] 25).keep (Upd.of_below ((Below.refl _ _).alloc (Nat.le_refl _) (.cells #[.int .i64 0, .int .i64 0, .slice none 0 0] 25)) 0 0)
  have hrs := heldF_new (w.alloc (.cells #[.int .i64 a1, .int .i64 b1, .slice ad zs.length cap] 25)) [.int .i64 0, .int .i64 0, .slice none 0 0] 25
  have e1 : (w.alloc (.cells #[.int .i64 a1, .int .i64 b1, .slice ad zs.length cap] 25)).heap.size = w.heap.size + 1 := by simp
  rw [e1] at hrs
  clear e1
  have hA0 := hide (hA.below hB0)
  have hAw := hide hA
  replace hB0 := hide hB0
  replace hbx := hide hbx
  replace hrs := hide hrs
  clear hA
  go_enter Try.func14, Try.ntmps14
  go_upto_region 1 with fail
  generalize (w.alloc (.cells #[.int .i64 a1, .int .i64 b1, .slice ad zs.length cap] 25)).alloc (.cells #[.int .i64 0, .int .i64 0, .slice none 0 0] 25) = w0 at hB0 hs0 hbx hrs hA0 ⊢
  obtain ⟨okB, hok⟩ : ∃ okB, okB = (goodPlB (a1, b1, zs) && decide (b = 2 ∨ b = 4)) := ⟨_, rfl⟩
  replace hok := hide hok
  go_cut [17] (fun s17 wx => s17 = .bool (!okB) ∧ Hid (Upd 0 0 w0 wx))
  case first =>
    have c0 := (unhide hbx).1.2 0 _ rfl
    have c1 := (unhide hbx).1.2 1 _ rfl
    have c2 := (unhide hbx).1.2 2 _ rfl
    go_wp2_with fail
    refine (unhide hG w0 (unhide hA0)).mono ?_
    rintro e w1 ⟨rfl, hu⟩
    clear c0 c1 c2
    cases hgb : goodPlB (a1, b1, zs)
    · have e : okB = false := by rw [unhide hok, hgb]; rfl
      subst e
      replace hu := hide hu
      clear hok hgb
      go_wp2
      go_meet
      exact ⟨rfl, hu⟩
    · have e : okB = decide (b = 2 ∨ b = 4) := by rw [unhide hok, hgb]; rfl
      replace hu := hide hu
      clear hok hgb
      by_cases h2 : b = 2
      · have e2 : okB = true := by rw [e, h2]; rfl
        subst e2 h2
        clear e
        go_wp2
        go_meet
        exact ⟨rfl, hu⟩
      · have q2 : (b != 2) = true := by simpa using h2
        by_cases h4 : b = 4
        · have e2 : okB = true := by rw [e, h4]; rfl
          subst e2 h4
          clear e
          go_wp2
          go_meet
          exact ⟨rfl, hu⟩
        · have q4 : (b != 4) = true := by simpa using h4
          have e2 : okB = false := by rw [e]; simp; omega
          subst e2
          clear h2 h4 e
          go_wp2
          go_meet
          exact ⟨rfl, hu⟩
  case rest =>
  obtain ⟨rfl, hu0⟩ := hcut
  replace hbx := hide ((unhide hbx).keep (unhide hu0))
  replace hrs := hide ((unhide hrs).keep (unhide hu0))
  replace hA0 := hide ((unhide hA0).below ((unhide hu0).below (Nat.le_refl _) (.inr (Nat.zero_le _))))
  replace hB0 := hide (below_upd (unhide hB0) (unhide hu0) (Nat.le_refl _) (.inr (Nat.le_refl _)))
  have hs1 : w.heap.size + 2 ≤ wc.heap.size := by have := (unhide hu0).size; omega
  clear hG hu0 hs0
  by_cases hg : GoodPl (a1, b1, zs) ∧ (b = 2 ∨ b = 4)
  case neg =>
    have hF := hide (shrinkF_no hg)
    have e : okB = false := by
      rw [unhide hok]
      by_cases hg1 : GoodPl (a1, b1, zs)
      · rw [goodPlB_yes hg1, decide_eq_false (fun h => hg ⟨hg1, h⟩)]; rfl
      · rw [goodPlB_no hg1]; rfl
    subst e
    have z0 := (unhide hrs).1.2 0 _ rfl
    have z1 := (unhide hrs).1.2 1 _ rfl
    have z2 := (unhide hrs).1.2 2 _ rfl
    have f0 := (unhide hrs).2 0
    have f1 := (unhide hrs).2 1
    have f2 := (unhide hrs).2 2
    clear hbx hA0 hR hok hg
    go_wp2
    refine bodyPost_ret (v := .agg #[.int .i64 0, .int .i64 0, .slice none 0 0]) (by simp [results, Try.results14, go_sem, z0, z1, z2]) rfl ⟨_, rfl, ?_, Upd.of_below ((((unhide hB0).setCell (by simp) _).setCell (by simp) _).setCell (by simp) _) 0 0⟩
    rw [unhide hF]
    exact ⟨_, rfl, World.ownsRow_nil _ _ _ _, fun k hk => by simp [Value.ownBlock] at hk⟩
  obtain ⟨hg1, hb⟩ := hg
  have e : okB = true := by rw [unhide hok, goodPlB_yes hg1, decide_eq_true hb]; rfl
  subst e
  clear hok
  have hF := hide (shrinkF_yes hg1 hb)
  obtain ⟨W, H, rfl, rfl, hp⟩ := hg1.nat
  obtain ⟨b, rfl⟩ := Int.eq_ofNat_of_zero_le (show 0 ≤ b by omega)
  have hb' : b = 2 ∨ b = 4 := by omega
  have hb2 := hb'
  simp only [Int.toNat_natCast] at hF
  have hp2 := hide hp
  obtain ⟨⟨W1, W2⟩, ⟨H1, H2⟩, hl, hm, hs⟩ := hp
  obtain ⟨sw1, sw2⟩ := stepsF_bd hb' W1
  obtain ⟨sh1, sh2⟩ := stepsF_bd hb' H1
  have hSt := hide (fun (n : Nat) (X : World) (h1 : 1 ≤ n) (h2 : n ≤ 512) => implStepsN n b X ⟨h1, h2⟩ hb')
  have hlt1 := hide (fun i (h : i < stepsF W b) => stepsF_lt hb' h)
  have hlt2 := hide (fun i (h : i < stepsF H b) => stepsF_lt hb' h)
  have hL : Hid (∀ k, shrinkL zs W H b (k + 1) = shrinkL zs W H b k ++ [meanF zs W H b (k % stepsF W b * b) (k / stepsF W b * b)]) := hide (fun k => shrinkL_succ zs W H b k)
  obtain ⟨sw, hsw⟩ : ∃ sw, stepsF W b = sw := ⟨_, rfl⟩
  obtain ⟨sh, hsh⟩ : ∃ sh, stepsF H b = sh := ⟨_, rfl⟩
  rw [hsw] at sw1 sw2 hlt1 hL hF
  rw [hsh] at sh1 sh2 hlt2 hF
  have hSt2 : Hid (∀ (n : Nat) (X : World), 1 ≤ n → n ≤ 512 → Calls Try.prog 51 #[.int .i64 (n : Int), .int .i64 0, .int .i64 (b : Int)] X fun e w' => (∃ k : Nat, e = .returned (.int .i64 (k : Int)) ∧ k = stepsF n b) ∧ w' = X) := hide (fun n X h1 h2 => (unhide hSt n X h1 h2).mono fun e w' ⟨he, hw⟩ => ⟨⟨_, he, rfl⟩, hw⟩)
  clear hSt
  obtain ⟨N, hN⟩ : ∃ N, sw * sh = N := ⟨_, rfl⟩
  have hN1 : 1 ≤ N := by rw [← hN]; exact Nat.mul_le_mul sw1 sh1
  have hN2 : N ≤ 4096 := by rw [← hN]; exact Nat.le_trans (Nat.mul_le_mul sw2 sh2) hm
  have hE := hide (implEmptyPlane sw sh N · hN hN1 (by omega))
  rw [hN] at hF
  replace hN := hide hN
  replace hl := hide hl
  clear hb hb' hg1 hR hm _hl _hh
  have hb4 : b ≤ 4 := by omega
  replace hb2 := hide hb2
  go_upto_region 3 with fail
  generalize wc = w1 at hrs hA0 hB0 hs1 hbx ⊢
  have hlen : zs.length ≤ 4096 := by have := (unhide hp2).m; have := (unhide hp2).l; omega
  go_cut [5] (fun s5 wx => ∃ c g, s5 = .pointer (some ⟨c, 0, none⟩) ∧ w1.heap.size ≤ c ∧ w1.heap.size ≤ g ∧ c ≠ g ∧ Hid (HeldF wx c [.int .i64 (sw : Int), .int .i64 (sh : Int), .slice (some ⟨g, 0, none⟩) N N]) ∧ Hid (wx.ownsRow g 3 1 (.slice (some ⟨g, 0, none⟩) N N) N (ints (List.replicate N 0))) ∧ Hid (Upd 0 0 w1 wx))
  case first =>
    have c0 := (unhide hbx).1.2 0 _ rfl
    have c1 := (unhide hbx).1.2 1 _ rfl
    have cl := (unhide hbx).1.1
    have hS : ∀ X : World, Below w1.heap.size w1 X → X.cell? ⟨w.heap.size, 0, none⟩ = some (.int .i64 (W : Int)) ∧ X.cell? ⟨w.heap.size, 1, none⟩ = some (.int .i64 (H : Int)) := fun X hX => ⟨(hX.cell (by simp; omega)).trans c0, (hX.cell (by simp; omega)).trans c1⟩
    replace hS := hide hS
    have hot0 := hide (heldF_new w1 [.int .i64 0, .int .i64 0, .slice none 0 0] 25)
    go_region_held3 (fun w' => w'.cell? ⟨w.heap.size, 0, none⟩ = some (.int .i64 (W : Int)) ∧ w'.cell? ⟨w.heap.size, 1, none⟩ = some (.int .i64 (H : Int))) ((refine unhide hS _ ?_; (repeat (first | exact Below.refl _ _ | refine below_drewN ?_ 1 | refine Below.setCell ?_ (by first | (simp; done) | (simp; omega) | (simp at hg0 hg1 ⊢; omega)) _ | refine Below.alloc ?_ (by first | (simp; done) | (simp; omega) | (simp at hg0 hg1 ⊢; omega)) _ | refine below_upd ?_ hue (by first | (simp; done) | (simp; omega)) (.inr (Nat.le_refl _)))))) (first | (go_at_call 50; refine (unhide hE _).mono ?_; rintro e we ⟨g, rfl, hg0, hg1, hrow, hue⟩; first | (have hot2 := hide ((unhide hot0).keep ((Upd.drew1 _).trans hue)); have x0 := (unhide hot2).1.2 0 _ rfl; have x1 := (unhide hot2).1.2 1 _ rfl; have x2 := (unhide hot2).1.2 2 _ rfl; have y0 := (unhide hot2).2 0; have y1 := (unhide hot2).2 1; have y2 := (unhide hot2).2 2) | skip) | (go_at_call 51; refine (unhide hSt2 _ _ ?_ ?_).mono ?_; omega; omega; rintro e wa ⟨⟨k, rfl, hk⟩, rfl⟩; first | (have hkw := hsw.symm.trans hk.symm; clear hk; subst hkw) | (have hkh := hsh.symm.trans hk.symm; clear hk; subst hkh)))
    all_goals
      go_wp2
      go_meet
    · exact ⟨we.heap.size, g, rfl, by have := hue.size; simp at this; omega, by simp at hg0; omega, by omega, hide (heldF_new we _ _), hide ((Own.of hrow).keep (Upd.of_below ((Below.refl we.heap.size we).alloc (Nat.le_refl _) _) 0 0)).1, hide (((Upd.drew1 w1).trans hue).trans (Upd.of_below ((Below.refl we.heap.size we).alloc (Nat.le_refl _) _) 0 0))⟩
    all_goals
      have hgb : w1.heap.size < g := by simp at hg0; omega
      have hbe := below_upd ((Below.refl w1.heap.size w1).alloc (Nat.le_refl _) (.cells #[.int .i64 0, .int .i64 0, .slice none 0 0] 25)) ((Upd.drew1 _).trans hue) (Nat.le_refl _) (.inr (Nat.le_refl _))
      have hst := (((unhide hot2).set 0 (.int .i64 (sw : Int)) (by simp)).set 1 (.int .i64 (sh : Int)) (by simp)).set 2 (.slice (some ⟨g, 0, none⟩) N N) (by simp)
      simp only [List.set_cons_zero, List.set_cons_succ] at hst
      exact ⟨w1.heap.size, g, rfl, Nat.le_refl _, by omega, by omega, hide hst, hide (ownsRow_setCell_below (ownsRow_setCell_below (ownsRow_setCell_below hrow (by simpa using hgb) _) (by simpa using hgb) _) (by simpa using hgb) _), hide (Upd.of_below (((hbe.setCell (Nat.le_refl _) _).setCell (Nat.le_refl _) _).setCell (Nat.le_refl _) _) 0 0)⟩
  case rest =>
    obtain ⟨c, g, rfl, hc0, hg0, hcg, hot, hrow, hu⟩ := hcut
    replace hbx := hide ((unhide hbx).keep (unhide hu))
    replace hrs := hide ((unhide hrs).keep (unhide hu))
    replace hA0 := hide ((unhide hA0).below ((unhide hu).below (Nat.le_refl _) (.inr (Nat.zero_le _))))
    replace hB0 := hide (below_upd (unhide hB0) (unhide hu) (Nat.le_refl _) (.inr (Nat.le_refl _)))
    clear hu hE hSt2
    have c2 : w.heap.size + 2 ≤ c := by omega
    have g2 : w.heap.size + 2 ≤ g := by omega
    clear hc0 hg0 hs1
    have k0 := (unhide hot).1.2 2 _ rfl
    go_wp2_with fail
    clear k0
    have hM := hide (fun (x y : Nat) (X : World) (h : ArgI X ad zs) (hx : x < W) (hy : y < H) => implMeanFrom W H x y b ad cap zs X (unhide hp2) hx hy (unhide hb2) h)
    go_loopw [31] (fun i wr => ∃ k : Nat, i = .int .i64 (k : Int) ∧ k ≤ N ∧ Hid (HeldF wr c [.int .i64 (sw : Int), .int .i64 (sh : Int), .slice (some ⟨g, 0, none⟩) N N]) ∧ Hid (wr.ownsRow g 3 1 (.slice (some ⟨g, 0, none⟩) N N) N (ints (shrinkL zs W H b k ++ List.replicate (N - k) 0))) ∧ Hid (HeldF wr w.heap.size [.int .i64 (W : Int), .int .i64 (H : Int), .slice ad zs.length cap]) ∧ Hid (HeldF wr (w.heap.size + 1) [.int .i64 0, .int .i64 0, .slice none 0 0]) ∧ Hid (Below w.heap.size w wr)) (fun i _ => N - (intOf i).toNat)
    case atStart => exact ⟨0, rfl, Nat.zero_le _, hot, hrow, hbx, hrs, hB0⟩
    case round =>
      clear hot hrow hbx hrs hB0 hA0
      obtain ⟨k, rfl, hkN, hot, hrow, hbx, hrs, hB0⟩ := hrel
      by_cases hlt : k < N
      · have hp : k % sw < sw := Nat.mod_lt _ (by omega)
        have hq : k / sw < sh := Nat.div_lt_of_lt_mul (by have := unhide hN; rw [this]; exact hlt)
        have hx := unhide hlt1 _ hp
        have hy := unhide hlt2 _ hq
        have hnew := hide (unhide hL k)
        obtain ⟨p, hpe⟩ : ∃ p, k % sw = p := ⟨_, rfl⟩
        obtain ⟨q, hqe⟩ : ∃ q, k / sw = q := ⟨_, rfl⟩
        have e1 : (k : Int).tmod (sw : Int) = (p : Int) := by rw [← hpe, Int.tmod_eq_emod_of_nonneg (by omega)]; simp
        have e2 : (k : Int).tdiv (sw : Int) = (q : Int) := by rw [← hqe, Int.tdiv_eq_ediv_of_nonneg (by omega)]; simp
        rw [hpe] at hx hp hnew
        rw [hqe] at hy hq hnew
        obtain ⟨x, hxe⟩ : ∃ x, p * b = x := ⟨_, rfl⟩
        obtain ⟨y, hye⟩ : ∃ y, q * b = y := ⟨_, rfl⟩
        have e3 : (p : Int) * (b : Int) = (x : Int) := by rw [← hxe]; simp
        have e4 : (q : Int) * (b : Int) = (y : Int) := by rw [← hye]; simp
        rw [hxe] at hx hnew
        rw [hye] at hy hnew
        clear hpe hqe hxe hye
        have hAr : ArgI wr ad zs := (unhide hAw).below (unhide hB0)
        have hM2 := hide (fun X : UpdT wr => unhide hM x y X.to (hAr.below (X.upd.below (Nat.le_refl _) (.inr (Nat.zero_le _)))) hx hy)
        generalize meanF zs W H b x y = v at hM2 hnew
        have c0 := fun X : UpdT wr => (((unhide hbx).1.updT X).2 0 _ rfl)
        have c1 := fun X : UpdT wr => (((unhide hbx).1.updT X).2 1 _ rfl)
        have c2 := fun X : UpdT wr => (((unhide hbx).1.updT X).2 2 _ rfl)
        have d0 := fun X : UpdT wr => (((unhide hot).1.updT X).2 0 _ rfl)
        have d2 := fun X : UpdT wr => (((unhide hot).1.updT X).2 2 _ rfl)
        have w1b : IntKind.i64.wrap (x : Int) = (x : Int) := by simp [IntKind.wrap, IntKind.bits, IntKind.signed]; omega
        have w2b : IntKind.i64.wrap (y : Int) = (y : Int) := by simp [IntKind.wrap, IntKind.bits, IntKind.signed]; omega
        have w3b : IntKind.i64.wrap (p : Int) = (p : Int) := by simp [IntKind.wrap, IntKind.bits, IntKind.signed]; omega
        have w4b : IntKind.i64.wrap (q : Int) = (q : Int) := by simp [IntKind.wrap, IntKind.bits, IntKind.signed]; omega
        have hsw0 : ¬ sw = 0 := by omega
        have kI : (0 : Int) ≤ (k : Int) := by omega
        have kL : (k : Int) < (N : Int) := by omega
        go_wp2_with fail
        refine wq_region_tail 19 (by kernel_rfl) (by kernel_rfl) ?_
        simp only [List.take_succ_cons, List.take_zero, List.drop_succ_cons, List.drop_zero]
        iterate 17
          refine WQ.step (fun K hK => ?_)
          go_simp
          refine hK _ ?_
          clear hK K
        refine WQ.step (fun K hK => ?_)
        go_simp
        refine ⟨_, fun X => Calls.updT X (unhide hM2 X), hK _ ?_⟩
        clear hK K
        refine WQ.step (fun K hK => ?_)
        go_simp
        refine hK _ ?_
        clear hK K
        refine WQ.nil ?_
        rintro _ ⟨X, rfl⟩
        clear c0 c1 c2 d0 d2 e1 e2 e3 e4 w1b w2b w3b w4b hsw0 hAr hM2
        have hX := X.upd
        generalize X.to = wt at hX ⊢
        replace hot := hide ((unhide hot).keep hX)
        replace hbx := hide ((unhide hbx).keep hX)
        replace hrs := hide ((unhide hrs).keep hX)
        replace hB0 := hide (below_upd (unhide hB0) hX (Nat.le_refl _) (.inr (Nat.le_refl _)))
        have hrow2 := ((Own.of (unhide hrow)).keep hX).1
        clear hX hrow
        have hps := part_set (shrinkL_length zs W H b k) hlt v
        rw [← unhide hnew] at hps
        have hdst : ∃ u, wt.cell? ⟨g, k, none⟩ = some u := by
          rw [hrow2.cellAt k (by omega)]; exact ⟨_, List.getElem?_eq_getElem (by have := hrow2.1; omega)⟩
        obtain ⟨u, hdst⟩ := hdst
        have hfz := hrow2.frozenAt k
        have hst := (hrow2.stored k (.int .i64 v)).1
        rw [ints_set, hps] at hst
        have hb2 := hide ((unhide hB0).setCell (p := ⟨g, k, none⟩) (by simp; omega) (.int .i64 v))
        have hot3 := hide ((unhide hot).other (g' := g) (by omega) k (.int .i64 v))
        have hbx3 := hide ((unhide hbx).other (g' := g) (by omega) k (.int .i64 v))
        have hrs3 := hide ((unhide hrs).other (g' := g) (by omega) k (.int .i64 v))
        replace hst := hide hst
        clear hps hrow2 hot hbx hrs hB0
        go_wp2
        go_roundw
        case rel => exact ⟨k + 1, by go_num, by omega, hot3, hst, hbx3, hrs3, hb2⟩
        case measure => simp [intOf]; omega
      · have hke : k = N := by omega
        subst hke
        rw [Nat.sub_self, List.replicate_zero, List.append_nil] at hrow
        have d0 := (unhide hot).1.2 0 _ rfl
        have d1 := (unhide hot).1.2 1 _ rfl
        have d2 := (unhide hot).1.2 2 _ rfl
        have z0 := (unhide hrs).1.2 0 _ rfl
        have z1 := (unhide hrs).1.2 1 _ rfl
        have z2 := (unhide hrs).1.2 2 _ rfl
        have f0 := (unhide hrs).2 0
        have f1 := (unhide hrs).2 1
        have f2 := (unhide hrs).2 2
        have hgl := (unhide hrow).lt g rfl
        replace hgl := hide hgl
        clear hot hbx hrs
        go_wp2
        refine bodyPost_ret (v := .agg #[.int .i64 (sw : Int), .int .i64 (sh : Int), .slice (some ⟨g, 0, none⟩) k k]) (by simp [results, Try.results14, go_sem, z0, z1, z2]) rfl ⟨_, rfl, ?_, Upd.of_below ((((unhide hB0).setCell (by simp) _).setCell (by simp) _).setCell (by simp) _) 0 0⟩
        rw [unhide hF]
        refine ⟨_, rfl, ?_⟩
        show Own 3 1 _ _ _ _ (shrinkL zs W H b k).length (ints (shrinkL zs W H b k))
        rw [shrinkL_length]
        have ho := Own.of (unhide hrow)
        refine own_mono (a := g) (b := wr.heap.size) ⟨?_, ho.2⟩ (by omega) (by simp)
        exact ownsRow_setCell_below (ownsRow_setCell_below (ownsRow_setCell_below ho.1 (show w.heap.size + 1 < g by omega) _) (show w.heap.size + 1 < g by omega) _) (show w.heap.size + 1 < g by omega) _
end Go.Proofs.Ytnalmingbglgfaa

/- A region that draws its order: quiet operations (loads, arithmetic, calls that lay new blocks alone), ONE variable that is made somewhere among them, and a tail that waits for all: the quiet ones are walked once, in the text's order; the variable's block is then any new one. -/
namespace Go.Proofs.Ytnalmingbglgfaa
open Go.RowKit

section
variable {P : Program} {ops : Array Oper} {md : Region.Mode} {W : World} {m : Nat}
/-- One value, in every world in which all that was there is as it was; a call may lay new blocks. -/
def oneUpon (P : Program) (w : World) (v : Value) : Result Next → Prop
  | .ok (.value u) w' => w' = w ∧ u = v
  | .ok .skip w' => w' = w ∧ v = undef
  | .ok (.enter f args) w' => w' = w ∧ Calls P f args w (fun e w'' => e = .returned v ∧ Upd 0 0 w w'')
  | _ => False
def oneAt (P : Program) (o : Oper) (a : Act) (W : World) (v : Value) : Prop := ∀ x : UpdT W, oneUpon P x.to v ((execOp a.eval o).run P x.to)
def oneK (P : Program) (ops : Array Oper) (W : World) (o : Oper) (K : Act → Prop) (a : Act) : Prop :=
  if Region.wanted o (yielded ops a.tmps) then ∃ v, oneAt P o a W v ∧ K (a.put o.dst v) else K (a.put o.dst undef)
def wpOne (P : Program) (ops : Array Oper) (W : World) (Q : Act → Prop) : List Oper → Act → Prop
  | [], a => Q a
  | o :: rest, a => oneK P ops W o (wpOne P ops W Q rest) a
structure WG (P : Program) (ops : Array Oper) (W : World) (Q : Act → Prop) (l : List Oper) (a : Act) : Prop where
  h : wpOne P ops W Q l a
theorem WG.nil {Q : Act → Prop} {a : Act} (h : Q a) : WG P ops W Q [] a := ⟨h⟩
def gOp (P : Program) (ops : Array Oper) (W : World) (m i : Nat) (K : Act → Prop) (a : Act) : Prop :=
  if i = m then K a else match ops[i]? with
  | none => K a
  | some o => oneK P ops W o K a
theorem oneK_mono {o : Oper} {a : Act} {K K' : Act → Prop} (h : ∀ a, K a → K' a) (hh : oneK P ops W o K a) : oneK P ops W o K' a := by
  unfold oneK at *
  split
  · rename_i hw; simp only [hw, if_true] at hh; obtain ⟨v, h1, h2⟩ := hh; exact ⟨v, h1, h _ h2⟩
  · rename_i hw; simp only [hw] at hh; exact h _ hh
theorem WG.step {Q : Act → Prop} {a : Act} {o : Oper} {rest : List Oper}
    (h : ∀ K : Act → Prop, (∀ a, WG P ops W Q rest a → K a) → if Region.wanted o (yielded ops a.tmps) then ∃ v, oneAt P o a W v ∧ K (a.put o.dst v) else K (a.put o.dst undef)) : WG P ops W Q (o :: rest) a :=
  ⟨h _ (fun _ h => h.h)⟩
theorem gOp_self {K : Act → Prop} {a : Act} : gOp P ops W m m K a = K a := by unfold gOp; rw [if_pos rfl]
theorem gOp_of {i : Nat} {K : Act → Prop} {a : Act} {o : Oper} (hne : i ≠ m) (ho : ops[i]? = some o) : gOp P ops W m i K a = oneK P ops W o K a := by
  unfold gOp; rw [if_neg hne]; simp only [ho]
theorem gOp_mono {i : Nat} {a : Act} {K K' : Act → Prop} (h : ∀ a, K a → K' a) (hh : gOp P ops W m i K a) : gOp P ops W m i K' a := by
  by_cases hi : i = m
  · subst hi; rw [gOp_self] at *; exact h _ hh
  · cases ho : ops[i]? with
    | none => unfold gOp at *; rw [if_neg hi] at *; simp only [ho] at *; exact h _ hh
    | some o => rw [gOp_of hi ho] at *; exact oneK_mono h hh
/-- What one operation yields in this state. -/
def OneIs (P : Program) (ops : Array Oper) (W : World) (o : Oper) (v : Value) (a : Act) : Prop :=
  (Region.wanted o (yielded ops a.tmps) = true ∧ oneAt P o a W v) ∨ (Region.wanted o (yielded ops a.tmps) = false ∧ v = undef)
theorem OneIs.oneK {o : Oper} {v : Value} {a : Act} (hy : OneIs P ops W o v a) {K : Act → Prop} (h : K (a.put o.dst v)) : oneK P ops W o K a := by
  unfold Go.Proofs.Ytnalmingbglgfaa.oneK
  rcases hy with ⟨hw, hv⟩ | ⟨hw, rfl⟩
  · simp only [hw, if_true]; exact ⟨v, hv, h⟩
  · simp only [hw, Bool.false_eq_true, if_false]; exact h
theorem OneIs.of_oneK {o : Oper} {a : Act} {K : Act → Prop} (h : Go.Proofs.Ytnalmingbglgfaa.oneK P ops W o K a) : ∃ v, OneIs P ops W o v a ∧ K (a.put o.dst v) := by
  unfold Go.Proofs.Ytnalmingbglgfaa.oneK at h
  by_cases hw : Region.wanted o (yielded ops a.tmps) = true
  · simp only [hw, if_true] at h; obtain ⟨v, h1, h2⟩ := h; exact ⟨v, .inl ⟨hw, h1⟩, h2⟩
  · simp only [hw] at h; exact ⟨undef, .inr ⟨by simpa using hw, rfl⟩, h⟩
theorem OneIs.same {o : Oper} {v : Value} {a a' : Act} (hy : OneIs P ops W o v a) (he : execOp a'.eval o = execOp a.eval o) (hw : Region.wanted o (yielded ops a'.tmps) = Region.wanted o (yielded ops a.tmps)) : OneIs P ops W o v a' := by
  unfold OneIs oneAt at *; rw [he, hw]; exact hy
theorem oneK_put {oi oj : Oper} {v : Value} (hap : oi.apart ops oj = true) (hsi : ∀ cs b, oi.op ≠ .select cs b) (hsj : ∀ cs b, oj.op ≠ .select cs b) {K : Act → Prop} {a : Act}
    (hy : OneIs P ops W oi v a) (h : oneK P ops W oj K (a.put oi.dst v)) : oneK P ops W oj (fun a' => OneIs P ops W oi v a' ∧ K (a'.put oi.dst v)) a := by
  obtain ⟨h1, h2, h3⟩ := Oper.apart_spec hap
  have keep : ∀ u, OneIs P ops W oi v (a.put oj.dst u) := fun u => hy.same (execOp_put oi hsi a oj.dst u h3) (wanted_put oi a oj.dst u h3)
  unfold oneK oneAt at *
  rw [wanted_put oj a oi.dst v h1, execOp_put oj hsj a oi.dst v h1] at h
  split
  · rename_i hw; simp only [hw, if_true] at h
    obtain ⟨u, hu, hn⟩ := h
    exact ⟨u, hu, keep u, by rw [← Act.put_comm a v u h2]; exact hn⟩
  · rename_i hw; simp only [hw] at h
    exact ⟨keep _, by rw [← Act.put_comm a v undef h2]; exact h⟩
/-- Whatever order is picked among the first n, with 'L' to be shown behind them. -/
def wpHeadG (P : Program) (md : Region.Mode) (ops : Array Oper) (W : World) (m n : Nat) (L : Array Bool → Act → Prop) : Nat → Array Bool → Act → Prop
  | 0, b, a => L b a
  | f + 1, b, a => Region.ready md ops b ≠ [] ∧ ∀ i ∈ Region.ready md ops b, i < n ∧ gOp P ops W m i (wpHeadG P md ops W m n L f (b.setIfInBounds i true)) a
theorem wpHeadG_first {n i : Nat} {oi : Oper} {v : Value} {L : Array Bool → Act → Prop} (hi : ops[i]? = some oi) (him : i ≠ m) (hsel : ∀ (j : Nat) (o : Oper) cs b, ops[j]? = some o → o.op ≠ .select cs b)
    (hs : Region.sinkB md ops n = true) (hc : Region.chainB md ops n = true) (hn : n < ops.size) (hin : i < n) (hdone : ∀ b a, L b a → ∀ j ∈ Region.ready md ops b, n ≤ j) (f : Nat) :
    ∀ (b : Array Bool) (a : Act), HeadInv md ops n b →
      (∀ j oj, ops[j]? = some oj → j ≠ i → b.getD j true = false → (∀ e ∈ oj.after, Region.binds md e = true → e.on ≠ i) → oi.apart ops oj = true) →
      i ∈ Region.ready md ops b → OneIs P ops W oi v a →
      wpHeadG P md ops W m n L f (b.setIfInBounds i true) (a.put oi.dst v) → wpHeadG P md ops W m n L (f + 1) b a := by
  have hself : ∀ (K : Act → Prop) a, OneIs P ops W oi v a → K (a.put oi.dst v) → gOp P ops W m i K a := fun K a hy h => by rw [gOp_of him hi]; exact hy.oneK h
  induction f with
  | zero =>
    intro b a inv _ hr hy H
    refine ⟨fun h => (by rw [h] at hr; cases hr), fun j hj => ?_⟩
    have hjn : j < n := Nat.lt_of_not_le fun h => tail_waits hs hc hn inv _ i rfl hin (mem_ready.1 hr).1 j h hj
    refine ⟨hjn, ?_⟩
    by_cases hji : j = i
    · subst hji; exact hself _ _ hy H
    · exact absurd (hdone _ _ H j (ready_mono hj hji)) (by omega)
  | succ f ih =>
    intro b a inv hfree hr hy H
    refine ⟨fun h => (by rw [h] at hr; cases hr), fun j hj => ?_⟩
    have hun := (mem_ready.1 hr).1
    have hjn : j < n := Nat.lt_of_not_le fun h => tail_waits hs hc hn inv _ i rfl hin hun j h hj
    refine ⟨hjn, ?_⟩
    by_cases hji : j = i
    · subst hji; exact hself _ _ hy H
    · obtain ⟨hjun, oj, hoj, hall⟩ := mem_ready.1 hj
      have hnot : ∀ e ∈ oj.after, Region.binds md e = true → e.on ≠ i := fun e he hb heq => by
        have h1 := hall e he hb
        rw [heq, getD_both hun] at h1
        cases h1
      have hfree' : ∀ k ok, ops[k]? = some ok → k ≠ i → (b.setIfInBounds j true).getD k true = false → (∀ e ∈ ok.after, Region.binds md e = true → e.on ≠ i) → oi.apart ops ok = true := fun k ok hk hki hun' hno => by
        refine hfree k ok hk hki ?_ hno
        by_cases hjk : j = k
        · subst hjk; exact hjun
        · rw [getD_set_ne true hjk] at hun'; exact hun'
      have hgo : ∀ a', OneIs P ops W oi v a' → wpHeadG P md ops W m n L f ((b.setIfInBounds i true).setIfInBounds j true) (a'.put oi.dst v) → wpHeadG P md ops W m n L (f + 1) (b.setIfInBounds j true) a' := fun a' hy' H' =>
        ih (b.setIfInBounds j true) a' (inv.set hj hjn) hfree' (ready_mono hr (Ne.symm hji)) hy' (by rw [Array.setIfInBounds_comm _ _ hji]; exact H')
      have H2 := (H.2 j (ready_mono hj hji)).2
      by_cases hjm : j = m
      · subst hjm
        rw [gOp_self] at H2 ⊢
        exact hgo a hy H2
      · rw [gOp_of hjm hoj] at H2 ⊢
        exact oneK_mono (fun a' h3 => hgo a' h3.1 h3.2) (oneK_put (hfree j oj hoj hji hjun hnot) (fun cs b => hsel i oi cs b hi) (fun cs b => hsel j oj cs b hoj) hy H2)
/-- The variable may be made first. -/
theorem wpHeadG_made {n : Nat} {L : Array Bool → Act → Prop}
    (hs : Region.sinkB md ops n = true) (hc : Region.chainB md ops n = true) (hn : n < ops.size) (hin : m < n) (hdone : ∀ b a, L b a → ∀ j ∈ Region.ready md ops b, n ≤ j) (f : Nat) :
    ∀ (b : Array Bool) (a : Act), HeadInv md ops n b → m ∈ Region.ready md ops b →
      wpHeadG P md ops W m n L f (b.setIfInBounds m true) a → wpHeadG P md ops W m n L (f + 1) b a := by
  induction f with
  | zero =>
    intro b a inv hr H
    refine ⟨fun h => (by rw [h] at hr; cases hr), fun j hj => ?_⟩
    have hjn : j < n := Nat.lt_of_not_le fun h => tail_waits hs hc hn inv _ m rfl hin (mem_ready.1 hr).1 j h hj
    refine ⟨hjn, ?_⟩
    by_cases hji : j = m
    · subst hji; rw [gOp_self]; exact H
    · exact absurd (hdone _ _ H j (ready_mono hj hji)) (by omega)
  | succ f ih =>
    intro b a inv hr H
    refine ⟨fun h => (by rw [h] at hr; cases hr), fun j hj => ?_⟩
    have hjn : j < n := Nat.lt_of_not_le fun h => tail_waits hs hc hn inv _ m rfl hin (mem_ready.1 hr).1 j h hj
    refine ⟨hjn, ?_⟩
    by_cases hji : j = m
    · subst hji; rw [gOp_self]; exact H
    · refine gOp_mono (fun a' h3 => ih (b.setIfInBounds j true) a' (inv.set hj hjn) (ready_mono hr (Ne.symm hji)) ?_) (H.2 j (ready_mono hj hji)).2
      rw [Array.setIfInBounds_comm _ _ hji]
      exact h3
/-- The walk by numbers. -/
def wpNum (P : Program) (ops : Array Oper) (W : World) (m : Nat) (Q : Act → Prop) : Nat → Nat → Act → Prop
  | 0, _, a => Q a
  | r + 1, k, a => gOp P ops W m k (wpNum P ops W m Q r (k + 1)) a
theorem wpNum_of_list {Q : Act → Prop} (s : List Oper) : ∀ (k r : Nat) (a : Act), (∀ j, j < s.length → s[j]? = ops[k + j]? ∧ k + j ≠ m) → wpOne P ops W (wpNum P ops W m Q r (k + s.length)) s a → wpNum P ops W m Q (s.length + r) k a := by
  induction s with
  | nil => intro k r a _ h; simpa [wpOne] using h
  | cons o s ih =>
    intro k r a hl h
    have h0 : ops[k]? = some o ∧ k ≠ m := by have := hl 0 (by simp); simpa [eq_comm] using this
    rw [show (o :: s).length + r = (s.length + r) + 1 by simp; omega]
    show gOp P ops W m k _ a
    rw [gOp_of h0.2 h0.1]
    refine oneK_mono (fun a' h' => ih (k + 1) r a' (fun j hj => ?_) ?_) h
    · have := hl (j + 1) (by simp; omega)
      simpa [Nat.add_assoc, Nat.add_comm 1 j] using this
    · rw [show k + 1 + s.length = k + (o :: s).length by simp; omega]; exact h'
theorem wpHeadG_lex {n g : Nat} {Lq : Act → Prop} (hsel : Region.noSelect ops = true) (hs : Region.sinkB md ops n = true) (hc : Region.chainB md ops n = true) (hn : n < ops.size) (hmn : m < n) (r : Nat) :
    ∀ (k : Nat) (b : Array Bool) (a : Act), k + r = n → HeadInv md ops n b → (m < k → b.getD m false = true) →
    Region.lexHead md ops g r k b = true → wpNum P ops W m Lq r k a → wpHeadG P md ops W m n (fun b' a' => Region.seqB md ops g n b' = true ∧ b'.getD m false = true ∧ Lq a') r b a := by
  induction r with
  | zero =>
    intro k b a hk inv hb hB h
    have hkn : k = n := by omega
    subst hkn
    exact ⟨by simpa [Region.lexHead] using hB, hb hmn, h⟩
  | succ r ih =>
    intro k b a hk inv hb hB h
    simp only [Region.lexHead, Bool.and_eq_true] at hB
    obtain ⟨⟨hr, hf⟩, hB'⟩ := hB
    have hkn : k < n := by omega
    have hr' : k ∈ Region.ready md ops b := by simpa using hr
    have hks : k < b.size := by rw [inv.size]; omega
    have hb' : m < k + 1 → (b.setIfInBounds k true).getD m false = true := fun h => by
      by_cases hkm : k = m
      · subst hkm; simp [hks]
      · rw [getD_set_ne false hkm]; exact hb (by omega)
    by_cases hkm : k = m
    · subst hkm
      have h' : wpNum P ops W k Lq r (k + 1) a := by
        have := h; unfold wpNum at this; rw [gOp_self] at this; exact this
      exact wpHeadG_made hs hc hn hkn (fun b' a' hL => seqB_ready hL.1) r b a inv hr' (ih (k + 1) _ a (by omega) (inv.set hr' hkn) hb' hB' h')
    · obtain ⟨_, o, h0, _⟩ := mem_ready.1 hr'
      have h' : oneK P ops W o (wpNum P ops W m Lq r (k + 1)) a := by
        have := h; unfold wpNum at this; rw [gOp_of hkm h0] at this; exact this
      obtain ⟨v, hy, hK⟩ := OneIs.of_oneK h'
      exact wpHeadG_first h0 hkm (Region.noSelect_spec hsel) hs hc hn hkn (fun b' a' hL => seqB_ready hL.1) r b a inv (Region.free_spec h0 hf) hr' hy
        (ih (k + 1) _ _ (by omega) (inv.set hr' hkn) hb' hB' hK)
theorem oneUpon_upon {w : World} {v : Value} {r : Result Next} {o : Oper} {a : Act} {K' : Act → World → Prop} {Q' : Exit → Act → World → Prop} (h : oneUpon P w v r) (hK : ∀ w', Upd 0 0 w w' → K' (a.put o.dst v) w') : o.upon P a K' Q' r := by
  cases r with
  | ok n w' =>
    cases n <;> simp only [oneUpon] at h <;> simp only [Oper.upon]
    case value u => obtain ⟨rfl, rfl⟩ := h; exact hK _ (Upd.refl _ _ _)
    case skip => obtain ⟨rfl, rfl⟩ := h; exact hK _ (Upd.refl _ _ _)
    case enter f args =>
      obtain ⟨rfl, hc⟩ := h
      exact hc.mono fun e w'' ⟨he, hu⟩ => by subst he; exact hK _ hu
  | halt x w' => simp only [oneUpon] at h
/-- From the walk to the run. -/
theorem wpAny_of_headG {n g : Nat} {L : Array Bool → Act → Prop} {Q' : Exit → Act → World → Prop} {om : Oper} {zs : List Value} {t : TypeId} (hom : ops[m]? = some om) (hg : om.guard = none)
    (hsel : ∀ (j : Nat) (o : Oper) cs b, ops[j]? = some o → o.op ≠ .select cs b)
    (hap : ∀ (j : Nat) o, j < n → j ≠ m → ops[j]? = some o → om.apart ops o = true)
    (hA : ∀ (a : Act) (w : World), (execOp a.eval om).run P w = .ok (.value (.pointer (some ⟨w.heap.size, 0, none⟩))) (w.alloc (.cells zs.toArray t)))
    (hL : ∀ b a w c, Upd 0 0 W w → W.heap.size ≤ c → c < w.heap.size → HeldF w c zs → L b a → wpAny P md ops Q' g b (a.put om.dst (.pointer (some ⟨c, 0, none⟩))) w)
    (hLm : ∀ b a, L b a → b.getD m false = true) (f : Nat) :
    ∀ (b : Array Bool) (a : Act) (w : World), b.size = ops.size → Upd 0 0 W w → wpHeadG P md ops W m n L f b a →
      (b.getD m true = false → wpAny P md ops Q' (f + g) b a w) ∧
      (∀ c, b.getD m false = true → W.heap.size ≤ c → c < w.heap.size → HeldF w c zs → wpAny P md ops Q' (f + g) b (a.put om.dst (.pointer (some ⟨c, 0, none⟩))) w) := by
  have hwm : ∀ y, Region.wanted om y = true := fun y => by unfold Region.wanted; rw [hg]
  induction f with
  | zero =>
    intro b a w hbs hw h
    rw [Nat.zero_add]
    refine ⟨fun hb => ?_, fun c _ h1 h2 h3 => hL b a w c hw h1 h2 h3 h⟩
    have := hLm b a h
    rw [getD_both hb] at this
    cases this
  | succ f ih =>
    intro b a w hbs hw h
    rw [show f + 1 + g = (f + g) + 1 by omega]
    refine ⟨fun hb => ⟨fun h0 => absurd h0 h.1, fun i hi => ?_⟩, fun c hb h1 h2 h3 => ⟨fun h0 => absurd h0 h.1, fun i hi => ?_⟩⟩
    · by_cases him : i = m
      · subst him
        have h' := (h.2 i hi).2
        rw [gOp_self] at h'
        have hms : i < b.size := by rw [hbs]; exact (Array.getElem?_eq_some_iff.1 hom).1
        unfold wpOp
        simp only [hom, hwm, if_true]
        refine .inl ?_
        unfold Oper.wp
        rw [hA]
        simp only [Oper.upon]
        have hu : Upd 0 0 w (w.alloc (.cells zs.toArray t)) := Upd.of_below ((Below.refl _ _).alloc (Nat.le_refl _) _) 0 0
        exact (ih (b.setIfInBounds i true) a _ (by simpa using hbs) (hw.trans hu) h').2 w.heap.size (by simp [hms]) hw.size (by simp) (heldF_new w zs t)
      · obtain ⟨_, o, ho, _⟩ := mem_ready.1 hi
        have hin := (h.2 i hi).1
        have h' := (h.2 i hi).2
        rw [gOp_of him ho] at h'
        have hb' : (b.setIfInBounds i true).getD m true = false := by rw [getD_set_ne true him]; exact hb
        unfold oneK at h'
        unfold wpOp
        simp only [ho]
        split
        · rename_i hwt
          simp only [hwt, if_true] at h'
          obtain ⟨v, hv, hn⟩ := h'
          refine .inl ?_
          have hv' : oneUpon P w v ((execOp a.eval o).run P w) := hv ⟨w, hw⟩
          exact oneUpon_upon hv' (fun w' hu => (ih _ _ w' (by simpa using hbs) (hw.trans hu) hn).1 hb')
        · rename_i hwt
          simp only [hwt] at h'
          exact (ih _ _ w (by simpa using hbs) hw h').1 hb'
    · have him : i ≠ m := fun h' => by
        have := (mem_ready.1 hi).1
        rw [h', ] at this
        have hms : m < b.size := by rw [hbs]; exact (Array.getElem?_eq_some_iff.1 hom).1
        simp [hms] at this hb
        rw [hb] at this
        cases this
      obtain ⟨_, o, ho, _⟩ := mem_ready.1 hi
      have hin := (h.2 i hi).1
      have h' := (h.2 i hi).2
      rw [gOp_of him ho] at h'
      obtain ⟨p1, p2, p3⟩ := Oper.apart_spec (hap i o hin him ho)
      have hb' : (b.setIfInBounds i true).getD m false = true := by rw [getD_set_ne false him]; exact hb
      unfold oneK at h'
      unfold wpOp
      simp only [ho]
      rw [wanted_put o a om.dst _ p1]
      split
      · rename_i hwt
        simp only [hwt, if_true] at h'
        obtain ⟨v, hv, hn⟩ := h'
        refine .inl ?_
        have hv' : oneUpon P w v ((execOp a.eval o).run P w) := hv ⟨w, hw⟩
        unfold Oper.wp
        rw [execOp_put o (hsel i o · · ho) a om.dst _ p1]
        refine oneUpon_upon hv' (fun w' hu => ?_)
        rw [Act.put_comm a _ v p2]
        exact (ih _ _ w' (by simpa using hbs) (hw.trans hu) hn).2 c hb' h1 (by have := hu.size; omega) (h3.keep hu)
      · rename_i hwt
        simp only [hwt] at h'
        rw [Act.put_comm a _ undef p2]
        exact (ih _ _ w (by simpa using hbs) hw h').2 c hb' h1 h2 h3
/-- All of the first n but number m are apart from what makes the variable. -/
def apartB (ops : Array Oper) (m n : Nat) : Bool := match ops[m]? with
  | none => false
  | some om => decide (om.guard = none) && decide (m < n) && (List.range n).all fun j => j == m || match ops[j]? with
    | none => true
    | some o => om.apart ops o
theorem wp_region_float {id : Nat} {Q : Exit → Act → World → Prop} {a : Act} {w : World} {l : List Oper} {zs : List Value} {t : TypeId} {om : Oper} (m n : Nat) (hm : P.follows .mixedOrders = true) (hB : Region.lexTailB .any l.toArray n = true)
    (hp : apartB l.toArray m n = true) (hom : l[m]? = some om)
    (hA : ∀ (a : Act) (w : World), (execOp a.eval om).run P w = .ok (.value (.pointer (some ⟨w.heap.size, 0, none⟩))) (w.alloc (.cells zs.toArray t)))
    (h : WG P l.toArray w (fun a' => ∀ w' c, Upd 0 0 w w' → w.heap.size ≤ c → c < w'.heap.size → HeldF w' c zs → wpList P l.toArray Q (l.drop n) (a'.put om.dst (.pointer (some ⟨c, 0, none⟩))) w') (l.take m ++ (l.take n).drop (m + 1)) a) :
    (Code.region id l.toArray true).wp P Q a w := by
  have hom' : l.toArray[m]? = some om := by simpa using hom
  unfold apartB at hp
  rw [hom'] at hp
  simp only [Bool.and_eq_true, decide_eq_true_eq, List.all_eq_true, List.mem_range, Bool.or_eq_true, beq_iff_eq] at hp
  obtain ⟨⟨hg, hmn⟩, hp⟩ := hp
  simp only [Region.lexTailB, Bool.and_eq_true, decide_eq_true_eq] at hB
  obtain ⟨⟨⟨⟨hsel, hn⟩, hs⟩, hc⟩, hlex⟩ := hB
  have hn' : n < l.length := by simpa using hn
  have hdl : (l.drop n).length = l.toArray.size - n := by simp
  have inv0 : HeadInv .any l.toArray n (Array.replicate l.toArray.size false) :=
    ⟨by simp, fun j oj _ hl => (by rw [getD_replicate_false] at hl; cases hl), fun u _ ht => getD_in (by simpa using ht) (getD_replicate_false _ _)⟩
  have hW : wpNum P l.toArray w m (fun a' => ∀ w' c, Upd 0 0 w w' → w.heap.size ≤ c → c < w'.heap.size → HeldF w' c zs → wpList P l.toArray Q (l.drop n) (a'.put om.dst (.pointer (some ⟨c, 0, none⟩))) w') n 0 a := by
    have hlen : (l.take m).length = m := by simp; omega
    have hlen2 : ((l.take n).drop (m + 1)).length = n - (m + 1) := by simp; omega
    have split : ∀ (Q : Act → Prop) (s u : List Oper) (a : Act), wpOne P l.toArray w Q (s ++ u) a → wpOne P l.toArray w (wpOne P l.toArray w Q u) s a := by
      intro Q s u
      induction s with
      | nil => intro a h; exact h
      | cons o s ih => intro a h; exact oneK_mono (fun a' h' => ih a' h') h
    have h1 := split _ _ _ _ h.h
    have hb := wpNum_of_list (P := P) (W := w) (m := m) (ops := l.toArray) (l.take m) 0 (n - m) a (fun j hj => by
      rw [hlen] at hj
      exact ⟨by simp [hj], by omega⟩) (Q := (fun a' => ∀ w' c, Upd 0 0 w w' → w.heap.size ≤ c → c < w'.heap.size → HeldF w' c zs → wpList P l.toArray Q (l.drop n) (a'.put om.dst (.pointer (some ⟨c, 0, none⟩))) w'))
    rw [hlen, show m + (n - m) = n by omega] at hb
    refine hb ?_
    have mono : ∀ (Q Q' : Act → Prop) (s : List Oper) (a : Act), (∀ a, Q a → Q' a) → wpOne P l.toArray w Q s a → wpOne P l.toArray w Q' s a := by
      intro Q Q' s
      induction s with
      | nil => intro a hq h; exact hq _ h
      | cons o s ih => intro a hq h; exact oneK_mono (fun a' h' => ih a' hq h') h
    refine mono _ _ _ _ (fun a' h' => ?_) h1
    rw [show n - m = (n - (m + 1)) + 1 by omega]
    show gOp P l.toArray w m (0 + m) _ a'
    rw [show 0 + m = m by omega, gOp_self]
    have hb2 := wpNum_of_list (P := P) (W := w) (m := m) (ops := l.toArray) ((l.take n).drop (m + 1)) (m + 1) 0 a' (fun j hj => by
      rw [hlen2] at hj
      exact ⟨by rw [List.getElem?_drop, List.getElem?_take, if_pos (by omega)]; simp, by omega⟩) (Q := (fun a' => ∀ w' c, Upd 0 0 w w' → w.heap.size ≤ c → c < w'.heap.size → HeldF w' c zs → wpList P l.toArray Q (l.drop n) (a'.put om.dst (.pointer (some ⟨c, 0, none⟩))) w'))
    rw [hlen2] at hb2
    exact hb2 h'
  have H := wpHeadG_lex (md := .any) (g := l.toArray.size - n) hsel hs hc hn hmn n 0 (Array.replicate l.toArray.size false) a (by omega) inv0 (fun h => by omega) hlex hW
  refine wp_region_any hm ?_
  have R := wpAny_of_headG (W := w) (Q' := Q) (g := l.toArray.size - n) (zs := zs) (t := t) hom' hg (Region.noSelect_spec hsel)
    (fun j o hj hjm ho => by have := hp j hj; rw [ho] at this; simpa [hjm] using this) hA
    (fun b a' w' c hu h1 h2 h3 hL => by
      have := wpAny_of_seq (md := .any) (Q' := Q) (l.drop n) n b (a'.put om.dst (.pointer (some ⟨c, 0, none⟩))) w' (fun j => by simp [List.getElem?_drop]) (by rw [hdl]; exact hL.1) (hL.2.2 w' c hu h1 h2 h3)
      rwa [hdl] at this) (fun b a' hL => hL.2.1) n (Array.replicate l.toArray.size false) a { w with drawn := w.drawn + 1 } (by simp) ⟨rfl, rfl, rfl, Nat.le_refl _, fun _ _ _ => rfl⟩ H
  have := R.1 (by
    have hms : m < l.length := by omega
    simp [hms])
  rwa [show n + (l.toArray.size - n) = l.toArray.size by omega] at this
end
end Go.Proofs.Ytnalmingbglgfaa

/- A region that draws its order: quiet operations, ONE among them that makes a block out of what others gave (a slice's literal, a variable), and a tail that waits for all: the walk of the text's order serves. -/
namespace Go.Proofs.Ytnalmingbglgfaa
open Go.RowKit

section
variable {P : Program} {ops : Array Oper} {md : Region.Mode} {W : World} {m : Nat}
/-- In every such world number m makes a block of these cells. -/
def makesAt (P : Program) (W : World) (om : Oper) (mk : Nat → Value) (zs : List Value) (t : TypeId) (a : Act) : Prop :=
  ∀ x : UpdT W, (execOp a.eval om).run P x.to = .ok (.value (mk x.to.heap.size)) (x.to.alloc (.cells zs.toArray t))
structure WM (P : Program) (ops : Array Oper) (W : World) (Q : Act → Prop) (m : Nat) (om : Oper) (mk : Nat → Value) (zs : List Value) (t : TypeId) (l1 l2 : List Oper) (a : Act) : Prop where
  h : wpOne P ops W (fun a' => makesAt P W om mk zs t a' ∧ wpOne P ops W Q l2 a') l1 a
variable {om : Oper} {mk : Nat → Value} {zs : List Value} {t : TypeId}
def mOp (P : Program) (ops : Array Oper) (W : World) (om : Oper) (mk : Nat → Value) (zs : List Value) (t : TypeId) (m i : Nat) (K : Act → Prop) (a : Act) : Prop :=
  if i = m then makesAt P W om mk zs t a ∧ K a else match ops[i]? with
  | none => K a
  | some o => oneK P ops W o K a
theorem mOp_self {K : Act → Prop} {a : Act} : mOp P ops W om mk zs t m m K a = (makesAt P W om mk zs t a ∧ K a) := by unfold mOp; rw [if_pos rfl]
theorem mOp_of {i : Nat} {K : Act → Prop} {a : Act} {o : Oper} (hne : i ≠ m) (ho : ops[i]? = some o) : mOp P ops W om mk zs t m i K a = oneK P ops W o K a := by
  unfold mOp; rw [if_neg hne]; simp only [ho]
theorem mOp_mono {i : Nat} {a : Act} {K K' : Act → Prop} (h : ∀ a, K a → K' a) (hh : mOp P ops W om mk zs t m i K a) : mOp P ops W om mk zs t m i K' a := by
  by_cases hi : i = m
  · subst hi; rw [mOp_self] at *; exact ⟨hh.1, h _ hh.2⟩
  · cases ho : ops[i]? with
    | none => unfold mOp at *; rw [if_neg hi] at *; simp only [ho] at *; exact h _ hh
    | some o => rw [mOp_of hi ho] at *; exact oneK_mono h hh
/-- Whatever order is picked among the first n, with 'L' to be shown behind them. -/
def wpHeadM (P : Program) (md : Region.Mode) (ops : Array Oper) (W : World) (om : Oper) (mk : Nat → Value) (zs : List Value) (t : TypeId) (m n : Nat) (L : Array Bool → Act → Prop) : Nat → Array Bool → Act → Prop
  | 0, b, a => L b a
  | f + 1, b, a => Region.ready md ops b ≠ [] ∧ ∀ i ∈ Region.ready md ops b, i < n ∧ mOp P ops W om mk zs t m i (wpHeadM P md ops W om mk zs t m n L f (b.setIfInBounds i true)) a
theorem wpHeadM_first {n i : Nat} {oi : Oper} {v : Value} {L : Array Bool → Act → Prop} (hom : ops[m]? = some om) (hi : ops[i]? = some oi) (him : i ≠ m) (hsel : ∀ (j : Nat) (o : Oper) cs b, ops[j]? = some o → o.op ≠ .select cs b)
    (hs : Region.sinkB md ops n = true) (hc : Region.chainB md ops n = true) (hn : n < ops.size) (hin : i < n) (hdone : ∀ b a, L b a → ∀ j ∈ Region.ready md ops b, n ≤ j) (f : Nat) :
    ∀ (b : Array Bool) (a : Act), HeadInv md ops n b →
      (∀ j oj, ops[j]? = some oj → j ≠ i → b.getD j true = false → (∀ e ∈ oj.after, Region.binds md e = true → e.on ≠ i) → oi.apart ops oj = true) →
      i ∈ Region.ready md ops b → OneIs P ops W oi v a →
      wpHeadM P md ops W om mk zs t m n L f (b.setIfInBounds i true) (a.put oi.dst v) → wpHeadM P md ops W om mk zs t m n L (f + 1) b a := by
  have hself : ∀ (K : Act → Prop) a, OneIs P ops W oi v a → K (a.put oi.dst v) → mOp P ops W om mk zs t m i K a := fun K a hy h => by rw [mOp_of him hi]; exact hy.oneK h
  induction f with
  | zero =>
    intro b a inv _ hr hy H
    refine ⟨fun h => (by rw [h] at hr; cases hr), fun j hj => ?_⟩
    have hjn : j < n := Nat.lt_of_not_le fun h => tail_waits hs hc hn inv _ i rfl hin (mem_ready.1 hr).1 j h hj
    refine ⟨hjn, ?_⟩
    by_cases hji : j = i
    · subst hji; exact hself _ _ hy H
    · exact absurd (hdone _ _ H j (ready_mono hj hji)) (by omega)
  | succ f ih =>
    intro b a inv hfree hr hy H
    refine ⟨fun h => (by rw [h] at hr; cases hr), fun j hj => ?_⟩
    have hun := (mem_ready.1 hr).1
    have hjn : j < n := Nat.lt_of_not_le fun h => tail_waits hs hc hn inv _ i rfl hin hun j h hj
    refine ⟨hjn, ?_⟩
    by_cases hji : j = i
    · subst hji; exact hself _ _ hy H
    · obtain ⟨hjun, oj, hoj, hall⟩ := mem_ready.1 hj
      have hnot : ∀ e ∈ oj.after, Region.binds md e = true → e.on ≠ i := fun e he hb heq => by
        have h1 := hall e he hb
        rw [heq, getD_both hun] at h1
        cases h1
      have hfree' : ∀ k ok, ops[k]? = some ok → k ≠ i → (b.setIfInBounds j true).getD k true = false → (∀ e ∈ ok.after, Region.binds md e = true → e.on ≠ i) → oi.apart ops ok = true := fun k ok hk hki hun' hno => by
        refine hfree k ok hk hki ?_ hno
        by_cases hjk : j = k
        · subst hjk; exact hjun
        · rw [getD_set_ne true hjk] at hun'; exact hun'
      have hgo : ∀ a', OneIs P ops W oi v a' → wpHeadM P md ops W om mk zs t m n L f ((b.setIfInBounds i true).setIfInBounds j true) (a'.put oi.dst v) → wpHeadM P md ops W om mk zs t m n L (f + 1) (b.setIfInBounds j true) a' := fun a' hy' H' =>
        ih (b.setIfInBounds j true) a' (inv.set hj hjn) hfree' (ready_mono hr (Ne.symm hji)) hy' (by rw [Array.setIfInBounds_comm _ _ hji]; exact H')
      have H2 := (H.2 j (ready_mono hj hji)).2
      by_cases hjm : j = m
      · subst hjm
        have hoe : oj = om := Option.some.inj (hoj.symm.trans hom)
        subst hoe
        rw [mOp_self] at H2 ⊢
        refine ⟨fun x => ?_, hgo a hy H2.2⟩
        have := H2.1 x
        rwa [execOp_put oj (fun cs b => hsel j oj cs b hoj) a oi.dst v (Oper.apart_spec (hfree j oj hoj hji hjun hnot)).1] at this
      · rw [mOp_of hjm hoj] at H2 ⊢
        exact oneK_mono (fun a' h3 => hgo a' h3.1 h3.2) (oneK_put (hfree j oj hoj hji hjun hnot) (fun cs b => hsel i oi cs b hi) (fun cs b => hsel j oj cs b hoj) hy H2)
theorem oneK_makes {o : Oper} (hap : om.apart ops o = true) (hsm : ∀ cs b, om.op ≠ .select cs b) {K : Act → Prop} {a : Act} (hm : makesAt P W om mk zs t a) (h : oneK P ops W o K a) : oneK P ops W o (fun a' => makesAt P W om mk zs t a' ∧ K a') a := by
  obtain ⟨_, _, h3⟩ := Oper.apart_spec hap
  have keep : ∀ u, makesAt P W om mk zs t (a.put o.dst u) := fun u x => by rw [execOp_put om hsm a o.dst u h3]; exact hm x
  unfold oneK at *
  split
  · rename_i hw; simp only [hw, if_true] at h; obtain ⟨u, hu, hn⟩ := h; exact ⟨u, hu, keep u, hn⟩
  · rename_i hw; simp only [hw] at h; exact ⟨keep _, h⟩
/-- The block may be made first. -/
theorem wpHeadM_made {n : Nat} {L : Array Bool → Act → Prop} (hom : ops[m]? = some om) (hsel : ∀ (j : Nat) (o : Oper) cs b, ops[j]? = some o → o.op ≠ .select cs b)
    (hs : Region.sinkB md ops n = true) (hc : Region.chainB md ops n = true) (hn : n < ops.size) (hin : m < n) (hdone : ∀ b a, L b a → ∀ j ∈ Region.ready md ops b, n ≤ j) (f : Nat) :
    ∀ (b : Array Bool) (a : Act), HeadInv md ops n b →
      (∀ j oj, ops[j]? = some oj → j ≠ m → b.getD j true = false → (∀ e ∈ oj.after, Region.binds md e = true → e.on ≠ m) → om.apart ops oj = true) →
      m ∈ Region.ready md ops b → makesAt P W om mk zs t a →
      wpHeadM P md ops W om mk zs t m n L f (b.setIfInBounds m true) a → wpHeadM P md ops W om mk zs t m n L (f + 1) b a := by
  induction f with
  | zero =>
    intro b a inv _ hr hmk H
    refine ⟨fun h => (by rw [h] at hr; cases hr), fun j hj => ?_⟩
    have hjn : j < n := Nat.lt_of_not_le fun h => tail_waits hs hc hn inv _ m rfl hin (mem_ready.1 hr).1 j h hj
    refine ⟨hjn, ?_⟩
    by_cases hji : j = m
    · subst hji; rw [mOp_self]; exact ⟨hmk, H⟩
    · exact absurd (hdone _ _ H j (ready_mono hj hji)) (by omega)
  | succ f ih =>
    intro b a inv hfree hr hmk H
    refine ⟨fun h => (by rw [h] at hr; cases hr), fun j hj => ?_⟩
    have hun := (mem_ready.1 hr).1
    have hjn : j < n := Nat.lt_of_not_le fun h => tail_waits hs hc hn inv _ m rfl hin hun j h hj
    refine ⟨hjn, ?_⟩
    by_cases hji : j = m
    · subst hji; rw [mOp_self]; exact ⟨hmk, H⟩
    · obtain ⟨hjun, oj, hoj, hall⟩ := mem_ready.1 hj
      have hnot : ∀ e ∈ oj.after, Region.binds md e = true → e.on ≠ m := fun e he hb heq => by
        have h1 := hall e he hb
        rw [heq, getD_both hun] at h1
        cases h1
      have hfree' : ∀ k ok, ops[k]? = some ok → k ≠ m → (b.setIfInBounds j true).getD k true = false → (∀ e ∈ ok.after, Region.binds md e = true → e.on ≠ m) → om.apart ops ok = true := fun k ok hk hki hun' hno => by
        refine hfree k ok hk hki ?_ hno
        by_cases hjk : j = k
        · subst hjk; exact hjun
        · rw [getD_set_ne true hjk] at hun'; exact hun'
      have H2 := (H.2 j (ready_mono hj hji)).2
      rw [mOp_of hji hoj] at H2 ⊢
      refine oneK_mono (fun a' h3 => ih (b.setIfInBounds j true) a' (inv.set hj hjn) hfree' (ready_mono hr (Ne.symm hji)) h3.1 ?_) (oneK_makes (hfree j oj hoj hji hjun hnot) (fun cs b => hsel m om cs b hom) hmk H2)
      rw [Array.setIfInBounds_comm _ _ hji]
      exact h3.2
/-- The walk by numbers. -/
def wpNumM (P : Program) (ops : Array Oper) (W : World) (om : Oper) (mk : Nat → Value) (zs : List Value) (t : TypeId) (m : Nat) (Q : Act → Prop) : Nat → Nat → Act → Prop
  | 0, _, a => Q a
  | r + 1, k, a => mOp P ops W om mk zs t m k (wpNumM P ops W om mk zs t m Q r (k + 1)) a
theorem wpNumM_of_list {Q : Act → Prop} (s : List Oper) : ∀ (k r : Nat) (a : Act), (∀ j, j < s.length → s[j]? = ops[k + j]? ∧ k + j ≠ m) → wpOne P ops W (wpNumM P ops W om mk zs t m Q r (k + s.length)) s a → wpNumM P ops W om mk zs t m Q (s.length + r) k a := by
  induction s with
  | nil => intro k r a _ h; simpa [wpOne] using h
  | cons o s ih =>
    intro k r a hl h
    have h0 : ops[k]? = some o ∧ k ≠ m := by have := hl 0 (by simp); simpa [eq_comm] using this
    rw [show (o :: s).length + r = (s.length + r) + 1 by simp; omega]
    show mOp P ops W om mk zs t m k _ a
    rw [mOp_of h0.2 h0.1]
    refine oneK_mono (fun a' h' => ih (k + 1) r a' (fun j hj => ?_) ?_) h
    · have := hl (j + 1) (by simp; omega)
      simpa [Nat.add_assoc, Nat.add_comm 1 j] using this
    · rw [show k + 1 + s.length = k + (o :: s).length by simp; omega]; exact h'
theorem wpHeadM_lex {n g : Nat} {Lq : Act → Prop} (hom : ops[m]? = some om) (hsel : Region.noSelect ops = true) (hs : Region.sinkB md ops n = true) (hc : Region.chainB md ops n = true) (hn : n < ops.size) (hmn : m < n) (r : Nat) :
    ∀ (k : Nat) (b : Array Bool) (a : Act), k + r = n → HeadInv md ops n b → (m < k → b.getD m false = true) →
    Region.lexHead md ops g r k b = true → wpNumM P ops W om mk zs t m Lq r k a → wpHeadM P md ops W om mk zs t m n (fun b' a' => Region.seqB md ops g n b' = true ∧ b'.getD m false = true ∧ Lq a') r b a := by
  induction r with
  | zero =>
    intro k b a hk inv hb hB h
    have hkn : k = n := by omega
    subst hkn
    exact ⟨by simpa [Region.lexHead] using hB, hb hmn, h⟩
  | succ r ih =>
    intro k b a hk inv hb hB h
    simp only [Region.lexHead, Bool.and_eq_true] at hB
    obtain ⟨⟨hr, hf⟩, hB'⟩ := hB
    have hkn : k < n := by omega
    have hr' : k ∈ Region.ready md ops b := by simpa using hr
    have hks : k < b.size := by rw [inv.size]; omega
    have hb' : m < k + 1 → (b.setIfInBounds k true).getD m false = true := fun h => by
      by_cases hkm : k = m
      · subst hkm; simp [hks]
      · rw [getD_set_ne false hkm]; exact hb (by omega)
    by_cases hkm : k = m
    · subst hkm
      have h' : makesAt P W om mk zs t a ∧ wpNumM P ops W om mk zs t k Lq r (k + 1) a := by
        have := h; unfold wpNumM at this; rw [mOp_self] at this; exact this
      exact wpHeadM_made hom (Region.noSelect_spec hsel) hs hc hn hkn (fun b' a' hL => seqB_ready hL.1) r b a inv (Region.free_spec hom hf) hr' h'.1 (ih (k + 1) _ a (by omega) (inv.set hr' hkn) hb' hB' h'.2)
    · obtain ⟨_, o, h0, _⟩ := mem_ready.1 hr'
      have h' : oneK P ops W o (wpNumM P ops W om mk zs t m Lq r (k + 1)) a := by
        have := h; unfold wpNumM at this; rw [mOp_of hkm h0] at this; exact this
      obtain ⟨v, hy, hK⟩ := OneIs.of_oneK h'
      exact wpHeadM_first hom h0 hkm (Region.noSelect_spec hsel) hs hc hn hkn (fun b' a' hL => seqB_ready hL.1) r b a inv (Region.free_spec h0 hf) hr' hy
        (ih (k + 1) _ _ (by omega) (inv.set hr' hkn) hb' hB' hK)
/-- From the walk to the run. -/
theorem wpAny_of_headM {n g : Nat} {L : Array Bool → Act → Prop} {Q' : Exit → Act → World → Prop} (hom : ops[m]? = some om) (hg : om.guard = none)
    (hsel : ∀ (j : Nat) (o : Oper) cs b, ops[j]? = some o → o.op ≠ .select cs b)
    (hap : ∀ (j : Nat) o, j < n → j ≠ m → ops[j]? = some o → (∀ d, om.dst = some d → d ∉ o.looksAt ops) ∧ (∀ d, om.dst = some d → o.dst ≠ some d))
    (hL : ∀ b a w c, Upd 0 0 W w → W.heap.size ≤ c → c < w.heap.size → HeldF w c zs → L b a → wpAny P md ops Q' g b (a.put om.dst (mk c)) w)
    (hLm : ∀ b a, L b a → b.getD m false = true) (f : Nat) :
    ∀ (b : Array Bool) (a : Act) (w : World), b.size = ops.size → Upd 0 0 W w → wpHeadM P md ops W om mk zs t m n L f b a →
      (b.getD m true = false → wpAny P md ops Q' (f + g) b a w) ∧
      (∀ c, b.getD m false = true → W.heap.size ≤ c → c < w.heap.size → HeldF w c zs → wpAny P md ops Q' (f + g) b (a.put om.dst (mk c)) w) := by
  have hwm : ∀ y, Region.wanted om y = true := fun y => by unfold Region.wanted; rw [hg]
  induction f with
  | zero =>
    intro b a w hbs hw h
    rw [Nat.zero_add]
    refine ⟨fun hb => ?_, fun c _ h1 h2 h3 => hL b a w c hw h1 h2 h3 h⟩
    have := hLm b a h
    rw [getD_both hb] at this
    cases this
  | succ f ih =>
    intro b a w hbs hw h
    rw [show f + 1 + g = (f + g) + 1 by omega]
    refine ⟨fun hb => ⟨fun h0 => absurd h0 h.1, fun i hi => ?_⟩, fun c hb h1 h2 h3 => ⟨fun h0 => absurd h0 h.1, fun i hi => ?_⟩⟩
    · by_cases him : i = m
      · subst him
        have h' := (h.2 i hi).2
        rw [mOp_self] at h'
        have hms : i < b.size := by rw [hbs]; exact (Array.getElem?_eq_some_iff.1 hom).1
        unfold wpOp
        simp only [hom, hwm, if_true]
        refine .inl ?_
        unfold Oper.wp
        rw [show (execOp a.eval om).run P w = .ok (.value (mk w.heap.size)) (w.alloc (.cells zs.toArray t)) from h'.1 ⟨w, hw⟩]
        simp only [Oper.upon]
        have hu : Upd 0 0 w (w.alloc (.cells zs.toArray t)) := Upd.of_below ((Below.refl _ _).alloc (Nat.le_refl _) _) 0 0
        exact (ih (b.setIfInBounds i true) a _ (by simpa using hbs) (hw.trans hu) h'.2).2 w.heap.size (by simp [hms]) hw.size (by simp) (heldF_new w zs t)
      · obtain ⟨_, o, ho, _⟩ := mem_ready.1 hi
        have hin := (h.2 i hi).1
        have h' := (h.2 i hi).2
        rw [mOp_of him ho] at h'
        have hb' : (b.setIfInBounds i true).getD m true = false := by rw [getD_set_ne true him]; exact hb
        unfold oneK at h'
        unfold wpOp
        simp only [ho]
        split
        · rename_i hwt
          simp only [hwt, if_true] at h'
          obtain ⟨v, hv, hn⟩ := h'
          refine .inl ?_
          have hv' : oneUpon P w v ((execOp a.eval o).run P w) := hv ⟨w, hw⟩
          exact oneUpon_upon hv' (fun w' hu => (ih _ _ w' (by simpa using hbs) (hw.trans hu) hn).1 hb')
        · rename_i hwt
          simp only [hwt] at h'
          exact (ih _ _ w (by simpa using hbs) hw h').1 hb'
    · have him : i ≠ m := fun h' => by
        have := (mem_ready.1 hi).1
        rw [h', ] at this
        have hms : m < b.size := by rw [hbs]; exact (Array.getElem?_eq_some_iff.1 hom).1
        simp [hms] at this hb
        rw [hb] at this
        cases this
      obtain ⟨_, o, ho, _⟩ := mem_ready.1 hi
      have hin := (h.2 i hi).1
      have h' := (h.2 i hi).2
      rw [mOp_of him ho] at h'
      obtain ⟨p1, p2⟩ := hap i o hin him ho
      have hb' : (b.setIfInBounds i true).getD m false = true := by rw [getD_set_ne false him]; exact hb
      unfold oneK at h'
      unfold wpOp
      simp only [ho]
      rw [wanted_put o a om.dst _ p1]
      split
      · rename_i hwt
        simp only [hwt, if_true] at h'
        obtain ⟨v, hv, hn⟩ := h'
        refine .inl ?_
        have hv' : oneUpon P w v ((execOp a.eval o).run P w) := hv ⟨w, hw⟩
        unfold Oper.wp
        rw [execOp_put o (hsel i o · · ho) a om.dst _ p1]
        refine oneUpon_upon hv' (fun w' hu => ?_)
        rw [Act.put_comm a _ v p2]
        exact (ih _ _ w' (by simpa using hbs) (hw.trans hu) hn).2 c hb' h1 (by have := hu.size; omega) (h3.keep hu)
      · rename_i hwt
        simp only [hwt] at h'
        rw [Act.put_comm a _ undef p2]
        exact (ih _ _ w (by simpa using hbs) hw h').2 c hb' h1 h2 h3
/-- None of the first n but number m looks at what is made or puts its own there. -/
def unseenB (ops : Array Oper) (m n : Nat) : Bool := match ops[m]? with
  | none => false
  | some om => decide (om.guard = none) && decide (m < n) && (List.range n).all fun j => j == m || match ops[j]? with
    | none => true
    | some o => match om.dst with
      | none => true
      | some d => !(o.looksAt ops).contains d && decide (o.dst ≠ some d)
theorem wp_region_make {id : Nat} {Q : Exit → Act → World → Prop} {a : Act} {w : World} {l : List Oper} (m n : Nat) (mk : Nat → Value) (zs : List Value) (t : TypeId) {om : Oper} (hm : P.follows .mixedOrders = true) (hB : Region.lexTailB .any l.toArray n = true)
    (hp : unseenB l.toArray m n = true) (hom : l[m]? = some om)
    (h : WM P l.toArray w (fun a' => ∀ w' c, Upd 0 0 w w' → w.heap.size ≤ c → c < w'.heap.size → HeldF w' c zs → wpList P l.toArray Q (l.drop n) (a'.put om.dst (mk c)) w') m om mk zs t (l.take m) ((l.take n).drop (m + 1)) a) :
    (Code.region id l.toArray true).wp P Q a w := by
  have hom' : l.toArray[m]? = some om := by simpa using hom
  unfold unseenB at hp
  rw [hom'] at hp
  simp only [Bool.and_eq_true, decide_eq_true_eq, List.all_eq_true, List.mem_range, Bool.or_eq_true, beq_iff_eq] at hp
  obtain ⟨⟨hg, hmn⟩, hp⟩ := hp
  simp only [Region.lexTailB, Bool.and_eq_true, decide_eq_true_eq] at hB
  obtain ⟨⟨⟨⟨hsel, hn⟩, hs⟩, hc⟩, hlex⟩ := hB
  have hn' : n < l.length := by simpa using hn
  have hdl : (l.drop n).length = l.toArray.size - n := by simp
  have inv0 : HeadInv .any l.toArray n (Array.replicate l.toArray.size false) :=
    ⟨by simp, fun j oj _ hl => (by rw [getD_replicate_false] at hl; cases hl), fun u _ ht => getD_in (by simpa using ht) (getD_replicate_false _ _)⟩
  have hW : wpNumM P l.toArray w om mk zs t m (fun a' => ∀ w' c, Upd 0 0 w w' → w.heap.size ≤ c → c < w'.heap.size → HeldF w' c zs → wpList P l.toArray Q (l.drop n) (a'.put om.dst (mk c)) w') n 0 a := by
    have hlen : (l.take m).length = m := by simp; omega
    have hlen2 : ((l.take n).drop (m + 1)).length = n - (m + 1) := by simp; omega
    have hb := wpNumM_of_list (P := P) (W := w) (m := m) (om := om) (mk := mk) (zs := zs) (t := t) (ops := l.toArray) (l.take m) 0 (n - m) a (fun j hj => by
      rw [hlen] at hj
      exact ⟨by simp [hj], by omega⟩) (Q := (fun a' => ∀ w' c, Upd 0 0 w w' → w.heap.size ≤ c → c < w'.heap.size → HeldF w' c zs → wpList P l.toArray Q (l.drop n) (a'.put om.dst (mk c)) w'))
    rw [hlen, show m + (n - m) = n by omega] at hb
    refine hb ?_
    have mono : ∀ (Q Q' : Act → Prop) (s : List Oper) (a : Act), (∀ a, Q a → Q' a) → wpOne P l.toArray w Q s a → wpOne P l.toArray w Q' s a := by
      intro Q Q' s
      induction s with
      | nil => intro a hq h; exact hq _ h
      | cons o s ih => intro a hq h; exact oneK_mono (fun a' h' => ih a' hq h') h
    refine mono _ _ _ _ (fun a' h' => ?_) h.h
    rw [show n - m = (n - (m + 1)) + 1 by omega]
    show mOp P l.toArray w om mk zs t m (0 + m) _ a'
    rw [show 0 + m = m by omega, mOp_self]
    refine ⟨h'.1, ?_⟩
    have hb2 := wpNumM_of_list (P := P) (W := w) (m := m) (om := om) (mk := mk) (zs := zs) (t := t) (ops := l.toArray) ((l.take n).drop (m + 1)) (m + 1) 0 a' (fun j hj => by
      rw [hlen2] at hj
      exact ⟨by rw [List.getElem?_drop, List.getElem?_take, if_pos (by omega)]; simp, by omega⟩) (Q := (fun a' => ∀ w' c, Upd 0 0 w w' → w.heap.size ≤ c → c < w'.heap.size → HeldF w' c zs → wpList P l.toArray Q (l.drop n) (a'.put om.dst (mk c)) w'))
    rw [hlen2] at hb2
    exact hb2 h'.2
  have H := wpHeadM_lex (md := .any) (g := l.toArray.size - n) hom' hsel hs hc hn hmn n 0 (Array.replicate l.toArray.size false) a (by omega) inv0 (fun h => by omega) hlex hW
  refine wp_region_any hm ?_
  have R := wpAny_of_headM (W := w) (Q' := Q) (g := l.toArray.size - n) (zs := zs) (t := t) (mk := mk) hom' hg (Region.noSelect_spec hsel)
    (fun j o hj hjm ho => by
      have := hp j hj
      rw [ho] at this
      simp only [hjm, false_or] at this
      cases hd : om.dst with
      | none => exact ⟨fun d h' => (by cases h'), fun d h' => (by cases h')⟩
      | some d0 =>
        rw [hd] at this
        simp only [Bool.and_eq_true, Bool.not_eq_true', decide_eq_true_eq, List.contains_eq_mem, decide_eq_false_iff_not] at this
        exact ⟨fun d h' => (by cases h'; exact this.1), fun d h' => (by cases h'; exact this.2)⟩)
    (fun b a' w' c hu h1 h2 h3 hL => by
      have := wpAny_of_seq (md := .any) (Q' := Q) (l.drop n) n b (a'.put om.dst (mk c)) w' (fun j => by simp [List.getElem?_drop]) (by rw [hdl]; exact hL.1) (hL.2.2 w' c hu h1 h2 h3)
      rwa [hdl] at this) (fun b a' hL => hL.2.1) n (Array.replicate l.toArray.size false) a { w with drawn := w.drawn + 1 } (by simp) ⟨rfl, rfl, rfl, Nat.le_refl _, fun _ _ _ => rfl⟩ H
  have := R.1 (by
    have hms : m < l.length := by omega
    simp [hms])
  rwa [show n + (l.toArray.size - n) = l.toArray.size by omega] at this
theorem wpOne_mono {Q Q' : Act → Prop} (hq : ∀ a, Q a → Q' a) (s : List Oper) : ∀ a, wpOne P ops W Q s a → wpOne P ops W Q' s a := by
  induction s with
  | nil => intro a h; exact hq _ h
  | cons o s ih => intro a h; exact oneK_mono (fun a' h' => ih a' h') h
/-- The two halves of the walk, each behind the wrapper. -/
theorem WM.of {Q : Act → Prop} {l1 l2 : List Oper} {a : Act} (h : WG P ops W (fun a' => makesAt P W om mk zs t a' ∧ WG P ops W Q l2 a') l1 a) : WM P ops W Q m om mk zs t l1 l2 a :=
  ⟨wpOne_mono (fun _ h' => ⟨h'.1, h'.2.h⟩) l1 a h.h⟩
end
end Go.Proofs.Ytnalmingbglgfaa

/- The specification's Shrink: the walk of l7Shrink. -/
namespace Go.Proofs.Ytnalmingbglgfaa
open Go.RowKit
attribute [local go_sem] oneAt oneUpon

/-- What the loops of the specification keep: a plane in block c that grows, the argument's box, the answer's. -/
structure AccSt (w wr : World) (c : Nat) (W H sw sh : Int) (ad : Option Addr) (n cap : Nat) (L : List Int) (ad2 : Option Addr) (cp : Nat) : Prop where
  o : HeldF wr c [.int .i64 sw, .int .i64 sh, .slice ad2 L.length cp]
  r : wr.ownsRow (c + 1) 3 1 (.slice ad2 L.length cp) L.length (ints L)
  b : HeldF wr w.heap.size [.int .i64 W, .int .i64 H, .slice ad n cap]
  z : HeldF wr (w.heap.size + 1) [.int .i64 0, .int .i64 0, .slice none 0 0]
  k : Below w.heap.size w wr
theorem mod_row {y sw x : Nat} (h : x < sw) : (y * sw + x) % sw = x ∧ (y * sw + x) / sw = y := by
  constructor
  · rw [Nat.add_comm, Nat.add_mul_mod_self_right, Nat.mod_eq_of_lt h]
  · rw [Nat.add_comm, Nat.add_mul_div_right _ _ (by omega), Nat.div_eq_of_lt h, Nat.zero_add]
set_option maxHeartbeats 8000000 in
set_option maxRecDepth 100000 in
theorem specL7Shrink (W H b : Nat) (ad : Option Addr) (cap : Nat) (zs : List Int) (w : World) (hp : PlOk W H zs) (hb : b = 2 ∨ b = 4) (hA : ArgI w ad zs) :
    Calls Try.prog 58 #[.agg #[.int .i64 (W : Int), .int .i64 (H : Int), .slice ad zs.length cap], .int .i64 (b : Int)] w fun e w' => ∃ u, e = .returned u ∧ OwnPl w' w.heap.size w'.heap.size u (((stepsF W b : Nat) : Int), ((stepsF H b : Nat) : Int), shrinkL zs W H b (stepsF W b * stepsF H b)) ∧ Upd 0 0 w w' := by
  have hB0 := (((Below.refl w.heap.size w).alloc (Nat.le_refl _) (.cells #[.int .i64 (W : Int), .int .i64 (H : Int), .slice ad zs.length cap] 25)).alloc (by simp) (.cells #[.int .i64 0, .int .i64 0, .slice none 0 0] 25))
  have hs0 : ((w.alloc (.cells #[.int .i64 (W : Int), .int .i64 (H : Int), .slice ad zs.length cap] 25)).alloc (.cells #[.int .i64 0, .int .i64 0, .slice none 0 0] 25)).heap.size = w.heap.size + 2 := by simp
  have hbx := (heldF_new w [.int .i64 (W : Int), .int .i64 (H : Int), .slice ad zs.length cap] 25).keep (Upd.of_below ((Below.refl _ _).alloc (Nat.le_refl _) (.cells #[.int .i64 0, .int .i64 0, .slice none 0 0] 25)) 0 0)
  have hrs := heldF_new (w.alloc (.cells #[.int .i64 (W : Int), .int .i64 (H : Int), .slice ad zs.length cap] 25)) [.int .i64 0, .int .i64 0, .slice none 0 0] 25
  have e1 : (w.alloc (.cells #[.int .i64 (W : Int), .int .i64 (H : Int), .slice ad zs.length cap] 25)).heap.size = w.heap.size + 1 := by simp
  rw [e1] at hrs
  clear e1
  obtain ⟨W1, W2⟩ := hp.w
  obtain ⟨H1, H2⟩ := hp.h
  obtain ⟨sw1, sw2⟩ := stepsF_bd hb W1
  obtain ⟨sh1, sh2⟩ := stepsF_bd hb H1
  have hlt1 := hide (fun i (h : i < stepsF W b) => stepsF_lt hb h)
  have hlt2 := hide (fun i (h : i < stepsF H b) => stepsF_lt hb h)
  have hL : Hid (∀ k, shrinkL zs W H b (k + 1) = shrinkL zs W H b k ++ [meanF zs W H b (k % stepsF W b * b) (k / stepsF W b * b)]) := hide (fun k => shrinkL_succ zs W H b k)
  have eW : ((W : Int) + (b : Int) - 1).tdiv (b : Int) = ((stepsF W b : Nat) : Int) := by
    rw [Int.tdiv_eq_ediv_of_nonneg (by omega)]; unfold stepsF; rcases hb with rfl | rfl <;> omega
  have eH : ((H : Int) + (b : Int) - 1).tdiv (b : Int) = ((stepsF H b : Nat) : Int) := by
    rw [Int.tdiv_eq_ediv_of_nonneg (by omega)]; unfold stepsF; rcases hb with rfl | rfl <;> omega
  generalize stepsF W b = sw at *
  generalize stepsF H b = sh at *
  have hb0 : ¬ b = 0 := by omega
  have hb4 : b ≤ 4 := by omega
  have hb1 : 1 ≤ b := by omega
  replace hb := hide hb
  replace hB0 := hide hB0
  replace hbx := hide hbx
  replace hrs := hide hrs
  replace hA := hide hA
  have r1 : IntKind.i64.wrap ((W : Int) + (b : Int)) = (W : Int) + (b : Int) := by simp [IntKind.wrap, IntKind.bits, IntKind.signed]; omega
  have r2 : IntKind.i64.wrap ((H : Int) + (b : Int)) = (H : Int) + (b : Int) := by simp [IntKind.wrap, IntKind.bits, IntKind.signed]; omega
  have r3 : IntKind.i64.wrap ((W : Int) + (b : Int) - 1) = (W : Int) + (b : Int) - 1 := by simp [IntKind.wrap, IntKind.bits, IntKind.signed]; omega
  have r4 : IntKind.i64.wrap ((H : Int) + (b : Int) - 1) = (H : Int) + (b : Int) - 1 := by simp [IntKind.wrap, IntKind.bits, IntKind.signed]; omega
  have r5 : IntKind.i64.wrap (sw : Int) = (sw : Int) := by simp [IntKind.wrap, IntKind.bits, IntKind.signed]; omega
  have r6 : IntKind.i64.wrap (sh : Int) = (sh : Int) := by simp [IntKind.wrap, IntKind.bits, IntKind.signed]; omega
  go_enter Try.func58, Try.ntmps58
  go_wp2_with fail
  generalize (w.alloc (.cells #[.int .i64 (W : Int), .int .i64 (H : Int), .slice ad zs.length cap] 25)).alloc (.cells #[.int .i64 0, .int .i64 0, .slice none 0 0] 25) = w0 at hB0 hs0 hbx hrs ⊢
  have c0 := fun X : UpdT w0 => (((unhide hbx).1.updT X).2 0 _ rfl)
  have c1 := fun X : UpdT w0 => (((unhide hbx).1.updT X).2 1 _ rfl)
  refine wp_region_float (zs := [.int .i64 0, .int .i64 0, .slice none 0 0]) (t := 25) 15 16 (by kernel_rfl) (by kernel_rfl) (by kernel_rfl) (by rfl) (by intro a w; go_simp) ?_
  simp only [List.take_succ_cons, List.take_zero, List.drop_succ_cons, List.drop_zero, List.cons_append, List.nil_append, List.drop_nil]
  iterate 15
    refine WG.step (fun K hK => ?_)
    go_simp
    refine hK _ ?_
    clear hK K
  refine WG.nil ?_
  clear c0 c1 r1 r2 r3 r4 r5 r6 eW eH
  intro w1 c hw h1 h2 hot
  have hc : w.heap.size + 2 ≤ c := by omega
  replace hbx := hide ((unhide hbx).keep hw)
  replace hrs := hide ((unhide hrs).keep hw)
  replace hB0 := hide (below_upd (unhide hB0) hw (Nat.le_refl _) (.inr (Nat.le_refl _)))
  clear hw h1 hs0
  have x0 := hot.1.2 0 _ rfl
  have x1 := hot.1.2 1 _ rfl
  have x2 := hot.1.2 2 _ rfl
  have y0 := hot.2 0
  have y1 := hot.2 1
  have y2 := hot.2 2
  replace hot := hide hot
  go_upto_region 2 with fail
  have hot2 := (((unhide hot).set 0 (.int .i64 (sw : Int)) (by simp)).set 1 (.int .i64 (sh : Int)) (by simp)).set 2 (.slice none 0 0) (by simp)
  simp only [List.set_cons_zero, List.set_cons_succ] at hot2
  have hbx2 := (((unhide hbx).other (g' := c) (by omega) 0 (.int .i64 (sw : Int))).other (g' := c) (by omega) 1 (.int .i64 (sh : Int))).other (g' := c) (by omega) 2 (.slice none 0 0)
  have hrs2 := (((unhide hrs).other (g' := c) (by omega) 0 (.int .i64 (sw : Int))).other (g' := c) (by omega) 1 (.int .i64 (sh : Int))).other (g' := c) (by omega) 2 (.slice none 0 0)
  have hB2 := (((unhide hB0).setCell (p := ⟨c, 0, none⟩) (show w.heap.size ≤ c by omega) (.int .i64 (sw : Int))).setCell (p := ⟨c, 1, none⟩) (show w.heap.size ≤ c by omega) (.int .i64 (sh : Int))).setCell (p := ⟨c, 2, none⟩) (show w.heap.size ≤ c by omega) (.slice none 0 0)
  clear x0 x1 x2 y0 y1 y2 hot hbx hrs hB0 h2
  generalize ((w1.setCell ⟨c, 0, none⟩ (.int .i64 (sw : Int))).setCell ⟨c, 1, none⟩ (.int .i64 (sh : Int))).setCell ⟨c, 2, none⟩ (.slice none 0 0) = w2 at hot2 hbx2 hrs2 hB2 ⊢
  have hSt : Hid (AccSt w w2 c W H sw sh ad zs.length cap (shrinkL zs W H b 0) none 0) := hide ⟨hot2, World.ownsRow_nil _ _ _ _, hbx2, hrs2, hB2⟩
  clear hot2 hbx2 hrs2 hB2
  have hlen : zs.length ≤ 4096 := by have := hp.m; have := hp.l; omega
  have hNN : Hid (∀ y x, y < sh → x < sw → y * sw + x < sh * sw) := hide (fun y x hy hx => by
    have h1 : (y + 1) * sw ≤ sh * sw := Nat.mul_le_mul hy (Nat.le_refl _)
    rw [Nat.add_mul, Nat.one_mul] at h1
    omega)
  have hNN4 : sh * sw ≤ 4096 := by
    have := Nat.mul_le_mul sh2 sw2
    have h2 := hp.m
    rw [Nat.mul_comm W H] at h2
    omega
  have hgo_round_y : True := trivial
  go_wp2_with fail
  go_loopw [6] (fun s wr => ∃ (y m : Nat) (ad2 : Option Addr) (cp : Nat), s = .int .i64 (y : Int) ∧ y ≤ sh ∧ Hid (m = y * sw) ∧ Hid (AccSt w wr c W H sw sh ad zs.length cap (shrinkL zs W H b m) ad2 cp)) (fun s _ => sh - (intOf s).toNat)
  case atStart => exact ⟨0, 0, none, 0, rfl, Nat.zero_le _, hide (by simp), hSt⟩
  case round =>
    clear hSt
    obtain ⟨y, m, ad2, cp, rfl, hy, hm, hSt⟩ := hrel
    have d1 := (unhide hSt).o.1.2 1 _ rfl
    by_cases hyl : y < sh
    · go_wp2_with fail
      clear d1
      go_loopw [7] (fun s wr => ∃ (x : Nat) (ad2 : Option Addr) (cp : Nat), s = .int .i64 (x : Int) ∧ x ≤ sw ∧ Hid (AccSt w wr c W H sw sh ad zs.length cap (shrinkL zs W H b (m + x)) ad2 cp)) (fun s _ => sw - (intOf s).toNat)
      case atStart => exact ⟨0, ad2, cp, rfl, Nat.zero_le _, hSt⟩
      case round =>
        clear hSt
        obtain ⟨x, ad2, cp, rfl, hx, hSt⟩ := hrel
        have d0 := (unhide hSt).o.1.2 0 _ rfl
        by_cases hxl : x < sw
        · have hx0 := unhide hlt1 _ hxl
          have hy0 := unhide hlt2 _ hyl
          obtain ⟨X0, hX0⟩ : ∃ k, x * b = k := ⟨_, rfl⟩
          obtain ⟨Y0, hY0⟩ : ∃ k, y * b = k := ⟨_, rfl⟩
          have e1 : (x : Int) * (b : Int) = (X0 : Int) := by rw [← hX0]; simp
          have e2 : (y : Int) * (b : Int) = (Y0 : Int) := by rw [← hY0]; simp
          have hnew : Hid (shrinkL zs W H b (m + (x + 1)) = shrinkL zs W H b (m + x) ++ [meanF zs W H b X0 Y0]) := hide (by
            have := unhide hL (m + x)
            rw [unhide hm, (mod_row hxl).1, (mod_row hxl).2, hX0, hY0] at this
            rw [unhide hm]; exact this)
          have hml : m + x < 4096 := by have := unhide hNN y x hyl hxl; rw [← unhide hm] at this; omega
          rw [hX0] at hx0
          rw [hY0] at hy0
          replace hX0 := hide hX0
          replace hY0 := hide hY0
          obtain ⟨nx1, nx2, nx3, nx4⟩ := manyF_bd (b := b) hx0 hb1
          obtain ⟨ny1, ny2, ny3, ny4⟩ := manyF_bd (b := b) hy0 hb1
          have hM : Hid (meanF zs W H b X0 Y0 = (boxSum zs W X0 (manyF W b X0) Y0 (manyF H b Y0) + ((manyF W b X0 * manyF H b Y0 / 2 : Nat) : Int)) / ((manyF W b X0 * manyF H b Y0 : Nat) : Int)) := hide rfl
          generalize meanF zs W H b X0 Y0 = M at hM hnew
          generalize manyF W b X0 = nx at nx1 nx2 nx3 nx4 hM
          generalize manyF H b Y0 = ny at ny1 ny2 ny3 ny4 hM
          obtain ⟨R, hR⟩ : ∃ R, R = X0 + nx := ⟨_, rfl⟩
          obtain ⟨T, hT⟩ : ∃ T, T = Y0 + ny := ⟨_, rfl⟩
          have hR2 : R = min (X0 + b) W := by omega
          have hT2 : T = min (Y0 + b) H := by omega
          have hnx4 : nx ≤ 4 := by omega
          have hny4 : ny ≤ 4 := by omega
          have hS0 := hide (fun m => boxSum_bd hp.s W X0 nx Y0 m hnx4)
          have hS1 := hide (fun j n => rowSum_bd hp.s W j X0 n)
          have hsm := hide (smp_bd hp.s)
          have hRW : R ≤ W := by omega
          have hTH : T ≤ H := by omega
          have hX0R : X0 ≤ R := by omega
          have hY0T : Y0 ≤ T := by omega
          have hRX4 : R ≤ X0 + 4 := by omega
          have hTY4 : T ≤ Y0 + 4 := by omega
          replace hR := hide hR
          replace hT := hide hT
          replace hR2 := hide hR2
          replace hT2 := hide hT2
          clear nx4 ny4
          have a0 := (unhide hSt).b.1.2 0 _ rfl
          have a1 := (unhide hSt).b.1.2 1 _ rfl
          have a2 := (unhide hSt).b.1.2 2 _ rfl
          have hAr := hide ((unhide hA).below (unhide hSt).k)
          go_wp2_with fail
          go_loop [8, 9, 10] (fun s n j => ∃ (Sv : Int) (nv jv : Nat), s = .int .i64 Sv ∧ n = .int .i64 (nv : Int) ∧ j = .int .i64 (jv : Int) ∧ Y0 ≤ jv ∧ jv ≤ T ∧ Hid (Sv = boxSum zs W X0 nx Y0 (jv - Y0)) ∧ Hid (nv = nx * (jv - Y0)) ∧ nv ≤ 16) (fun _ _ j => T - (intOf j).toNat)
          case atStart => exact ⟨0, 0, Y0, rfl, rfl, rfl, Nat.le_refl _, hY0T, hide (by rw [Nat.sub_self]; rfl), hide (by rw [Nat.sub_self]; rfl), by omega⟩
          case round =>
            obtain ⟨Sv, nv, jv, rfl, rfl, rfl, hj0, hj1, hSv, hnv, hnv2⟩ := hrel
            have hSb : 0 ≤ Sv ∧ Sv ≤ 4080 := by
              have h1 := unhide hS0 (jv - Y0)
              have h2 := unhide hSv
              generalize boxSum zs W X0 nx Y0 (jv - Y0) = q at h1 h2
              omega
            obtain ⟨s0, s1⟩ := hSb
            by_cases hjT : jv < T
            · have hstep : Hid (boxSum zs W X0 nx Y0 (jv + 1 - Y0) = boxSum zs W X0 nx Y0 (jv - Y0) + rowSum zs W jv X0 nx) := hide (by
                rw [show jv + 1 - Y0 = (jv - Y0) + 1 by omega]
                show boxSum zs W X0 nx Y0 (jv - Y0) + rowSum zs W (Y0 + (jv - Y0)) X0 nx = _
                rw [show Y0 + (jv - Y0) = jv by omega])
              have hnst : Hid (nx * (jv + 1 - Y0) = nv + nx) := hide (by rw [unhide hnv, show jv + 1 - Y0 = (jv - Y0) + 1 by omega, Nat.mul_add, Nat.mul_one])
              have hnv3 : nv + nx ≤ 16 := by rw [← unhide hnst]; exact Nat.mul_le_mul hnx4 (show jv + 1 - Y0 ≤ 4 by omega)
              have t1 : (jv : Int) < (Y0 : Int) + (b : Int) := by have := unhide hT2; omega
              have t2 : (jv : Int) < (H : Int) := by omega
              obtain ⟨m2, hm2⟩ : ∃ k, jv * W = k := ⟨_, rfl⟩
              have e3 : (jv : Int) * (W : Int) = (m2 : Int) := by rw [← hm2]; simp
              have hm2l : m2 + W ≤ zs.length := by
                have h1 : (jv + 1) * W ≤ H * W := Nat.mul_le_mul (by omega) (Nat.le_refl _)
                rw [Nat.add_mul, Nat.one_mul, hm2, Nat.mul_comm H W, ← hp.l] at h1
                exact h1
              replace hm2 := hide hm2
              go_wp2_with fail
              clear t1 t2
              go_loop [8, 9, 11] (fun s n i => ∃ (Sw : Int) (nw iv : Nat), s = .int .i64 Sw ∧ n = .int .i64 (nw : Int) ∧ i = .int .i64 (iv : Int) ∧ X0 ≤ iv ∧ iv ≤ R ∧ Hid (Sw = Sv + rowSum zs W jv X0 (iv - X0)) ∧ nw = nv + (iv - X0)) (fun _ _ i => R - (intOf i).toNat)
              case atStart => exact ⟨Sv, nv, X0, rfl, rfl, rfl, Nat.le_refl _, hX0R, hide (by rw [Nat.sub_self]; unfold rowSum; omega), by omega⟩
              case round =>
                obtain ⟨Sw, nw, iv, rfl, rfl, rfl, hi0, hi1, hSw, hnw⟩ := hrel
                have hSb : 0 ≤ Sw ∧ Sw ≤ 6000 := by
                  have h1 := unhide hS1 jv (iv - X0)
                  have h2 := unhide hSw
                  generalize rowSum zs W jv X0 (iv - X0) = q at h1 h2
                  omega
                obtain ⟨v0, v1⟩ := hSb
                have hnw2 : nw ≤ 20 := by omega
                replace hnw := hide hnw
                by_cases hiR : iv < R
                · have hst2 : Hid (rowSum zs W jv X0 (iv + 1 - X0) = rowSum zs W jv X0 (iv - X0) + zs.getD (m2 + iv) 0) := hide (by
                    rw [show iv + 1 - X0 = (iv - X0) + 1 by omega]
                    show rowSum zs W jv X0 (iv - X0) + zs.getD (jv * W + (X0 + (iv - X0))) 0 = _
                    rw [show X0 + (iv - X0) = iv by omega, unhide hm2])
                  have hil : m2 + iv < zs.length := by omega
                  have t1 : (iv : Int) < (X0 : Int) + (b : Int) := by have := unhide hR2; omega
                  have t2 : (iv : Int) < (W : Int) := by omega
                  obtain ⟨bb, off, hade, hbl, hcl⟩ := (unhide hAr) (ne_of_lt_length hil)
                  have hck := hcl (m2 + iv) hil
                  have hv := unhide hsm (m2 + iv)
                  generalize zs.getD (m2 + iv) 0 = v at hst2 hck hv
                  obtain ⟨hv0, hv1⟩ := hv
                  have k1 : (0 : Int) ≤ (m2 : Int) + (iv : Int) := by omega
                  have k2 : (m2 : Int) + (iv : Int) < (zs.length : Int) := by omega
                  have k3 : ((m2 : Int) + (iv : Int)).toNat = m2 + iv := by omega
                  clear hcl hbl
                  rw [hade] at a2
                  go_wp2
                  go_round
                  case rel => exact ⟨Sw + v, nw + 1, iv + 1, rfl, by go_num, by go_num, by omega, by omega, hide (by rw [unhide hst2, unhide hSw]; omega), by have := unhide hnw; omega⟩
                  case measure => simp [intOf]; omega
                · have hie : iv = R := by omega
                  have hen : Hid (Sw = boxSum zs W X0 nx Y0 (jv + 1 - Y0)) := hide (by
                    rw [unhide hstep, unhide hSw, unhide hSv, show iv - X0 = nx by have := unhide hR; omega])
                  have hnn : nw = nv + nx := by have := unhide hR; have := unhide hnw; omega
                  have hex : ¬ ((iv : Int) < (X0 : Int) + (b : Int)) ∨ ((iv : Int) < (X0 : Int) + (b : Int)) ∧ ¬ ((iv : Int) < (W : Int)) := by
                    have := unhide hR2; omega
                  replace hie := hide hie
                  replace hnn := hide hnn
                  clear hiR
                  rcases hex with t1 | ⟨t1, t2⟩
                  · go_wp2
                    go_round
                    case rel => exact ⟨Sw, nw, jv + 1, rfl, rfl, by go_num, by omega, by omega, hen, hide (by rw [unhide hnst, unhide hnn]), by rw [unhide hnn]; exact hnv3⟩
                    case measure => simp [intOf]; omega
                  · go_wp2
                    go_round
                    case rel => exact ⟨Sw, nw, jv + 1, rfl, rfl, by go_num, by omega, by omega, hen, hide (by rw [unhide hnst, unhide hnn]), by rw [unhide hnn]; exact hnv3⟩
                    case measure => simp [intOf]; omega
            · have hje : jv = T := by omega
              have hex : ¬ ((jv : Int) < (Y0 : Int) + (b : Int)) ∨ ((jv : Int) < (Y0 : Int) + (b : Int)) ∧ ¬ ((jv : Int) < (H : Int)) := by
                have := unhide hT2; omega
              have hny : jv - Y0 = ny := by have := unhide hT; omega
              have hN1 : 1 ≤ nv := by rw [unhide hnv, hny]; exact Nat.mul_le_mul nx1 ny1
              have hen : Hid ((Sv + ((nv / 2 : Nat) : Int)) / (nv : Int) = M) := hide (by
                rw [unhide hM, unhide hSv, unhide hnv, hny])
              obtain ⟨n2, hn2⟩ : ∃ k, nv / 2 = k := ⟨_, rfl⟩
              rw [hn2] at hen
              have f1 : (nv : Int).tdiv 2 = (n2 : Int) := by rw [Int.tdiv_eq_ediv_of_nonneg (by omega)]; omega
              have f2 : (Sv + (n2 : Int)).tdiv (nv : Int) = M := by rw [Int.tdiv_eq_ediv_of_nonneg (by omega)]; exact unhide hen
              have hM0 : 0 ≤ M := by rw [← unhide hen]; exact Int.ediv_nonneg (by omega) (by omega)
              have hM1 : M ≤ 5000 := by
                rw [← unhide hen]
                exact Int.le_trans (Int.ediv_le_self _ (by omega)) (by omega)
              have g1 : IntKind.i64.wrap (n2 : Int) = (n2 : Int) := by simp [IntKind.wrap, IntKind.bits, IntKind.signed]; omega
              have g2 : IntKind.i64.wrap (Sv + (n2 : Int)) = Sv + (n2 : Int) := by simp [IntKind.wrap, IntKind.bits, IntKind.signed]; omega
              have g3 : IntKind.i64.wrap M = M := by simp [IntKind.wrap, IntKind.bits, IntKind.signed]; omega
              have g4 : ¬ nv = 0 := by omega
              replace hn2 := hide hn2
              replace hje := hide hje
              replace hny := hide hny
              clear hjT hen
              go_upto_region 11 with fail
              go_cut [54] (fun s54 wx => s54 = .bool false ∧ wx = wr)
              case first =>
                clear f1 f2 g1 g2 g3 g4
                rcases hex with t1 | ⟨t1, t2⟩
                · go_wp2
                  go_meet
                  exact ⟨rfl, rfl⟩
                · go_wp2
                  go_meet
                  exact ⟨rfl, rfl⟩
              case rest =>
                obtain ⟨rfl, rfl⟩ := hcut
                clear hex
                obtain ⟨C, hCe⟩ : ∃ C, shrinkL zs W H b (m + x) = C := ⟨_, rfl⟩
                have hCl : C.length = m + x := by rw [← hCe, shrinkL_length]
                rw [hCe] at hSt hnew
                replace hCe := hide hCe
                have hCb : C.length ≤ 5000 := by omega
                replace hCl := hide hCl
                obtain ⟨ho, hr, hbb, hz, hk⟩ := unhide hSt
                have p4 := ho.1.2 2 _ rfl
                have hOd := hide hr
                have pBd := hide ho
                have bBd := hide hbb
                have zBd := hide hz
                have kBd := hide hk
                have hsX : c < wc.heap.size := ho.1.1
                obtain ⟨iI, hI, hI0, hI1, hI2⟩ := info_parts infoI
                have q2 := fun X : UpdT wc => (((unhide pBd).1.updT X).2 2 _ rfl)
                clear hSt ho hr hbb hz hk a0 a1 a2 hAr d0 p4
                go_wp2_with fail
                refine wp_region_make 8 9 (fun k => .slice (some ⟨k, 0, none⟩) 1 1) [.int .i64 M] 3 (by kernel_rfl) (by kernel_rfl) (by kernel_rfl) (by rfl) (WM.of ?_)
                simp only [List.take_succ_cons, List.take_zero, List.drop_succ_cons, List.drop_zero, List.drop_nil]
                iterate 8
                  refine WG.step (fun K hK => ?_)
                  go_simp
                  refine hK _ ?_
                  clear hK K
                refine WG.nil ⟨fun X => ?_, ?_⟩
                · go_simp
                refine WG.nil ?_
                clear q2 f1 f2 g1 g2 g3 g4
                intro w5 k hw h1 h2 hnk
                have pB5 := hide ((unhide pBd).keep hw)
                have bB5 := hide ((unhide bBd).keep hw)
                have zB5 := hide ((unhide zBd).keep hw)
                have kB5 := hide (below_upd (unhide kBd) hw (Nat.le_refl _) (.inr (Nat.le_refl _)))
                have hO5 := hide ((Own.of (unhide hOd)).keep hw).1
                have hs5 : c < w5.heap.size := by have := hw.size; omega
                have hrn : Hid (RdJ w5 (.slice (some ⟨k, 0, none⟩) 1 1) [M]) := hide (.inr ⟨k, 0, 1, rfl, h2, fun j hj => by
                  have hj0 : j = 0 := by simp at hj; omega
                  subst hj0
                  exact hnk.1.2 0 _ rfl⟩)
                clear hw h1 h2 hnk pBd bBd zBd kBd hOd
                refine wpList_appI rfl (.tmp 90) (.tmp 97) rfl (c + 1) (.slice ad2 C.length cp) C rfl (unhide hO5) _ [M] rfl (unhide hrn) (by simp; omega) (by omega) ?_
                (intro v6 w6 ho6 hg6 _; have hu6 := upd_of_grownI hg6 (unhide hO5); have pB6 := hide ((unhide pB5).upd hu6 (.inl (Nat.le_refl _))); have bB6 := hide ((unhide bB5).upd hu6 (.inl (by omega))); have zB6 := hide ((unhide zB5).upd hu6 (.inl (by omega))); have kB6 := hide (below_upd (unhide kB5) hu6 (Nat.le_refl _) (.inl (by omega))); obtain ⟨ad6, cp6, rfl, _⟩ := OwnI.rd (Own.of ho6); have p60 := (unhide pB6).1.2 2 _ rfl; have z60 := (unhide pB6).2 2; replace ho6 := hide ho6; clear hg6 hu6)
                go_wp2
                have hst := (unhide pB6).set 2 (.slice ad6 (C.length + 1) cp6) (by simp)
                simp only [List.set_cons_zero, List.set_cons_succ] at hst
                have hac := ownsRow_setCell_below (a := ⟨c, 2, none⟩) (unhide ho6) (show c < c + 1 by omega) (.slice ad6 (C.length + 1) cp6)
                have hbb6 := (unhide bB6).other (g' := c) (by omega) 2 (.slice ad6 (C.length + 1) cp6)
                have hzz6 := (unhide zB6).other (g' := c) (by omega) 2 (.slice ad6 (C.length + 1) cp6)
                have hkk6 := (unhide kB6).setCell (p := ⟨c, 2, none⟩) (show w.heap.size ≤ c by omega) (.slice ad6 (C.length + 1) cp6)
                have hle : (C ++ [M]).length = C.length + 1 := by simp
                have hfin : Hid (AccSt w (w6.setCell ⟨c, 2, none⟩ (.slice ad6 (C.length + 1) cp6)) c W H sw sh ad zs.length cap (shrinkL zs W H b (m + (x + 1))) ad6 cp6) := hide ⟨by rw [unhide hnew, hle]; exact hst, by rw [unhide hnew]; exact hac, hbb6, hzz6, hkk6⟩
                clear hst hac hbb6 hzz6 hkk6 pB6 bB6 zB6 kB6 ho6 p60 z60
                go_roundw
                case rel => exact ⟨x + 1, ad6, cp6, by go_num, by omega, hfin⟩
                case measure => simp [intOf]; omega
        · have hxe : x = sw := by omega
          subst hxe
          have hmn : Hid (m + x = (y + 1) * x) := hide (by rw [unhide hm, Nat.add_mul, Nat.one_mul])
          go_wp2
          clear d0
          go_roundw
          case rel => exact ⟨y + 1, m + x, ad2, cp, by go_num, by omega, hmn, hSt⟩
          case measure => simp [intOf]; omega
    · have hye : y = sh := by omega
      subst hye
      obtain ⟨ho, hr, hbb, hz, hk⟩ := unhide hSt
      have hmn : Hid (m = sw * y) := hide (by rw [unhide hm, Nat.mul_comm])
      have a0 := ho.1.2 0 _ rfl
      have a2 := ho.1.2 2 _ rfl
      have z0 := hz.1.2 0 _ rfl
      have z1 := hz.1.2 1 _ rfl
      have z2 := hz.1.2 2 _ rfl
      have f0 := hz.2 0
      have f1 := hz.2 1
      have f2 := hz.2 2
      replace hr := hide hr
      replace hk := hide hk
      clear hSt ho hbb hz
      go_wp2
      refine bodyPost_ret (v := .agg #[.int .i64 (sw : Int), .int .i64 (y : Int), .slice ad2 (shrinkL zs W H b m).length cp]) (by simp [results, Try.results58, go_sem, z0, z1, z2]) rfl ⟨_, rfl, ?_, Upd.of_below ((((unhide hk).setCell (by simp) _).setCell (by simp) _).setCell (by simp) _) 0 0⟩
      rw [← unhide hmn]
      refine ⟨_, rfl, ?_⟩
      have ho := Own.of (unhide hr)
      refine own_mono (a := c + 1) (b := wr.heap.size) ⟨?_, ho.2⟩ (by omega) (by simp)
      exact ownsRow_setCell_below (ownsRow_setCell_below (ownsRow_setCell_below ho.1 (show w.heap.size + 1 < c + 1 by omega) _) (show w.heap.size + 1 < c + 1 by omega) _) (show w.heap.size + 1 < c + 1 by omega) _
end Go.Proofs.Ytnalmingbglgfaa
