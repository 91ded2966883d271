/- The texts behind FnExactGoodStill, part 1: what each of them says stands at its head. -/
import Derived.Test.YthkppcncajmniaaDoorGGoodStill0
import Derived.Deep.RegionHeld3
import Derived.Deep.QuietTactic
import Derived.BigQuiet
import Derived.Maps.AppendAt
import Derived.Deep.RegionWith
import Derived.Deep.WholeRow
import Derived.Laws.ResultCell
import Derived.Laws.CopyOwn
import Derived.Lib.Bytealg
import Derived.Lib.Strings
import Derived.Deep.LoopGhost
import Derived.Deep.DeepCutAuto
/- The walk of Passes: the specification's. -/
namespace Go.Proofs.YthkppcncajmniaaDoor
open Go.RowKit

set_option maxHeartbeats 1000000 in
theorem specL4Count (n f s : Int) (w : World) (hn0 : 1 ≤ n) (hn : n ≤ 512) (hf : 0 ≤ f ∧ f ≤ 4) (hs : 1 ≤ s ∧ s ≤ 8) :
    Calls Tryd.prog 59 #[.int .i64 n, .int .i64 f, .int .i64 s] w fun e w' => e = .returned (.int .i64 (cntF n f s)) ∧ w' = w := by
  obtain ⟨f1, f2⟩ := hf
  obtain ⟨s1, s2⟩ := hs
  by_cases h : n ≤ f
  · have hE := hide (show cntF n f s = 0 from if_pos h)
    go_enter Tryd.func59, Tryd.ntmps59
    go_wp2
    go_ret
    exact ⟨ret_int (unhide hE).symm, rfl⟩
  · have hE := hide (show cntF n f s = (n - f + s - 1) / s from if_neg h)
    have hdb := cntF_bd (n := n) (f := f) (s := s) (by omega) f1 ⟨s1, s2⟩
    rw [unhide hE] at hdb
    have h' : f < n := by omega
    go_enter Tryd.func59, Tryd.ntmps59
    go_wp2
    go_ret
    exact ⟨ret_int (unhide hE).symm, rfl⟩

def tabCells : List Value := [.int .i64 0, .int .i64 0, .int .i64 8, .int .i64 8, .int .i64 4, .int .i64 0, .int .i64 8, .int .i64 8, .int .i64 0, .int .i64 4, .int .i64 4, .int .i64 8, .int .i64 2, .int .i64 0, .int .i64 4, .int .i64 4, .int .i64 0, .int .i64 2, .int .i64 2, .int .i64 4, .int .i64 1, .int .i64 0, .int .i64 2, .int .i64 2, .int .i64 0, .int .i64 1, .int .i64 1, .int .i64 2]
theorem tabCells_at (k : Nat) (h : k < 7) : tabCells[4 * k]? = some (.int .i64 (passAt k).1) ∧ tabCells[4 * k + 1]? = some (.int .i64 (passAt k).2.1) ∧ tabCells[4 * k + 2]? = some (.int .i64 (passAt k).2.2.1) ∧ tabCells[4 * k + 3]? = some (.int .i64 (passAt k).2.2.2) := by
  rcases (show k = 0 ∨ k = 1 ∨ k = 2 ∨ k = 3 ∨ k = 4 ∨ k = 5 ∨ k = 6 by omega) with e | e | e | e | e | e | e <;> subst e <;> exact ⟨rfl, rfl, rfl, rfl⟩

set_option maxHeartbeats 8000000 in
set_option maxRecDepth 1000000 in
theorem specL4Passes (a b : Int) (w : World) (ha : 1 ≤ a ∧ a ≤ 512) (hb : 1 ≤ b ∧ b ≤ 512) :
    Calls Tryd.prog 54 #[.int .i64 a, .int .i64 b] w fun e w' => ∃ v, e = .returned v ∧ OwnPs w' w.heap.size w'.heap.size v (passTo a b 7) ∧ Upd 0 0 w w' := by
  have hH := held_new w tabCells 3
  obtain ⟨i0, hi, hz0, hz1, hz2⟩ := info_parts infoPs
  obtain ⟨a1, a2⟩ := ha
  obtain ⟨b1, b2⟩ := hb
  go_enter Tryd.func54, Tryd.ntmps54
  go_wp2_with fail
  have hB0 := (Below.refl w.heap.size w).alloc (Nat.le_refl _) (.cells tabCells.toArray 3)
  have hs0 : (w.alloc (.cells tabCells.toArray 3)).heap.size = w.heap.size + 1 := by simp
  change Code.wp _ _ _ _ (w.alloc (.cells tabCells.toArray 3))
  generalize w.alloc (.cells tabCells.toArray 3) = W0 at hH hB0 hs0 ⊢
  go_loopw [6, 7] (fun out i wr => ∃ k I : Nat, k ≤ 7 ∧ Hid (I = 4 * k) ∧ i = .int .i64 I ∧ wr.ownsRow (w.heap.size + 1) 73 6 out (passTo a b k).length (cellsPs (passTo a b k)) ∧ Below (w.heap.size + 1) W0 wr) (fun _ i _ => 28 - (intOf i).toNat)
  case atStart => exact ⟨0, 0, by omega, hide rfl, rfl, World.ownsRow_nil _ _ _ _, Below.refl _ _⟩
  case round =>
    obtain ⟨k, I, hk, hI, rfl, hown, hbel⟩ := hrel
    by_cases hlt : k < 7
    · obtain ⟨t0, t1, t2, t3⟩ := tabCells_at k hlt
      rw [← unhide hI] at t0 t1 t2 t3
      have hI28 : I ≤ 24 := by have := unhide hI; omega
      have hbd := passAt_bd k hlt
      have hadd := hide (show passTo a b (k + 1) = passTo a b k ++ passAdd a b k from rfl)
      have hAdd := hide (show passAdd a b k = if 0 < cntF a (passAt k).1 (passAt k).2.2.1 ∧ 0 < cntF b (passAt k).2.1 (passAt k).2.2.2 then [passOne a b k] else [] from rfl)
      have hOne := hide (show passOne a b k = ((passAt k).1, (passAt k).2.1, (passAt k).2.2.1, (passAt k).2.2.2, cntF a (passAt k).1 (passAt k).2.2.1, cntF b (passAt k).2.1 (passAt k).2.2.2) from rfl)
      have hln := passTo_len a b k
      generalize passOne a b k = one at hOne hAdd
      generalize passAdd a b k = add at hAdd hadd
      generalize passAt k = q at t0 t1 t2 t3 hbd hAdd hOne
      obtain ⟨x, y, sx, sy⟩ := q
      simp only at t0 t1 t2 t3 hbd hAdd hOne
      obtain ⟨hx, hy, hsx, hsy, _, _⟩ := hbd
      have hC1 := hide (fun W => specL4Count a x sx W a1 a2 hx hsx)
      have hC2 := hide (fun W => specL4Count b y sy W b1 b2 hy hsy)
      have hb1 := cntF_bd (n := a) (f := x) (s := sx) (by omega) hx.1 hsx
      have hb2 := cntF_bd (n := b) (f := y) (s := sy) (by omega) hy.1 hsy
      generalize cntF a x sx = c1 at hC1 hb1 hAdd hOne
      generalize cntF b y sy = c2 at hC2 hb2 hAdd hOne
      have hc0 := (hbel.cell (p := ⟨w.heap.size, I, none⟩) (by simp)).trans (hH.2 _ _ t0)
      have hc1 := (hbel.cell (p := ⟨w.heap.size, I + 1, none⟩) (by simp)).trans (hH.2 _ _ t1)
      have hc2 := (hbel.cell (p := ⟨w.heap.size, I + 2, none⟩) (by simp)).trans (hH.2 _ _ t2)
      have hc3 := (hbel.cell (p := ⟨w.heap.size, I + 3, none⟩) (by simp)).trans (hH.2 _ _ t3)
      have i0' : (0 : Int) ≤ (I : Int) := by omega
      have n2' : ((I : Int) + 2).toNat = I + 2 := by omega
      have n3' : ((I : Int) + 3).toNat = I + 3 := by omega
      have j1' : (0 : Int) ≤ (I : Int) + 1 := by omega
      have j2' : (0 : Int) ≤ (I : Int) + 2 := by omega
      have j3' : (0 : Int) ≤ (I : Int) + 3 := by omega
      have i1' : (I : Int) < 28 := by omega
      have i2' : (I : Int) + 1 < 28 := by omega
      have i3' : (I : Int) + 2 < 28 := by omega
      have i4' : (I : Int) + 3 < 28 := by omega
      have hw1 : IntKind.i64.wrap ((I : Int) + 1) = (I : Int) + 1 := by simp [IntKind.wrap, IntKind.bits, IntKind.signed]; omega
      have hw2 : IntKind.i64.wrap ((I : Int) + 2) = (I : Int) + 2 := by simp [IntKind.wrap, IntKind.bits, IntKind.signed]; omega
      have hw3 : IntKind.i64.wrap ((I : Int) + 3) = (I : Int) + 3 := by simp [IntKind.wrap, IntKind.bits, IntKind.signed]; omega
      clear t0 t1 t2 t3
      have hszw := hbel.size
      go_wp2_with fail
      go_region_held3 (fun w' => w'.cell? ⟨w.heap.size, I, none⟩ = some (.int .i64 x) ∧ w'.cell? ⟨w.heap.size, I + 1, none⟩ = some (.int .i64 y) ∧ w'.cell? ⟨w.heap.size, I + 2, none⟩ = some (.int .i64 sx) ∧ w'.cell? ⟨w.heap.size, I + 3, none⟩ = some (.int .i64 sy)) (go_keep) (fail)
      go_wp2_with fail
      refine (unhide hC1 _).mono ?_
      rintro e w1 ⟨rfl, hw1⟩
      subst hw1
      go_wp2_with fail
      refine (unhide hC2 _).mono ?_
      rintro e w1 ⟨rfl, hw1⟩
      subst hw1
      clear hC1 hC2
      by_cases hc : 0 < c1 ∧ 0 < c2
      · have hA1 := hide (show passTo a b (k + 1) = passTo a b k ++ [(x, y, sx, sy, c1, c2)] by rw [unhide hadd, unhide hAdd, if_pos hc, unhide hOne])
        have q1 : decide (0 < c1) = true := by simp; omega
        have q2 : decide (0 < c2) = true := by simp; omega
        clear hc
        have hnew : ∀ j u, [Value.int .i64 x, .int .i64 y, .int .i64 sx, .int .i64 sy, .int .i64 c1, .int .i64 c2][j]? = some u → (((wr.alloc (.cells #[.int .i64 x, .int .i64 y, .int .i64 sx, .int .i64 sy, .int .i64 c1, .int .i64 c2] 73)).alloc (.cells #[.int .i64 x, .int .i64 y, .int .i64 sx, .int .i64 sy, .int .i64 c1, .int .i64 c2] 73)).drew).cell? ((⟨wr.heap.size + 1, 0, none⟩ : Addr).add j) = some u := by
          have := six_new (wr.alloc (.cells #[.int .i64 x, .int .i64 y, .int .i64 sx, .int .i64 sy, .int .i64 c1, .int .i64 c2] 73)) (.int .i64 x) (.int .i64 y) (.int .i64 sx) (.int .i64 sy) (.int .i64 c1) (.int .i64 c2) 73
          simp only [World.size_alloc] at this
          exact this
        go_wp2_with (at_builtin; refine wpList_append_own _ rfl (.tmp 58) (.tmp 60) 70 rfl (w.heap.size + 1) 73 i0 (.agg #[.int .i64 0, .int .i64 0, .int .i64 0, .int .i64 0, .int .i64 0, .int .i64 0]) 6 48 Tryd.underlying70 hi hz0 hz1 hz2 rfl (by decide) _ _ _ rfl (((hown.alloc _).alloc _).drew) ⟨wr.heap.size + 1, 0, none⟩ 1 1 [.int .i64 x, .int .i64 y, .int .i64 sx, .int .i64 sy, .int .i64 c1, .int .i64 c2] rfl rfl hnew (six_one _ _ _ _ _ _) (by unfold maxLen; omega) (by omega) (by simp; omega) ?_)
        intro v' w2 hown' hgrow _
        have hbel2 := hide (((below_drewN ((hbel.alloc (by omega) (.cells #[.int .i64 x, .int .i64 y, .int .i64 sx, .int .i64 sy, .int .i64 c1, .int .i64 c2] 73)).alloc (by simp; omega) (.cells #[.int .i64 x, .int .i64 y, .int .i64 sx, .int .i64 sy, .int .i64 c1, .int .i64 c2] 73)) 1)).grown hgrow (by simp; omega) (fun j hj => (hown.lt j hj).1))
        rw [← cellsPs_snoc (passTo a b k) (x, y, sx, sy, c1, c2), ← unhide hA1] at hown'
        have hln2 : (passTo a b k).length + 1 = (passTo a b (k + 1)).length := by rw [unhide hA1]; simp
        rw [hln2] at hown'
        replace hown' := hide hown'
        have hI2 : Hid (I + 4 = 4 * (k + 1)) := hide (by have := unhide hI; omega)
        clear hgrow hnew hown hbel hln2
        go_wp2
        go_roundw
        case rel => exact ⟨k + 1, I + 4, by omega, hI2, by go_num, unhide hown', unhide hbel2⟩
        case measure => simp [intOf]; omega
      · have hA1 := hide (show passTo a b (k + 1) = passTo a b k by rw [unhide hadd, unhide hAdd, if_neg hc, List.append_nil])
        have hI2 : Hid (I + 4 = 4 * (k + 1)) := hide (by have := unhide hI; omega)
        have hbel2 := hide (below_drewN (hbel.alloc (by omega) (.cells #[.int .i64 x, .int .i64 y, .int .i64 sx, .int .i64 sy, .int .i64 c1, .int .i64 c2] 73)) 1)
        have hown2 := hide (hown.alloc (.cells #[.int .i64 x, .int .i64 y, .int .i64 sx, .int .i64 sy, .int .i64 c1, .int .i64 c2] 73)).drew
        by_cases h1 : 0 < c1
        · have q1 : decide (0 < c1) = true := by simp; omega
          have q2 : decide (0 < c2) = false := by simp; omega
          clear hc hown hbel
          go_wp2
          go_roundw
          case rel => exact ⟨k + 1, I + 4, by omega, hI2, by go_num, by rw [unhide hA1]; exact unhide hown2, unhide hbel2⟩
          case measure => simp [intOf]; omega
        · have q1 : decide (0 < c1) = false := by simp; omega
          clear hc hown hbel
          go_wp2
          go_roundw
          case rel => exact ⟨k + 1, I + 4, by omega, hI2, by go_num, by rw [unhide hA1]; exact unhide hown2, unhide hbel2⟩
          case measure => simp [intOf]; omega
    · have hk7 : k = 7 := by omega
      subst hk7
      have hI28 : I = 28 := unhide hI
      subst hI28
      have ho := hide (own_mono (Own.of hown) (show w.heap.size ≤ w.heap.size + 1 by omega) (Nat.le_refl _))
      have hbf := hide (Upd.of_below (hB0.trans (hbel.mono (by omega))) 0 0)
      clear hown
      go_wp2
      go_ret
      exact ⟨_, rfl, unhide ho, unhide hbf⟩
end Go.Proofs.YthkppcncajmniaaDoor

/- A region that draws its order, whose operations read old memory and whose calls only lay new blocks: one walk of the text's order serves. -/
namespace Go.Proofs.YthkppcncajmniaaDoor
open Go.RowKit

/-- The worlds in which all that was there is as it was. -/
def UpdT (w : World) : Type := { w' : World // Upd 0 0 w w' }
def UpdT.to {w : World} (x : UpdT w) : World := x.1
instance (w : World) : Nonempty (UpdT w) := ⟨⟨w, Upd.refl _ _ _⟩⟩
theorem UpdT.upd {w : World} (x : UpdT w) : Upd 0 0 w x.to := x.2
theorem wp_region_upd {P : Program} {id : Nat} {Q : Exit → Act → World → Prop} {a : Act} {w : World} {l : List Oper} (hm : P.follows .mixedOrders = true) (hB : Region.lexB .any l.toArray = true)
    (h : wpQuiet P l.toArray (fun w' => ∃ x : UpdT w, w' = x.to) (fun a' => ∀ w', (∃ x : UpdT w, w' = x.to) → Q .normal a' w') l a) : (Code.region id l.toArray true).wp P Q a w :=
  wp_region_quiet (C := fun w' => ∃ x : UpdT w, w' = x.to) hm hB ⟨⟨{ w with drawn := w.drawn + 1 }, ⟨rfl, rfl, rfl, Nat.le_refl _, fun _ _ _ => rfl⟩⟩, rfl⟩ (by simpa using h)
/-- A call that only lays new blocks, in such a world. -/
theorem Calls.updT {P : Program} {f : FuncId} {args : Array Value} {w : World} {v : Value} (x : UpdT w) (h : Calls P f args x.to fun e w' => e = .returned v ∧ Upd 0 0 x.to w') :
    Calls P f args x.to fun e w' => e = .returned v ∧ ∃ y : UpdT w, w' = y.to :=
  h.mono fun _ w' ⟨he, hu⟩ => ⟨he, ⟨w', x.upd.trans hu⟩, rfl⟩
theorem Calls.updT_same {P : Program} {f : FuncId} {args : Array Value} {w : World} {v : Value} (x : UpdT w) (h : Calls P f args x.to fun e w' => e = .returned v ∧ w' = x.to) :
    Calls P f args x.to fun e w' => e = .returned v ∧ ∃ y : UpdT w, w' = y.to :=
  h.mono fun _ _ ⟨he, hw⟩ => ⟨he, x, hw⟩
theorem Held.updT {w : World} {g : Nat} {cs : List Value} (h : Held w g cs) (x : UpdT w) : Held x.to g cs := h.keep x.upd
end Go.Proofs.YthkppcncajmniaaDoor

/- How many bytes a still's rows have, as the specification counts them. -/
namespace Go.Proofs.YthkppcncajmniaaDoor
open Go.RowKit

abbrev sz5 (x : Int × Int) (p d : Int) : List Value := [.int .i64 x.1, .int .i64 x.2, .int .i64 p, .int .i64 d, .slice none 0 0]
def cellsSz (l : List (Int × Int)) (p d : Int) : List Value := l.flatMap fun x => sz5 x p d
theorem cellsSz_length (l : List (Int × Int)) (p d : Int) : (cellsSz l p d).length = l.length * 5 := by
  induction l with
  | nil => rfl
  | cons x l ih => unfold cellsSz at ih ⊢; rw [List.flatMap_cons, List.length_append, ih]; simp; omega
theorem cellsSz_snoc (l : List (Int × Int)) (p d : Int) (x : Int × Int) : cellsSz (l ++ [x]) p d = cellsSz l p d ++ sz5 x p d := by unfold cellsSz; simp
theorem cellsSz_at (l : List (Int × Int)) (p d : Int) : ∀ j, j < l.length → (cellsSz l p d)[j * 5]? = some (.int .i64 (l.getD j (0, 0)).1) ∧ (cellsSz l p d)[j * 5 + 1]? = some (.int .i64 (l.getD j (0, 0)).2) ∧ (cellsSz l p d)[j * 5 + 2]? = some (.int .i64 p) ∧ (cellsSz l p d)[j * 5 + 3]? = some (.int .i64 d) ∧ (cellsSz l p d)[j * 5 + 4]? = some (.slice none 0 0) := by
  induction l with
  | nil => intro j hj; simp at hj
  | cons x l ih =>
    intro j hj
    have e : cellsSz (x :: l) p d = sz5 x p d ++ cellsSz l p d := by unfold cellsSz; simp
    rw [e]
    cases j with
    | zero => exact ⟨rfl, rfl, rfl, rfl, rfl⟩
    | succ j =>
      have h := ih j (by simpa using hj)
      rw [List.getElem?_append_right (by simp; omega), List.getElem?_append_right (by simp; omega), List.getElem?_append_right (by simp; omega), List.getElem?_append_right (by simp; omega), List.getElem?_append_right (by simp; omega)]
      simp only [List.length_cons, List.length_nil, List.getD_cons_succ]
      rw [show (j + 1) * 5 - (0 + 1 + 1 + 1 + 1 + 1) = j * 5 by omega, show (j + 1) * 5 + 1 - (0 + 1 + 1 + 1 + 1 + 1) = j * 5 + 1 by omega, show (j + 1) * 5 + 2 - (0 + 1 + 1 + 1 + 1 + 1) = j * 5 + 2 by omega, show (j + 1) * 5 + 3 - (0 + 1 + 1 + 1 + 1 + 1) = j * 5 + 3 by omega, show (j + 1) * 5 + 4 - (0 + 1 + 1 + 1 + 1 + 1) = j * 5 + 4 by omega]
      exact h
abbrev OwnSz (w : World) (a b : Nat) (v : Value) (l : List (Int × Int)) (p d : Int) : Prop := Own 30 5 w a b v l.length (cellsSz l p d)
theorem infoIm : (Tryd.prog.info? 30).map (fun i => (i.zero, i.size, i.bytes)) = some (some (.agg #[.int .i64 0, .int .i64 0, .int .i64 0, .int .i64 0, .slice none 0 0]), 5, 56) := by kernel_rfl
theorem five_new (w : World) (x0 x1 x2 x3 x4 : Value) (t : TypeId) : ∀ j u, [x0, x1, x2, x3, x4][j]? = some u → (w.alloc (.cells #[x0, x1, x2, x3, x4] t)).cell? ((⟨w.heap.size, 0, none⟩ : Addr).add j) = some u := by
  intro j u h
  have ha : (⟨w.heap.size, 0, none⟩ : Addr).add j = ⟨w.heap.size, 0 + j, none⟩ := by unfold Addr.add; split <;> simp_all
  rw [ha, World.cell?_alloc_at _ _ _ _ rfl, Nat.zero_add]
  simpa using h
theorem upd_of_grownS {w w' : World} {a : Nat} {e : TypeId} {s : Nat} {v : Value} {n : Nat} {xs : List Value} (hg : w.grownBy w' v.ownBlock) (ho : w.ownsRow a e s v n xs) : Upd a w.heap.size w w' :=
  ⟨hg.os, hg.tape, hg.output, hg.size, fun k hk hn => hg.block k hk (fun e => by have := ho.lt k e.symm; omega)⟩
def pairOf (q : Ps) : Int × Int := (q.2.2.2.2.1, q.2.2.2.2.2)
theorem map_take_snoc (ps : List Ps) (k : Nat) (h : k < ps.length) : (ps.map pairOf).take (k + 1) = (ps.map pairOf).take k ++ [pairOf (ps.getD k Ps0)] := by
  rw [take_snoc_getD (ps.map pairOf) (pairOf Ps0) k (by simpa using h)]
  congr 2
  simp [List.getD_eq_getElem?_getD, List.getElem?_eq_getElem h]

set_option maxHeartbeats 8000000 in
set_option maxRecDepth 1000000 in
theorem specL5Sizes (a b p d : Int) (vl : Value) (ad : Option Addr) (n cap : Nat) (wv : Bool) (w : World) (hvl : vl = .slice ad n cap) (ha : 1 ≤ a ∧ a ≤ 512) (hb : 1 ≤ b ∧ b ≤ 512) :
    Calls Tryd.prog 39 #[.agg #[.int .i64 a, .int .i64 b, .int .i64 p, .int .i64 d, vl], .bool wv] w fun e w' => ∃ v, e = .returned v ∧ OwnSz w' w.heap.size w'.heap.size v (sidesOf a b wv) p d ∧ Upd 0 0 w w' := by
  subst hvl
  have hB0 := (Below.refl w.heap.size w).alloc (Nat.le_refl _) (.cells #[.int .i64 a, .int .i64 b, .int .i64 p, .int .i64 d, .slice ad n cap] 30)
  cases wv with
  | false =>
    have hB1 := hB0.alloc (by simp) (.cells (cellsSz [(a, b)] p d).toArray 30)
    have hown : (((w.alloc (.cells #[.int .i64 a, .int .i64 b, .int .i64 p, .int .i64 d, .slice ad n cap] 30)).alloc (.cells (cellsSz [(a, b)] p d).toArray 30))).ownsRow w.heap.size 30 5 (.slice (some ⟨w.heap.size + 1, 0, none⟩) 1 1) 1 (cellsSz [(a, b)] p d) := by
      refine ⟨rfl, .inr ⟨w.heap.size + 1, 1, (cellsSz [(a, b)] p d).toArray, rfl, by omega, ?_, Nat.le_refl _, by unfold maxLen; omega, rfl, rfl⟩⟩
      have := heap_alloc_new (w.alloc (.cells #[.int .i64 a, .int .i64 b, .int .i64 p, .int .i64 d, .slice ad n cap] 30)) (.cells (cellsSz [(a, b)] p d).toArray 30)
      simpa using this
    replace hown := hide (Own.of hown)
    replace hB1 := hide hB1
    clear hB0
    go_enter Tryd.func39, Tryd.ntmps39
    go_wp2
    go_ret
    exact ⟨_, rfl, unhide hown, Upd.of_below (unhide hB1) 0 0⟩
  | true =>
    obtain ⟨i0, hi, hz0, hz1, hz2⟩ := info_parts infoIm
    have hh := hide (held_new w [.int .i64 a, .int .i64 b, .int .i64 p, .int .i64 d, .slice ad n cap] 30)
    have hlen := passTo_len a b 7
    have hP := hide (fun W => specL4Passes a b W ha hb)
    replace hB0 := hide hB0
    go_enter Tryd.func39, Tryd.ntmps39
    go_wp2_with fail
    change Hid (Held (w.alloc (.cells #[.int .i64 a, .int .i64 b, .int .i64 p, .int .i64 d, .slice ad n cap] 30)) _ _) at hh
    have hsz0 : (w.alloc (.cells #[.int .i64 a, .int .i64 b, .int .i64 p, .int .i64 d, .slice ad n cap] 30)).heap.size = w.heap.size + 1 := by simp
    generalize w.alloc (.cells #[.int .i64 a, .int .i64 b, .int .i64 p, .int .i64 d, .slice ad n cap] 30) = w0 at hh hB0 hsz0 ⊢
    refine (unhide hP w0).mono ?_
    rintro e w1 ⟨v1, rfl, ho1, hu1⟩
    clear hP
    have hB1 := hide (below_upd (unhide hB0) hu1 (Nat.le_refl _) (.inr (Nat.le_refl _)))
    replace hh := hide ((unhide hh).keep hu1)
    have hs1 : w.heap.size + 1 ≤ w1.heap.size := by have := hu1.size; omega
    clear hB0 hu1 hsz0
    obtain ⟨ps, hps⟩ : ∃ ps, passTo a b 7 = ps := ⟨_, rfl⟩
    have hE : Hid (sidesOf a b true = ps.map pairOf) := hide (by rw [← hps]; rfl)
    rw [hps] at ho1 hlen
    clear hps
    obtain ⟨ad1, cap1, rfl, hA1⟩ := ho1.rd
    have hO1 := hide ho1
    replace hA1 := hide hA1
    clear ho1
    go_wp2_with fail
    go_loopw [5, 26] (fun out i wr => ∃ k : Nat, k ≤ ps.length ∧ i = .int .i64 k ∧ wr.ownsRow w1.heap.size 30 5 out ((ps.map pairOf).take k).length (cellsSz ((ps.map pairOf).take k) p d) ∧ Below w1.heap.size w1 wr) (fun _ i _ => ps.length - (intOf i).toNat)
    case atStart => exact ⟨0, Nat.zero_le _, rfl, World.ownsRow_nil _ _ _ _, Below.refl _ _⟩
    case round =>
      obtain ⟨k, hk, rfl, hown, hbel⟩ := hrel
      by_cases hlt : k < ps.length
      · obtain ⟨b', off', rfl, hbl, hc⟩ := ((unhide hA1).below hbel) (ne_of_lt_length hlt)
        obtain ⟨d0, d1, d2, d3, d4, d5⟩ := hc k hlt
        have hs := hide (map_take_snoc ps k hlt)
        have hh2 := (unhide hh).upd (Upd.of_below hbel 0 0) (.inr (Nat.zero_le _))
        have hlk : ((ps.map pairOf).take k).length = k := by simp; omega
        rw [hlk] at hown
        clear hc hbl
        generalize ps.getD k Ps0 = f at d0 d1 d2 d3 d4 d5 hs
        obtain ⟨x0, x1, x2, x3, x4, x5⟩ := f
        simp only at d0 d1 d2 d3 d4 d5
        have c0 := hh2.2 0 _ rfl
        have c1 := hh2.2 1 _ rfl
        have c2 := hh2.2 2 _ rfl
        have c3 := hh2.2 3 _ rfl
        have cl := hh2.1
        have hszw := hbel.size
        obtain ⟨zk, hzk⟩ : ∃ zk, cellsSz ((ps.map pairOf).take k) p d = zk := ⟨_, rfl⟩
        rw [hzk] at hown
        have hsn : Hid (zk ++ sz5 (x4, x5) p d = cellsSz ((ps.map pairOf).take (k + 1)) p d) := hide (by rw [unhide hs, cellsSz_snoc, hzk]; rfl)
        clear hs hzk hlk hh2
        have hal : ((wr.alloc (.cells #[.int .i64 x0, .int .i64 x1, .int .i64 x2, .int .i64 x3, .int .i64 x4, .int .i64 x5] 73)).heap.size) = wr.heap.size + 1 := by simp
        have hnew := hide (five_new (wr.alloc (.cells #[.int .i64 x0, .int .i64 x1, .int .i64 x2, .int .i64 x3, .int .i64 x4, .int .i64 x5] 73)) (.int .i64 x4) (.int .i64 x5) (.int .i64 p) (.int .i64 d) (.slice none 0 0) 30)
        rw [hal] at hnew
        have hown2 := hide ((hown.alloc (.cells #[.int .i64 x0, .int .i64 x1, .int .i64 x2, .int .i64 x3, .int .i64 x4, .int .i64 x5] 73)).alloc (.cells #[.int .i64 x4, .int .i64 x5, .int .i64 p, .int .i64 d, .slice none 0 0] 30))
        have hbel2 := hide ((hbel.alloc hszw (.cells #[.int .i64 x0, .int .i64 x1, .int .i64 x2, .int .i64 x3, .int .i64 x4, .int .i64 x5] 73)).alloc (by rw [hal]; omega) (.cells #[.int .i64 x4, .int .i64 x5, .int .i64 p, .int .i64 d, .slice none 0 0] 30))
        clear hown hbel hal
        go_wp2_with (at_builtin; go_loud (refine wpList_append_own_at _ rfl (.tmp 30) (.tmp 40) 64 rfl w1.heap.size 30 i0 (.agg #[.int .i64 0, .int .i64 0, .int .i64 0, .int .i64 0, .slice none 0 0]) 5 56 Tryd.underlying64 hi hz0 hz1 hz2 rfl (by decide) _ _ _ rfl (unhide hown2) ⟨wr.heap.size + 1, 0, none⟩ 1 1 [.int .i64 x4, .int .i64 x5, .int .i64 p, .int .i64 d, .slice none 0 0] rfl rfl (unhide hnew) (by intro u hu; simp at hu; rcases hu with rfl | rfl | rfl | rfl | rfl <;> rfl) (by unfold maxLen; omega) (by omega) (by simp; omega) ?_))
        intro v2 w2 ho2 hg2 _ _
        have hb2 := hide (below_upd (unhide hbel2) (upd_of_grownS hg2 (unhide hown2)) (Nat.le_refl _) (.inl (Nat.le_refl _)))
        rw [unhide hsn] at ho2
        have hlk1 : ((ps.map pairOf).take (k + 1)).length = k + 1 := by simp; omega
        have ho3 : w2.ownsRow w1.heap.size 30 5 v2 ((ps.map pairOf).take (k + 1)).length (cellsSz ((ps.map pairOf).take (k + 1)) p d) := by rw [hlk1]; exact ho2
        replace ho2 := hide ho3
        clear ho3
        clear hg2 hlk1
        go_wp2
        go_roundw
        case rel => exact ⟨k + 1, by omega, by go_num, unhide ho2, unhide hb2⟩
        case measure => simp [intOf]; omega
      · have hkl : k = ps.length := by omega
        subst hkl
        have htk : (ps.map pairOf).take ps.length = ps.map pairOf := by rw [← List.length_map (f := pairOf), List.take_length]
        rw [htk] at hown
        rw [← unhide hE] at hown
        replace hown := hide (own_mono (Own.of hown) (by omega : w.heap.size ≤ w1.heap.size) (Nat.le_refl _))
        replace hbel := hide (below_upd (unhide hB1) (Upd.of_below hbel 0 0) (Nat.le_refl _) (.inr (Nat.le_refl _)))
        go_wp2
        go_ret
        exact ⟨_, rfl, unhide hown, Upd.of_below (unhide hbel) 0 0⟩

set_option maxHeartbeats 8000000 in
set_option maxRecDepth 1000000 in
theorem specL5Total (a b p d : Int) (vl : Value) (ad : Option Addr) (n cap : Nat) (wv : Bool) (w : World) (hvl : vl = .slice ad n cap) (ha : 1 ≤ a ∧ a ≤ 512) (hb : 1 ≤ b ∧ b ≤ 512) (hp : 1 ≤ p ∧ p ≤ 4) (hd : 1 ≤ d ∧ d ≤ 16) (T : Int) (hT : totTo (sidesOf a b wv) p d (sidesOf a b wv).length = T) :
    Calls Tryd.prog 22 #[.agg #[.int .i64 a, .int .i64 b, .int .i64 p, .int .i64 d, vl], .bool wv] w fun e w' => e = .returned (.int .i64 T) ∧ Upd 0 0 w w' := by
  have hB0 := hide ((Below.refl w.heap.size w).alloc (Nat.le_refl _) (.cells #[.int .i64 a, .int .i64 b, .int .i64 p, .int .i64 d, vl] 30))
  have hS := hide (fun W => specL5Sizes a b p d vl ad n cap wv W hvl ha hb)
  subst hvl
  have hin := hide (sidesOf_in wv ha hb)
  have hlen := sidesOf_len a b wv
  generalize sidesOf a b wv = l at hS hin hlen hT
  replace hT := hide hT
  have hpb := hide hp
  have hdb := hide hd
  clear ha hb hp hd
  go_enter Tryd.func22, Tryd.ntmps22
  go_wp2_with fail
  generalize w.alloc (.cells #[.int .i64 a, .int .i64 b, .int .i64 p, .int .i64 d, .slice ad n cap] 30) = w0 at hB0 ⊢
  refine (unhide hS w0).mono ?_
  rintro e w1 ⟨v1, rfl, ho1, hu1⟩
  clear hS
  have hB1 := hide (below_upd (unhide hB0) hu1 (Nat.le_refl _) (.inr (Nat.le_refl _)))
  have hs1 := hu1.size
  clear hB0 hu1
  have hcl := hide (cellsSz_at l p d)
  have hform : ∃ ad1 cap1, v1 = .slice ad1 l.length cap1 ∧ (l ≠ [] → ∃ g, ad1 = some ⟨g, 0, none⟩ ∧ g < w1.heap.size ∧ ∀ j, j < l.length * 5 → w1.cell? ⟨g, j, none⟩ = (cellsSz l p d)[j]?) := by
    rcases ho1.1.2 with ⟨rfl, hn⟩ | ⟨g, cp, cur, rfl, h1, h2, h3⟩
    · exact ⟨none, 0, by rw [hn], fun hne => absurd (List.length_eq_zero_iff.1 hn) hne⟩
    · refine ⟨some ⟨g, 0, none⟩, cp, rfl, fun _ => ⟨g, rfl, (ho1.1.lt g rfl).2, fun j hj => ?_⟩⟩
      exact ho1.1.cellAt j hj
  obtain ⟨ad1, cap1, rfl, hA1⟩ := hform
  replace hA1 := hide hA1
  clear ho1
  go_wp2_with fail
  go_loopw [5, 12] (fun s i wr => ∃ k : Nat, k ≤ l.length ∧ i = .int .i64 k ∧ s = .int .i64 (totTo l p d k) ∧ Below w1.heap.size w1 wr) (fun _ i _ => l.length - (intOf i).toNat)
  case atStart => exact ⟨0, Nat.zero_le _, rfl, by simp [totTo], Below.refl _ _⟩
  case round =>
    obtain ⟨k, hk, rfl, rfl, hbel⟩ := hrel
    by_cases hlt : k < l.length
    · obtain ⟨g, rfl, hg, hc⟩ := (unhide hA1) (ne_of_lt_length hlt)
      obtain ⟨m0, m1, m2, m3, m4⟩ := unhide hcl k hlt
      have c0 := ((hbel.cell (p := ⟨g, k * 5, none⟩) (by simpa using hg)).trans (hc _ (by omega))).trans m0
      have c1 := ((hbel.cell (p := ⟨g, k * 5 + 1, none⟩) (by simpa using hg)).trans (hc _ (by omega))).trans m1
      have c2 := ((hbel.cell (p := ⟨g, k * 5 + 2, none⟩) (by simpa using hg)).trans (hc _ (by omega))).trans m2
      have c3 := ((hbel.cell (p := ⟨g, k * 5 + 3, none⟩) (by simpa using hg)).trans (hc _ (by omega))).trans m3
      have c4 := ((hbel.cell (p := ⟨g, k * 5 + 4, none⟩) (by simpa using hg)).trans (hc _ (by omega))).trans m4
      have hsu := hide (totTo_succ l p d k hlt)
      have hbd := totTo_bd (unhide hin) (unhide hpb) (unhide hdb) k hk
      obtain ⟨h1, h2⟩ := unhide hin k hlt
      have hR := hide (fun W => specL5RowBytes (l.getD k (0, 0)).1 (l.getD k (0, 0)).2 p d none 0 0 W h1 (unhide hpb) (unhide hdb))
      obtain ⟨x, y, _, _, _, y1, y2, hr⟩ := rowOf_bd h1 (unhide hpb) (unhide hdb)
      obtain ⟨z, hz, z1, z2⟩ := part_bd h2 (r := rowOf (l.getD k (0, 0)).1 p d) (by omega)
      rw [hz] at hsu
      replace hz := hide hz
      have hr1 : 1 ≤ rowOf (l.getD k (0, 0)).1 p d ∧ rowOf (l.getD k (0, 0)).1 p d ≤ 4097 := by omega
      clear hr m0 m1 m2 m3 m4 hc
      generalize rowOf (l.getD k (0, 0)).1 p d = R at hR hz hr1
      generalize l.getD k (0, 0) = f at c0 c1 h1 h2 hR hz
      obtain ⟨f1, f2⟩ := f
      simp only at c0 c1 h1 h2
      change Hid (f2 * (1 + R) = z) at hz
      have hbel2 := hide (hbel.alloc hbel.size (.cells #[.int .i64 f1, .int .i64 f2, .int .i64 p, .int .i64 d, .slice none 0 0] 30))
      have hk6 : k ≤ 6 := by omega
      have hz' := unhide hz
      obtain ⟨r1, r2⟩ := hr1
      obtain ⟨bd1, bd2⟩ := hbd
      have hHb := hide (held_new wr [.int .i64 f1, .int .i64 f2, .int .i64 p, .int .i64 d, .slice none 0 0] 30)
      go_wp2_with fail
      change Hid (Held (wr.alloc (.cells #[.int .i64 f1, .int .i64 f2, .int .i64 p, .int .i64 d, .slice none 0 0] 30)) _ _) at hHb
      generalize wr.alloc (.cells #[.int .i64 f1, .int .i64 f2, .int .i64 p, .int .i64 d, .slice none 0 0] 30) = W at hHb hbel2 ⊢
      clear c0 c1 c2 c3 c4
      have c0 := fun x : UpdT W => ((unhide hHb).updT x).2 0 _ rfl
      have c1 := fun x : UpdT W => ((unhide hHb).updT x).2 1 _ rfl
      have c2 := fun x : UpdT W => ((unhide hHb).updT x).2 2 _ rfl
      have c3 := fun x : UpdT W => ((unhide hHb).updT x).2 3 _ rfl
      have c4 := fun x : UpdT W => ((unhide hHb).updT x).2 4 _ rfl
      have wr1 : IntKind.i64.wrap (1 + R) = 1 + R := by simp [IntKind.wrap, IntKind.bits, IntKind.signed]; omega
      have wr2 : IntKind.i64.wrap (f2 * (1 + R)) = z := by rw [hz']; simp [IntKind.wrap, IntKind.bits, IntKind.signed]; omega
      have wr3 : IntKind.i64.wrap (totTo l p d k + z) = totTo l p d k + z := by simp [IntKind.wrap, IntKind.bits, IntKind.signed]; omega
      rw [← unhide hsu] at wr3
      clear hz'
      refine wp_region_upd (by kernel_rfl) (by kernel_rfl) ?_
      repeat (quiet_step ((go_at_call 40; exact Calls.updT _ (unhide hR _))))
      refine wpQuiet_nil ?_
      rintro _ ⟨x, rfl⟩
      have hx := hide (below_upd (unhide hbel2) x.upd (Nat.le_refl _) (.inr (Nat.le_refl _)))
      generalize x.to = W2 at hx ⊢
      go_wp2_with fail
      refine ⟨⟨k + 1, by omega, by go_num, ?_, unhide hx⟩, by simp [intOf]; omega⟩
      rw [← unhide hsu, wr3]
    · have hkl : k = l.length := by omega
      subst hkl
      rw [unhide hT]
      replace hbel := hide (below_upd (unhide hB1) (Upd.of_below hbel 0 0) (Nat.le_refl _) (.inr (Nat.le_refl _)))
      go_wp2
      go_ret
      exact ⟨rfl, Upd.of_below (unhide hbel) 0 0⟩
end Go.Proofs.YthkppcncajmniaaDoor

/- The walks of PackRow: the specification's. -/
namespace Go.Proofs.YthkppcncajmniaaDoor
open Go.RowKit

theorem own_nilYR (w : World) (a b : Nat) : OwnY w a b (.slice none 0 0) [] := ⟨World.ownsRow_nil _ _ _ _, fun k hk => by simp [Value.ownBlock] at hk⟩

set_option maxHeartbeats 1000000 in
theorem specL4Depth (d : Int) (w : World) : Calls Tryd.prog 38 #[.int .i64 d] w fun e w' => e = .returned (.bool (depthOk d)) ∧ w' = w := by
  by_cases h : depthOk d = true
  · rw [h]
    rcases depthOk_cases h with e | e | e | e | e <;> subst e <;>
    · clear h
      go_enter Tryd.func38, Tryd.ntmps38
      go_wp2
      go_ret
      exact ⟨rfl, rfl⟩
  · have h' : depthOk d = false := by simpa using h
    rw [h']
    have h1 : (d == 1) = false := by unfold depthOk at h'; simp at h' ⊢; omega
    have h2 : (d == 2) = false := by unfold depthOk at h'; simp at h' ⊢; omega
    have h3 : (d == 4) = false := by unfold depthOk at h'; simp at h' ⊢; omega
    have h4 : (d == 8) = false := by unfold depthOk at h'; simp at h' ⊢; omega
    have h5 : (d == 16) = false := by unfold depthOk at h'; simp at h' ⊢; omega
    clear h h'
    go_enter Tryd.func38, Tryd.ntmps38
    go_wp2
    go_ret
    exact ⟨rfl, rfl⟩

end Go.Proofs.YthkppcncajmniaaDoor

/- The walk of GoodImage: the specification's. -/
namespace Go.Proofs.YthkppcncajmniaaDoor
open Go.RowKit

set_option maxHeartbeats 8000000 in
set_option maxRecDepth 1000000 in
theorem specGoodImage (v : Value) (d : Im) (w : World) (hn : d.2.2.2.2.length ≤ 1048576) (hR : InIm d) (hv : RdIm w v d) :
    Calls Tryd.prog 19 #[v] w fun e w' => e = .returned (.bool (goodImB d)) ∧ Upd 0 0 w w' := by
  obtain ⟨vl, rfl, h⟩ := hv
  obtain ⟨ad, cap, rfl, hA⟩ := h
  obtain ⟨a, b, p, dp, zs⟩ := d
  simp only [ims, imv] at hn hA ⊢
  have hB := (Below.refl w.heap.size w).alloc (Nat.le_refl _) (.cells #[.int .i64 a, .int .i64 b, .int .i64 p, .int .i64 dp, .slice ad zs.length cap] 30)
  have hU := hide (Upd.of_below hB 0 0)
  have hS := hide (fun W => specL4Sides a b W)
  have hD := hide (fun W => specL4Depth dp W)
  clear hR
  by_cases ha : 1 ≤ a ∧ a ≤ 512
  case neg =>
    rw [goodImB_no (fun h => ha h.1.1)]
    have e : sidesB a b = false := by unfold sidesB; rw [sideB_no ha]; rfl
    rw [e] at hS
    clear ha hB hA e
    go_enter Tryd.func19, Tryd.ntmps19
    go_wp2_with fail
    refine (unhide hS _).mono ?_
    rintro e w1 ⟨rfl, rfl⟩
    go_wp2
    go_ret
    exact ⟨rfl, unhide hU⟩
  by_cases hb : 1 ≤ b ∧ b ≤ 512
  case neg =>
    rw [goodImB_no (fun h => hb h.1.2.1)]
    have e : sidesB a b = false := by unfold sidesB; rw [sideB_no hb]; simp
    rw [e] at hS
    clear ha hb hB hA e
    go_enter Tryd.func19, Tryd.ntmps19
    go_wp2_with fail
    refine (unhide hS _).mono ?_
    rintro e w1 ⟨rfl, rfl⟩
    go_wp2
    go_ret
    exact ⟨rfl, unhide hU⟩
  have e : sidesB a b = true := by unfold sidesB; rw [sideB_yes ha, sideB_yes hb]; rfl
  rw [e] at hS
  obtain ⟨P, hP, P1, P2⟩ := prod_bd ha hb
  by_cases hP4 : 4096 < P
  · rw [goodImB_no (fun h => by have := h.1.2.2.1; simp only at this; omega)]
    clear ha hb hB hA e
    go_enter Tryd.func19, Tryd.ntmps19
    go_wp2_with fail
    refine (unhide hS _).mono ?_
    rintro e w1 ⟨rfl, rfl⟩
    go_wp2
    go_ret
    exact ⟨rfl, unhide hU⟩
  have P3 : P ≤ 4096 := by omega
  have qP : decide (4096 < P) = false := by simp; omega
  by_cases hp1 : p < 1
  · rw [goodImB_no (fun h => by have := h.1.2.2.2.1.1; simp only at this; omega)]
    have q : decide (p < 1) = true := by simp; omega
    clear ha hb hB hA e
    go_enter Tryd.func19, Tryd.ntmps19
    go_wp2_with fail
    refine (unhide hS _).mono ?_
    rintro e w1 ⟨rfl, rfl⟩
    go_wp2
    go_ret
    exact ⟨rfl, unhide hU⟩
  have q1 : decide (p < 1) = false := by simp; omega
  by_cases hp2 : 4 < p
  · rw [goodImB_no (fun h => by have := h.1.2.2.2.1.2; simp only at this; omega)]
    have q : decide (4 < p) = true := by simp; omega
    clear ha hb hB hA e
    go_enter Tryd.func19, Tryd.ntmps19
    go_wp2_with fail
    refine (unhide hS _).mono ?_
    rintro e w1 ⟨rfl, rfl⟩
    go_wp2
    go_ret
    exact ⟨rfl, unhide hU⟩
  have q2 : decide (4 < p) = false := by simp; omega
  by_cases hd : depthOk dp = true
  case neg =>
    rw [goodImB_no (fun h => hd h.1.2.2.2.2.1)]
    have hd' : depthOk dp = false := by simpa using hd
    rw [hd'] at hD
    clear ha hb hB hA e hd hd'
    go_enter Tryd.func19, Tryd.ntmps19
    go_wp2_with fail
    refine (unhide hS _).mono ?_
    rintro e w1 ⟨rfl, rfl⟩
    go_wp2_with fail
    refine (unhide hD _).mono ?_
    rintro e w1 ⟨rfl, rfl⟩
    go_wp2
    go_ret
    exact ⟨rfl, unhide hU⟩
  rw [hd] at hD
  obtain ⟨D, rfl, hD1, hD16⟩ := depthOk_nat hd
  obtain ⟨Q, hQ, Q1, Q2⟩ := prod3_bd (P := P) (p := p) ⟨P1, P3⟩ ⟨by omega, by omega⟩
  by_cases hpd : p = 1 ∨ 8 ≤ (D : Int)
  case neg =>
    rw [goodImB_no (fun h => hpd h.1.2.2.2.2.2)]
    have r1 : decide (1 < p) = true := by simp; omega
    have r2 : decide ((D : Int) < 8) = true := by simp; omega
    replace hd := hide hd
    clear ha hb hB hA e hpd
    go_enter Tryd.func19, Tryd.ntmps19
    go_wp2_with fail
    refine (unhide hS _).mono ?_
    rintro e w1 ⟨rfl, rfl⟩
    go_wp2_with fail
    refine (unhide hD _).mono ?_
    rintro e w1 ⟨rfl, rfl⟩
    go_wp2
    go_ret
    exact ⟨rfl, unhide hU⟩
  have hShape : Hid (ShapeOk a b p (D : Int)) := hide ⟨ha, hb, by omega, ⟨by omega, by omega⟩, hd, hpd⟩
  have hGood : Hid ((zs.length : Int) = Q → SmpOk zs (D : Int) → goodImB (a, b, p, (D : Int), zs) = true) := hide (fun h1 h2 => goodImB_yes ⟨unhide hShape, by show (zs.length : Int) = a * b * p; rw [hP, hQ]; exact h1, h2⟩)
  have hBad : Hid (¬ ((zs.length : Int) = Q ∧ SmpOk zs (D : Int)) → goodImB (a, b, p, (D : Int), zs) = false) := hide (fun h1 => goodImB_no (fun h => h1 ⟨by have := h.2.1; simp only at this; rw [hP, hQ] at this; exact this, h.2.2⟩))
  by_cases hl : (zs.length : Int) = Q
  case neg =>
    have r3 : ((zs.length : Int) != Q) = true := bne_iff_ne.2 hl
    have hF := hide (unhide hBad (fun h => hl h.1))
    replace hd := hide hd
    replace hl := hide hl
    rcases hpd with h1 | h1
    · subst h1
      rw [unhide hF]
      clear ha hb hB hA e
      go_enter Tryd.func19, Tryd.ntmps19
      go_wp2_with fail
      refine (unhide hS _).mono ?_
      rintro e w1 ⟨rfl, rfl⟩
      go_wp2_with fail
      refine (unhide hD _).mono ?_
      rintro e w1 ⟨rfl, rfl⟩
      go_wp2
      go_ret
      exact ⟨rfl, unhide hU⟩
    · rw [unhide hF]
      have r2 : decide ((D : Int) < 8) = false := by simp; omega
      clear ha hb hB hA e
      by_cases hp11 : 1 < p
      · have r1 : decide (1 < p) = true := by simp; omega
        go_enter Tryd.func19, Tryd.ntmps19
        go_wp2_with fail
        refine (unhide hS _).mono ?_
        rintro e w1 ⟨rfl, rfl⟩
        go_wp2_with fail
        refine (unhide hD _).mono ?_
        rintro e w1 ⟨rfl, rfl⟩
        go_wp2
        go_ret
        exact ⟨rfl, unhide hU⟩
      · have r1 : decide (1 < p) = false := by simp; omega
        go_enter Tryd.func19, Tryd.ntmps19
        go_wp2_with fail
        refine (unhide hS _).mono ?_
        rintro e w1 ⟨rfl, rfl⟩
        go_wp2_with fail
        refine (unhide hD _).mono ?_
        rintro e w1 ⟨rfl, rfl⟩
        go_wp2
        go_ret
        exact ⟨rfl, unhide hU⟩
  have r3 : ((zs.length : Int) != Q) = false := by simp [hl]
  have hG2 : Hid ((∀ k, k < zs.length → (0 ≤ zs.getD k 0 ∧ zs.getD k 0 < 2 ^ D)) → goodImB (a, b, p, (D : Int), zs) = true) := hide (fun h => unhide hGood hl (fun j hj => by have := h j hj; simpa using this))
  have hB2 : Hid (∀ k, k < zs.length → ¬ (0 ≤ zs.getD k 0 ∧ zs.getD k 0 < 2 ^ D) → goodImB (a, b, p, (D : Int), zs) = false) := hide (fun k hk h => unhide hBad (fun h' => h (by have := h'.2 k hk; simpa using this)))
  have hpw := two_pow_16 hD16
  replace hA := hide (hA.below hB)
  replace hd := hide hd
  replace hl := hide hl
  replace hpd := hide hpd
  clear hGood hBad ha hb hB e
  have hW3 : (w.alloc (.cells #[.int .i64 a, .int .i64 b, .int .i64 p, .int .i64 (D : Int), .slice ad zs.length cap] 30)).cell? ⟨w.heap.size, 3, none⟩ = some (.int .i64 (D : Int)) := by rw [World.cell?_alloc_at _ _ _ _ rfl]; rfl
  by_cases hp11 : 1 < p
  · have r1 : decide (1 < p) = true := by simp; omega
    have r2 : decide ((D : Int) < 8) = false := by have := unhide hpd; simp; omega
    go_enter Tryd.func19, Tryd.ntmps19
    go_wp2_with fail
    refine (unhide hS _).mono ?_
    rintro e w1 ⟨rfl, rfl⟩
    go_wp2_with fail
    refine (unhide hD _).mono ?_
    rintro e w1 ⟨rfl, rfl⟩
    go_wp2_with fail
    generalize w.alloc (.cells #[.int .i64 a, .int .i64 b, .int .i64 p, .int .i64 (D : Int), .slice ad zs.length cap] 30) = W1 at hU hA hW3 ⊢
    go_loop [60] (fun i => ∃ k : Nat, k ≤ zs.length ∧ i = .int .i64 k ∧ Hid (∀ j, j < k → (0 ≤ zs.getD j 0 ∧ zs.getD j 0 < 2 ^ D))) (fun i => zs.length - (intOf i).toNat)
    case atStart => exact ⟨0, Nat.zero_le _, rfl, fun j hj => by omega⟩
    case round =>
      obtain ⟨k, hk', rfl, hok⟩ := hrel
      by_cases hlt : k < zs.length
      · obtain ⟨bb, off, rfl, hbl, hcl⟩ := (unhide hA) (ne_of_lt_length hlt)
        have hck := hcl k hlt
        have hbad := hide (unhide hB2 k hlt)
        have hOk : Hid ((0 ≤ zs.getD k 0 ∧ zs.getD k 0 < 2 ^ D) → ∀ j, j < k + 1 → (0 ≤ zs.getD j 0 ∧ zs.getD j 0 < 2 ^ D)) := hide (fun h j hj => by
          rcases Nat.lt_or_eq_of_le (Nat.le_of_lt_succ hj) with h' | h'
          · exact unhide hok j h'
          · subst h'; exact h)
        clear hcl hbl
        generalize zs.getD k 0 = x at hck hbad hOk
        by_cases h1 : x < 0
        · have hB := hide (unhide hbad (fun h => by have := h.1; omega))
          clear hbad hOk
          go_wp2
          go_ret
          exact ⟨by rw [unhide hB]; rfl, unhide hU⟩
        · by_cases h2 : x < 2 ^ D
          · have hok2 := hide (unhide hOk ⟨by omega, h2⟩)
            clear hbad hOk
            go_wp2
            all_goals
              go_round
              case rel => exact ⟨k + 1, by omega, by go_num, unhide hok2⟩
              case measure => simp [intOf]; omega
          · have hB := hide (unhide hbad (fun h => h2 h.2))
            clear hbad hOk
            go_wp2
            go_ret
            exact ⟨by rw [unhide hB]; rfl, unhide hU⟩
      · have hkl : k = zs.length := by omega
        subst hkl
        have hs := hide (unhide hG2 (unhide hok))
        go_wp2
        go_ret
        exact ⟨by rw [unhide hs]; rfl, unhide hU⟩
  · have r1 : decide (1 < p) = false := by simp; omega
    go_enter Tryd.func19, Tryd.ntmps19
    go_wp2_with fail
    refine (unhide hS _).mono ?_
    rintro e w1 ⟨rfl, rfl⟩
    go_wp2_with fail
    refine (unhide hD _).mono ?_
    rintro e w1 ⟨rfl, rfl⟩
    go_wp2_with fail
    generalize w.alloc (.cells #[.int .i64 a, .int .i64 b, .int .i64 p, .int .i64 (D : Int), .slice ad zs.length cap] 30) = W1 at hU hA hW3 ⊢
    go_loop [60] (fun i => ∃ k : Nat, k ≤ zs.length ∧ i = .int .i64 k ∧ Hid (∀ j, j < k → (0 ≤ zs.getD j 0 ∧ zs.getD j 0 < 2 ^ D))) (fun i => zs.length - (intOf i).toNat)
    case atStart => exact ⟨0, Nat.zero_le _, rfl, fun j hj => by omega⟩
    case round =>
      obtain ⟨k, hk', rfl, hok⟩ := hrel
      by_cases hlt : k < zs.length
      · obtain ⟨bb, off, rfl, hbl, hcl⟩ := (unhide hA) (ne_of_lt_length hlt)
        have hck := hcl k hlt
        have hbad := hide (unhide hB2 k hlt)
        have hOk : Hid ((0 ≤ zs.getD k 0 ∧ zs.getD k 0 < 2 ^ D) → ∀ j, j < k + 1 → (0 ≤ zs.getD j 0 ∧ zs.getD j 0 < 2 ^ D)) := hide (fun h j hj => by
          rcases Nat.lt_or_eq_of_le (Nat.le_of_lt_succ hj) with h' | h'
          · exact unhide hok j h'
          · subst h'; exact h)
        clear hcl hbl
        generalize zs.getD k 0 = x at hck hbad hOk
        by_cases h1 : x < 0
        · have hB := hide (unhide hbad (fun h => by have := h.1; omega))
          clear hbad hOk
          go_wp2
          go_ret
          exact ⟨by rw [unhide hB]; rfl, unhide hU⟩
        · by_cases h2 : x < 2 ^ D
          · have hok2 := hide (unhide hOk ⟨by omega, h2⟩)
            clear hbad hOk
            go_wp2
            all_goals
              go_round
              case rel => exact ⟨k + 1, by omega, by go_num, unhide hok2⟩
              case measure => simp [intOf]; omega
          · have hB := hide (unhide hbad (fun h => h2 h.2))
            clear hbad hOk
            go_wp2
            go_ret
            exact ⟨by rw [unhide hB]; rfl, unhide hU⟩
      · have hkl : k = zs.length := by omega
        subst hkl
        have hs := hide (unhide hG2 (unhide hok))
        go_wp2
        go_ret
        exact ⟨by rw [unhide hs]; rfl, unhide hU⟩
end Go.Proofs.YthkppcncajmniaaDoor

/- GoodStill, as the specification has it. -/
namespace Go.Proofs.YthkppcncajmniaaDoor
open Go.RowKit

theorem depth_bd {dp : Int} (h : depthOk dp = true) : 1 ≤ dp ∧ dp ≤ 16 := by
  rcases depthOk_cases h with e | e | e | e | e <;> subst e <;> omega

set_option maxHeartbeats 8000000 in
set_option maxRecDepth 1000000 in
theorem specGoodStill (v : Value) (d : St) (w : World) (hn : StSize d ≤ 1048576) (hR : InSt d) (hv : RdSt w v d) :
    Calls Tryd.prog 6 #[v] w fun e w' => e = .returned (.bool (pB (GoodSt d))) ∧ Upd 0 0 w w' := by
  obtain ⟨l0, l1, l2, rfl, hr0, hr1, hr2⟩ := hv
  obtain ⟨⟨a, b, p, dp, zs⟩, zp, ps, wv⟩ := d
  simp only [Stv, StSize] at hn ⊢
  obtain ⟨hRi, _, _⟩ := hR
  change RdI w l0 zs at hr0
  change RdI w l1 zp at hr1
  change RdNt w l2 ps at hr2
  change InIm (a, b, p, dp, zs) at hRi
  have hn0 : zs.length ≤ 1048576 := by omega
  have hn1 : zp.length ≤ 1048576 := by omega
  have hn2 : ntSize ps ≤ 1048576 := by omega
  have hn3 : ps.length ≤ 1048576 := by unfold ntSize at hn2; omega
  have hEach : Hid (∀ k, k < ps.length → (ps.getD k Nt0).1.size ≤ 1048576 ∧ (ps.getD k Nt0).2.size ≤ 1048576) := hide (fun k hk => by
    have h1 := ntTo_succ ps k hk
    have h2 := ntTo_le ps (k + 1)
    unfold ntSize at hn2; omega)
  have hr0' := hide hr0
  have hr1' := hide hr1
  have hr2' := hide hr2
  obtain ⟨ad, cap, rfl, hA0⟩ := hr0
  obtain ⟨ad1, cap1, rfl, hA1⟩ := hr1
  obtain ⟨ad2, cap2, rfl, hA2⟩ := hr2
  replace hA0 := hide hA0
  replace hA1 := hide hA1
  replace hA2 := hide hA2
  clear hn hn2
  have hB0 := (Below.refl w.heap.size w).alloc (Nat.le_refl _) (.cells #[.int .i64 a, .int .i64 b, .int .i64 p, .int .i64 dp, .slice ad zs.length cap, .slice ad1 zp.length cap1, .slice ad2 ps.length cap2, .bool wv] 33)
  have hbx := hide (held_new w [.int .i64 a, .int .i64 b, .int .i64 p, .int .i64 dp, .slice ad zs.length cap, .slice ad1 zp.length cap1, .slice ad2 ps.length cap2, .bool wv] 33)
  have hGI := hide (specGoodImage _ (a, b, p, dp, zs) _ hn0 hRi ⟨_, rfl, (unhide hr0').below hB0⟩)
  replace hB0 := hide hB0
  replace hRi := hide hRi
  by_cases hg : GoodIm (a, b, p, dp, zs)
  · rw [goodImB_yes hg] at hGI
    by_cases hc : ColOk zp
    · by_cases h20 : ps.length ≤ 20
      · obtain ⟨⟨ha, hb, hab, hp, hdp, hpd⟩, hl, hsmp⟩ := id hg
        replace hdp := depth_bd hdp
        replace hl := hide hl
        replace hab := hide hab
        replace hsmp := hide hsmp
        obtain ⟨T, hT⟩ : ∃ T, totTo (sidesOf a b wv) p dp (sidesOf a b wv).length = T := ⟨_, rfl⟩
        have hTT : Hid (totOf (a, b, p, dp, zs) wv = T) := hide hT
        have hTot := hide (fun W => specL5Total a b p dp _ ad zs.length cap wv W rfl ha hb hp hdp T hT)
        replace hT := hide hT
        replace hg := hide hg
        by_cases hz : 0 < zp.length
        · by_cases hp1 : p = 1
          · by_cases hd8 : dp ≤ 8
            · subst hp1
              have hBadS : Hid (∀ k, k < zs.length → ¬ (zs.getD k 0 < (zp.length : Int)) → pB (GoodSt ((a, b, 1, dp, zs), zp, ps, wv)) = false) := hide (fun k hk hb' => pB_no (fun h => hb' ((h.2.2.1 hz).2.2 k hk)))
              go_enter Tryd.func6, Tryd.ntmps6
              go_wp2_with fail
              change Hid (Held (w.alloc (.cells #[.int .i64 a, .int .i64 b, .int .i64 1, .int .i64 dp, .slice ad zs.length cap, .slice ad1 zp.length cap1, .slice ad2 ps.length cap2, .bool wv] 33)) _ _) at hbx
              generalize w.alloc (.cells #[.int .i64 a, .int .i64 b, .int .i64 1, .int .i64 dp, .slice ad zs.length cap, .slice ad1 zp.length cap1, .slice ad2 ps.length cap2, .bool wv] 33) = w0 at hB0 hbx hGI ⊢
              refine (unhide hGI).mono ?_
              rintro e w1 ⟨rfl, hu⟩
              replace hbx := hide ((unhide hbx).keep hu)
              replace hB0 := hide (below_upd (unhide hB0) hu (Nat.le_refl _) (.inr (Nat.le_refl _)))
              clear hu
              have c0 := (unhide hbx).2 0 _ rfl
              have c1 := (unhide hbx).2 1 _ rfl
              have c2 := (unhide hbx).2 2 _ rfl
              have c3 := (unhide hbx).2 3 _ rfl
              have c4 := (unhide hbx).2 4 _ rfl
              have c5 := (unhide hbx).2 5 _ rfl
              have c6 := (unhide hbx).2 6 _ rfl
              have c7 := (unhide hbx).2 7 _ rfl
              have cl := (unhide hbx).1
              have hC := hide (specL5Colours _ zp w1 hn1 ((unhide hr1').below (unhide hB0)))
              rw [pB_yes hc] at hC
              replace hc := hide hc
              go_wp2_with fail
              refine (unhide hC).mono ?_
              rintro e w2 ⟨rfl, hw⟩
              subst w2
              go_wp2_with fail
              go_loop [41] (fun i => ∃ k : Nat, k ≤ zs.length ∧ i = .int .i64 k ∧ Hid (∀ j, j < k → zs.getD j 0 < (zp.length : Int))) (fun i => zs.length - (intOf i).toNat)
              case atStart => exact ⟨0, Nat.zero_le _, rfl, fun j hj => by omega⟩
              case round =>
                obtain ⟨k, hk', rfl, hok⟩ := hrel
                by_cases hlt : k < zs.length
                · obtain ⟨b', off', rfl, hbl, hcl⟩ := ((unhide hA0).below (unhide hB0)) (ne_of_lt_length hlt)
                  have hck := hcl k hlt
                  have hbad := hide (unhide hBadS k hlt)
                  have hOk : Hid (zs.getD k 0 < (zp.length : Int) → ∀ j, j < k + 1 → zs.getD j 0 < (zp.length : Int)) := hide (fun h j hj => by
                    rcases Nat.lt_or_eq_of_le (Nat.le_of_lt_succ hj) with h' | h'
                    · exact unhide hok j h'
                    · subst h'; exact h)
                  clear hcl hbl
                  generalize zs.getD k 0 = x at hck hbad hOk
                  by_cases h1 : x < (zp.length : Int)
                  · have hok2 := hide (unhide hOk h1)
                    have h2 : ¬ ((zp.length : Int) ≤ x) := by omega
                    clear hbad hOk
                    go_wp2
                    go_round
                    case rel => exact ⟨k + 1, by omega, by go_num, unhide hok2⟩
                    case measure => simp [intOf]; omega
                  · have hE := hide (unhide hbad (by omega))
                    have h2 : (zp.length : Int) ≤ x := by omega
                    clear hbad hOk
                    go_wp2
                    go_ret
                    exact ⟨by rw [unhide hE]; rfl, Upd.of_below (unhide hB0) 0 0⟩
                · have hkl : k = zs.length := by omega
                  subst hkl
                  go_wp2_with fail
                  have hBad : Hid (∀ k, k < ps.length → ¬ NoteOk (ps.getD k Nt0) → pB (GoodSt ((a, b, 1, dp, zs), zp, ps, wv)) = false) := hide (fun k hk hb' => pB_no (fun h => hb' (h.2.2.2.1.2 k hk)))
                  have hGood : Hid ((∀ k, k < ps.length → NoteOk (ps.getD k Nt0)) → T ≤ 6000 → pB (GoodSt ((a, b, 1, dp, zs), zp, ps, wv)) = true) := hide (fun h1 h2 => pB_yes ⟨unhide hg, unhide hc, fun _ => ⟨rfl, hd8, unhide hok⟩, ⟨h20, h1⟩, by rw [unhide hTT]; exact h2⟩)
                  have hFar : Hid (¬ T ≤ 6000 → pB (GoodSt ((a, b, 1, dp, zs), zp, ps, wv)) = false) := hide (fun h2 => pB_no (fun h => h2 (by rw [← unhide hTT]; exact h.2.2.2.2)))
                  go_loopw [54] (fun i wx => ∃ k : Nat, k ≤ ps.length ∧ i = .int .i64 k ∧ Hid (∀ j, j < k → NoteOk (ps.getD j Nt0)) ∧ Below w1.heap.size w1 wx) (fun i _ => ps.length - (intOf i).toNat)
                  case atStart => exact ⟨0, Nat.zero_le _, rfl, fun j hj => by omega, Below.refl _ _⟩
                  case round =>
                    clear c0 c1 c2 c3 c4 c5 c6 c7 cl
                    obtain ⟨k, hk, rfl, hok, hbel⟩ := hrel
                    have hbx2 := (unhide hbx).upd (Upd.of_below hbel 0 0) (.inr (Nat.zero_le _))
                    have c0 := hbx2.2 0 _ rfl
                    have c1 := hbx2.2 1 _ rfl
                    have c2 := hbx2.2 2 _ rfl
                    have c3 := hbx2.2 3 _ rfl
                    have c4 := hbx2.2 4 _ rfl
                    have c5 := hbx2.2 5 _ rfl
                    have c6 := hbx2.2 6 _ rfl
                    have c7 := hbx2.2 7 _ rfl
                    have cl := hbx2.1
                    clear hbx2
                    have hB2 := hide (below_upd (unhide hB0) (Upd.of_below hbel 0 0) (Nat.le_refl _) (.inr (Nat.le_refl _)))
                    by_cases hlt : k < ps.length
                    · obtain ⟨b', off', rfl, hbl, hcc⟩ := ((unhide hA2).below (unhide hB2)) (ne_of_lt_length hlt)
                      obtain ⟨d0, d1⟩ := hcc k hlt
                      obtain ⟨z0, z1⟩ := unhide hEach k hlt
                      have hbad := hide (unhide hBad k hlt)
                      have hOk : Hid (NoteOk (ps.getD k Nt0) → ∀ j, j < k + 1 → NoteOk (ps.getD j Nt0)) := hide (fun h j hj => by
                        rcases Nat.lt_or_eq_of_le (Nat.le_of_lt_succ hj) with h' | h'
                        · exact unhide hok j h'
                        · subst h'; exact h)
                      clear hcc hbl hok
                      generalize ps.getD k Nt0 = f at d0 d1 z0 z1 hbad hOk
                      have hNt := hide (fun W => specL5Note f W z0 z1)
                      obtain ⟨s, t⟩ := f
                      simp only at d0 d1 z0 z1
                      have hb2 := hide (hbel.alloc hbel.size (.cells #[.string s, .string t] 47))
                      have hb3 := hide ((unhide hB2).alloc (unhide hB2).size (.cells #[.string s, .string t] 47))
                      by_cases cn : NoteOk (s, t)
                      · have hok2 := hide (unhide hOk cn)
                        rw [pB_yes cn] at hNt
                        replace cn := hide cn
                        clear hbad hOk hbel
                        go_wp2_with fail
                        refine (unhide hNt _).mono ?_
                        rintro e w3 ⟨rfl, hu3⟩
                        have hb4 := hide (below_upd (unhide hb2) hu3 (Nat.le_refl _) (.inr (Nat.le_refl _)))
                        clear hu3 hb2 hb3
                        go_wp2
                        go_roundw
                        case rel => exact ⟨k + 1, by omega, by go_num, unhide hok2, unhide hb4⟩
                        case measure => simp [intOf]; omega
                      · have hE := hide (unhide hbad cn)
                        rw [pB_no cn] at hNt
                        replace cn := hide cn
                        clear hbad hOk hbel
                        go_wp2_with fail
                        refine (unhide hNt _).mono ?_
                        rintro e w3 ⟨rfl, hu3⟩
                        have hb4 := hide (below_upd (unhide hb3) hu3 (Nat.le_refl _) (.inr (Nat.le_refl _)))
                        clear hu3 hb2 hb3
                        go_wp2
                        go_ret
                        exact ⟨by rw [unhide hE]; rfl, Upd.of_below (unhide hb4) 0 0⟩
                    · have hkl : k = ps.length := by omega
                      subst hkl
                      have hg2 := hide (unhide hGood (unhide hok))
                      replace hbel := hide hbel
                      by_cases h6 : T ≤ 6000
                      · have hE := hide (unhide hg2 h6)
                        go_wp2_with fail
                        refine (unhide hTot _).mono ?_
                        rintro e w3 ⟨rfl, hu3⟩
                        have hb4 := hide (below_upd (unhide hB2) hu3 (Nat.le_refl _) (.inr (Nat.le_refl _)))
                        clear hu3
                        go_wp2
                        go_ret
                        exact ⟨by rw [unhide hE]; first | rfl | (simp; omega), Upd.of_below (unhide hb4) 0 0⟩
                      · have hE := hide (unhide hFar h6)
                        go_wp2_with fail
                        refine (unhide hTot _).mono ?_
                        rintro e w3 ⟨rfl, hu3⟩
                        have hb4 := hide (below_upd (unhide hB2) hu3 (Nat.le_refl _) (.inr (Nat.le_refl _)))
                        clear hu3
                        go_wp2
                        go_ret
                        exact ⟨by rw [unhide hE]; first | rfl | (simp; omega), Upd.of_below (unhide hb4) 0 0⟩
            · have hE := hide (pB_no (p := GoodSt ((a, b, p, dp, zs), zp, ps, wv)) (fun h => hd8 ((h.2.2.1 hz).2.1)))
              subst hp1
              have q2 : 8 < dp := by omega
              go_enter Tryd.func6, Tryd.ntmps6
              go_wp2_with fail
              change Hid (Held (w.alloc (.cells #[.int .i64 a, .int .i64 b, .int .i64 1, .int .i64 dp, .slice ad zs.length cap, .slice ad1 zp.length cap1, .slice ad2 ps.length cap2, .bool wv] 33)) _ _) at hbx
              generalize w.alloc (.cells #[.int .i64 a, .int .i64 b, .int .i64 1, .int .i64 dp, .slice ad zs.length cap, .slice ad1 zp.length cap1, .slice ad2 ps.length cap2, .bool wv] 33) = w0 at hB0 hbx hGI ⊢
              refine (unhide hGI).mono ?_
              rintro e w1 ⟨rfl, hu⟩
              replace hbx := hide ((unhide hbx).keep hu)
              replace hB0 := hide (below_upd (unhide hB0) hu (Nat.le_refl _) (.inr (Nat.le_refl _)))
              clear hu
              have c0 := (unhide hbx).2 0 _ rfl
              have c1 := (unhide hbx).2 1 _ rfl
              have c2 := (unhide hbx).2 2 _ rfl
              have c3 := (unhide hbx).2 3 _ rfl
              have c4 := (unhide hbx).2 4 _ rfl
              have c5 := (unhide hbx).2 5 _ rfl
              have c6 := (unhide hbx).2 6 _ rfl
              have c7 := (unhide hbx).2 7 _ rfl
              have cl := (unhide hbx).1
              have hC := hide (specL5Colours _ zp w1 hn1 ((unhide hr1').below (unhide hB0)))
              rw [pB_yes hc] at hC
              replace hc := hide hc
              go_wp2_with fail
              refine (unhide hC).mono ?_
              rintro e w2 ⟨rfl, hw⟩
              subst w2
              go_wp2
              go_ret
              exact ⟨by rw [unhide hE]; first | rfl | (simp; done) | (simp; omega), Upd.of_below (unhide hB0) 0 0⟩
          · have hE := hide (pB_no (p := GoodSt ((a, b, p, dp, zs), zp, ps, wv)) (fun h => hp1 ((h.2.2.1 hz).1)))
            have q1 : (p == 1) = false := beq_eq_false_iff_ne.2 hp1
            replace hp1 := hide hp1
            go_enter Tryd.func6, Tryd.ntmps6
            go_wp2_with fail
            change Hid (Held (w.alloc (.cells #[.int .i64 a, .int .i64 b, .int .i64 p, .int .i64 dp, .slice ad zs.length cap, .slice ad1 zp.length cap1, .slice ad2 ps.length cap2, .bool wv] 33)) _ _) at hbx
            generalize w.alloc (.cells #[.int .i64 a, .int .i64 b, .int .i64 p, .int .i64 dp, .slice ad zs.length cap, .slice ad1 zp.length cap1, .slice ad2 ps.length cap2, .bool wv] 33) = w0 at hB0 hbx hGI ⊢
            refine (unhide hGI).mono ?_
            rintro e w1 ⟨rfl, hu⟩
            replace hbx := hide ((unhide hbx).keep hu)
            replace hB0 := hide (below_upd (unhide hB0) hu (Nat.le_refl _) (.inr (Nat.le_refl _)))
            clear hu
            have c0 := (unhide hbx).2 0 _ rfl
            have c1 := (unhide hbx).2 1 _ rfl
            have c2 := (unhide hbx).2 2 _ rfl
            have c3 := (unhide hbx).2 3 _ rfl
            have c4 := (unhide hbx).2 4 _ rfl
            have c5 := (unhide hbx).2 5 _ rfl
            have c6 := (unhide hbx).2 6 _ rfl
            have c7 := (unhide hbx).2 7 _ rfl
            have cl := (unhide hbx).1
            have hC := hide (specL5Colours _ zp w1 hn1 ((unhide hr1').below (unhide hB0)))
            rw [pB_yes hc] at hC
            replace hc := hide hc
            go_wp2_with fail
            refine (unhide hC).mono ?_
            rintro e w2 ⟨rfl, hw⟩
            subst w2
            go_wp2
            go_ret
            exact ⟨by rw [unhide hE]; first | rfl | (simp; done) | (simp; omega), Upd.of_below (unhide hB0) 0 0⟩
        · have q0 : decide ((0 : Int) < (zp.length : Int)) = false := decide_eq_false (by omega)
          have q0n : decide (0 < zp.length) = false := decide_eq_false hz
          have hz0 : Hid (¬ 0 < zp.length) := hide hz
          clear hz
          go_enter Tryd.func6, Tryd.ntmps6
          go_wp2_with fail
          change Hid (Held (w.alloc (.cells #[.int .i64 a, .int .i64 b, .int .i64 p, .int .i64 dp, .slice ad zs.length cap, .slice ad1 zp.length cap1, .slice ad2 ps.length cap2, .bool wv] 33)) _ _) at hbx
          generalize w.alloc (.cells #[.int .i64 a, .int .i64 b, .int .i64 p, .int .i64 dp, .slice ad zs.length cap, .slice ad1 zp.length cap1, .slice ad2 ps.length cap2, .bool wv] 33) = w0 at hB0 hbx hGI ⊢
          refine (unhide hGI).mono ?_
          rintro e w1 ⟨rfl, hu⟩
          replace hbx := hide ((unhide hbx).keep hu)
          replace hB0 := hide (below_upd (unhide hB0) hu (Nat.le_refl _) (.inr (Nat.le_refl _)))
          clear hu
          have c0 := (unhide hbx).2 0 _ rfl
          have c1 := (unhide hbx).2 1 _ rfl
          have c2 := (unhide hbx).2 2 _ rfl
          have c3 := (unhide hbx).2 3 _ rfl
          have c4 := (unhide hbx).2 4 _ rfl
          have c5 := (unhide hbx).2 5 _ rfl
          have c6 := (unhide hbx).2 6 _ rfl
          have c7 := (unhide hbx).2 7 _ rfl
          have cl := (unhide hbx).1
          have hC := hide (specL5Colours _ zp w1 hn1 ((unhide hr1').below (unhide hB0)))
          rw [pB_yes hc] at hC
          replace hc := hide hc
          go_wp2_with fail
          refine (unhide hC).mono ?_
          rintro e w2 ⟨rfl, hw⟩
          subst w2
          go_wp2_with fail
          have hBad : Hid (∀ k, k < ps.length → ¬ NoteOk (ps.getD k Nt0) → pB (GoodSt ((a, b, p, dp, zs), zp, ps, wv)) = false) := hide (fun k hk hb' => pB_no (fun h => hb' (h.2.2.2.1.2 k hk)))
          have hGood : Hid ((∀ k, k < ps.length → NoteOk (ps.getD k Nt0)) → T ≤ 6000 → pB (GoodSt ((a, b, p, dp, zs), zp, ps, wv)) = true) := hide (fun h1 h2 => pB_yes ⟨unhide hg, unhide hc, fun h => absurd h (unhide hz0), ⟨h20, h1⟩, by rw [unhide hTT]; exact h2⟩)
          have hFar : Hid (¬ T ≤ 6000 → pB (GoodSt ((a, b, p, dp, zs), zp, ps, wv)) = false) := hide (fun h2 => pB_no (fun h => h2 (by rw [← unhide hTT]; exact h.2.2.2.2)))
          go_loopw [54] (fun i wx => ∃ k : Nat, k ≤ ps.length ∧ i = .int .i64 k ∧ Hid (∀ j, j < k → NoteOk (ps.getD j Nt0)) ∧ Below w1.heap.size w1 wx) (fun i _ => ps.length - (intOf i).toNat)
          case atStart => exact ⟨0, Nat.zero_le _, rfl, fun j hj => by omega, Below.refl _ _⟩
          case round =>
            clear c0 c1 c2 c3 c4 c5 c6 c7 cl
            obtain ⟨k, hk, rfl, hok, hbel⟩ := hrel
            have hbx2 := (unhide hbx).upd (Upd.of_below hbel 0 0) (.inr (Nat.zero_le _))
            have c0 := hbx2.2 0 _ rfl
            have c1 := hbx2.2 1 _ rfl
            have c2 := hbx2.2 2 _ rfl
            have c3 := hbx2.2 3 _ rfl
            have c4 := hbx2.2 4 _ rfl
            have c5 := hbx2.2 5 _ rfl
            have c6 := hbx2.2 6 _ rfl
            have c7 := hbx2.2 7 _ rfl
            have cl := hbx2.1
            clear hbx2
            have hB2 := hide (below_upd (unhide hB0) (Upd.of_below hbel 0 0) (Nat.le_refl _) (.inr (Nat.le_refl _)))
            by_cases hlt : k < ps.length
            · obtain ⟨b', off', rfl, hbl, hcc⟩ := ((unhide hA2).below (unhide hB2)) (ne_of_lt_length hlt)
              obtain ⟨d0, d1⟩ := hcc k hlt
              obtain ⟨z0, z1⟩ := unhide hEach k hlt
              have hbad := hide (unhide hBad k hlt)
              have hOk : Hid (NoteOk (ps.getD k Nt0) → ∀ j, j < k + 1 → NoteOk (ps.getD j Nt0)) := hide (fun h j hj => by
                rcases Nat.lt_or_eq_of_le (Nat.le_of_lt_succ hj) with h' | h'
                · exact unhide hok j h'
                · subst h'; exact h)
              clear hcc hbl hok
              generalize ps.getD k Nt0 = f at d0 d1 z0 z1 hbad hOk
              have hNt := hide (fun W => specL5Note f W z0 z1)
              obtain ⟨s, t⟩ := f
              simp only at d0 d1 z0 z1
              have hb2 := hide (hbel.alloc hbel.size (.cells #[.string s, .string t] 47))
              have hb3 := hide ((unhide hB2).alloc (unhide hB2).size (.cells #[.string s, .string t] 47))
              by_cases cn : NoteOk (s, t)
              · have hok2 := hide (unhide hOk cn)
                rw [pB_yes cn] at hNt
                replace cn := hide cn
                clear hbad hOk hbel
                go_wp2_with fail
                refine (unhide hNt _).mono ?_
                rintro e w3 ⟨rfl, hu3⟩
                have hb4 := hide (below_upd (unhide hb2) hu3 (Nat.le_refl _) (.inr (Nat.le_refl _)))
                clear hu3 hb2 hb3
                go_wp2
                go_roundw
                case rel => exact ⟨k + 1, by omega, by go_num, unhide hok2, unhide hb4⟩
                case measure => simp [intOf]; omega
              · have hE := hide (unhide hbad cn)
                rw [pB_no cn] at hNt
                replace cn := hide cn
                clear hbad hOk hbel
                go_wp2_with fail
                refine (unhide hNt _).mono ?_
                rintro e w3 ⟨rfl, hu3⟩
                have hb4 := hide (below_upd (unhide hb3) hu3 (Nat.le_refl _) (.inr (Nat.le_refl _)))
                clear hu3 hb2 hb3
                go_wp2
                go_ret
                exact ⟨by rw [unhide hE]; rfl, Upd.of_below (unhide hb4) 0 0⟩
            · have hkl : k = ps.length := by omega
              subst hkl
              have hg2 := hide (unhide hGood (unhide hok))
              replace hbel := hide hbel
              by_cases h6 : T ≤ 6000
              · have hE := hide (unhide hg2 h6)
                go_wp2_with fail
                refine (unhide hTot _).mono ?_
                rintro e w3 ⟨rfl, hu3⟩
                have hb4 := hide (below_upd (unhide hB2) hu3 (Nat.le_refl _) (.inr (Nat.le_refl _)))
                clear hu3
                go_wp2
                go_ret
                exact ⟨by rw [unhide hE]; first | rfl | (simp; omega), Upd.of_below (unhide hb4) 0 0⟩
              · have hE := hide (unhide hFar h6)
                go_wp2_with fail
                refine (unhide hTot _).mono ?_
                rintro e w3 ⟨rfl, hu3⟩
                have hb4 := hide (below_upd (unhide hB2) hu3 (Nat.le_refl _) (.inr (Nat.le_refl _)))
                clear hu3
                go_wp2
                go_ret
                exact ⟨by rw [unhide hE]; first | rfl | (simp; omega), Upd.of_below (unhide hb4) 0 0⟩
      · have hE := hide (pB_no (p := GoodSt ((a, b, p, dp, zs), zp, ps, wv)) (fun h => h20 h.2.2.2.1.1))
        have h21 : 20 < ps.length := by omega
        replace hg := hide hg
        go_enter Tryd.func6, Tryd.ntmps6
        go_wp2_with fail
        change Hid (Held (w.alloc (.cells #[.int .i64 a, .int .i64 b, .int .i64 p, .int .i64 dp, .slice ad zs.length cap, .slice ad1 zp.length cap1, .slice ad2 ps.length cap2, .bool wv] 33)) _ _) at hbx
        generalize w.alloc (.cells #[.int .i64 a, .int .i64 b, .int .i64 p, .int .i64 dp, .slice ad zs.length cap, .slice ad1 zp.length cap1, .slice ad2 ps.length cap2, .bool wv] 33) = w0 at hB0 hbx hGI ⊢
        refine (unhide hGI).mono ?_
        rintro e w1 ⟨rfl, hu⟩
        replace hbx := hide ((unhide hbx).keep hu)
        replace hB0 := hide (below_upd (unhide hB0) hu (Nat.le_refl _) (.inr (Nat.le_refl _)))
        clear hu
        have c0 := (unhide hbx).2 0 _ rfl
        have c1 := (unhide hbx).2 1 _ rfl
        have c2 := (unhide hbx).2 2 _ rfl
        have c3 := (unhide hbx).2 3 _ rfl
        have c4 := (unhide hbx).2 4 _ rfl
        have c5 := (unhide hbx).2 5 _ rfl
        have c6 := (unhide hbx).2 6 _ rfl
        have c7 := (unhide hbx).2 7 _ rfl
        have cl := (unhide hbx).1
        have hC := hide (specL5Colours _ zp w1 hn1 ((unhide hr1').below (unhide hB0)))
        rw [pB_yes hc] at hC
        replace hc := hide hc
        go_wp2_with fail
        refine (unhide hC).mono ?_
        rintro e w2 ⟨rfl, hw⟩
        subst w2
        go_wp2
        go_ret
        exact ⟨by rw [unhide hE]; first | rfl | (simp; done) | (simp; omega), Upd.of_below (unhide hB0) 0 0⟩
    · have hE := hide (pB_no (p := GoodSt ((a, b, p, dp, zs), zp, ps, wv)) (fun h => hc h.2.1))
      replace hg := hide hg
      go_enter Tryd.func6, Tryd.ntmps6
      go_wp2_with fail
      change Hid (Held (w.alloc (.cells #[.int .i64 a, .int .i64 b, .int .i64 p, .int .i64 dp, .slice ad zs.length cap, .slice ad1 zp.length cap1, .slice ad2 ps.length cap2, .bool wv] 33)) _ _) at hbx
      generalize w.alloc (.cells #[.int .i64 a, .int .i64 b, .int .i64 p, .int .i64 dp, .slice ad zs.length cap, .slice ad1 zp.length cap1, .slice ad2 ps.length cap2, .bool wv] 33) = w0 at hB0 hbx hGI ⊢
      refine (unhide hGI).mono ?_
      rintro e w1 ⟨rfl, hu⟩
      replace hbx := hide ((unhide hbx).keep hu)
      replace hB0 := hide (below_upd (unhide hB0) hu (Nat.le_refl _) (.inr (Nat.le_refl _)))
      clear hu
      have c0 := (unhide hbx).2 0 _ rfl
      have c1 := (unhide hbx).2 1 _ rfl
      have c2 := (unhide hbx).2 2 _ rfl
      have c3 := (unhide hbx).2 3 _ rfl
      have c4 := (unhide hbx).2 4 _ rfl
      have c5 := (unhide hbx).2 5 _ rfl
      have c6 := (unhide hbx).2 6 _ rfl
      have c7 := (unhide hbx).2 7 _ rfl
      have cl := (unhide hbx).1
      have hC := hide (specL5Colours _ zp w1 hn1 ((unhide hr1').below (unhide hB0)))
      rw [pB_no hc] at hC
      replace hc := hide hc
      go_wp2_with fail
      refine (unhide hC).mono ?_
      rintro e w2 ⟨rfl, hw⟩
      subst w2
      go_wp2
      go_ret
      exact ⟨by rw [unhide hE]; first | rfl | (simp; done) | (simp; omega), Upd.of_below (unhide hB0) 0 0⟩
  · rw [goodImB_no hg] at hGI
    have hE := hide (pB_no (p := GoodSt ((a, b, p, dp, zs), zp, ps, wv)) (fun h => hg h.1))
    replace hg := hide hg
    go_enter Tryd.func6, Tryd.ntmps6
    go_wp2_with fail
    change Hid (Held (w.alloc (.cells #[.int .i64 a, .int .i64 b, .int .i64 p, .int .i64 dp, .slice ad zs.length cap, .slice ad1 zp.length cap1, .slice ad2 ps.length cap2, .bool wv] 33)) _ _) at hbx
    generalize w.alloc (.cells #[.int .i64 a, .int .i64 b, .int .i64 p, .int .i64 dp, .slice ad zs.length cap, .slice ad1 zp.length cap1, .slice ad2 ps.length cap2, .bool wv] 33) = w0 at hB0 hbx hGI ⊢
    refine (unhide hGI).mono ?_
    rintro e w1 ⟨rfl, hu⟩
    replace hbx := hide ((unhide hbx).keep hu)
    replace hB0 := hide (below_upd (unhide hB0) hu (Nat.le_refl _) (.inr (Nat.le_refl _)))
    clear hu
    have c0 := (unhide hbx).2 0 _ rfl
    have c1 := (unhide hbx).2 1 _ rfl
    have c2 := (unhide hbx).2 2 _ rfl
    have c3 := (unhide hbx).2 3 _ rfl
    have c4 := (unhide hbx).2 4 _ rfl
    have c5 := (unhide hbx).2 5 _ rfl
    have c6 := (unhide hbx).2 6 _ rfl
    have c7 := (unhide hbx).2 7 _ rfl
    have cl := (unhide hbx).1
    go_wp2
    go_ret
    exact ⟨by rw [unhide hE]; first | rfl | (simp; done) | (simp; omega), Upd.of_below (unhide hB0) 0 0⟩
end Go.Proofs.YthkppcncajmniaaDoor

/- The walk of the program's test of a side. -/
namespace Go.Proofs.YthkppcncajmniaaDoor
open Go.RowKit

set_option maxHeartbeats 1000000 in
theorem implGoodSide (a : Int) (w : World) : Calls Tryd.prog 60 #[.int .i64 a] w fun e w' => e = .returned (.bool (sideB a)) ∧ w' = w := by
  by_cases ha : 1 ≤ a ∧ a ≤ 512
  · rw [sideB_yes ha]
    obtain ⟨a1, a2⟩ := ha
    go_enter Tryd.func60, Tryd.ntmps60
    go_wp2
    go_ret
    exact ⟨rfl, rfl⟩
  · rw [sideB_no ha]
    by_cases h1 : a < 1
    · have q1 : decide (1 ≤ a) = false := by simp; omega
      clear ha
      go_enter Tryd.func60, Tryd.ntmps60
      go_wp2
      go_ret
      exact ⟨rfl, rfl⟩
    · have q1 : decide (1 ≤ a) = true := by simp; omega
      have q2 : decide (a ≤ 512) = false := by simp; omega
      clear ha
      go_enter Tryd.func60, Tryd.ntmps60
      go_wp2
      go_ret
      exact ⟨rfl, rfl⟩

end Go.Proofs.YthkppcncajmniaaDoor

/- Laws of the walk that the guide's texts lack: a part of a row read as a whole; and rows of numbers told by a function. -/
namespace Go.Proofs.YthkppcncajmniaaDoor
open Go.RowKit

theorem wpList_load_list {P : Program} {ops : Array Oper} {rest : List Oper} {o : Oper} {a : Act} {w : World} {Q : Exit → Act → World → Prop} (hgd : o.guard = none) (ty : TypeId) (x : Operand) (ho : o.op = .load ty x)
    (p : Addr) (hx : a.eval x = .pointer (some p)) (l : List Value) (hl : ∀ j v, l[j]? = some v → w.cell? (p.add j) = some v) (d : TypeDesc)
    (hu : P.underlying ty = some d) (hd : (match d with | .struct _ | .array _ _ => true | _ => false) = true) (hi : (P.info? ty).map (·.size) = some l.length)
    (h : wpList P ops Q rest (a.put o.dst (.agg l.toArray)) w) : wpList P ops Q (o :: rest) a w := by
  have hL : (loadVar ty p).run P w = .ok (.agg l.toArray) w := by
    cases hq : P.info? ty with
    | none => simp [hq] at hi
    | some i =>
      have hs : i.size = l.length := by simpa [hq] using hi
      have hagg : (isAgg ty).run P w = .ok true w := by
        unfold isAgg
        rw [Sem.run_bind, run_underlying hu w]
        cases d <;> simp_all
      have hll := run_loadCells_list (P := P) w p l hl
      simp [loadVar, Sem.run_bind, hagg, sizeOf, typeInfo, hq, hs, hll]
  refine wpList_plain hgd fun K hK => ?_
  unfold Oper.wp execOp
  simp only [ho, hx, Instr.loadAt, Instr.sureAddr, Sem.run_bind, Sem.run_pure, Result.andThen_ok, hL]
  exact hK _ _ h

/-- A row of numbers, told by a function, within an array of cells: n of them from o on. -/
def NumsAt (cs : Array Value) (o n : Nat) (f : Nat → Nat) : Prop := ∀ j, j < n → cs[o + j]? = some (.int .i64 (f j : Nat))
theorem NumsAt.set {cs : Array Value} {o n : Nat} {f : Nat → Nat} (h : NumsAt cs o n f) (i x : Nat) (hi : i < n) (f' : Nat → Nat) (hx : f' i = x) (hf : ∀ j, j ≠ i → f' j = f j) :
    NumsAt (cs.setIfInBounds (o + i) (.int .i64 (x : Nat))) o n f' := by
  intro j hj
  have hs : o + i < cs.size := by
    have := h i hi
    exact (Array.getElem?_eq_some_iff.1 this).1
  rw [Array.getElem?_setIfInBounds]
  by_cases e : i = j
  · subst e; rw [if_pos rfl, if_pos hs, hx]
  · rw [if_neg (by omega), hf j (by omega)]; exact h j hj
theorem NumsAt.other {cs : Array Value} {o n : Nat} {f : Nat → Nat} (h : NumsAt cs o n f) (i : Nat) (u : Value) (hi : i < o ∨ o + n ≤ i) : NumsAt (cs.setIfInBounds i u) o n f := by
  intro j hj
  rw [Array.getElem?_setIfInBounds, if_neg (by omega)]; exact h j hj
theorem getElem?_set_other {cs : Array Value} {i k : Nat} {u v : Value} (h : cs[k]? = some v) (hne : i ≠ k) : (cs.setIfInBounds i u)[k]? = some v := by
  rw [Array.getElem?_setIfInBounds, if_neg hne]; exact h
theorem getElem?_set_same {cs : Array Value} {i : Nat} {u : Value} (h : i < cs.size) : (cs.setIfInBounds i u)[i]? = some u := by
  rw [Array.getElem?_setIfInBounds, if_pos rfl, if_pos h]
def OneCells (cs : Array Value) : Prop := cs.all (·.oneCell') = true
theorem OneCells.set {cs : Array Value} (h : OneCells cs) (i : Nat) (u : Value) (hu : u.oneCell' = true) : OneCells (cs.setIfInBounds i u) := by
  unfold OneCells at *
  rw [Array.all_eq_true_iff_forall_mem] at h ⊢
  intro v hv
  rcases Array.mem_or_eq_of_mem_setIfInBounds hv with hv | rfl
  · exact h v hv
  · exact hu
theorem add_cell (g o j : Nat) : (⟨g, o, none⟩ : Addr).add j = ⟨g, o + j, none⟩ := by unfold Addr.add; split <;> simp_all
theorem list_of_nums {cs : Array Value} {o n : Nat} {f : Nat → Nat} (h : NumsAt cs o n f) {w : World} {g : Nat} {t : TypeId} {fr : Nat × Nat} (hg : w.heap[g]? = some (.cells cs t fr)) :
    ∀ j v, ((List.range n).map fun j => Value.int .i64 (f j : Nat))[j]? = some v → w.cell? ((⟨g, o, none⟩ : Addr).add j) = some v := by
  intro j v hv
  rw [add_cell, cell_of_row w g _ cs t fr hg]
  rw [List.getElem?_map] at hv
  by_cases hj : j < n
  · rw [List.getElem?_range hj] at hv
    simp at hv; rw [h j hj, ← hv]
  · rw [List.getElem?_eq_none (by simp; omega)] at hv; simp at hv
theorem numsAt_list (n : Nat) (f : Nat → Nat) : NumsAt ((List.range n).map fun j => Value.int .i64 (f j : Nat)).toArray 0 n f := by
  intro j hj
  simp [hj]
theorem oneCells_list (n : Nat) (f : Nat → Nat) : OneCells ((List.range n).map fun j => Value.int .i64 (f j : Nat)).toArray := by
  unfold OneCells
  rw [Array.all_eq_true_iff_forall_mem]
  intro v hv
  simp at hv
  obtain ⟨j, _, rfl⟩ := hv
  rfl
end Go.Proofs.YthkppcncajmniaaDoor

/- The walk of Passes: the specification's whole, the program's count. -/
namespace Go.Proofs.YthkppcncajmniaaDoor
open Go.RowKit

set_option maxHeartbeats 1000000 in
theorem implCountSteps (n f s : Int) (w : World) (hn0 : 1 ≤ n) (hn : n ≤ 512) (hf : 0 ≤ f ∧ f < s) (hs : 1 ≤ s ∧ s ≤ 8) :
    Calls Tryd.prog 62 #[.int .i64 n, .int .i64 f, .int .i64 s] w fun e w' => e = .returned (.int .i64 (cntF n f s)) ∧ w' = w := by
  have hE := hide (cntF_steps hn0 hf hs)
  obtain ⟨f1, f2⟩ := hf
  obtain ⟨s1, s2⟩ := hs
  go_enter Tryd.func62, Tryd.ntmps62
  go_wp2
  go_ret
  exact ⟨ret_int (unhide hE), rfl⟩

/-- The program's table of passes, as it lies in its variable. -/
def passCells : List Value := [.int .i64 0, .int .i64 0, .int .i64 8, .int .i64 8, .int .i64 0, .int .i64 0, .int .i64 4, .int .i64 0, .int .i64 8, .int .i64 8, .int .i64 0, .int .i64 0, .int .i64 0, .int .i64 4, .int .i64 4, .int .i64 8, .int .i64 0, .int .i64 0, .int .i64 2, .int .i64 0, .int .i64 4, .int .i64 4, .int .i64 0, .int .i64 0, .int .i64 0, .int .i64 2, .int .i64 2, .int .i64 4, .int .i64 0, .int .i64 0, .int .i64 1, .int .i64 0, .int .i64 2, .int .i64 2, .int .i64 0, .int .i64 0, .int .i64 0, .int .i64 1, .int .i64 1, .int .i64 2, .int .i64 0, .int .i64 0]
theorem passSize : (Tryd.prog.info? 81).map (·.size) = some passCells.length := by kernel_rfl
theorem passIdx (k : Nat) (h : k < 7) (w : World) : (Instr.index 81 (.agg passCells.toArray) (.int .i64 k)).run Tryd.prog w = .ok (.agg #[.int .i64 (passAt k).1, .int .i64 (passAt k).2.1, .int .i64 (passAt k).2.2.1, .int .i64 (passAt k).2.2.2, .int .i64 0, .int .i64 0]) w := by
  rcases (show k = 0 ∨ k = 1 ∨ k = 2 ∨ k = 3 ∨ k = 4 ∨ k = 5 ∨ k = 6 by omega) with e | e | e | e | e | e | e <;> subst e <;> kernel_rfl

set_option maxHeartbeats 8000000 in
set_option maxRecDepth 1000000 in
theorem implPasses (a b : Int) (w : World) (hT : Held w 0 passCells) (_hl : -9223372036854775808 ≤ a) (_hh : a ≤ 9223372036854775807) (_hl2 : -9223372036854775808 ≤ b) (_hh2 : b ≤ 9223372036854775807) :
    Calls Tryd.prog 58 #[.int .i64 a, .int .i64 b] w fun e w' => ∃ v, e = .returned v ∧ OwnPs w' w.heap.size w'.heap.size v (passesF a b) ∧ Upd 0 0 w w' := by
  have hS := hide (implGoodSide a w)
  have hS2 := hide (implGoodSide b w)
  by_cases ha : 1 ≤ a ∧ a ≤ 512
  case neg =>
    rw [sideB_no ha] at hS
    rw [passesF_no (fun h => ha h.1)]
    clear ha
    go_enter Tryd.func58, Tryd.ntmps58
    go_wp2_with fail
    refine (unhide hS).mono ?_
    rintro e w1 ⟨rfl, rfl⟩
    go_wp2
    go_ret
    exact ⟨_, rfl, own_nilPs _ _ _, Upd.refl _ _ _⟩
  rw [sideB_yes ha] at hS
  by_cases hb : 1 ≤ b ∧ b ≤ 512
  case neg =>
    rw [sideB_no hb] at hS2
    rw [passesF_no (fun h => hb h.2)]
    clear ha hb
    go_enter Tryd.func58, Tryd.ntmps58
    go_wp2_with fail
    refine (unhide hS).mono ?_
    rintro e w1 ⟨rfl, rfl⟩
    go_wp2_with fail
    refine (unhide hS2).mono ?_
    rintro e w1 ⟨rfl, rfl⟩
    go_wp2
    go_ret
    exact ⟨_, rfl, own_nilPs _ _ _, Upd.refl _ _ _⟩
  rw [sideB_yes hb] at hS2
  rw [passesF_yes ha hb]
  obtain ⟨i0, hi, hz0, hz1, hz2⟩ := info_parts infoPs
  obtain ⟨a1, a2⟩ := ha
  obtain ⟨b1, b2⟩ := hb
  have hidx := hide passIdx
  have htl : ∀ j v, passCells[j]? = some v → w.cell? ((⟨0, 0, none⟩ : Addr).add j) = some v := fun j v h => by
    have := hT.2 j v h
    have e : ((⟨0, 0, none⟩ : Addr).add j) = ⟨0, j, none⟩ := by by_cases h0 : j = 0 <;> simp [Addr.add, h0]
    rw [e]; exact this
  have hp0 := hT.1
  clear hT
  replace htl := hide htl
  go_enter Tryd.func58, Tryd.ntmps58
  go_wp2_with fail
  refine (unhide hS).mono ?_
  rintro e w1 ⟨rfl, rfl⟩
  go_wp2_with fail
  refine (unhide hS2).mono ?_
  rintro e w1 ⟨rfl, rfl⟩
  clear hS hS2
  have hpsz := hide passSize
  generalize passCells = L at htl hidx hpsz
  go_wp2_with (first | (refine wpList_load_list rfl 81 (.global 0) rfl ⟨0, 0, none⟩ rfl L (unhide htl) _ Tryd.underlying81 rfl (unhide hpsz) ?_))
  have hln0 := passTo_len
  go_loopw [5, 17] (fun out i wr => ∃ k : Nat, k ≤ 7 ∧ i = .int .i64 k ∧ wr.ownsRow w1.heap.size 73 6 out (passTo a b k).length (cellsPs (passTo a b k)) ∧ Below w1.heap.size w1 wr) (fun _ i _ => 7 - (intOf i).toNat)
  case atStart => exact ⟨0, by omega, rfl, World.ownsRow_nil _ _ _ _, Below.refl _ _⟩
  case round =>
    obtain ⟨k, hk, rfl, hown, hbel⟩ := hrel
    by_cases hlt : k < 7
    · have hbd := passAt_bd k hlt
      have hix := unhide hidx k hlt wr
      have hadd := hide (show passTo a b (k + 1) = passTo a b k ++ passAdd a b k from rfl)
      have hAdd := hide (show passAdd a b k = if 0 < cntF a (passAt k).1 (passAt k).2.2.1 ∧ 0 < cntF b (passAt k).2.1 (passAt k).2.2.2 then [passOne a b k] else [] from rfl)
      have hOne := hide (show passOne a b k = ((passAt k).1, (passAt k).2.1, (passAt k).2.2.1, (passAt k).2.2.2, cntF a (passAt k).1 (passAt k).2.2.1, cntF b (passAt k).2.1 (passAt k).2.2.2) from rfl)
      have hln := hln0 a b k
      generalize passOne a b k = one at hOne hAdd
      generalize passAdd a b k = add at hAdd hadd
      generalize passAt k = q at hbd hAdd hOne hix
      obtain ⟨x, y, sx, sy⟩ := q
      simp only at hbd hAdd hOne hix
      obtain ⟨hx, hy, hsx, hsy, hxs, hys⟩ := hbd
      have hC1 := hide (fun W => implCountSteps a x sx W a1 a2 ⟨hx.1, hxs⟩ hsx)
      have hC2 := hide (fun W => implCountSteps b y sy W b1 b2 ⟨hy.1, hys⟩ hsy)
      have hb1 := cntF_bd (n := a) (f := x) (s := sx) (by omega) hx.1 hsx
      have hb2 := cntF_bd (n := b) (f := y) (s := sy) (by omega) hy.1 hsy
      generalize cntF a x sx = c1 at hC1 hb1 hAdd hOne
      generalize cntF b y sy = c2 at hC2 hb2 hAdd hOne
      have hszw := hbel.size
      go_wp2_with fail
      refine (unhide hC1 _).mono ?_
      rintro e w2 ⟨rfl, hw2⟩
      subst hw2
      go_wp2_with fail
      refine (unhide hC2 _).mono ?_
      rintro e w2 ⟨rfl, hw2⟩
      subst hw2
      clear hC1 hC2 hix
      by_cases hc : 0 < c1 ∧ 0 < c2
      · have hA1 := hide (show passTo a b (k + 1) = passTo a b k ++ [(x, y, sx, sy, c1, c2)] by rw [unhide hadd, unhide hAdd, if_pos hc, unhide hOne])
        have q1 : decide (0 < c1) = true := by simp; omega
        have q2 : decide (0 < c2) = true := by simp; omega
        clear hc
        have hnew : ∀ j u, [Value.int .i64 x, .int .i64 y, .int .i64 sx, .int .i64 sy, .int .i64 c1, .int .i64 c2][j]? = some u → ((wr.alloc (.cells #[.int .i64 x, .int .i64 y, .int .i64 sx, .int .i64 sy, .int .i64 c1, .int .i64 c2] 73)).alloc (.cells #[.int .i64 x, .int .i64 y, .int .i64 sx, .int .i64 sy, .int .i64 c1, .int .i64 c2] 73)).cell? ((⟨wr.heap.size + 1, 0, none⟩ : Addr).add j) = some u := by
          have := six_new (wr.alloc (.cells #[.int .i64 x, .int .i64 y, .int .i64 sx, .int .i64 sy, .int .i64 c1, .int .i64 c2] 73)) (.int .i64 x) (.int .i64 y) (.int .i64 sx) (.int .i64 sy) (.int .i64 c1) (.int .i64 c2) 73
          simp only [World.size_alloc] at this
          exact this
        go_wp2_with (at_builtin; refine wpList_append_own _ rfl (.tmp 42) (.tmp 44) 70 rfl w1.heap.size 73 i0 (.agg #[.int .i64 0, .int .i64 0, .int .i64 0, .int .i64 0, .int .i64 0, .int .i64 0]) 6 48 Tryd.underlying70 hi hz0 hz1 hz2 rfl (by decide) _ _ _ rfl ((hown.alloc _).alloc _) ⟨wr.heap.size + 1, 0, none⟩ 1 1 [.int .i64 x, .int .i64 y, .int .i64 sx, .int .i64 sy, .int .i64 c1, .int .i64 c2] rfl rfl hnew (six_one _ _ _ _ _ _) (by unfold maxLen; omega) (by omega) (by simp; omega) ?_)
        intro v' w2 hown' hgrow _
        have hbel2 := hide ((((hbel.alloc (by omega) (.cells #[.int .i64 x, .int .i64 y, .int .i64 sx, .int .i64 sy, .int .i64 c1, .int .i64 c2] 73)).alloc (by simp; omega) (.cells #[.int .i64 x, .int .i64 y, .int .i64 sx, .int .i64 sy, .int .i64 c1, .int .i64 c2] 73))).grown hgrow (by simp; omega) (fun j hj => (hown.lt j hj).1))
        rw [← cellsPs_snoc (passTo a b k) (x, y, sx, sy, c1, c2), ← unhide hA1] at hown'
        have hln2 : (passTo a b k).length + 1 = (passTo a b (k + 1)).length := by rw [unhide hA1]; simp
        rw [hln2] at hown'
        replace hown' := hide hown'
        clear hgrow hnew hown hbel hln2
        go_wp2
        go_roundw
        case rel => exact ⟨k + 1, by omega, by go_num, unhide hown', unhide hbel2⟩
        case measure => simp [intOf]; omega
      · have hA1 := hide (show passTo a b (k + 1) = passTo a b k by rw [unhide hadd, unhide hAdd, if_neg hc, List.append_nil])
        have hbel2 := hide (hbel.alloc (by omega) (.cells #[.int .i64 x, .int .i64 y, .int .i64 sx, .int .i64 sy, .int .i64 c1, .int .i64 c2] 73))
        have hown2 := hide (hown.alloc (.cells #[.int .i64 x, .int .i64 y, .int .i64 sx, .int .i64 sy, .int .i64 c1, .int .i64 c2] 73))
        by_cases h1 : 0 < c1
        · have q1 : decide (0 < c1) = true := by simp; omega
          have q2 : decide (0 < c2) = false := by simp; omega
          clear hc hown hbel
          go_wp2
          go_roundw
          case rel => exact ⟨k + 1, by omega, by go_num, by rw [unhide hA1]; exact unhide hown2, unhide hbel2⟩
          case measure => simp [intOf]; omega
        · have q1 : decide (0 < c1) = false := by simp; omega
          clear hc hown hbel
          go_wp2
          go_roundw
          case rel => exact ⟨k + 1, by omega, by go_num, by rw [unhide hA1]; exact unhide hown2, unhide hbel2⟩
          case measure => simp [intOf]; omega
    · have hk7 : k = 7 := by omega
      subst hk7
      have ho := hide (Own.of hown)
      clear hown
      go_wp2
      go_ret
      exact ⟨_, rfl, unhide ho, Upd.of_below hbel 0 0⟩
end Go.Proofs.YthkppcncajmniaaDoor

/- How many bytes a still's rows have, as the program counts them. -/
namespace Go.Proofs.YthkppcncajmniaaDoor
open Go.RowKit

abbrev stc (a b p dp : Int) (vl v1 v2 : Value) (wv : Bool) : List Value := [.int .i64 a, .int .i64 b, .int .i64 p, .int .i64 dp, vl, v1, v2, .bool wv]
def psOf (a b : Int) (wv : Bool) : List Ps := if wv then passTo a b 7 else [(0, 0, 1, 1, a, b)]
def pairP (q : Ps) : Int × Int := (q.2.2.2.2.1, q.2.2.2.2.2)
theorem psOf_sides (a b : Int) (wv : Bool) : (psOf a b wv).map pairP = sidesOf a b wv := by cases wv <;> rfl
theorem psOf_len (a b : Int) (wv : Bool) : (psOf a b wv).length ≤ 7 := by
  cases wv with
  | false => simp [psOf]
  | true => simp [psOf]; exact passTo_len a b 7
theorem pairP_getD (ps : List Ps) (k : Nat) (h : k < ps.length) : (ps.map pairP).getD k (0, 0) = pairP (ps.getD k Ps0) := by
  simp [List.getD_eq_getElem?_getD, List.getElem?_eq_getElem h]

set_option maxHeartbeats 2000000 in
set_option maxRecDepth 100000 in
theorem implStPasses (a b p dp : Int) (ad ad1 ad2 : Option Addr) (n n1 n2 cap cap1 cap2 : Nat) (wv : Bool) (w : World) (hT : Held w 0 passCells) (ha : 1 ≤ a ∧ a ≤ 512) (hb : 1 ≤ b ∧ b ≤ 512) :
    Calls Tryd.prog 50 #[.agg #[.int .i64 a, .int .i64 b, .int .i64 p, .int .i64 dp, .slice ad n cap, .slice ad1 n1 cap1, .slice ad2 n2 cap2, .bool wv]] w fun e w' => ∃ v, e = .returned v ∧ OwnPs w' w.heap.size w'.heap.size v (psOf a b wv) ∧ Upd 0 0 w w' := by
  have hB0 := (Below.refl w.heap.size w).alloc (Nat.le_refl _) (.cells #[.int .i64 a, .int .i64 b, .int .i64 p, .int .i64 dp, .slice ad n cap, .slice ad1 n1 cap1, .slice ad2 n2 cap2, .bool wv] 33)
  cases wv with
  | false =>
    have hB1 := hide (hB0.alloc (by simp) (.cells (cellsPs [(0, 0, 1, 1, a, b)]).toArray 73))
    have hown : ((w.alloc (.cells #[.int .i64 a, .int .i64 b, .int .i64 p, .int .i64 dp, .slice ad n cap, .slice ad1 n1 cap1, .slice ad2 n2 cap2, .bool false] 33)).alloc (.cells (cellsPs [(0, 0, 1, 1, a, b)]).toArray 73)).ownsRow w.heap.size 73 6 (.slice (some ⟨w.heap.size + 1, 0, none⟩) 1 1) 1 (cellsPs [(0, 0, 1, 1, a, b)]) := by
      refine ⟨rfl, .inr ⟨w.heap.size + 1, 1, (cellsPs [(0, 0, 1, 1, a, b)]).toArray, rfl, by omega, ?_, Nat.le_refl _, by unfold maxLen; omega, rfl, rfl⟩⟩
      have := heap_alloc_new (w.alloc (.cells #[.int .i64 a, .int .i64 b, .int .i64 p, .int .i64 dp, .slice ad n cap, .slice ad1 n1 cap1, .slice ad2 n2 cap2, .bool false] 33)) (.cells (cellsPs [(0, 0, 1, 1, a, b)]).toArray 73)
      simpa using this
    replace hown := hide (Own.of hown)
    clear hB0 hT
    go_enter Tryd.func50, Tryd.ntmps50
    go_wp2
    go_ret
    exact ⟨_, rfl, unhide hown, Upd.of_below (unhide hB1) 0 0⟩
  | true =>
    have hP := hide (implPasses a b _ (hT.keep (Upd.of_below hB0 0 0)) (by omega) (by omega) (by omega) (by omega))
    have hE : passesF a b = psOf a b true := by unfold passesF; rw [if_pos ⟨ha, hb⟩]; rfl
    rw [hE] at hP
    replace hB0 := hide (Upd.of_below hB0 0 0)
    clear hT hE
    go_enter Tryd.func50, Tryd.ntmps50
    go_wp2_with fail
    refine (unhide hP).mono ?_
    rintro e w1 ⟨v, rfl, ho, hu⟩
    have hu2 := hide ((unhide hB0).trans hu)
    have ho2 := hide (own_mono ho (by simp : w.heap.size ≤ _) (Nat.le_refl _))
    clear hP ho hu
    go_wp2
    go_ret
    exact ⟨v, rfl, unhide ho2, unhide hu2⟩

set_option maxHeartbeats 2000000 in
theorem implStRowBytes (a b p dp : Int) (vl v1 v2 : Value) (ad ad1 ad2 : Option Addr) (n n1 n2 cap cap1 cap2 : Nat) (wv : Bool) (q : Ps) (w : World) (e0 : vl = .slice ad n cap) (e1 : v1 = .slice ad1 n1 cap1) (e2 : v2 = .slice ad2 n2 cap2) (hq : 1 ≤ q.2.2.2.2.1 ∧ q.2.2.2.2.1 ≤ 512) (hp : 1 ≤ p ∧ p ≤ 4) (hd : 1 ≤ dp ∧ dp ≤ 16) :
    Calls Tryd.prog 51 #[.agg #[.int .i64 a, .int .i64 b, .int .i64 p, .int .i64 dp, vl, v1, v2, .bool wv], .agg #[.int .i64 q.1, .int .i64 q.2.1, .int .i64 q.2.2.1, .int .i64 q.2.2.2.1, .int .i64 q.2.2.2.2.1, .int .i64 q.2.2.2.2.2]] w fun e w' => e = .returned (.int .i64 (rowOf q.2.2.2.2.1 p dp)) ∧ Upd 0 0 w w' := by
  subst e0 e1 e2
  obtain ⟨q0, q1, q2, q3, q4, q5⟩ := q
  simp only at hq ⊢
  obtain ⟨x, y, hx, hy, hx1, hy1, hy2, hr⟩ := rowOf_bd hq hp hd
  have hB := hide (Upd.of_below (((Below.refl w.heap.size w).alloc (Nat.le_refl _) (.cells #[.int .i64 a, .int .i64 b, .int .i64 p, .int .i64 dp, .slice ad n cap, .slice ad1 n1 cap1, .slice ad2 n2 cap2, .bool wv] 33)).alloc (by simp) (.cells #[.int .i64 q0, .int .i64 q1, .int .i64 q2, .int .i64 q3, .int .i64 q4, .int .i64 q5] 73)) 0 0)
  obtain ⟨x1, x2⟩ := hx1
  rw [hr]
  clear hr
  go_enter Tryd.func51, Tryd.ntmps51
  go_wp2
  go_ret
  exact ⟨by simp, unhide hB⟩

set_option maxHeartbeats 8000000 in
set_option maxRecDepth 1000000 in
theorem implCountRows (a b p d : Int) (ad ad1 ad2 : Option Addr) (n n1 n2 cap cap1 cap2 : Nat) (wv : Bool) (w : World) (hT : Held w 0 passCells) (ha : 1 ≤ a ∧ a ≤ 512) (hb : 1 ≤ b ∧ b ≤ 512) (hp : 1 ≤ p ∧ p ≤ 4) (hd : 1 ≤ d ∧ d ≤ 16) (T : Int) (hTT : totTo (sidesOf a b wv) p d (sidesOf a b wv).length = T) :
    Calls Tryd.prog 29 #[.agg #[.int .i64 a, .int .i64 b, .int .i64 p, .int .i64 d, .slice ad n cap, .slice ad1 n1 cap1, .slice ad2 n2 cap2, .bool wv]] w fun e w' => e = .returned (.int .i64 T) ∧ Upd 0 0 w w' := by
  have hB0 := (Below.refl w.heap.size w).alloc (Nat.le_refl _) (.cells #[.int .i64 a, .int .i64 b, .int .i64 p, .int .i64 d, .slice ad n cap, .slice ad1 n1 cap1, .slice ad2 n2 cap2, .bool wv] 33)
  have hS := hide (implStPasses a b p d ad ad1 ad2 n n1 n2 cap cap1 cap2 wv _ (hT.keep (Upd.of_below hB0 0 0)) ha hb)
  have hbx := hide (held_new w (stc a b p d (.slice ad n cap) (.slice ad1 n1 cap1) (.slice ad2 n2 cap2) wv) 33)
  replace hB0 := hide hB0
  have hin := hide (sidesOf_in wv ha hb)
  have hlen := psOf_len a b wv
  rw [← psOf_sides] at hin hTT
  generalize psOf a b wv = ps at hS hin hlen hTT
  rw [List.length_map] at hTT
  replace hTT := hide hTT
  have hpb := hide hp
  have hdb := hide hd
  clear ha hb hp hd hT
  go_enter Tryd.func29, Tryd.ntmps29
  go_wp2_with fail
  change Hid (Held (w.alloc (.cells #[.int .i64 a, .int .i64 b, .int .i64 p, .int .i64 d, .slice ad n cap, .slice ad1 n1 cap1, .slice ad2 n2 cap2, .bool wv] 33)) _ _) at hbx
  generalize w.alloc (.cells #[.int .i64 a, .int .i64 b, .int .i64 p, .int .i64 d, .slice ad n cap, .slice ad1 n1 cap1, .slice ad2 n2 cap2, .bool wv] 33) = w0 at hB0 hS hbx ⊢
  refine (unhide hS).mono ?_
  rintro e w1 ⟨v1, rfl, ho1, hu1⟩
  clear hS
  have hB1 := hide (below_upd (unhide hB0) hu1 (Nat.le_refl _) (.inr (Nat.le_refl _)))
  replace hbx := hide ((unhide hbx).keep hu1)
  have hs1 := hu1.size
  clear hB0 hu1
  obtain ⟨adp, capp, rfl, hA1⟩ := ho1.rd
  replace hA1 := hide hA1
  clear ho1
  go_wp2_with fail
  go_loopw [3, 9] (fun s i wr => ∃ k : Nat, k ≤ ps.length ∧ i = .int .i64 k ∧ s = .int .i64 (totTo (ps.map pairP) p d k) ∧ Below w1.heap.size w1 wr) (fun _ i _ => ps.length - (intOf i).toNat)
  case atStart => exact ⟨0, Nat.zero_le _, rfl, by simp [totTo], Below.refl _ _⟩
  case round =>
    obtain ⟨k, hk, rfl, rfl, hbel⟩ := hrel
    by_cases hlt : k < ps.length
    · obtain ⟨b', off', rfl, hbl, hc⟩ := ((unhide hA1).below hbel) (ne_of_lt_length hlt)
      obtain ⟨m0, m1, m2, m3, m4, m5⟩ := hc k hlt
      have hsu := totTo_succ (ps.map pairP) p d k (by simpa using hlt)
      have hbd := totTo_bd (unhide hin) (unhide hpb) (unhide hdb) k (by simpa using hk)
      have hij := unhide hin k (by simpa using hlt)
      rw [pairP_getD ps k hlt] at hsu hij
      obtain ⟨h1, h2⟩ := hij
      have hR := hide (fun W => implStRowBytes a b p d _ _ _ ad ad1 ad2 n n1 n2 cap cap1 cap2 wv (ps.getD k Ps0) W rfl rfl rfl h1 (unhide hpb) (unhide hdb))
      obtain ⟨x, y, _, _, _, y1, y2, hr⟩ := rowOf_bd h1 (unhide hpb) (unhide hdb)
      obtain ⟨z, hz, z1, z2⟩ := part_bd h2 (r := rowOf (pairP (ps.getD k Ps0)).1 p d) (by omega)
      rw [hz] at hsu
      replace hsu := hide hsu
      replace hz := hide hz
      have hr1 : 1 ≤ rowOf (pairP (ps.getD k Ps0)).1 p d ∧ rowOf (pairP (ps.getD k Ps0)).1 p d ≤ 4097 := by omega
      have hbx2 := (unhide hbx).upd (Upd.of_below hbel 0 0) (.inr (Nat.zero_le _))
      clear hr hc hbl
      generalize ps.getD k Ps0 = f at m0 m1 m2 m3 m4 m5 h1 h2 hR hz hr1
      obtain ⟨f0, f1, f2, f3, f4, f5⟩ := f
      simp only at m0 m1 m2 m3 m4 m5
      simp only [pairP] at h1 h2 hr1
      change Hid (f5 * (1 + rowOf f4 p d) = z) at hz
      change Hid (∀ W, Calls Tryd.prog 51 #[.agg #[.int .i64 a, .int .i64 b, .int .i64 p, .int .i64 d, .slice ad n cap, .slice ad1 n1 cap1, .slice ad2 n2 cap2, .bool wv], .agg #[.int .i64 f0, .int .i64 f1, .int .i64 f2, .int .i64 f3, .int .i64 f4, .int .i64 f5]] W fun e w' => e = .returned (.int .i64 (rowOf f4 p d)) ∧ Upd 0 0 W w') at hR
      generalize rowOf f4 p d = R at hR hz hr1
      have hbel2 := hide (hbel.alloc hbel.size (.cells #[.int .i64 f0, .int .i64 f1, .int .i64 f2, .int .i64 f3, .int .i64 f4, .int .i64 f5] 73))
      have hbx3 := hide (hbx2.upd (Upd.of_below ((Below.refl wr.heap.size wr).alloc (Nat.le_refl _) (.cells #[.int .i64 f0, .int .i64 f1, .int .i64 f2, .int .i64 f3, .int .i64 f4, .int .i64 f5] 73)) 0 0) (.inr (Nat.zero_le _)))
      have hk6 : k ≤ 6 := by omega
      have hz' := unhide hz
      obtain ⟨r1, r2⟩ := hr1
      obtain ⟨bd1, bd2⟩ := hbd
      have hHb := hide (held_new wr [.int .i64 f0, .int .i64 f1, .int .i64 f2, .int .i64 f3, .int .i64 f4, .int .i64 f5] 73)
      clear hbx2
      go_wp2_with fail
      change Hid (Held (wr.alloc (.cells #[.int .i64 f0, .int .i64 f1, .int .i64 f2, .int .i64 f3, .int .i64 f4, .int .i64 f5] 73)) _ _) at hHb
      generalize wr.alloc (.cells #[.int .i64 f0, .int .i64 f1, .int .i64 f2, .int .i64 f3, .int .i64 f4, .int .i64 f5] 73) = W at hHb hbel2 hbx3 ⊢
      clear m0 m1 m2 m3 m4 m5
      have c0 := fun x : UpdT W => ((unhide hHb).updT x).2 0 _ rfl
      have c1 := fun x : UpdT W => ((unhide hHb).updT x).2 1 _ rfl
      have c2 := fun x : UpdT W => ((unhide hHb).updT x).2 2 _ rfl
      have c3 := fun x : UpdT W => ((unhide hHb).updT x).2 3 _ rfl
      have c4 := fun x : UpdT W => ((unhide hHb).updT x).2 4 _ rfl
      have c5 := fun x : UpdT W => ((unhide hHb).updT x).2 5 _ rfl
      have e0 := fun x : UpdT W => ((unhide hbx3).updT x).2 0 _ rfl
      have e1 := fun x : UpdT W => ((unhide hbx3).updT x).2 1 _ rfl
      have e2 := fun x : UpdT W => ((unhide hbx3).updT x).2 2 _ rfl
      have e3 := fun x : UpdT W => ((unhide hbx3).updT x).2 3 _ rfl
      have e4 := fun x : UpdT W => ((unhide hbx3).updT x).2 4 _ rfl
      have e5 := fun x : UpdT W => ((unhide hbx3).updT x).2 5 _ rfl
      have e6 := fun x : UpdT W => ((unhide hbx3).updT x).2 6 _ rfl
      have e7 := fun x : UpdT W => ((unhide hbx3).updT x).2 7 _ rfl
      have wr1 : IntKind.i64.wrap (1 + R) = 1 + R := by simp [IntKind.wrap, IntKind.bits, IntKind.signed]; omega
      have wr2 : IntKind.i64.wrap (f5 * (1 + R)) = z := by rw [hz']; simp [IntKind.wrap, IntKind.bits, IntKind.signed]; omega
      have wr3 : IntKind.i64.wrap (totTo (ps.map pairP) p d k + z) = totTo (ps.map pairP) p d k + z := by simp [IntKind.wrap, IntKind.bits, IntKind.signed]; omega
      rw [← unhide hsu] at wr3
      clear hz'
      refine wp_region_upd (by kernel_rfl) (by kernel_rfl) ?_
      repeat (quiet_step ((go_at_call 51; exact Calls.updT _ (unhide hR _))))
      refine wpQuiet_nil ?_
      rintro _ ⟨x, rfl⟩
      have hx := hide (below_upd (unhide hbel2) x.upd (Nat.le_refl _) (.inr (Nat.le_refl _)))
      generalize x.to = W2 at hx ⊢
      go_wp2_with fail
      refine ⟨⟨k + 1, by omega, by go_num, ?_, unhide hx⟩, by simp [intOf]; omega⟩
      rw [← unhide hsu, wr3]
    · have hkl : k = ps.length := by omega
      subst hkl
      rw [unhide hTT]
      replace hbel := hide (below_upd (unhide hB1) (Upd.of_below hbel 0 0) (Nat.le_refl _) (.inr (Nat.le_refl _)))
      go_wp2
      go_ret
      exact ⟨rfl, Upd.of_below (unhide hbel) 0 0⟩
end Go.Proofs.YthkppcncajmniaaDoor

/- Good stills, as the program has them: keys, values, colours and notes. -/
namespace Go.Proofs.YthkppcncajmniaaDoor
open Go.RowKit

set_option maxHeartbeats 2000000 in
theorem implGoodKey (s : ByteArray) (w : World) (h1 : s.size ≤ 1048576) :
    Calls Tryd.prog 48 #[.string s] w fun e w' => e = .returned (.bool (pB (KeyOk s))) ∧ w' = w := by
  have hBad1 : Hid (∀ k, (h : k < s.size) → ¬ ((32 : Int) ≤ ((s[k]'h).toNat : Int) ∧ ((s[k]'h).toNat : Int) ≤ 126) → pB (KeyOk s) = false) := hide (fun k hk hb => pB_no (fun h => hb (by have := h.2 k hk; rw [strB_getD s k hk] at this; exact this)))
  have hGood : Hid ((∀ k, (h : k < s.size) → ((32 : Int) ≤ ((s[k]'h).toNat : Int) ∧ ((s[k]'h).toNat : Int) ≤ 126)) → 1 ≤ s.size → s.size ≤ 40 → pB (KeyOk s) = true) := hide (fun a b c => pB_yes ⟨⟨b, c⟩, fun k hk => by rw [strB_getD s k hk]; exact a k hk⟩)
  have hLen : Hid (¬ (1 ≤ s.size ∧ s.size ≤ 40) → pB (KeyOk s) = false) := hide (fun h => pB_no (fun h' => h h'.1))
  go_enter Tryd.func48, Tryd.ntmps48
  go_wp2
  go_loop [6] (fun i => ∃ k : Nat, k ≤ s.size ∧ i = .int .i64 k ∧ Hid (∀ j, (h : j < s.size) → j < k → ((32 : Int) ≤ ((s[j]'h).toNat : Int) ∧ ((s[j]'h).toNat : Int) ≤ 126))) (fun i => s.size - (intOf i).toNat)
  case atStart => exact ⟨0, Nat.zero_le _, rfl, fun j hj hlt => by omega⟩
  case round =>
    obtain ⟨k, hk, rfl, hok⟩ := hrel
    by_cases hlt : k < s.size
    · have hb := hide (unhide hBad1 k hlt)
      have ho := hide (fun (h : (32 : Int) ≤ ((s[k]'hlt).toNat : Int) ∧ ((s[k]'hlt).toNat : Int) ≤ 126) => show ∀ j, (h : j < s.size) → j < k + 1 → ((32 : Int) ≤ ((s[j]'h).toNat : Int) ∧ ((s[j]'h).toNat : Int) ≤ 126) from fun j hj hjk => by
        rcases Nat.lt_or_eq_of_le (Nat.le_of_lt_succ hjk) with h' | h'
        · exact unhide hok j hj h'
        · subst h'; exact h)
      by_cases c1 : ((s[k]'hlt).toNat : Int) < 32
      · have hb2 := hide (unhide hb (by omega))
        clear hb ho
        go_wp2
        go_ret
        exact ⟨by rw [unhide hb2]; rfl, rfl⟩
      · by_cases c2 : ((s[k]'hlt).toNat : Int) ≤ 126
        · have ho2 := hide (unhide ho ⟨by omega, c2⟩)
          clear hb ho
          go_wp2
          go_round
          case rel => exact ⟨k + 1, by omega, by go_num, unhide ho2⟩
          case measure => simp [intOf]; omega
        · have hb2 := hide (unhide hb (by omega))
          have c3 : (126 : Int) < ((s[k]'hlt).toNat : Int) := by omega
          clear hb ho
          go_wp2
          go_ret
          exact ⟨by rw [unhide hb2]; rfl, rfl⟩
    · have hkl : k = s.size := by omega
      subst hkl
      have hall := hide (unhide hGood (fun j h => unhide hok j h h))
      clear hok
      by_cases c1 : 1 ≤ s.size
      · have c1' : (1 : Int) ≤ s.size := by omega
        by_cases c2 : s.size ≤ 40
        · have hg := hide (unhide hall c1 c2)
          have c2' : (s.size : Int) ≤ 40 := by omega
          clear hall
          go_wp2
          go_ret
          exact ⟨by rw [unhide hg]; first | rfl | (simp; omega), rfl⟩
        · have hg := hide (unhide hLen (fun h => c2 h.2))
          have c2' : ¬ (s.size : Int) ≤ 40 := by omega
          clear hall
          go_wp2
          go_ret
          exact ⟨by rw [unhide hg]; first | rfl | (simp; omega), rfl⟩
      · have hg := hide (unhide hLen (fun h => c1 h.1))
        have c1' : ¬ (1 : Int) ≤ s.size := by omega
        clear hall
        go_wp2
        go_ret
        exact ⟨by rw [unhide hg]; first | rfl | (simp; omega), rfl⟩

set_option maxHeartbeats 1000000 in
set_option maxRecDepth 100000 in
theorem liteIndexByte (s : ByteArray) (c : Int) (w : World) :
    Calls Tryd.prog 61 #[.string s, .int .u8 c] w fun e w' => e = .returned (.int .i64 (Lib.indexByte s.data.toList c.toNat.toUInt8)) ∧ w' = w := by
  go_enter Tryd.func61, Tryd.ntmps61
  go_wp2
  rw [run_callFunc_extern Tryd.func63 (by kernel_rfl) (by kernel_rfl) (by kernel_rfl) (e := Extern.BytealgIndexByte.indexByte) (by kernel_rfl), Lib.run_indexByteString]
  simp only [Result.andThen]
  rw [Oper.upon_value]
  go_wp2
  go_ret
  exact ⟨rfl, rfl⟩
set_option maxHeartbeats 1000000 in
theorem stringsIndexByte (s : ByteArray) (c : Int) (w : World) :
    Calls Tryd.prog 57 #[.string s, .int .u8 c] w fun e w' => e = .returned (.int .i64 (Lib.indexByte s.data.toList c.toNat.toUInt8)) ∧ w' = w := by
  go_enter Tryd.func57, Tryd.ntmps57
  go_wp2_with (go_at_call 61; refine (liteIndexByte _ _ _).mono ?_; rintro e w' ⟨rfl, rfl⟩)
  go_ret
  exact ⟨rfl, rfl⟩
end Go.Proofs.YthkppcncajmniaaDoor

/- Good stills, as the program has them: values, lists of notes, palettes. -/
namespace Go.Proofs.YthkppcncajmniaaDoor
open Go.RowKit

theorem indexByte_neg (l : List UInt8) (c : UInt8) : Lib.indexByte l c < 0 ↔ ∀ x ∈ l, x ≠ c := by
  induction l with
  | nil => simp [Lib.indexByte]
  | cons b l ih =>
    have hge := Lib.indexByte_ge l c
    unfold Lib.indexByte
    by_cases hb : b == c
    · rw [if_pos hb]; simp at hb; subst hb; simp
    · rw [if_neg hb]
      simp at hb
      by_cases hm : Lib.indexByte l c == -1
      · rw [if_pos hm]
        have h1 : Lib.indexByte l c < 0 := by have := beq_iff_eq.1 hm; omega
        simp only [List.mem_cons, forall_eq_or_imp]
        exact ⟨fun _ => ⟨hb, ih.1 h1⟩, fun _ => by decide⟩
      · rw [if_neg hm]
        have h1 : ¬ Lib.indexByte l c < 0 := by
          intro h; exact hm (beq_iff_eq.2 (by omega))
        simp only [List.mem_cons, forall_eq_or_imp]
        exact ⟨fun h => by omega, fun h => absurd (ih.2 h.2) h1⟩
theorem valOk_iff (s : ByteArray) : ValOk s ↔ s.size ≤ 1000 ∧ Lib.indexByte s.data.toList 0 < 0 := by
  rw [indexByte_neg]
  unfold ValOk
  constructor
  · rintro ⟨h1, h2⟩
    refine ⟨h1, fun x hx he => ?_⟩
    obtain ⟨k, hk, rfl⟩ := List.getElem_of_mem hx
    have hk' : k < s.size := by simpa using hk
    have := h2 k hk'
    rw [strB_getD s k hk'] at this
    apply this
    have e : s[k]'hk' = s.data.toList[k] := by simp; rfl
    rw [e, he]; rfl
  · rintro ⟨h1, h2⟩
    refine ⟨h1, fun k hk he => ?_⟩
    rw [strB_getD s k hk] at he
    have hk' : k < s.data.toList.length := by simpa using hk
    refine h2 (s.data.toList[k]) (List.getElem_mem hk') ?_
    have e : s[k]'hk = s.data.toList[k] := by simp; rfl
    rw [← e]
    apply UInt8.toNat_inj.1
    show (s[k]'hk).toNat = 0
    omega

set_option maxHeartbeats 1000000 in
theorem implGoodValue (s : ByteArray) (w : World) (h1 : s.size ≤ 1048576) :
    Calls Tryd.prog 49 #[.string s] w fun e w' => e = .returned (.bool (pB (ValOk s))) ∧ w' = w := by
  have hI := hide (stringsIndexByte s 0 w)
  have hv := hide (valOk_iff s)
  have e0 : (0 : Int).toNat.toUInt8 = 0 := rfl
  rw [e0] at hI
  clear e0
  obtain ⟨x, hx⟩ : ∃ x, Lib.indexByte s.data.toList 0 = x := ⟨_, rfl⟩
  have hge := Lib.indexByte_ge s.data.toList 0
  rw [hx] at hI hv hge
  clear hx
  by_cases c1 : s.size ≤ 1000
  · by_cases c2 : x < 0
    · rw [pB_yes ((unhide hv).2 ⟨c1, c2⟩)]
      go_enter Tryd.func49, Tryd.ntmps49
      go_wp2_with fail
      refine (unhide hI).mono ?_
      rintro e w1 ⟨rfl, rfl⟩
      go_wp2
      go_ret
      exact ⟨by first | rfl | (simp; omega), rfl⟩
    · rw [pB_no (fun h => c2 ((unhide hv).1 h).2)]
      go_enter Tryd.func49, Tryd.ntmps49
      go_wp2_with fail
      refine (unhide hI).mono ?_
      rintro e w1 ⟨rfl, rfl⟩
      go_wp2
      go_ret
      exact ⟨by first | rfl | (simp; omega), rfl⟩
  · rw [pB_no (fun h => c1 ((unhide hv).1 h).1)]
    have c3 : ¬ ((s.size : Int) ≤ 1000) := by omega
    go_enter Tryd.func49, Tryd.ntmps49
    go_wp2
    go_ret
    exact ⟨by first | rfl | (simp; omega), rfl⟩

set_option maxHeartbeats 4000000 in
theorem implGoodNotes (v : Value) (ps : List Nt) (w : World) (hsz : ntSize ps ≤ 1048576) (hv : RdNt w v ps) :
    Calls Tryd.prog 28 #[v] w fun e w' => e = .returned (.bool (pB (NotesOk ps))) ∧ Upd 0 0 w w' := by
  obtain ⟨ad, cap, rfl, hA⟩ := hv
  have hn : ps.length ≤ 1048576 := by unfold ntSize at hsz; omega
  have hEach : Hid (∀ k, k < ps.length → (ps.getD k Nt0).1.size ≤ 1048576 ∧ (ps.getD k Nt0).2.size ≤ 1048576) := hide (fun k hk => by
    have h1 := ntTo_succ ps k hk
    have h2 := ntTo_le ps (k + 1)
    unfold ntSize at hsz; omega)
  replace hA := hide hA
  by_cases h20 : ps.length ≤ 20
  · have hBad : Hid (∀ k, k < ps.length → ¬ NoteOk (ps.getD k Nt0) → pB (NotesOk ps) = false) := hide (fun k hk hb => pB_no (fun h => hb (h.2 k hk)))
    have hGood : Hid ((∀ k, k < ps.length → NoteOk (ps.getD k Nt0)) → pB (NotesOk ps) = true) := hide (fun h => pB_yes ⟨h20, h⟩)
    go_enter Tryd.func28, Tryd.ntmps28
    go_wp2
    go_loopw [10] (fun i wx => ∃ k : Nat, k ≤ ps.length ∧ i = .int .i64 k ∧ Hid (∀ j, j < k → NoteOk (ps.getD j Nt0)) ∧ Below w.heap.size w wx) (fun i _ => ps.length - (intOf i).toNat)
    case atStart => exact ⟨0, Nat.zero_le _, rfl, fun j hj => by omega, Below.refl _ _⟩
    case round =>
      obtain ⟨k, hk, rfl, hok, hbel⟩ := hrel
      by_cases hlt : k < ps.length
      · obtain ⟨b, off, rfl, hbl, hc⟩ := ((unhide hA).below hbel) (ne_of_lt_length hlt)
        obtain ⟨d0, d1⟩ := hc k hlt
        obtain ⟨z0, z1⟩ := unhide hEach k hlt
        have hbad := hide (unhide hBad k hlt)
        have hOk : Hid (NoteOk (ps.getD k Nt0) → ∀ j, j < k + 1 → NoteOk (ps.getD j Nt0)) := hide (fun h j hj => by
          rcases Nat.lt_or_eq_of_le (Nat.le_of_lt_succ hj) with h' | h'
          · exact unhide hok j h'
          · subst h'; exact h)
        clear hc hbl hok
        generalize ps.getD k Nt0 = f at d0 d1 z0 z1 hbad hOk
        obtain ⟨s, t⟩ := f
        simp only at d0 d1 z0 z1
        have hK := hide (fun W => implGoodKey s W z0)
        have hV := hide (fun W => implGoodValue t W z1)
        have hb2 := hide (hbel.alloc hbel.size (.cells #[.string s, .string t] 47))
        by_cases c1 : KeyOk s
        · by_cases c2 : ValOk t
          · have hok2 := hide (unhide hOk ⟨c1, c2⟩)
            rw [pB_yes c1] at hK
            rw [pB_yes c2] at hV
            replace c1 := hide c1
            replace c2 := hide c2
            clear hbad hOk
            go_wp2_with fail
            refine (unhide hK _).mono ?_
            rintro e w1 ⟨rfl, rfl⟩
            go_wp2_with fail
            refine (unhide hV _).mono ?_
            rintro e w1 ⟨rfl, rfl⟩
            go_wp2
            go_roundw
            case rel => exact ⟨k + 1, by omega, by go_num, unhide hok2, unhide hb2⟩
            case measure => simp [intOf]; omega
          · have hB := hide (unhide hbad (fun h => c2 h.2))
            rw [pB_yes c1] at hK
            rw [pB_no c2] at hV
            replace c1 := hide c1
            replace c2 := hide c2
            clear hbad hOk
            go_wp2_with fail
            refine (unhide hK _).mono ?_
            rintro e w1 ⟨rfl, rfl⟩
            go_wp2_with fail
            refine (unhide hV _).mono ?_
            rintro e w1 ⟨rfl, rfl⟩
            go_wp2
            go_ret
            exact ⟨by rw [unhide hB]; rfl, Upd.of_below (unhide hb2) 0 0⟩
        · have hB := hide (unhide hbad (fun h => c1 h.1))
          rw [pB_no c1] at hK
          replace c1 := hide c1
          clear hbad hOk
          go_wp2_with fail
          refine (unhide hK _).mono ?_
          rintro e w1 ⟨rfl, rfl⟩
          go_wp2
          go_ret
          exact ⟨by rw [unhide hB]; rfl, Upd.of_below (unhide hb2) 0 0⟩
      · have hkl : k = ps.length := by omega
        subst hkl
        have hg := hide (unhide hGood (unhide hok))
        replace hbel := hide hbel
        go_wp2
        go_ret
        exact ⟨by rw [unhide hg]; rfl, Upd.of_below (unhide hbel) 0 0⟩
  · have hE := hide (pB_no (p := NotesOk ps) (fun h => h20 h.1))
    have h3 : 20 < ps.length := by omega
    go_enter Tryd.func28, Tryd.ntmps28
    go_wp2
    go_ret
    exact ⟨by rw [unhide hE]; rfl, Upd.refl _ _ _⟩
end Go.Proofs.YthkppcncajmniaaDoor

/- Good stills, as the program has them: palettes. -/
namespace Go.Proofs.YthkppcncajmniaaDoor
open Go.RowKit

set_option maxHeartbeats 2000000 in
theorem implAreColours (v u : Value) (zs ys : List Int) (w : World) (hn : zs.length ≤ 1048576) (_hn2 : ys.length ≤ 1048576) (hv : RdI w v zs) (hu : RdI w u ys) :
    Calls Tryd.prog 47 #[v, u] w fun e w' => e = .returned (.bool (pB (SmpIn zs ys.length))) ∧ w' = w := by
  obtain ⟨ad, cap, rfl, hA⟩ := hv
  obtain ⟨ad2, cap2, rfl, _⟩ := hu
  replace hA := hide hA
  generalize ys.length = n at _hn2 ⊢
  have hBad : Hid (∀ k, k < zs.length → ¬ (zs.getD k 0 < (n : Int)) → pB (SmpIn zs n) = false) := hide (fun k hk hb => pB_no (fun h => hb (h k hk)))
  have hGood : Hid ((∀ k, k < zs.length → zs.getD k 0 < (n : Int)) → pB (SmpIn zs n) = true) := hide (fun h => pB_yes h)
  go_enter Tryd.func47, Tryd.ntmps47
  go_wp2
  go_loop [9] (fun i => ∃ k : Nat, k ≤ zs.length ∧ i = .int .i64 k ∧ Hid (∀ j, j < k → zs.getD j 0 < (n : Int))) (fun i => zs.length - (intOf i).toNat)
  case atStart => exact ⟨0, Nat.zero_le _, rfl, fun j hj => by omega⟩
  case round =>
    obtain ⟨k, hk', rfl, hok⟩ := hrel
    by_cases hlt : k < zs.length
    · obtain ⟨b, off, rfl, hbl, hcl⟩ := (unhide hA) (ne_of_lt_length hlt)
      have hck := hcl k hlt
      have hbad := hide (unhide hBad k hlt)
      have hOk : Hid (zs.getD k 0 < (n : Int) → ∀ j, j < k + 1 → zs.getD j 0 < (n : Int)) := hide (fun h j hj => by
        rcases Nat.lt_or_eq_of_le (Nat.le_of_lt_succ hj) with h' | h'
        · exact unhide hok j h'
        · subst h'; exact h)
      clear hcl hbl
      generalize zs.getD k 0 = x at hck hbad hOk
      by_cases h1 : x < (n : Int)
      · have hok2 := hide (unhide hOk h1)
        have h2 : ¬ ((n : Int) ≤ x) := by omega
        clear hbad hOk
        go_wp2
        go_round
        case rel => exact ⟨k + 1, by omega, by go_num, unhide hok2⟩
        case measure => simp [intOf]; omega
      · have hB := hide (unhide hbad (by omega))
        have h2 : (n : Int) ≤ x := by omega
        clear hbad hOk
        go_wp2
        go_ret
        exact ⟨by rw [unhide hB]; rfl, rfl⟩
    · have hkl : k = zs.length := by omega
      subst hkl
      have hs := hide (unhide hGood (unhide hok))
      go_wp2
      go_ret
      exact ⟨by rw [unhide hs]; rfl, rfl⟩

def mayB (p d : Int) : Bool := decide (p = 1 ∧ d ≤ 8)
set_option maxHeartbeats 1000000 in
theorem implMayHavePalette (a b p d : Int) (ad : Option Addr) (n cap : Nat) (w : World) :
    Calls Tryd.prog 46 #[.agg #[.int .i64 a, .int .i64 b, .int .i64 p, .int .i64 d, .slice ad n cap]] w fun e w' => e = .returned (.bool (mayB p d)) ∧ Upd 0 0 w w' := by
  have hB := hide (Upd.of_below ((Below.refl w.heap.size w).alloc (Nat.le_refl _) (.cells #[.int .i64 a, .int .i64 b, .int .i64 p, .int .i64 d, .slice ad n cap] 30)) 0 0)
  by_cases h1 : p = 1
  · subst h1
    by_cases h2 : d ≤ 8
    · have hE : mayB 1 d = true := by unfold mayB; simp [h2]
      rw [hE]
      go_enter Tryd.func46, Tryd.ntmps46
      go_wp2
      go_ret
      exact ⟨by first | rfl | (simp; omega), unhide hB⟩
    · have hE : mayB 1 d = false := by unfold mayB; simp; omega
      rw [hE]
      go_enter Tryd.func46, Tryd.ntmps46
      go_wp2
      go_ret
      exact ⟨by first | rfl | (simp; omega), unhide hB⟩
  · have hE : mayB p d = false := by unfold mayB; simp; omega
    have q : (p == 1) = false := by simpa using h1
    rw [hE]
    go_enter Tryd.func46, Tryd.ntmps46
    go_wp2
    go_ret
    exact ⟨by first | rfl | (simp; omega), unhide hB⟩

/-- What the program asks of a palette and a good image. -/
def PalAll (d : Im) (zp : List Int) : Prop := zp.length = 0 ∨ (ColOk zp ∧ (d.2.2.1 = 1 ∧ d.2.2.2.1 ≤ 8) ∧ SmpIn (ims d) zp.length)
theorem palAll_iff (d : St) : PalAll d.1 d.2.1 ↔ ColOk d.2.1 ∧ PalOk d := by
  unfold PalAll PalOk
  constructor
  · rintro (h | ⟨h1, h2, h3⟩)
    · exact ⟨⟨by omega, fun j hj => by omega⟩, fun h' => by omega⟩
    · exact ⟨h1, fun _ => ⟨h2.1, h2.2, h3⟩⟩
  · rintro ⟨h1, h2⟩
    by_cases h : d.2.1.length = 0
    · exact .inl h
    · have := h2 (by omega)
      exact .inr ⟨h1, ⟨this.1, this.2.1⟩, this.2.2⟩

set_option maxHeartbeats 2000000 in
theorem implGoodColoursP (v : Value) (zs : List Int) (w : World) (hn : zs.length ≤ 1048576) (hv : RdI w v zs) :
    Calls Tryd.prog 45 #[v] w fun e w' => e = .returned (.bool (pB (ColOk zs))) ∧ w' = w := by
  obtain ⟨ad, cap, rfl, hA⟩ := hv
  replace hA := hide hA
  have hBad : Hid (∀ k, k < zs.length → ¬ (0 ≤ zs.getD k 0 ∧ zs.getD k 0 ≤ 16777215) → pB (ColOk zs) = false) := hide (fun k hk hb => pB_no (fun h => hb (h.2 k hk)))
  have hGood : Hid ((∀ k, k < zs.length → (0 ≤ zs.getD k 0 ∧ zs.getD k 0 ≤ 16777215)) → zs.length ≤ 256 → pB (ColOk zs) = true) := hide (fun h h2 => pB_yes ⟨h2, h⟩)
  have hLong : Hid (256 < zs.length → pB (ColOk zs) = false) := hide (fun h => pB_no (fun h' => by have := h'.1; omega))
  go_enter Tryd.func45, Tryd.ntmps45
  go_wp2
  go_loop [7] (fun i => ∃ k : Nat, k ≤ zs.length ∧ i = .int .i64 k ∧ Hid (∀ j, j < k → (0 ≤ zs.getD j 0 ∧ zs.getD j 0 ≤ 16777215))) (fun i => zs.length - (intOf i).toNat)
  case atStart => exact ⟨0, Nat.zero_le _, rfl, fun j hj => by omega⟩
  case round =>
    obtain ⟨k, hk', rfl, hok⟩ := hrel
    by_cases hlt : k < zs.length
    · obtain ⟨b, off, rfl, hbl, hcl⟩ := (unhide hA) (ne_of_lt_length hlt)
      have hck := hcl k hlt
      have hbad := hide (unhide hBad k hlt)
      have hOk : Hid ((0 ≤ zs.getD k 0 ∧ zs.getD k 0 ≤ 16777215) → ∀ j, j < k + 1 → (0 ≤ zs.getD j 0 ∧ zs.getD j 0 ≤ 16777215)) := hide (fun h j hj => by
        rcases Nat.lt_or_eq_of_le (Nat.le_of_lt_succ hj) with h' | h'
        · exact unhide hok j h'
        · subst h'; exact h)
      clear hcl hbl
      generalize zs.getD k 0 = x at hck hbad hOk
      by_cases h1 : x < 0
      · have hB := hide (unhide hbad (fun h => by have := h.1; omega))
        clear hbad hOk
        go_wp2
        go_ret
        exact ⟨by rw [unhide hB]; rfl, rfl⟩
      · by_cases h2 : x ≤ 16777215
        · have hok2 := hide (unhide hOk ⟨by omega, h2⟩)
          clear hbad hOk
          go_wp2
          all_goals
            go_round
            case rel => exact ⟨k + 1, by omega, by go_num, unhide hok2⟩
            case measure => simp [intOf]; omega
        · have hB := hide (unhide hbad (fun h => h2 h.2))
          have h3 : 16777215 < x := by omega
          clear hbad hOk
          go_wp2
          go_ret
          exact ⟨by rw [unhide hB]; rfl, rfl⟩
    · have hkl : k = zs.length := by omega
      subst hkl
      by_cases h2 : zs.length ≤ 256
      · have hs := hide (unhide hGood (unhide hok) h2)
        go_wp2
        go_ret
        exact ⟨by rw [unhide hs]; simp; omega, rfl⟩
      · have hs := hide (unhide hLong (by omega))
        go_wp2
        go_ret
        exact ⟨by rw [unhide hs]; simp; omega, rfl⟩

set_option maxHeartbeats 4000000 in
theorem implGoodPalette (v : Value) (zp : List Int) (u : Value) (d : Im) (w : World) (hn : (ims d).length ≤ 1048576) (hn2 : zp.length ≤ 1048576) (hv : RdI w v zp) (hu : RdIm w u d) :
    Calls Tryd.prog 27 #[v, u] w fun e w' => e = .returned (.bool (pB (PalAll d zp))) ∧ Upd 0 0 w w' := by
  have hv0 := hide hv
  obtain ⟨ad, cap, rfl, hA⟩ := hv
  obtain ⟨vl, rfl, hl⟩ := hu
  have hl0 := hide hl
  obtain ⟨ad2, cap2, rfl, _⟩ := hl
  obtain ⟨a, b, p, dp, zs⟩ := d
  simp only [ims, imv] at hn hl0 ⊢
  replace hA := hide hA
  have hB0 := (Below.refl w.heap.size w).alloc (Nat.le_refl _) (.cells #[.int .i64 a, .int .i64 b, .int .i64 p, .int .i64 dp, .slice ad2 zs.length cap2] 30)
  have hcol := hide (implAreColours _ _ zs zp _ hn hn2 ((unhide hl0).below hB0) ((unhide hv0).below hB0))
  replace hB0 := hide (Upd.of_below hB0 0 0)
  by_cases h0 : zp.length = 0
  · rw [pB_yes (p := PalAll (a, b, p, dp, zs) zp) (.inl h0)]
    have q : ((zp.length : Int) == 0) = true := by simp [h0]
    clear hcol
    go_enter Tryd.func27, Tryd.ntmps27
    go_wp2
    go_ret
    exact ⟨rfl, unhide hB0⟩
  · have q : ((zp.length : Int) == 0) = false := beq_eq_false_iff_ne.2 (by omega)
    have hMay : Hid (mayB p dp = false → pB (PalAll (a, b, p, dp, zs) zp) = false) := hide (fun h => pB_no (fun h' => by
      rcases h' with h' | h'
      · omega
      · exact Bool.noConfusion ((decide_eq_true h'.2.1).symm.trans h)))
    have hCol : Hid (¬ SmpIn zs zp.length → pB (PalAll (a, b, p, dp, zs) zp) = false) := hide (fun h => pB_no (fun h' => by rcases h' with h' | h'; omega; exact h h'.2.2))
    have hNoC : Hid (¬ ColOk zp → pB (PalAll (a, b, p, dp, zs) zp) = false) := hide (fun h => pB_no (fun h' => by rcases h' with h' | h'; omega; exact h h'.1))
    have hGood : Hid (ColOk zp → mayB p dp = true → SmpIn zs zp.length → pB (PalAll (a, b, p, dp, zs) zp) = true) := hide (fun h1 h2 h3 => pB_yes (.inr ⟨h1, by unfold mayB at h2; simpa using h2, h3⟩))
    have hh := hide (held_new w [.int .i64 a, .int .i64 b, .int .i64 p, .int .i64 dp, .slice ad2 zs.length cap2] 30)
    have hGc := hide (implGoodColoursP _ zp _ hn2 ((unhide hv0).below (show Below w.heap.size w (w.alloc (.cells #[.int .i64 a, .int .i64 b, .int .i64 p, .int .i64 dp, .slice ad2 zs.length cap2] 30)) from (Below.refl w.heap.size w).alloc (Nat.le_refl _) _)))
    by_cases hc : ColOk zp
    case neg =>
      have hB := hide (unhide hNoC hc)
      rw [pB_no hc] at hGc
      clear hcol hc
      go_enter Tryd.func27, Tryd.ntmps27
      go_wp2_with fail
      refine (unhide hGc).mono ?_
      rintro e w1 ⟨rfl, rfl⟩
      go_wp2
      go_ret
      exact ⟨by rw [unhide hB]; first | rfl | (simp; omega), unhide hB0⟩
    rw [pB_yes hc] at hGc
    replace hc := hide hc
    clear hcol
    go_enter Tryd.func27, Tryd.ntmps27
    go_wp2_with fail
    change Hid (Held (w.alloc (.cells #[.int .i64 a, .int .i64 b, .int .i64 p, .int .i64 dp, .slice ad2 zs.length cap2] 30)) _ _) at hh
    generalize w.alloc (.cells #[.int .i64 a, .int .i64 b, .int .i64 p, .int .i64 dp, .slice ad2 zs.length cap2] 30) = w0x at hB0 hh hGc ⊢
    refine (unhide hGc).mono ?_
    rintro e w1 ⟨rfl, hw⟩
    subst hw
    have c0 := (unhide hh).2 0 _ rfl
    have c1 := (unhide hh).2 1 _ rfl
    have c2 := (unhide hh).2 2 _ rfl
    have c3 := (unhide hh).2 3 _ rfl
    have c4 := (unhide hh).2 4 _ rfl
    have hM := hide (implMayHavePalette a b p dp ad2 zs.length cap2 w1)
    clear hGc
    cases hm : mayB p dp with
    | false =>
      have hB := hide (unhide hMay hm)
      rw [hm] at hM
      replace hm := hide hm
      go_wp2_with fail
      refine (unhide hM).mono ?_
      rintro e w2 ⟨rfl, hu2⟩
      have hu := hide ((unhide hB0).trans hu2)
      clear hu2 c0 c1 c2 c3 c4
      go_wp2
      go_ret
      exact ⟨by rw [unhide hB]; first | rfl | (simp; omega), unhide hu⟩
    | true =>
      rw [hm] at hM
      have hcol2 := hide (fun W (hW : Upd 0 0 w1 W) => implAreColours _ _ zs zp W hn hn2 ((unhide hl0).below ((unhide hB0).trans hW).none) ((unhide hv0).below ((unhide hB0).trans hW).none))
      go_wp2_with fail
      refine (unhide hM).mono ?_
      rintro e w2 ⟨rfl, hu2⟩
      have hu := hide ((unhide hB0).trans hu2)
      have hC2 := hide (unhide hcol2 w2 hu2)
      replace hh := hide ((unhide hh).keep hu2)
      clear hu2 c0 c1 c2 c3 c4 hcol2
      have c0 := (unhide hh).2 0 _ rfl
      have c1 := (unhide hh).2 1 _ rfl
      have c2 := (unhide hh).2 2 _ rfl
      have c3 := (unhide hh).2 3 _ rfl
      have c4 := (unhide hh).2 4 _ rfl
      by_cases hs : SmpIn zs zp.length
      · have hB := hide (unhide hGood (unhide hc) hm hs)
        replace hm := hide hm
        rw [pB_yes hs] at hC2
        replace hs := hide hs
        go_wp2_with fail
        refine (unhide hC2).mono ?_
        rintro e w3 ⟨rfl, rfl⟩
        go_wp2
        go_ret
        exact ⟨by rw [unhide hB]; first | rfl | (simp; omega), unhide hu⟩
      · have hB := hide (unhide hCol hs)
        replace hm := hide hm
        rw [pB_no hs] at hC2
        replace hs := hide hs
        go_wp2_with fail
        refine (unhide hC2).mono ?_
        rintro e w3 ⟨rfl, rfl⟩
        go_wp2
        go_ret
        exact ⟨by rw [unhide hB]; first | rfl | (simp; omega), unhide hu⟩
end Go.Proofs.YthkppcncajmniaaDoor

/- The program's tests of sides. -/
namespace Go.Proofs.YthkppcncajmniaaDoor
open Go.RowKit

theorem sides_prod {w h : Int} (hw : 1 ≤ w ∧ w ≤ 512) (hh : 1 ≤ h ∧ h ≤ 512) : ∃ P : Int, w * h = P ∧ 1 ≤ P ∧ P ≤ 262144 := by
  obtain ⟨W, rfl⟩ := Int.eq_ofNat_of_zero_le (show 0 ≤ w by omega)
  obtain ⟨H, rfl⟩ := Int.eq_ofNat_of_zero_le (show 0 ≤ h by omega)
  have h1 : W * H ≤ 512 * 512 := Nat.mul_le_mul (by omega) (by omega)
  have h2 : 1 * 1 ≤ W * H := Nat.mul_le_mul (by omega) (by omega)
  exact ⟨((W * H : Nat) : Int), by simp, by omega, by omega⟩
set_option maxHeartbeats 2000000 in
theorem implGoodSidesP (a b : Int) (w : World) : Calls Tryd.prog 55 #[.int .i64 a, .int .i64 b] w fun e w' => e = .returned (.bool (decide ((1 ≤ a ∧ a ≤ 512) ∧ (1 ≤ b ∧ b ≤ 512) ∧ a * b ≤ 4096))) ∧ w' = w := by
  have hA := hide (fun W => implGoodSide a W)
  have hB := hide (fun W => implGoodSide b W)
  by_cases ha : 1 ≤ a ∧ a ≤ 512
  case neg =>
    rw [decide_eq_false (fun h => ha h.1)]
    rw [sideB_no ha] at hA
    clear ha
    go_enter Tryd.func55, Tryd.ntmps55
    go_wp2_with fail
    refine (unhide hA _).mono ?_
    rintro e w1 ⟨rfl, rfl⟩
    go_wp2
    go_ret
    exact ⟨rfl, rfl⟩
  by_cases hb : 1 ≤ b ∧ b ≤ 512
  case neg =>
    rw [decide_eq_false (fun h => hb h.2.1)]
    rw [sideB_yes ha] at hA
    rw [sideB_no hb] at hB
    clear ha hb
    go_enter Tryd.func55, Tryd.ntmps55
    go_wp2_with fail
    refine (unhide hA _).mono ?_
    rintro e w1 ⟨rfl, rfl⟩
    go_wp2_with fail
    refine (unhide hB _).mono ?_
    rintro e w1 ⟨rfl, rfl⟩
    go_wp2
    go_ret
    exact ⟨rfl, rfl⟩
  obtain ⟨P, hP, P1, P2⟩ := sides_prod ha hb
  have hR : decide ((1 ≤ a ∧ a ≤ 512) ∧ (1 ≤ b ∧ b ≤ 512) ∧ a * b ≤ 4096) = decide (P ≤ 4096) := by
    by_cases h : P ≤ 4096
    · rw [decide_eq_true h]; exact decide_eq_true ⟨ha, hb, by omega⟩
    · rw [decide_eq_false h]; exact decide_eq_false (fun h' => h (by have := h'.2.2; omega))
  rw [hR]
  rw [sideB_yes ha] at hA
  rw [sideB_yes hb] at hB
  clear ha hb hR
  go_enter Tryd.func55, Tryd.ntmps55
  go_wp2_with fail
  refine (unhide hA _).mono ?_
  rintro e w1 ⟨rfl, rfl⟩
  go_wp2_with fail
  refine (unhide hB _).mono ?_
  rintro e w1 ⟨rfl, rfl⟩
  go_wp2
  go_ret
  exact ⟨rfl, rfl⟩
end Go.Proofs.YthkppcncajmniaaDoor

/- The walks of TakeLow and TakeHigh: the program's reader in high order. -/
namespace Go.Proofs.YthkppcncajmniaaDoor
open Go.RowKit

theorem wrap_i64_in (n : Int) (h : -9223372036854775808 ≤ n ∧ n ≤ 9223372036854775807) : IntKind.i64.wrap n = n := by
  simp [IntKind.wrap, IntKind.bits, IntKind.signed]; omega
theorem div_bd (x : Nat) (hx : x < 256) (k : Nat) : 0 ≤ (x : Int) / 2 ^ k ∧ (x : Int) / 2 ^ k < 18446744073709551616 := by
  have h := Nat.div_le_self x (2 ^ k)
  rw [show ((x : Int) / 2 ^ k) = ((x / 2 ^ k : Nat) : Int) by simp]
  generalize x / 2 ^ k = y at h ⊢
  omega
end Go.Proofs.YthkppcncajmniaaDoor

/- Plain facts behind the writer of bits. -/
namespace Go.Proofs.YthkppcncajmniaaDoor
open Go.RowKit

def roomI (L : Nat) : Int := (((8 - L % 8) % 8 : Nat) : Int)
theorem div_bdv (v : Nat) (hv : v < 18446744073709551616) (k : Nat) : 0 ≤ (v : Int) / 2 ^ k ∧ (v : Int) / 2 ^ k < 18446744073709551616 := by
  have h := Nat.div_le_self v (2 ^ k)
  rw [show ((v : Int) / 2 ^ k) = ((v / 2 ^ k : Nat) : Int) by simp]
  generalize v / 2 ^ k = y at h ⊢
  omega

theorem or8 (h : Bool) (x r m ch : Nat) (hx : x < 256) (hm : r + m ≤ 8) (hf : if h then x % 2 ^ (8 - r) = 0 else x < 2 ^ r) (hc : ch < 2 ^ m) : bits .or .u8 (x : Int) (IntKind.u8.wrap (IntKind.u64.wrap ((ch : Int) * 2 ^ cex h r m))) = ((x + ch * 2 ^ cex h r m : Nat) : Int) := by
  have ho := or_into h x r m ch hm hf hc
  have hl : ch * 2 ^ cex h r m < 256 := by
    have h1 : (ch + 1) * 2 ^ cex h r m ≤ 2 ^ m * 2 ^ cex h r m := Nat.mul_le_mul_right _ hc
    rw [← Nat.pow_add] at h1
    have h2 : 2 ^ (m + cex h r m) ≤ 2 ^ 8 := Nat.pow_le_pow_right (by omega) (by unfold cex; split <;> omega)
    have h3 : 0 < 2 ^ cex h r m := Nat.pow_pos (by omega)
    rw [Nat.add_mul, Nat.one_mul] at h1
    omega
  have e : IntKind.u8.wrap (IntKind.u64.wrap ((ch : Int) * 2 ^ cex h r m)) = ((ch * 2 ^ cex h r m : Nat) : Int) := by
    rw [IntKind.wrap_u64, IntKind.wrap_u8', show ((ch : Int) * 2 ^ cex h r m) = ((ch * 2 ^ cex h r m : Nat) : Int) by simp]; omega
  rw [e, u8_or_nat _ _ hx hl, ho]
end Go.Proofs.YthkppcncajmniaaDoor

/- The walk of the writer of bits in high order: the program's. -/
namespace Go.Proofs.YthkppcncajmniaaDoor
open Go.RowKit


end Go.Proofs.YthkppcncajmniaaDoor

/- The walks of PackRow: the program's. -/
namespace Go.Proofs.YthkppcncajmniaaDoor
open Go.RowKit

theorem own_nilYS (w : World) (a b : Nat) : OwnY w a b (.slice none 0 0) [] := ⟨World.ownsRow_nil _ _ _ _, fun k hk => by simp [Value.ownBlock] at hk⟩

set_option maxHeartbeats 1000000 in
theorem implGoodDepth (d : Int) (w : World) : Calls Tryd.prog 56 #[.int .i64 d] w fun e w' => e = .returned (.bool (depthOk d)) ∧ w' = w := by
  by_cases h : depthOk d = true
  · rw [h]
    rcases depthOk_cases h with e | e | e | e | e <;> subst e <;>
    · clear h
      go_enter Tryd.func56, Tryd.ntmps56
      go_wp2
      go_ret
      exact ⟨rfl, rfl⟩
  · have h' : depthOk d = false := by simpa using h
    rw [h']
    have h1 : (d == 1) = false := by unfold depthOk at h'; simp at h' ⊢; omega
    have h2 : (d == 2) = false := by unfold depthOk at h'; simp at h' ⊢; omega
    have h3 : (d == 4) = false := by unfold depthOk at h'; simp at h' ⊢; omega
    have h4 : (d == 8) = false := by unfold depthOk at h'; simp at h' ⊢; omega
    have h5 : (d == 16) = false := by unfold depthOk at h'; simp at h' ⊢; omega
    clear h h'
    go_enter Tryd.func56, Tryd.ntmps56
    go_wp2
    go_ret
    exact ⟨rfl, rfl⟩

noncomputable def smpB (zs : List Int) (d : Int) : Bool := open Classical in decide (SmpOk zs d)
theorem smpB_yes {zs : List Int} {d : Int} (h : SmpOk zs d) : smpB zs d = true := by unfold smpB; simpa using h
theorem smpB_no {zs : List Int} {d : Int} (h : ¬ SmpOk zs d) : smpB zs d = false := by unfold smpB; simpa using h
theorem smpB_iff {zs : List Int} {d : Int} : smpB zs d = true ↔ SmpOk zs d := by unfold smpB; simp

set_option maxHeartbeats 2000000 in
theorem implGoodSamples (v : Value) (zs : List Int) (D : Nat) (w : World) (hD : D ≤ 16) (hn : zs.length ≤ 1048576) (hv : RdI w v zs) :
    Calls Tryd.prog 44 #[v, .int .i64 D] w fun e w' => e = .returned (.bool (smpB zs D)) ∧ w' = w := by
  obtain ⟨ad, cap, rfl, hA⟩ := hv
  replace hA := hide hA
  have hBad : Hid (∀ k, k < zs.length → ¬ (0 ≤ zs.getD k 0 ∧ zs.getD k 0 < 2 ^ D) → smpB zs D = false) := hide (fun k hk' hb => smpB_no (fun h => hb (by have := h k hk'; simpa using this)))
  have hGood : Hid ((∀ k, k < zs.length → (0 ≤ zs.getD k 0 ∧ zs.getD k 0 < 2 ^ D)) → smpB zs D = true) := hide (fun h => smpB_yes (fun j hj => by have := h j hj; simpa using this))
  have hp := two_pow_16 hD
  go_enter Tryd.func44, Tryd.ntmps44
  go_wp2
  go_loop [9] (fun i => ∃ k : Nat, k ≤ zs.length ∧ i = .int .i64 k ∧ Hid (∀ j, j < k → (0 ≤ zs.getD j 0 ∧ zs.getD j 0 < 2 ^ D))) (fun i => zs.length - (intOf i).toNat)
  case atStart => exact ⟨0, Nat.zero_le _, rfl, fun j hj => by omega⟩
  case round =>
    obtain ⟨k, hk', rfl, hok⟩ := hrel
    by_cases hlt : k < zs.length
    · obtain ⟨b, off, rfl, hbl, hcl⟩ := (unhide hA) (ne_of_lt_length hlt)
      have hck := hcl k hlt
      have hbad := hide (unhide hBad k hlt)
      have hOk : Hid ((0 ≤ zs.getD k 0 ∧ zs.getD k 0 < 2 ^ D) → ∀ j, j < k + 1 → (0 ≤ zs.getD j 0 ∧ zs.getD j 0 < 2 ^ D)) := hide (fun h j hj => by
        rcases Nat.lt_or_eq_of_le (Nat.le_of_lt_succ hj) with h' | h'
        · exact unhide hok j h'
        · subst h'; exact h)
      clear hcl hbl
      generalize zs.getD k 0 = x at hck hbad hOk
      by_cases h1 : x < 0
      · have hB := hide (unhide hbad (fun h => by have := h.1; omega))
        clear hbad hOk
        go_wp2
        go_ret
        exact ⟨by rw [unhide hB]; rfl, rfl⟩
      · by_cases h2 : x < 2 ^ D
        · have hok2 := hide (unhide hOk ⟨by omega, h2⟩)
          clear hbad hOk
          go_wp2
          all_goals
            go_round
            case rel => exact ⟨k + 1, by omega, by go_num, unhide hok2⟩
            case measure => simp [intOf]; omega
        · have hB := hide (unhide hbad (fun h => h2 h.2))
          clear hbad hOk
          go_wp2
          go_ret
          exact ⟨by rw [unhide hB]; rfl, rfl⟩
    · have hkl : k = zs.length := by omega
      subst hkl
      have hs := hide (unhide hGood (unhide hok))
      go_wp2
      go_ret
      exact ⟨by rw [unhide hs]; rfl, rfl⟩

end Go.Proofs.YthkppcncajmniaaDoor

/- The walk of GoodImage: the program's parts. -/
namespace Go.Proofs.YthkppcncajmniaaDoor
open Go.RowKit

set_option maxHeartbeats 4000000 in
set_option maxRecDepth 1000000 in
theorem implGoodShape (a b p dp : Int) (vl : Value) (ad : Option Addr) (n cap : Nat) (w : World) (hvl : vl = .slice ad n cap) :
    Calls Tryd.prog 42 #[.agg #[.int .i64 a, .int .i64 b, .int .i64 p, .int .i64 dp, vl]] w fun e w' => e = .returned (.bool (shapeB a b p dp)) ∧ Upd 0 0 w w' := by
  subst hvl
  have hU := hide (Upd.of_below ((Below.refl w.heap.size w).alloc (Nat.le_refl _) (.cells #[.int .i64 a, .int .i64 b, .int .i64 p, .int .i64 dp, .slice ad n cap] 30)) 0 0)
  have hS := hide (fun W => implGoodSidesP a b W)
  have hD := hide (fun W => implGoodDepth dp W)
  by_cases hs : (1 ≤ a ∧ a ≤ 512) ∧ (1 ≤ b ∧ b ≤ 512) ∧ a * b ≤ 4096
  case neg =>
    rw [shapeB_no (fun h => hs ⟨h.1, h.2.1, h.2.2.1⟩)]
    rw [decide_eq_false hs] at hS
    clear hs
    go_enter Tryd.func42, Tryd.ntmps42
    go_wp2_with fail
    refine (unhide hS _).mono ?_
    rintro e w1 ⟨rfl, rfl⟩
    go_wp2
    go_ret
    exact ⟨rfl, unhide hU⟩
  rw [decide_eq_true hs] at hS
  obtain ⟨ha, hb, hab⟩ := hs
  by_cases hp1 : p < 1
  · rw [shapeB_no (fun h => by have := h.2.2.2.1.1; omega)]
    have q : decide (p < 1) = true := by simp; omega
    clear ha hb hab
    go_enter Tryd.func42, Tryd.ntmps42
    go_wp2_with fail
    refine (unhide hS _).mono ?_
    rintro e w1 ⟨rfl, rfl⟩
    go_wp2
    go_ret
    exact ⟨rfl, unhide hU⟩
  have q1 : decide (p < 1) = false := by simp; omega
  by_cases hp2 : 4 < p
  · rw [shapeB_no (fun h => by have := h.2.2.2.1.2; omega)]
    have q : decide (4 < p) = true := by simp; omega
    clear ha hb hab
    go_enter Tryd.func42, Tryd.ntmps42
    go_wp2_with fail
    refine (unhide hS _).mono ?_
    rintro e w1 ⟨rfl, rfl⟩
    go_wp2
    go_ret
    exact ⟨rfl, unhide hU⟩
  have q2 : decide (4 < p) = false := by simp; omega
  by_cases hd : depthOk dp = true
  case neg =>
    rw [shapeB_no (fun h => hd h.2.2.2.2.1)]
    have hd' : depthOk dp = false := by simpa using hd
    rw [hd'] at hD
    clear ha hb hab hd hd'
    go_enter Tryd.func42, Tryd.ntmps42
    go_wp2_with fail
    refine (unhide hS _).mono ?_
    rintro e w1 ⟨rfl, rfl⟩
    go_wp2_with fail
    refine (unhide hD _).mono ?_
    rintro e w1 ⟨rfl, rfl⟩
    go_wp2
    go_ret
    exact ⟨rfl, unhide hU⟩
  rw [hd] at hD
  by_cases h1 : p = 1
  · subst h1
    rw [shapeB_yes ⟨ha, hb, hab, ⟨by omega, by omega⟩, hd, .inl rfl⟩]
    replace hd := hide hd
    clear ha hb hab
    go_enter Tryd.func42, Tryd.ntmps42
    go_wp2_with fail
    refine (unhide hS _).mono ?_
    rintro e w1 ⟨rfl, rfl⟩
    go_wp2_with fail
    refine (unhide hD _).mono ?_
    rintro e w1 ⟨rfl, rfl⟩
    go_wp2
    go_ret
    exact ⟨rfl, unhide hU⟩
  have r1 : (p == 1) = false := beq_eq_false_iff_ne.2 h1
  by_cases h8 : 8 ≤ dp
  · rw [shapeB_yes ⟨ha, hb, hab, ⟨by omega, by omega⟩, hd, .inr h8⟩]
    have r2 : decide (8 ≤ dp) = true := by simp; omega
    replace hd := hide hd
    clear ha hb hab h1
    go_enter Tryd.func42, Tryd.ntmps42
    go_wp2_with fail
    refine (unhide hS _).mono ?_
    rintro e w1 ⟨rfl, rfl⟩
    go_wp2_with fail
    refine (unhide hD _).mono ?_
    rintro e w1 ⟨rfl, rfl⟩
    go_wp2
    go_ret
    exact ⟨rfl, unhide hU⟩
  · rw [shapeB_no (fun h => by have := h.2.2.2.2.2; omega)]
    have r2 : decide (8 ≤ dp) = false := by simp; omega
    replace hd := hide hd
    clear ha hb hab h1
    go_enter Tryd.func42, Tryd.ntmps42
    go_wp2_with fail
    refine (unhide hS _).mono ?_
    rintro e w1 ⟨rfl, rfl⟩
    go_wp2_with fail
    refine (unhide hD _).mono ?_
    rintro e w1 ⟨rfl, rfl⟩
    go_wp2
    go_ret
    exact ⟨rfl, unhide hU⟩

set_option maxHeartbeats 1000000 in
theorem implCountSamples (a b p dp P Q : Int) (vl : Value) (ad : Option Addr) (n cap : Nat) (w : World) (hvl : vl = .slice ad n cap) (hP : a * b = P) (hQ : P * p = Q) (P1 : 0 ≤ P) (P2 : P ≤ 1099511627776) (Q1 : 0 ≤ Q) (Q2 : Q ≤ 1099511627776) :
    Calls Tryd.prog 43 #[.agg #[.int .i64 a, .int .i64 b, .int .i64 p, .int .i64 dp, vl]] w fun e w' => e = .returned (.int .i64 Q) ∧ Upd 0 0 w w' := by
  subst hvl
  have hU := hide (Upd.of_below ((Below.refl w.heap.size w).alloc (Nat.le_refl _) (.cells #[.int .i64 a, .int .i64 b, .int .i64 p, .int .i64 dp, .slice ad n cap] 30)) 0 0)
  go_enter Tryd.func43, Tryd.ntmps43
  go_wp2
  go_ret
  exact ⟨rfl, unhide hU⟩
end Go.Proofs.YthkppcncajmniaaDoor

/- The walk of GoodImage: the program's. -/
namespace Go.Proofs.YthkppcncajmniaaDoor
open Go.RowKit

set_option maxHeartbeats 8000000 in
set_option maxRecDepth 1000000 in
theorem implGoodImage (v : Value) (d : Im) (w : World) (hn : d.2.2.2.2.length ≤ 1048576) (hR : InIm d) (hv : RdIm w v d) :
    Calls Tryd.prog 26 #[v] w fun e w' => e = .returned (.bool (goodImB d)) ∧ Upd 0 0 w w' := by
  obtain ⟨vl, rfl, h⟩ := hv
  obtain ⟨ad, cap, rfl, hA⟩ := h
  obtain ⟨a, b, p, dp, zs⟩ := d
  simp only [ims, imv] at hn hA ⊢
  have hB := (Below.refl w.heap.size w).alloc (Nat.le_refl _) (.cells #[.int .i64 a, .int .i64 b, .int .i64 p, .int .i64 dp, .slice ad zs.length cap] 30)
  have hU := Upd.of_below hB 0 0
  have hA1 := hA.below hB
  have hH := held_new w [.int .i64 a, .int .i64 b, .int .i64 p, .int .i64 dp, .slice ad zs.length cap] 30
  have hS := hide (fun W => implGoodShape a b p dp _ ad zs.length cap W rfl)
  clear hR hA
  by_cases hsh : ShapeOk a b p dp
  case neg =>
    rw [goodImB_no (fun h => hsh h.1)]
    rw [shapeB_no hsh] at hS
    clear hsh hB hA1
    go_enter Tryd.func26, Tryd.ntmps26
    go_wp2_with fail
    generalize w.alloc (.cells #[.int .i64 a, .int .i64 b, .int .i64 p, .int .i64 dp, .slice ad zs.length cap] 30) = W at hU hH ⊢
    have c0 := fun x : UpdT W => (hH.updT x).2 0 _ rfl
    have c1 := fun x : UpdT W => (hH.updT x).2 1 _ rfl
    have c2 := fun x : UpdT W => (hH.updT x).2 2 _ rfl
    have c3 := fun x : UpdT W => (hH.updT x).2 3 _ rfl
    have c4 := fun x : UpdT W => (hH.updT x).2 4 _ rfl
    refine wp_region_upd (by kernel_rfl) (by kernel_rfl) ?_
    repeat (quiet_step ((go_at_call 42; exact Calls.updT _ (unhide hS _))))
    refine wpQuiet_nil ?_
    rintro _ ⟨x, rfl⟩
    have hx := hide (hU.trans x.upd)
    generalize x.to = W2 at hx ⊢
    go_wp2
    go_ret
    exact ⟨rfl, unhide hx⟩
  rw [shapeB_yes hsh] at hS
  obtain ⟨ha, hb, hab, hp, hdp, hpd⟩ := hsh
  obtain ⟨P, hP, P1, P2⟩ := prod_bd ha hb
  obtain ⟨Q, hQ, Q1, Q2⟩ := prod3_bd (P := P) (p := p) ⟨P1, by omega⟩ hp
  have hC := hide (fun W => implCountSamples a b p dp P Q _ ad zs.length cap W rfl hP hQ (by omega) (by omega) (by omega) (by omega))
  obtain ⟨D, rfl, hD1, hD16⟩ := depthOk_nat hdp
  have hG := hide (fun W => implGoodSamples (.slice ad zs.length cap) zs D W hD16 hn)
  have hlq : (zs.length : Int) = a * b * p ↔ (zs.length : Int) = Q := by rw [hP, hQ]
  by_cases hl : (zs.length : Int) = Q
  case neg =>
    rw [goodImB_no (fun h => hl (hlq.1 h.2.1))]
    have q1 : ((zs.length : Int) == Q) = false := beq_eq_false_iff_ne.2 hl
    clear ha hb hab hp hdp hpd hP hQ hl hlq hB hA1 hG
    go_enter Tryd.func26, Tryd.ntmps26
    go_wp2_with fail
    generalize w.alloc (.cells #[.int .i64 a, .int .i64 b, .int .i64 p, .int .i64 (D : Int), .slice ad zs.length cap] 30) = W at hU hH ⊢
    have c0 := fun x : UpdT W => (hH.updT x).2 0 _ rfl
    have c1 := fun x : UpdT W => (hH.updT x).2 1 _ rfl
    have c2 := fun x : UpdT W => (hH.updT x).2 2 _ rfl
    have c3 := fun x : UpdT W => (hH.updT x).2 3 _ rfl
    have c4 := fun x : UpdT W => (hH.updT x).2 4 _ rfl
    refine wp_region_upd (by kernel_rfl) (by kernel_rfl) ?_
    repeat (quiet_step (first | (go_at_call 42; exact Calls.updT _ (unhide hS _)) | (go_at_call 43; exact Calls.updT _ (unhide hC _))))
    refine wpQuiet_nil ?_
    rintro _ ⟨x, rfl⟩
    have hx := hide (hU.trans x.upd)
    generalize x.to = W2 at hx ⊢
    go_wp2
    go_ret
    exact ⟨rfl, unhide hx⟩
  have hgs : goodImB (a, b, p, (D : Int), zs) = smpB zs D := by
    by_cases hs : SmpOk zs D
    · rw [smpB_yes hs]; exact goodImB_yes ⟨⟨ha, hb, hab, hp, hdp, hpd⟩, hlq.2 hl, hs⟩
    · rw [smpB_no hs]; exact goodImB_no (fun h => hs h.2.2)
  rw [hgs]
  have q1 : ((zs.length : Int) == Q) = true := beq_iff_eq.2 hl
  generalize smpB zs D = r at hG ⊢
  clear ha hb hab hp hdp hpd hP hQ hlq hB hgs
  replace hl := hide hl
  go_enter Tryd.func26, Tryd.ntmps26
  go_wp2_with fail
  generalize w.alloc (.cells #[.int .i64 a, .int .i64 b, .int .i64 p, .int .i64 (D : Int), .slice ad zs.length cap] 30) = W at hU hH hA1 ⊢
  have hG2 := hide (fun x : UpdT W => unhide hG x.to ⟨ad, cap, rfl, hA1.below x.upd.none⟩)
  have c0 := fun x : UpdT W => (hH.updT x).2 0 _ rfl
  have c1 := fun x : UpdT W => (hH.updT x).2 1 _ rfl
  have c2 := fun x : UpdT W => (hH.updT x).2 2 _ rfl
  have c3 := fun x : UpdT W => (hH.updT x).2 3 _ rfl
  have c4 := fun x : UpdT W => (hH.updT x).2 4 _ rfl
  clear hA1
  refine wp_region_upd (by kernel_rfl) (by kernel_rfl) ?_
  repeat (quiet_step (first | (go_at_call 42; exact Calls.updT _ (unhide hS _)) | (go_at_call 43; exact Calls.updT _ (unhide hC _)) | (go_at_call 44; exact Calls.updT_same _ (unhide hG2 _))))
  refine wpQuiet_nil ?_
  rintro _ ⟨x, rfl⟩
  have hx := hide (hU.trans x.upd)
  generalize x.to = W2 at hx ⊢
  go_wp2
  go_ret
  exact ⟨rfl, unhide hx⟩
end Go.Proofs.YthkppcncajmniaaDoor

/- GoodStill, as the program has it. -/
namespace Go.Proofs.YthkppcncajmniaaDoor
open Go.RowKit

theorem depth_bdI {dp : Int} (h : depthOk dp = true) : 1 ≤ dp ∧ dp ≤ 16 := by
  rcases depthOk_cases h with e | e | e | e | e <;> subst e <;> omega

set_option maxHeartbeats 4000000 in
set_option maxRecDepth 1000000 in
theorem implGoodStill (v : Value) (d : St) (w : World) (hT : Held w 0 passCells) (hn : StSize d ≤ 1048576) (hR : InSt d) (hv : RdSt w v d) :
    Calls Tryd.prog 8 #[v] w fun e w' => e = .returned (.bool (pB (GoodSt d))) ∧ Upd 0 0 w w' := by
  obtain ⟨l0, l1, l2, rfl, hr0, hr1, hr2⟩ := hv
  obtain ⟨⟨a, b, p, dp, zs⟩, zp, ps, wv⟩ := d
  simp only [Stv, StSize] at hn ⊢
  obtain ⟨hRi, _, _⟩ := hR
  change RdI w l0 zs at hr0
  change RdI w l1 zp at hr1
  change RdNt w l2 ps at hr2
  change InIm (a, b, p, dp, zs) at hRi
  have hn0 : zs.length ≤ 1048576 := by omega
  have hn1 : zp.length ≤ 1048576 := by omega
  have hn2 : ntSize ps ≤ 1048576 := by omega
  have hr0' := hide hr0
  have hr1' := hide hr1
  have hr2' := hide hr2
  obtain ⟨ad, cap, rfl, _⟩ := hr0
  obtain ⟨ad1, cap1, rfl, _⟩ := hr1
  obtain ⟨ad2, cap2, rfl, _⟩ := hr2
  clear hn
  have hB0 := (Below.refl w.heap.size w).alloc (Nat.le_refl _) (.cells #[.int .i64 a, .int .i64 b, .int .i64 p, .int .i64 dp, .slice ad zs.length cap, .slice ad1 zp.length cap1, .slice ad2 ps.length cap2, .bool wv] 33)
  have hbx := hide (held_new w [.int .i64 a, .int .i64 b, .int .i64 p, .int .i64 dp, .slice ad zs.length cap, .slice ad1 zp.length cap1, .slice ad2 ps.length cap2, .bool wv] 33)
  have hGI := hide (implGoodImage _ (a, b, p, dp, zs) _ hn0 hRi ⟨_, rfl, (unhide hr0').below hB0⟩)
  have hPl := palAll_iff ((a, b, p, dp, zs), zp, ps, wv)
  replace hPl := hide hPl
  replace hB0 := hide hB0
  replace hRi := hide hRi
  replace hT := hide hT
  by_cases hg : GoodIm (a, b, p, dp, zs)
  · rw [goodImB_yes hg] at hGI
    by_cases hp1 : PalAll (a, b, p, dp, zs) zp
    · by_cases hnt : NotesOk ps
      · obtain ⟨⟨ha, hb, hab, hp, hdp, hpd⟩, hl, hsmp⟩ := id hg
        replace hdp := depth_bdI hdp
        replace hl := hide hl
        replace hab := hide hab
        replace hsmp := hide hsmp
        obtain ⟨T, hTt⟩ : ∃ T, totTo (sidesOf a b wv) p dp (sidesOf a b wv).length = T := ⟨_, rfl⟩
        have hTT : Hid (totOf (a, b, p, dp, zs) wv = T) := hide hTt
        have hTot := hide (fun W (hW : Below w.heap.size w W) => implCountRows a b p dp ad ad1 ad2 zs.length zp.length ps.length cap cap1 cap2 wv W ((unhide hT).upd (Upd.of_below hW 0 0) (.inr (Nat.zero_le _))) ha hb hp hdp T hTt)
        replace hTt := hide hTt
        replace hg := hide hg
        by_cases h6 : T ≤ 6000
        · have hE : Hid (pB (GoodSt ((a, b, p, dp, zs), zp, ps, wv)) = true) := hide (pB_yes ⟨unhide hg, ((unhide hPl).1 hp1).1, ((unhide hPl).1 hp1).2, hnt, by rw [unhide hTT]; exact h6⟩)
          go_enter Tryd.func8, Tryd.ntmps8
          go_wp2_with fail
          change Hid (Held (w.alloc (.cells #[.int .i64 a, .int .i64 b, .int .i64 p, .int .i64 dp, .slice ad zs.length cap, .slice ad1 zp.length cap1, .slice ad2 ps.length cap2, .bool wv] 33)) _ _) at hbx
          generalize w.alloc (.cells #[.int .i64 a, .int .i64 b, .int .i64 p, .int .i64 dp, .slice ad zs.length cap, .slice ad1 zp.length cap1, .slice ad2 ps.length cap2, .bool wv] 33) = w0 at hB0 hbx hGI ⊢
          refine (unhide hGI).mono ?_
          rintro e w1 ⟨rfl, hu⟩
          replace hbx := hide ((unhide hbx).keep hu)
          replace hB0 := hide (below_upd (unhide hB0) hu (Nat.le_refl _) (.inr (Nat.le_refl _)))
          clear hu
          have hC := implGoodPalette _ zp _ (a, b, p, dp, zs) w1 hn0 hn1 ((unhide hr1').below (unhide hB0)) ⟨_, rfl, (unhide hr0').below (unhide hB0)⟩
          rw [pB_yes hp1] at hC
          replace hC := hide hC
          replace hp1 := hide hp1
          have c0 := (unhide hbx).2 0 _ rfl
          have c1 := (unhide hbx).2 1 _ rfl
          have c2 := (unhide hbx).2 2 _ rfl
          have c3 := (unhide hbx).2 3 _ rfl
          have c4 := (unhide hbx).2 4 _ rfl
          have c5 := (unhide hbx).2 5 _ rfl
          have c6 := (unhide hbx).2 6 _ rfl
          have c7 := (unhide hbx).2 7 _ rfl
          have cl := (unhide hbx).1
          go_wp2_with fail
          clear c0 c1 c2 c3 c4 c5 c6 c7 cl
          refine (unhide hC).mono ?_
          rintro e w2 ⟨rfl, hu⟩
          replace hbx := hide ((unhide hbx).keep hu)
          replace hB0 := hide (below_upd (unhide hB0) hu (Nat.le_refl _) (.inr (Nat.le_refl _)))
          clear hu
          clear hC
          have hC := implGoodNotes _ ps w2 hn2 ((unhide hr2').below (unhide hB0))
          rw [pB_yes hnt] at hC
          replace hC := hide hC
          replace hnt := hide hnt
          have c0 := (unhide hbx).2 0 _ rfl
          have c1 := (unhide hbx).2 1 _ rfl
          have c2 := (unhide hbx).2 2 _ rfl
          have c3 := (unhide hbx).2 3 _ rfl
          have c4 := (unhide hbx).2 4 _ rfl
          have c5 := (unhide hbx).2 5 _ rfl
          have c6 := (unhide hbx).2 6 _ rfl
          have c7 := (unhide hbx).2 7 _ rfl
          have cl := (unhide hbx).1
          go_wp2_with fail
          clear c0 c1 c2 c3 c4 c5 c6 c7 cl
          refine (unhide hC).mono ?_
          rintro e w3 ⟨rfl, hu⟩
          replace hbx := hide ((unhide hbx).keep hu)
          replace hB0 := hide (below_upd (unhide hB0) hu (Nat.le_refl _) (.inr (Nat.le_refl _)))
          clear hu
          clear hC
          have hC := hide (unhide hTot w3 (unhide hB0))
          have c0 := (unhide hbx).2 0 _ rfl
          have c1 := (unhide hbx).2 1 _ rfl
          have c2 := (unhide hbx).2 2 _ rfl
          have c3 := (unhide hbx).2 3 _ rfl
          have c4 := (unhide hbx).2 4 _ rfl
          have c5 := (unhide hbx).2 5 _ rfl
          have c6 := (unhide hbx).2 6 _ rfl
          have c7 := (unhide hbx).2 7 _ rfl
          have cl := (unhide hbx).1
          go_wp2_with fail
          clear c0 c1 c2 c3 c4 c5 c6 c7 cl
          refine (unhide hC).mono ?_
          rintro e w4 ⟨rfl, hu⟩
          replace hbx := hide ((unhide hbx).keep hu)
          replace hB0 := hide (below_upd (unhide hB0) hu (Nat.le_refl _) (.inr (Nat.le_refl _)))
          clear hu
          clear hC hTot
          have c0 := (unhide hbx).2 0 _ rfl
          have c1 := (unhide hbx).2 1 _ rfl
          have c2 := (unhide hbx).2 2 _ rfl
          have c3 := (unhide hbx).2 3 _ rfl
          have c4 := (unhide hbx).2 4 _ rfl
          have c5 := (unhide hbx).2 5 _ rfl
          have c6 := (unhide hbx).2 6 _ rfl
          have c7 := (unhide hbx).2 7 _ rfl
          have cl := (unhide hbx).1
          go_wp2
          go_ret
          exact ⟨by rw [unhide hE]; first | rfl | (simp; done) | (simp; omega), Upd.of_below (unhide hB0) 0 0⟩
        · have hE : Hid (pB (GoodSt ((a, b, p, dp, zs), zp, ps, wv)) = false) := hide (pB_no (fun h => h6 (by rw [← unhide hTT]; exact h.2.2.2.2)))
          go_enter Tryd.func8, Tryd.ntmps8
          go_wp2_with fail
          change Hid (Held (w.alloc (.cells #[.int .i64 a, .int .i64 b, .int .i64 p, .int .i64 dp, .slice ad zs.length cap, .slice ad1 zp.length cap1, .slice ad2 ps.length cap2, .bool wv] 33)) _ _) at hbx
          generalize w.alloc (.cells #[.int .i64 a, .int .i64 b, .int .i64 p, .int .i64 dp, .slice ad zs.length cap, .slice ad1 zp.length cap1, .slice ad2 ps.length cap2, .bool wv] 33) = w0 at hB0 hbx hGI ⊢
          refine (unhide hGI).mono ?_
          rintro e w1 ⟨rfl, hu⟩
          replace hbx := hide ((unhide hbx).keep hu)
          replace hB0 := hide (below_upd (unhide hB0) hu (Nat.le_refl _) (.inr (Nat.le_refl _)))
          clear hu
          have hC := implGoodPalette _ zp _ (a, b, p, dp, zs) w1 hn0 hn1 ((unhide hr1').below (unhide hB0)) ⟨_, rfl, (unhide hr0').below (unhide hB0)⟩
          rw [pB_yes hp1] at hC
          replace hC := hide hC
          replace hp1 := hide hp1
          have c0 := (unhide hbx).2 0 _ rfl
          have c1 := (unhide hbx).2 1 _ rfl
          have c2 := (unhide hbx).2 2 _ rfl
          have c3 := (unhide hbx).2 3 _ rfl
          have c4 := (unhide hbx).2 4 _ rfl
          have c5 := (unhide hbx).2 5 _ rfl
          have c6 := (unhide hbx).2 6 _ rfl
          have c7 := (unhide hbx).2 7 _ rfl
          have cl := (unhide hbx).1
          go_wp2_with fail
          clear c0 c1 c2 c3 c4 c5 c6 c7 cl
          refine (unhide hC).mono ?_
          rintro e w2 ⟨rfl, hu⟩
          replace hbx := hide ((unhide hbx).keep hu)
          replace hB0 := hide (below_upd (unhide hB0) hu (Nat.le_refl _) (.inr (Nat.le_refl _)))
          clear hu
          clear hC
          have hC := implGoodNotes _ ps w2 hn2 ((unhide hr2').below (unhide hB0))
          rw [pB_yes hnt] at hC
          replace hC := hide hC
          replace hnt := hide hnt
          have c0 := (unhide hbx).2 0 _ rfl
          have c1 := (unhide hbx).2 1 _ rfl
          have c2 := (unhide hbx).2 2 _ rfl
          have c3 := (unhide hbx).2 3 _ rfl
          have c4 := (unhide hbx).2 4 _ rfl
          have c5 := (unhide hbx).2 5 _ rfl
          have c6 := (unhide hbx).2 6 _ rfl
          have c7 := (unhide hbx).2 7 _ rfl
          have cl := (unhide hbx).1
          go_wp2_with fail
          clear c0 c1 c2 c3 c4 c5 c6 c7 cl
          refine (unhide hC).mono ?_
          rintro e w3 ⟨rfl, hu⟩
          replace hbx := hide ((unhide hbx).keep hu)
          replace hB0 := hide (below_upd (unhide hB0) hu (Nat.le_refl _) (.inr (Nat.le_refl _)))
          clear hu
          clear hC
          have hC := hide (unhide hTot w3 (unhide hB0))
          have c0 := (unhide hbx).2 0 _ rfl
          have c1 := (unhide hbx).2 1 _ rfl
          have c2 := (unhide hbx).2 2 _ rfl
          have c3 := (unhide hbx).2 3 _ rfl
          have c4 := (unhide hbx).2 4 _ rfl
          have c5 := (unhide hbx).2 5 _ rfl
          have c6 := (unhide hbx).2 6 _ rfl
          have c7 := (unhide hbx).2 7 _ rfl
          have cl := (unhide hbx).1
          go_wp2_with fail
          clear c0 c1 c2 c3 c4 c5 c6 c7 cl
          refine (unhide hC).mono ?_
          rintro e w4 ⟨rfl, hu⟩
          replace hbx := hide ((unhide hbx).keep hu)
          replace hB0 := hide (below_upd (unhide hB0) hu (Nat.le_refl _) (.inr (Nat.le_refl _)))
          clear hu
          clear hC hTot
          have c0 := (unhide hbx).2 0 _ rfl
          have c1 := (unhide hbx).2 1 _ rfl
          have c2 := (unhide hbx).2 2 _ rfl
          have c3 := (unhide hbx).2 3 _ rfl
          have c4 := (unhide hbx).2 4 _ rfl
          have c5 := (unhide hbx).2 5 _ rfl
          have c6 := (unhide hbx).2 6 _ rfl
          have c7 := (unhide hbx).2 7 _ rfl
          have cl := (unhide hbx).1
          go_wp2
          go_ret
          exact ⟨by rw [unhide hE]; first | rfl | (simp; done) | (simp; omega), Upd.of_below (unhide hB0) 0 0⟩
      · have hE : Hid (pB (GoodSt ((a, b, p, dp, zs), zp, ps, wv)) = false) := hide (pB_no (fun h => hnt h.2.2.2.1))
        replace hg := hide hg
        go_enter Tryd.func8, Tryd.ntmps8
        go_wp2_with fail
        change Hid (Held (w.alloc (.cells #[.int .i64 a, .int .i64 b, .int .i64 p, .int .i64 dp, .slice ad zs.length cap, .slice ad1 zp.length cap1, .slice ad2 ps.length cap2, .bool wv] 33)) _ _) at hbx
        generalize w.alloc (.cells #[.int .i64 a, .int .i64 b, .int .i64 p, .int .i64 dp, .slice ad zs.length cap, .slice ad1 zp.length cap1, .slice ad2 ps.length cap2, .bool wv] 33) = w0 at hB0 hbx hGI ⊢
        refine (unhide hGI).mono ?_
        rintro e w1 ⟨rfl, hu⟩
        replace hbx := hide ((unhide hbx).keep hu)
        replace hB0 := hide (below_upd (unhide hB0) hu (Nat.le_refl _) (.inr (Nat.le_refl _)))
        clear hu
        have hC := implGoodPalette _ zp _ (a, b, p, dp, zs) w1 hn0 hn1 ((unhide hr1').below (unhide hB0)) ⟨_, rfl, (unhide hr0').below (unhide hB0)⟩
        rw [pB_yes hp1] at hC
        replace hC := hide hC
        replace hp1 := hide hp1
        have c0 := (unhide hbx).2 0 _ rfl
        have c1 := (unhide hbx).2 1 _ rfl
        have c2 := (unhide hbx).2 2 _ rfl
        have c3 := (unhide hbx).2 3 _ rfl
        have c4 := (unhide hbx).2 4 _ rfl
        have c5 := (unhide hbx).2 5 _ rfl
        have c6 := (unhide hbx).2 6 _ rfl
        have c7 := (unhide hbx).2 7 _ rfl
        have cl := (unhide hbx).1
        go_wp2_with fail
        clear c0 c1 c2 c3 c4 c5 c6 c7 cl
        refine (unhide hC).mono ?_
        rintro e w2 ⟨rfl, hu⟩
        replace hbx := hide ((unhide hbx).keep hu)
        replace hB0 := hide (below_upd (unhide hB0) hu (Nat.le_refl _) (.inr (Nat.le_refl _)))
        clear hu
        clear hC
        have hC := implGoodNotes _ ps w2 hn2 ((unhide hr2').below (unhide hB0))
        rw [pB_no hnt] at hC
        replace hC := hide hC
        replace hnt := hide hnt
        have c0 := (unhide hbx).2 0 _ rfl
        have c1 := (unhide hbx).2 1 _ rfl
        have c2 := (unhide hbx).2 2 _ rfl
        have c3 := (unhide hbx).2 3 _ rfl
        have c4 := (unhide hbx).2 4 _ rfl
        have c5 := (unhide hbx).2 5 _ rfl
        have c6 := (unhide hbx).2 6 _ rfl
        have c7 := (unhide hbx).2 7 _ rfl
        have cl := (unhide hbx).1
        go_wp2_with fail
        clear c0 c1 c2 c3 c4 c5 c6 c7 cl
        refine (unhide hC).mono ?_
        rintro e w3 ⟨rfl, hu⟩
        replace hbx := hide ((unhide hbx).keep hu)
        replace hB0 := hide (below_upd (unhide hB0) hu (Nat.le_refl _) (.inr (Nat.le_refl _)))
        clear hu
        clear hC
        have c0 := (unhide hbx).2 0 _ rfl
        have c1 := (unhide hbx).2 1 _ rfl
        have c2 := (unhide hbx).2 2 _ rfl
        have c3 := (unhide hbx).2 3 _ rfl
        have c4 := (unhide hbx).2 4 _ rfl
        have c5 := (unhide hbx).2 5 _ rfl
        have c6 := (unhide hbx).2 6 _ rfl
        have c7 := (unhide hbx).2 7 _ rfl
        have cl := (unhide hbx).1
        go_wp2
        go_ret
        exact ⟨by rw [unhide hE]; first | rfl | (simp; done) | (simp; omega), Upd.of_below (unhide hB0) 0 0⟩
    · have hE : Hid (pB (GoodSt ((a, b, p, dp, zs), zp, ps, wv)) = false) := hide (pB_no (fun h => hp1 ((unhide hPl).2 ⟨h.2.1, h.2.2.1⟩)))
      replace hg := hide hg
      go_enter Tryd.func8, Tryd.ntmps8
      go_wp2_with fail
      change Hid (Held (w.alloc (.cells #[.int .i64 a, .int .i64 b, .int .i64 p, .int .i64 dp, .slice ad zs.length cap, .slice ad1 zp.length cap1, .slice ad2 ps.length cap2, .bool wv] 33)) _ _) at hbx
      generalize w.alloc (.cells #[.int .i64 a, .int .i64 b, .int .i64 p, .int .i64 dp, .slice ad zs.length cap, .slice ad1 zp.length cap1, .slice ad2 ps.length cap2, .bool wv] 33) = w0 at hB0 hbx hGI ⊢
      refine (unhide hGI).mono ?_
      rintro e w1 ⟨rfl, hu⟩
      replace hbx := hide ((unhide hbx).keep hu)
      replace hB0 := hide (below_upd (unhide hB0) hu (Nat.le_refl _) (.inr (Nat.le_refl _)))
      clear hu
      have hC := implGoodPalette _ zp _ (a, b, p, dp, zs) w1 hn0 hn1 ((unhide hr1').below (unhide hB0)) ⟨_, rfl, (unhide hr0').below (unhide hB0)⟩
      rw [pB_no hp1] at hC
      replace hC := hide hC
      replace hp1 := hide hp1
      have c0 := (unhide hbx).2 0 _ rfl
      have c1 := (unhide hbx).2 1 _ rfl
      have c2 := (unhide hbx).2 2 _ rfl
      have c3 := (unhide hbx).2 3 _ rfl
      have c4 := (unhide hbx).2 4 _ rfl
      have c5 := (unhide hbx).2 5 _ rfl
      have c6 := (unhide hbx).2 6 _ rfl
      have c7 := (unhide hbx).2 7 _ rfl
      have cl := (unhide hbx).1
      go_wp2_with fail
      clear c0 c1 c2 c3 c4 c5 c6 c7 cl
      refine (unhide hC).mono ?_
      rintro e w2 ⟨rfl, hu⟩
      replace hbx := hide ((unhide hbx).keep hu)
      replace hB0 := hide (below_upd (unhide hB0) hu (Nat.le_refl _) (.inr (Nat.le_refl _)))
      clear hu
      clear hC
      have c0 := (unhide hbx).2 0 _ rfl
      have c1 := (unhide hbx).2 1 _ rfl
      have c2 := (unhide hbx).2 2 _ rfl
      have c3 := (unhide hbx).2 3 _ rfl
      have c4 := (unhide hbx).2 4 _ rfl
      have c5 := (unhide hbx).2 5 _ rfl
      have c6 := (unhide hbx).2 6 _ rfl
      have c7 := (unhide hbx).2 7 _ rfl
      have cl := (unhide hbx).1
      go_wp2
      go_ret
      exact ⟨by rw [unhide hE]; first | rfl | (simp; done) | (simp; omega), Upd.of_below (unhide hB0) 0 0⟩
  · have hE : Hid (pB (GoodSt ((a, b, p, dp, zs), zp, ps, wv)) = false) := hide (pB_no (fun h => hg h.1))
    rw [goodImB_no hg] at hGI
    replace hg := hide hg
    go_enter Tryd.func8, Tryd.ntmps8
    go_wp2_with fail
    change Hid (Held (w.alloc (.cells #[.int .i64 a, .int .i64 b, .int .i64 p, .int .i64 dp, .slice ad zs.length cap, .slice ad1 zp.length cap1, .slice ad2 ps.length cap2, .bool wv] 33)) _ _) at hbx
    generalize w.alloc (.cells #[.int .i64 a, .int .i64 b, .int .i64 p, .int .i64 dp, .slice ad zs.length cap, .slice ad1 zp.length cap1, .slice ad2 ps.length cap2, .bool wv] 33) = w0 at hB0 hbx hGI ⊢
    refine (unhide hGI).mono ?_
    rintro e w1 ⟨rfl, hu⟩
    replace hbx := hide ((unhide hbx).keep hu)
    replace hB0 := hide (below_upd (unhide hB0) hu (Nat.le_refl _) (.inr (Nat.le_refl _)))
    clear hu
    have c0 := (unhide hbx).2 0 _ rfl
    have c1 := (unhide hbx).2 1 _ rfl
    have c2 := (unhide hbx).2 2 _ rfl
    have c3 := (unhide hbx).2 3 _ rfl
    have c4 := (unhide hbx).2 4 _ rfl
    have c5 := (unhide hbx).2 5 _ rfl
    have c6 := (unhide hbx).2 6 _ rfl
    have c7 := (unhide hbx).2 7 _ rfl
    have cl := (unhide hbx).1
    go_wp2
    go_ret
    exact ⟨by rw [unhide hE]; first | rfl | (simp; done) | (simp; omega), Upd.of_below (unhide hB0) 0 0⟩
end Go.Proofs.YthkppcncajmniaaDoor

/- The law on GoodStill, walked: what it calls is told by the walks of the specification and of the program. -/
namespace Go.Proofs.YthkppcncajmniaaDoor
open Go.RowKit

set_option maxHeartbeats 1000000 in
theorem lawGoodStill_long0 (d0 : St) (ad0_0 : Option Addr) (cap0_0 : Nat) (ad0_1 : Option Addr) (cap0_1 : Nat) (ad0_2 : Option Addr) (cap0_2 : Nat) (w : World) (hz0 : (d0.1.2.2.2.2.length ≤ 9223372036854775807 ∧ d0.2.1.length ≤ 9223372036854775807 ∧ d0.2.2.1.length ≤ 9223372036854775807))  (_hn0 : 1048576 < d0.1.2.2.2.2.length + d0.2.1.length + ntSize d0.2.2.1) (hA0_0 : ArgI w ad0_0 d0.1.2.2.2.2) (hA0_1 : ArgI w ad0_1 d0.2.1) (hA0_2 : ArgNt w ad0_2 d0.2.2.1) (hR0 : InSt d0) :
    Calls Tryd.prog 3 #[.agg #[.int .i64 d0.1.1, .int .i64 d0.1.2.1, .int .i64 d0.1.2.2.1, .int .i64 d0.1.2.2.2.1, .slice ad0_0 d0.1.2.2.2.2.length cap0_0, .slice ad0_1 d0.2.1.length cap0_1, .slice ad0_2 d0.2.2.1.length cap0_2, .bool d0.2.2.2]] w fun e w' => e = .returned (.bool true) ∧ Below w.heap.size w w' := by
  replace hA0_0 := hide hA0_0
  replace hA0_1 := hide hA0_1
  replace hA0_2 := hide hA0_2
  replace hR0 := hide hR0
  have hB := hide (Below.refl w.heap.size w)
  go_enter Tryd.func3, Tryd.ntmps3
  go_wp2_with fail
  have hu := Upd.of_below ((Below.refl w.heap.size w).alloc (Nat.le_refl _) (.cells #[.int .i64 d0.1.1, .int .i64 d0.1.2.1, .int .i64 d0.1.2.2.1, .int .i64 d0.1.2.2.2.1, .slice ad0_0 d0.1.2.2.2.2.length cap0_0, .slice ad0_1 d0.2.1.length cap0_1, .slice ad0_2 d0.2.2.1.length cap0_2, .bool d0.2.2.2] 27)) 0 0
  replace hB := hide (below_upd (unhide hB) hu (Nat.le_refl _) (.inr (Nat.le_refl _)))
  have hs1 : Hid (w.heap.size + 1 ≤ (w.alloc (.cells #[.int .i64 d0.1.1, .int .i64 d0.1.2.1, .int .i64 d0.1.2.2.1, .int .i64 d0.1.2.2.2.1, .slice ad0_0 d0.1.2.2.2.2.length cap0_0, .slice ad0_1 d0.2.1.length cap0_1, .slice ad0_2 d0.2.2.1.length cap0_2, .bool d0.2.2.2] 27)).heap.size) := hide (by simp)
  have cp0 := hide (held_new w [.int .i64 d0.1.1, .int .i64 d0.1.2.1, .int .i64 d0.1.2.2.1, .int .i64 d0.1.2.2.2.1, .slice ad0_0 d0.1.2.2.2.2.length cap0_0, .slice ad0_1 d0.2.1.length cap0_1, .slice ad0_2 d0.2.2.1.length cap0_2, .bool d0.2.2.2] 27)
  clear hu
  generalize w.alloc (.cells #[.int .i64 d0.1.1, .int .i64 d0.1.2.1, .int .i64 d0.1.2.2.1, .int .i64 d0.1.2.2.2.1, .slice ad0_0 d0.1.2.2.2.2.length cap0_0, .slice ad0_1 d0.2.1.length cap0_1, .slice ad0_2 d0.2.2.1.length cap0_2, .bool d0.2.2.2] 27) = w1 at  hB hs1 cp0 ⊢
  refine (szStill_any d0.1.1 d0.1.2.1 d0.1.2.2.1 d0.1.2.2.2.1 d0.1.2.2.2.2 d0.2.1 d0.2.2.1 d0.2.2.2 ad0_0 cap0_0 ad0_1 cap0_1 ad0_2 cap0_2 (1048576) w1 (by omega) (by omega) hz0.1 hz0.2.1 hz0.2.2 (unhide hR0).2.2 ((unhide hA0_2).below (unhide hB))).mono ?_
  rintro e w2 ⟨rfl, hu⟩
  replace cp0 := hide ((unhide cp0).keep hu)
  replace hB := hide (below_upd (unhide hB) hu (Nat.le_refl _) (.inr (Nat.le_refl _)))
  have hs2 : Hid (w1.heap.size ≤ w2.heap.size) := hide hu.size
  clear hu
  rw [if_pos (by omega)]
  go_wp2
  go_ret
  exact ⟨rfl, unhide hB⟩

set_option maxHeartbeats 4000000 in
set_option maxRecDepth 100000 in
theorem lawGoodStill_short (d0 : St) (ad0_0 : Option Addr) (cap0_0 : Nat) (ad0_1 : Option Addr) (cap0_1 : Nat) (ad0_2 : Option Addr) (cap0_2 : Nat) (w : World) (hT : Held w 0 passCells) (hz0 : (d0.1.2.2.2.2.length ≤ 9223372036854775807 ∧ d0.2.1.length ≤ 9223372036854775807 ∧ d0.2.2.1.length ≤ 9223372036854775807)) (hn : d0.1.2.2.2.2.length + d0.2.1.length + ntSize d0.2.2.1 ≤ 1048576) (hA0_0 : ArgI w ad0_0 d0.1.2.2.2.2) (hA0_1 : ArgI w ad0_1 d0.2.1) (hA0_2 : ArgNt w ad0_2 d0.2.2.1) (hR0 : InSt d0) :
    Calls Tryd.prog 3 #[.agg #[.int .i64 d0.1.1, .int .i64 d0.1.2.1, .int .i64 d0.1.2.2.1, .int .i64 d0.1.2.2.2.1, .slice ad0_0 d0.1.2.2.2.2.length cap0_0, .slice ad0_1 d0.2.1.length cap0_1, .slice ad0_2 d0.2.2.1.length cap0_2, .bool d0.2.2.2]] w fun e w' => e = .returned (.bool true) ∧ Below w.heap.size w w' := by
  have hT0 := hide hT.1
  replace hT := hide hT
  have hn0 : (StSize d0 ≤ 1048576) := by unfold StSize; omega
  replace hA0_0 := hide hA0_0
  replace hA0_1 := hide hA0_1
  replace hA0_2 := hide hA0_2
  replace hR0 := hide hR0
  have hB := hide (Below.refl w.heap.size w)
  go_enter Tryd.func3, Tryd.ntmps3
  have hleft0 : (0 : Int) ≤ 1048576 := by omega
  go_wp2_with fail
  have hu := Upd.of_below ((Below.refl w.heap.size w).alloc (Nat.le_refl _) (.cells #[.int .i64 d0.1.1, .int .i64 d0.1.2.1, .int .i64 d0.1.2.2.1, .int .i64 d0.1.2.2.2.1, .slice ad0_0 d0.1.2.2.2.2.length cap0_0, .slice ad0_1 d0.2.1.length cap0_1, .slice ad0_2 d0.2.2.1.length cap0_2, .bool d0.2.2.2] 27)) 0 0
  replace hT := hide ((unhide hT).keep hu)
  replace hB := hide (below_upd (unhide hB) hu (Nat.le_refl _) (.inr (Nat.le_refl _)))
  have hs1 : Hid (w.heap.size + 1 ≤ (w.alloc (.cells #[.int .i64 d0.1.1, .int .i64 d0.1.2.1, .int .i64 d0.1.2.2.1, .int .i64 d0.1.2.2.2.1, .slice ad0_0 d0.1.2.2.2.2.length cap0_0, .slice ad0_1 d0.2.1.length cap0_1, .slice ad0_2 d0.2.2.1.length cap0_2, .bool d0.2.2.2] 27)).heap.size) := hide (by simp)
  have cp0 := hide (held_new w [.int .i64 d0.1.1, .int .i64 d0.1.2.1, .int .i64 d0.1.2.2.1, .int .i64 d0.1.2.2.2.1, .slice ad0_0 d0.1.2.2.2.2.length cap0_0, .slice ad0_1 d0.2.1.length cap0_1, .slice ad0_2 d0.2.2.1.length cap0_2, .bool d0.2.2.2] 27)
  clear hu
  generalize w.alloc (.cells #[.int .i64 d0.1.1, .int .i64 d0.1.2.1, .int .i64 d0.1.2.2.1, .int .i64 d0.1.2.2.2.1, .slice ad0_0 d0.1.2.2.2.2.length cap0_0, .slice ad0_1 d0.2.1.length cap0_1, .slice ad0_2 d0.2.2.1.length cap0_2, .bool d0.2.2.2] 27) = w1 at hT hB hs1 cp0 ⊢
  refine (szStill_any d0.1.1 d0.1.2.1 d0.1.2.2.1 d0.1.2.2.2.1 d0.1.2.2.2.2 d0.2.1 d0.2.2.1 d0.2.2.2 ad0_0 cap0_0 ad0_1 cap0_1 ad0_2 cap0_2 (1048576) w1 (by omega) (by omega) hz0.1 hz0.2.1 hz0.2.2 (unhide hR0).2.2 ((unhide hA0_2).below (unhide hB))).mono ?_
  rintro e w2 ⟨rfl, hu⟩
  replace hT := hide ((unhide hT).keep hu)
  replace cp0 := hide ((unhide cp0).keep hu)
  replace hB := hide (below_upd (unhide hB) hu (Nat.le_refl _) (.inr (Nat.le_refl _)))
  have hs2 : Hid (w1.heap.size ≤ w2.heap.size) := hide hu.size
  clear hu
  rw [if_neg (by omega)]
  have hleft0 : ¬ (1048576 - ((d0.1.2.2.2.2.length + d0.2.1.length + ntSize d0.2.2.1 : Nat) : Int) < 0) := by omega
  have kcp0_0 := (unhide cp0).2 0 _ rfl
  have kcp0_1 := (unhide cp0).2 1 _ rfl
  have kcp0_2 := (unhide cp0).2 2 _ rfl
  have kcp0_3 := (unhide cp0).2 3 _ rfl
  have kcp0_4 := (unhide cp0).2 4 _ rfl
  have kcp0_5 := (unhide cp0).2 5 _ rfl
  have kcp0_6 := (unhide cp0).2 6 _ rfl
  have kcp0_7 := (unhide cp0).2 7 _ rfl
  have kcp0_l := (unhide cp0).1
  go_wp2_with fail
  clear kcp0_0 kcp0_1 kcp0_2 kcp0_3 kcp0_4 kcp0_5 kcp0_6 kcp0_7 kcp0_l
  refine (toStill_own _ d0 w2 hn0 ⟨_, _, _, rfl, ⟨ad0_0, cap0_0, rfl, (unhide hA0_0).below (unhide hB)⟩, ⟨ad0_1, cap0_1, rfl, (unhide hA0_1).below (unhide hB)⟩, ⟨ad0_2, cap0_2, rfl, (unhide hA0_2).below (unhide hB)⟩⟩).mono ?_
  rintro e w3 ⟨vy0_w0, rfl, ho, hu⟩
  replace hT := hide ((unhide hT).keep hu)
  replace cp0 := hide ((unhide cp0).keep hu)
  replace hB := hide (below_upd (unhide hB) hu (Nat.le_refl _) (.inr (Nat.le_refl _)))
  have hs3 : Hid (w2.heap.size ≤ w3.heap.size) := hide hu.size
  have y0_w0 := hide ho
  clear hu ho
  go_wp2_with fail
  refine (specGoodStill _ d0 w3  hn0 (unhide hR0) (OwnSt.rd (unhide y0_w0))).mono ?_
  rintro e w4 ⟨rfl, hu⟩
  replace y0_w0 := hide ((unhide y0_w0).keep hu)
  replace hT := hide ((unhide hT).keep hu)
  replace cp0 := hide ((unhide cp0).keep hu)
  replace hB := hide (below_upd (unhide hB) hu (Nat.le_refl _) (.inr (Nat.le_refl _)))
  have hs4 : Hid (w3.heap.size ≤ w4.heap.size) := hide hu.size
  clear hu
  clear y0_w0
  have kcp0_0 := (unhide cp0).2 0 _ rfl
  have kcp0_1 := (unhide cp0).2 1 _ rfl
  have kcp0_2 := (unhide cp0).2 2 _ rfl
  have kcp0_3 := (unhide cp0).2 3 _ rfl
  have kcp0_4 := (unhide cp0).2 4 _ rfl
  have kcp0_5 := (unhide cp0).2 5 _ rfl
  have kcp0_6 := (unhide cp0).2 6 _ rfl
  have kcp0_7 := (unhide cp0).2 7 _ rfl
  have kcp0_l := (unhide cp0).1
  go_wp2_with fail
  clear kcp0_0 kcp0_1 kcp0_2 kcp0_3 kcp0_4 kcp0_5 kcp0_6 kcp0_7 kcp0_l
  refine (toStill_own _ d0 w4 hn0 ⟨_, _, _, rfl, ⟨ad0_0, cap0_0, rfl, (unhide hA0_0).below (unhide hB)⟩, ⟨ad0_1, cap0_1, rfl, (unhide hA0_1).below (unhide hB)⟩, ⟨ad0_2, cap0_2, rfl, (unhide hA0_2).below (unhide hB)⟩⟩).mono ?_
  rintro e w5 ⟨vx0, rfl, ho, hu⟩
  replace hT := hide ((unhide hT).keep hu)
  replace cp0 := hide ((unhide cp0).keep hu)
  replace hB := hide (below_upd (unhide hB) hu (Nat.le_refl _) (.inr (Nat.le_refl _)))
  have hs5 : Hid (w4.heap.size ≤ w5.heap.size) := hide hu.size
  have x0 := hide ho
  clear hu ho
  obtain ⟨adx0_0, capx0_0, adx0_1, capx0_1, adx0_2, capx0_2, hvx0⟩ := OwnSt.form (unhide x0)
  subst hvx0
  go_wp2_with fail
  have hu := Upd.of_below ((Below.refl w5.heap.size w5).alloc (Nat.le_refl _) (.cells #[.int .i64 d0.1.1, .int .i64 d0.1.2.1, .int .i64 d0.1.2.2.1, .int .i64 d0.1.2.2.2.1, .slice adx0_0 d0.1.2.2.2.2.length capx0_0, .slice adx0_1 d0.2.1.length capx0_1, .slice adx0_2 d0.2.2.1.length capx0_2, .bool d0.2.2.2] 33)) 0 0
  replace x0 := hide ((unhide x0).keep hu)
  replace hT := hide ((unhide hT).keep hu)
  replace cp0 := hide ((unhide cp0).keep hu)
  replace hB := hide (below_upd (unhide hB) hu (Nat.le_refl _) (.inr (Nat.le_refl _)))
  have hs6 : Hid (w5.heap.size + 1 ≤ (w5.alloc (.cells #[.int .i64 d0.1.1, .int .i64 d0.1.2.1, .int .i64 d0.1.2.2.1, .int .i64 d0.1.2.2.2.1, .slice adx0_0 d0.1.2.2.2.2.length capx0_0, .slice adx0_1 d0.2.1.length capx0_1, .slice adx0_2 d0.2.2.1.length capx0_2, .bool d0.2.2.2] 33)).heap.size) := hide (by simp)
  have cx0 := hide (held_new w5 [.int .i64 d0.1.1, .int .i64 d0.1.2.1, .int .i64 d0.1.2.2.1, .int .i64 d0.1.2.2.2.1, .slice adx0_0 d0.1.2.2.2.2.length capx0_0, .slice adx0_1 d0.2.1.length capx0_1, .slice adx0_2 d0.2.2.1.length capx0_2, .bool d0.2.2.2] 33)
  clear hu
  generalize w5.alloc (.cells #[.int .i64 d0.1.1, .int .i64 d0.1.2.1, .int .i64 d0.1.2.2.1, .int .i64 d0.1.2.2.2.1, .slice adx0_0 d0.1.2.2.2.2.length capx0_0, .slice adx0_1 d0.2.1.length capx0_1, .slice adx0_2 d0.2.2.1.length capx0_2, .bool d0.2.2.2] 33) = w6 at x0 hT cp0 hB hs6 cx0 ⊢
  refine (implGoodStill _ d0 w6 (unhide hT) hn0 (unhide hR0) (OwnSt.rd (unhide x0))).mono ?_
  rintro e w7 ⟨rfl, hu⟩
  replace x0 := hide ((unhide x0).keep hu)
  replace hT := hide ((unhide hT).keep hu)
  replace cp0 := hide ((unhide cp0).keep hu)
  replace cx0 := hide ((unhide cx0).keep hu)
  replace hB := hide (below_upd (unhide hB) hu (Nat.le_refl _) (.inr (Nat.le_refl _)))
  have hs7 : Hid (w6.heap.size ≤ w7.heap.size) := hide hu.size
  clear hu
  have kcx0_0 := (unhide cx0).2 0 _ rfl
  have kcx0_1 := (unhide cx0).2 1 _ rfl
  have kcx0_2 := (unhide cx0).2 2 _ rfl
  have kcx0_3 := (unhide cx0).2 3 _ rfl
  have kcx0_4 := (unhide cx0).2 4 _ rfl
  have kcx0_5 := (unhide cx0).2 5 _ rfl
  have kcx0_6 := (unhide cx0).2 6 _ rfl
  have kcx0_7 := (unhide cx0).2 7 _ rfl
  have kcx0_l := (unhide cx0).1
  have kcp0_0 := (unhide cp0).2 0 _ rfl
  have kcp0_1 := (unhide cp0).2 1 _ rfl
  have kcp0_2 := (unhide cp0).2 2 _ rfl
  have kcp0_3 := (unhide cp0).2 3 _ rfl
  have kcp0_4 := (unhide cp0).2 4 _ rfl
  have kcp0_5 := (unhide cp0).2 5 _ rfl
  have kcp0_6 := (unhide cp0).2 6 _ rfl
  have kcp0_7 := (unhide cp0).2 7 _ rfl
  have kcp0_l := (unhide cp0).1
  have hTo := hide (toStill_own _ d0 w7.drew hn0 ⟨_, _, _, rfl, ⟨ad0_0, cap0_0, rfl, (unhide hA0_0).below (below_drewN (unhide hB) 1)⟩, ⟨ad0_1, cap0_1, rfl, (unhide hA0_1).below (below_drewN (unhide hB) 1)⟩, ⟨ad0_2, cap0_2, rfl, (unhide hA0_2).below (below_drewN (unhide hB) 1)⟩⟩)
  go_wp2_with fail
  go_region_held3 (fun w' => w'.cell? ⟨w5.heap.size, 0, none⟩ = some (.int .i64 d0.1.1) ∧ w'.cell? ⟨w5.heap.size, 1, none⟩ = some (.int .i64 d0.1.2.1) ∧ w'.cell? ⟨w5.heap.size, 2, none⟩ = some (.int .i64 d0.1.2.2.1) ∧ w'.cell? ⟨w5.heap.size, 3, none⟩ = some (.int .i64 d0.1.2.2.2.1) ∧ w'.cell? ⟨w5.heap.size, 4, none⟩ = some (.slice adx0_0 d0.1.2.2.2.2.length capx0_0) ∧ w'.cell? ⟨w5.heap.size, 5, none⟩ = some (.slice adx0_1 d0.2.1.length capx0_1) ∧ w'.cell? ⟨w5.heap.size, 6, none⟩ = some (.slice adx0_2 d0.2.2.1.length capx0_2) ∧ w'.cell? ⟨w5.heap.size, 7, none⟩ = some (.bool d0.2.2.2) ∧ w'.cell? ⟨w.heap.size, 0, none⟩ = some (.int .i64 d0.1.1) ∧ w'.cell? ⟨w.heap.size, 1, none⟩ = some (.int .i64 d0.1.2.1) ∧ w'.cell? ⟨w.heap.size, 2, none⟩ = some (.int .i64 d0.1.2.2.1) ∧ w'.cell? ⟨w.heap.size, 3, none⟩ = some (.int .i64 d0.1.2.2.2.1) ∧ w'.cell? ⟨w.heap.size, 4, none⟩ = some (.slice ad0_0 d0.1.2.2.2.2.length cap0_0) ∧ w'.cell? ⟨w.heap.size, 5, none⟩ = some (.slice ad0_1 d0.2.1.length cap0_1) ∧ w'.cell? ⟨w.heap.size, 6, none⟩ = some (.slice ad0_2 d0.2.2.1.length cap0_2) ∧ w'.cell? ⟨w.heap.size, 7, none⟩ = some (.bool d0.2.2.2)) (first | (exact ⟨((hut.trans huf).none.cell kcx0_l).trans kcx0_0, ((hut.trans huf).none.cell kcx0_l).trans kcx0_1, ((hut.trans huf).none.cell kcx0_l).trans kcx0_2, ((hut.trans huf).none.cell kcx0_l).trans kcx0_3, ((hut.trans huf).none.cell kcx0_l).trans kcx0_4, ((hut.trans huf).none.cell kcx0_l).trans kcx0_5, ((hut.trans huf).none.cell kcx0_l).trans kcx0_6, ((hut.trans huf).none.cell kcx0_l).trans kcx0_7, ((hut.trans huf).none.cell kcp0_l).trans kcp0_0, ((hut.trans huf).none.cell kcp0_l).trans kcp0_1, ((hut.trans huf).none.cell kcp0_l).trans kcp0_2, ((hut.trans huf).none.cell kcp0_l).trans kcp0_3, ((hut.trans huf).none.cell kcp0_l).trans kcp0_4, ((hut.trans huf).none.cell kcp0_l).trans kcp0_5, ((hut.trans huf).none.cell kcp0_l).trans kcp0_6, ((hut.trans huf).none.cell kcp0_l).trans kcp0_7⟩) | (exact ⟨(hut.none.cell kcx0_l).trans kcx0_0, (hut.none.cell kcx0_l).trans kcx0_1, (hut.none.cell kcx0_l).trans kcx0_2, (hut.none.cell kcx0_l).trans kcx0_3, (hut.none.cell kcx0_l).trans kcx0_4, (hut.none.cell kcx0_l).trans kcx0_5, (hut.none.cell kcx0_l).trans kcx0_6, (hut.none.cell kcx0_l).trans kcx0_7, (hut.none.cell kcp0_l).trans kcp0_0, (hut.none.cell kcp0_l).trans kcp0_1, (hut.none.cell kcp0_l).trans kcp0_2, (hut.none.cell kcp0_l).trans kcp0_3, (hut.none.cell kcp0_l).trans kcp0_4, (hut.none.cell kcp0_l).trans kcp0_5, (hut.none.cell kcp0_l).trans kcp0_6, (hut.none.cell kcp0_l).trans kcp0_7⟩) | go_keep) (first | (go_at_call 7; refine (unhide hTo).mono ?_; rintro e wt ⟨vt, rfl, hot, hut⟩) | (go_at_call 9; refine (eqStill_rd _ _ d0 _ hn0 (OwnSt.rd (OwnSt.keep (unhide x0) (Upd.trans (Upd.drew1 _) hut))) (OwnSt.rd hot)).mono ?_; rintro e wf ⟨rfl, huf⟩))
  clear hTo kcx0_0 kcx0_1 kcx0_2 kcx0_3 kcx0_4 kcx0_5 kcx0_6 kcx0_7 kcx0_l kcp0_0 kcp0_1 kcp0_2 kcp0_3 kcp0_4 kcp0_5 kcp0_6 kcp0_7 kcp0_l
  have hu : Upd 0 0 w7 wf := (Upd.drew1 _).trans (hut.trans huf)
  clear hut hot huf
  replace x0 := hide ((unhide x0).keep hu)
  replace hT := hide ((unhide hT).keep hu)
  replace cp0 := hide ((unhide cp0).keep hu)
  replace cx0 := hide ((unhide cx0).keep hu)
  replace hB := hide (below_upd (unhide hB) hu (Nat.le_refl _) (.inr (Nat.le_refl _)))
  have hs8 : Hid (w7.heap.size ≤ wf.heap.size) := hide hu.size
  clear hu
  generalize wf = w8 at x0 hT cp0 cx0 hB hs8 ⊢
  go_wp2_with fail
  go_ret
  exact ⟨rfl, unhide hB⟩

theorem lawGoodStill (d0 : St) (ad0_0 : Option Addr) (cap0_0 : Nat) (ad0_1 : Option Addr) (cap0_1 : Nat) (ad0_2 : Option Addr) (cap0_2 : Nat) (w : World) (hT : Held w 0 passCells) (hz0 : (d0.1.2.2.2.2.length ≤ 9223372036854775807 ∧ d0.2.1.length ≤ 9223372036854775807 ∧ d0.2.2.1.length ≤ 9223372036854775807)) (hA0_0 : ArgI w ad0_0 d0.1.2.2.2.2) (hA0_1 : ArgI w ad0_1 d0.2.1) (hA0_2 : ArgNt w ad0_2 d0.2.2.1) (hR0 : InSt d0) :
    Calls Tryd.prog 3 #[.agg #[.int .i64 d0.1.1, .int .i64 d0.1.2.1, .int .i64 d0.1.2.2.1, .int .i64 d0.1.2.2.2.1, .slice ad0_0 d0.1.2.2.2.2.length cap0_0, .slice ad0_1 d0.2.1.length cap0_1, .slice ad0_2 d0.2.2.1.length cap0_2, .bool d0.2.2.2]] w fun e w' => e = .returned (.bool true) ∧ Below w.heap.size w w' := by
  by_cases h0 : 1048576 < d0.1.2.2.2.2.length + d0.2.1.length + ntSize d0.2.2.1
  · exact lawGoodStill_long0 d0 ad0_0 cap0_0 ad0_1 cap0_1 ad0_2 cap0_2 w hz0 h0 hA0_0 hA0_1 hA0_2 hR0
  exact lawGoodStill_short d0 ad0_0 cap0_0 ad0_1 cap0_1 ad0_2 cap0_2 w hT hz0 (by omega) hA0_0 hA0_1 hA0_2 hR0
end Go.Proofs.YthkppcncajmniaaDoor
