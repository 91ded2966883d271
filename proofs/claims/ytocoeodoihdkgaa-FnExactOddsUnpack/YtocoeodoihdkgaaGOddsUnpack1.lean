/- The texts behind FnExactOddsUnpack, part 1: what each of them says stands at its head. -/
import Derived.Test.YtocoeodoihdkgaaGOddsUnpack0
import Derived.StillTail
import Derived.StillTailTactics
import Derived.Deep.Cut
import Derived.Deep.RegionWith
import Derived.Lib.Strings
import Derived.Lib.Slices
import Derived.Lib.Small
import Derived.Lib.Walk
import Derived.Lib.BitFns
import Derived.Maps.AppendAt
import Derived.Laws.AppendOwnNone
import Derived.Lib.AppendStr
import Derived.Laws.IdiomStrings
import Derived.RangeFuncBox
import Derived.Deep.RegionLaw
import Derived.Deep.RegionHeld3
import Derived.Deep.WholeRow
import Derived.Laws.ResultCell
import Derived.Laws.CopyOwn
/- A region that draws its order: a head of operations that are quiet in a class of worlds (loads, arithmetic, calls that lay new blocks alone), and a tail that waits for all of them: the head is walked once, in the text's order; the tail behind it. -/
namespace Go.Proofs.Ytocoeodoihdkgaa
open Go.RowKit

section
variable {P : Program} {ops : Array Oper} {md : Region.Mode} {C : World → Prop}
/-- Whatever order is picked among the first n, with 'L' to be shown behind them. -/
def wpHeadQ (P : Program) (md : Region.Mode) (ops : Array Oper) (C : World → Prop) (n : Nat) (L : Array Bool → Act → Prop) : Nat → Array Bool → Act → Prop
  | 0, b, a => L b a
  | f + 1, b, a => Region.ready md ops b ≠ [] ∧ ∀ i ∈ Region.ready md ops b, i < n ∧ qOp P ops C i (wpHeadQ P md ops C n L f (b.setIfInBounds i true)) a
theorem wpAny_of_headQ {n g : Nat} {L : Array Bool → Act → Prop} {Q' : Exit → Act → World → Prop} (hL : ∀ b a w, C w → L b a → wpAny P md ops Q' g b a w) (f : Nat) :
    ∀ (b : Array Bool) (a : Act) (w : World), C w → wpHeadQ P md ops C n L f b a → wpAny P md ops Q' (f + g) b a w := by
  induction f with
  | zero => intro b a w hC h; rw [Nat.zero_add]; exact hL _ _ _ hC h
  | succ f ih =>
    intro b a w hC h
    rw [show f + 1 + g = (f + g) + 1 by omega]
    exact ⟨fun h0 => absurd h0 h.1, fun i hi => wpOp_of_qOp hC (fun a' w' hC' h' => ih _ a' w' hC' h') (h.2 i hi).2⟩
theorem wpHeadQ_first {n i : Nat} {oi : Oper} {v : Value} {L : Array Bool → Act → Prop} (hi : ops[i]? = some oi) (hsel : ∀ (j : Nat) (o : Oper) cs b, ops[j]? = some o → o.op ≠ .select cs b)
    (hs : Region.sinkB md ops n = true) (hc : Region.chainB md ops n = true) (hn : n < ops.size) (hin : i < n) (hdone : ∀ b a, L b a → ∀ j ∈ Region.ready md ops b, n ≤ j) (f : Nat) :
    ∀ (b : Array Bool) (a : Act), HeadInv md ops n b →
      (∀ j oj, ops[j]? = some oj → j ≠ i → b.getD j true = false → (∀ e ∈ oj.after, Region.binds md e = true → e.on ≠ i) → oi.apart ops oj = true) →
      i ∈ Region.ready md ops b → YieldsIn P ops C oi v a →
      wpHeadQ P md ops C n L f (b.setIfInBounds i true) (a.put oi.dst v) → wpHeadQ P md ops C n L (f + 1) b a := by
  induction f with
  | zero =>
    intro b a inv _ hr hy H
    refine ⟨fun h => (by rw [h] at hr; cases hr), fun j hj => ?_⟩
    have hjn : j < n := Nat.lt_of_not_le fun h => tail_waits hs hc hn inv _ i rfl hin (mem_ready.1 hr).1 j h hj
    refine ⟨hjn, ?_⟩
    by_cases hji : j = i
    · subst hji; exact hy.qOp hi H
    · exact absurd (hdone _ _ H j (ready_mono hj hji)) (by omega)
  | succ f ih =>
    intro b a inv hfree hr hy H
    refine ⟨fun h => (by rw [h] at hr; cases hr), fun j hj => ?_⟩
    have hun := (mem_ready.1 hr).1
    have hjn : j < n := Nat.lt_of_not_le fun h => tail_waits hs hc hn inv _ i rfl hin hun j h hj
    refine ⟨hjn, ?_⟩
    by_cases hji : j = i
    · subst hji; exact hy.qOp hi H
    · obtain ⟨hjun, oj, hoj, hall⟩ := mem_ready.1 hj
      have hnot : ∀ e ∈ oj.after, Region.binds md e = true → e.on ≠ i := fun e he hb heq => by
        have h1 := hall e he hb
        rw [heq, getD_both hun] at h1
        cases h1
      have h2 := qOp_put hoj (hfree j oj hoj hji hjun hnot) (fun cs b => hsel i oi cs b hi) (fun cs b => hsel j oj cs b hoj) hy (H.2 j (ready_mono hj hji)).2
      refine qOp_mono (fun a' h3 => ih (b.setIfInBounds j true) a' (inv.set hj hjn) (fun k ok hk hki hun' hno => hfree k ok hk hki ?_ hno) (ready_mono hr (Ne.symm hji)) h3.1 ?_) h2
      · by_cases hjk : j = k
        · subst hjk; exact hjun
        · rw [getD_set_ne true hjk] at hun'; exact hun'
      · rw [Array.setIfInBounds_comm _ _ hji]
        exact h3.2
theorem wpHeadQ_lex {n g : Nat} {Lq : Act → Prop} (hsel : Region.noSelect ops = true) (hs : Region.sinkB md ops n = true) (hc : Region.chainB md ops n = true) (hn : n < ops.size) (l : List Oper) :
    ∀ (k : Nat) (b : Array Bool) (a : Act), (∀ j, j < l.length → l[j]? = ops[k + j]?) → k + l.length = n → HeadInv md ops n b →
    Region.lexHead md ops g l.length k b = true → wpQuiet P ops C Lq l a → wpHeadQ P md ops C n (fun b' a' => Region.seqB md ops g n b' = true ∧ Lq a') l.length b a := by
  induction l with
  | nil =>
    intro k b a hl hk inv hB h
    have hkn : k = n := by simpa using hk
    subst hkn
    exact ⟨by simpa [Region.lexHead] using hB, h⟩
  | cons o l ih =>
    intro k b a hl hk inv hB h
    have h0 : ops[k]? = some o := by simpa using (hl 0 (by simp)).symm
    simp only [List.length_cons, Region.lexHead, Bool.and_eq_true] at hB
    obtain ⟨⟨hr, hf⟩, hB'⟩ := hB
    have hkn : k < n := by simp only [List.length_cons] at hk; omega
    have hr' : k ∈ Region.ready md ops b := by simpa using hr
    have hst : qOp P ops C k (wpQuiet P ops C Lq l) a := by unfold qOp; simp only [h0]; exact h
    obtain ⟨v, hy, hK⟩ := yieldsIn_of_qOp h0 hst
    exact wpHeadQ_first h0 (Region.noSelect_spec hsel) hs hc hn hkn (fun b' a' hL => seqB_ready hL.1) l.length b a inv (Region.free_spec h0 hf) hr' hy
      (ih (k + 1) _ _ (fun j hj => by have := hl (j + 1) (by simp; omega); simpa [Nat.add_assoc, Nat.add_comm 1 j] using this) (by simp only [List.length_cons] at hk; omega) (inv.set hr' hkn) hB' hK)
theorem wp_region_quiet_tail {id : Nat} {Q : Exit → Act → World → Prop} {a : Act} {w : World} {l : List Oper} (n : Nat) (hm : P.follows .mixedOrders = true) (hB : Region.lexTailB .any l.toArray n = true) (hC : C { w with drawn := w.drawn + 1 })
    (h : wpQuiet P l.toArray C (fun a' => ∀ w', C w' → wpList P l.toArray Q (l.drop n) a' w') (l.take n) a) : (Code.region id l.toArray true).wp P Q a w := by
  simp only [Region.lexTailB, Bool.and_eq_true, decide_eq_true_eq] at hB
  obtain ⟨⟨⟨⟨hsel, hn⟩, hs⟩, hc⟩, hlex⟩ := hB
  have hn' : n < l.length := by simpa using hn
  have htl : (l.take n).length = n := by simp; omega
  have hdl : (l.drop n).length = l.toArray.size - n := by simp
  have inv0 : HeadInv .any l.toArray n (Array.replicate l.toArray.size false) :=
    ⟨by simp, fun j oj _ hl => (by rw [getD_replicate_false] at hl; cases hl), fun t _ ht => getD_in (by simpa using ht) (getD_replicate_false _ _)⟩
  have H := wpHeadQ_lex (md := .any) (g := l.toArray.size - n) hsel hs hc hn (l.take n) 0 _ a (fun j hj => by
    have hj' : j < n := by rw [htl] at hj; exact hj
    simp [hj']) (by simpa using htl) inv0 (by rw [htl]; exact hlex) h
  refine wp_region_any hm ?_
  have := wpAny_of_headQ (Q' := Q) (g := l.toArray.size - n) (fun b a' w' hC' hL => by
    have := wpAny_of_seq (md := .any) (Q' := Q) (l.drop n) n b a' w' (fun j => by simp [List.getElem?_drop]) (by rw [hdl]; exact hL.1) (hL.2 w' hC')
    rwa [hdl] at this) _ _ _ _ hC H
  rw [htl, show n + (l.toArray.size - n) = l.toArray.size by omega] at this
  exact this
end
/-- .. at the class 'all that was there is as it was', behind the wrapper. -/
theorem wq_region_tail {P : Program} {id : Nat} {Q : Exit → Act → World → Prop} {a : Act} {w : World} {l : List Oper} (n : Nat) (hm : P.follows .mixedOrders = true) (hB : Region.lexTailB .any l.toArray n = true)
    (h : WQ P l.toArray (fun w' => ∃ x : UpdT w, w' = x.to) (fun a' => ∀ w', (∃ x : UpdT w, w' = x.to) → wpList P l.toArray Q (l.drop n) a' w') (l.take n) a) : (Code.region id l.toArray true).wp P Q a w :=
  wp_region_quiet_tail (C := fun w' => ∃ x : UpdT w, w' = x.to) n hm hB ⟨⟨{ w with drawn := w.drawn + 1 }, ⟨rfl, rfl, rfl, Nat.le_refl _, fun _ _ _ => rfl⟩⟩, rfl⟩ h.h
end Go.Proofs.Ytocoeodoihdkgaa

/- The program's weights, corners and blending. -/
namespace Go.Proofs.Ytocoeodoihdkgaa
open Go.RowKit

end Go.Proofs.Ytocoeodoihdkgaa

/- The program's blending of four samples. -/
namespace Go.Proofs.Ytocoeodoihdkgaa
open Go.RowKit

end Go.Proofs.Ytocoeodoihdkgaa

/- Lists of Passs: 6 numbers each; the walks of the laws' own helpers on them. -/
namespace Go.Proofs.Ytocoeodoihdkgaa
open Go.RowKit

abbrev Ps := Int × Int × Int × Int × Int × Int
abbrev Ps0 : Ps := (0, 0, 0, 0, 0, 0)
def cellsPs (ps : List Ps) : List Value := ps.flatMap fun p => [.int .i64 p.1, .int .i64 p.2.1, .int .i64 p.2.2.1, .int .i64 p.2.2.2.1, .int .i64 p.2.2.2.2.1, .int .i64 p.2.2.2.2.2]
theorem cellsPs_length (ps : List Ps) : (cellsPs ps).length = ps.length * 6 := by
  induction ps with
  | nil => rfl
  | cons p ps ih => unfold cellsPs at ih ⊢; rw [List.flatMap_cons, List.length_append, ih]; simp; omega
theorem cellsPs_snoc (ps : List Ps) (p : Ps) : cellsPs (ps ++ [p]) = cellsPs ps ++ [.int .i64 p.1, .int .i64 p.2.1, .int .i64 p.2.2.1, .int .i64 p.2.2.2.1, .int .i64 p.2.2.2.2.1, .int .i64 p.2.2.2.2.2] := by unfold cellsPs; simp
def RowPs (ys : List Value) (ps : List Ps) (k : Nat) : Prop := ∀ j, j < k → ys[j * 6]? = some (.int .i64 (ps.getD j Ps0).1) ∧ ys[j * 6 + 1]? = some (.int .i64 (ps.getD j Ps0).2.1) ∧ ys[j * 6 + 2]? = some (.int .i64 (ps.getD j Ps0).2.2.1) ∧ ys[j * 6 + 3]? = some (.int .i64 (ps.getD j Ps0).2.2.2.1) ∧ ys[j * 6 + 4]? = some (.int .i64 (ps.getD j Ps0).2.2.2.2.1) ∧ ys[j * 6 + 5]? = some (.int .i64 (ps.getD j Ps0).2.2.2.2.2)
theorem cellsPs_at (ps : List Ps) : RowPs (cellsPs ps) ps ps.length := by
  induction ps with
  | nil => intro j hj; simp at hj
  | cons p ps ih =>
    intro j hj
    have e : cellsPs (p :: ps) = [.int .i64 p.1, .int .i64 p.2.1, .int .i64 p.2.2.1, .int .i64 p.2.2.2.1, .int .i64 p.2.2.2.2.1, .int .i64 p.2.2.2.2.2] ++ cellsPs ps := by unfold cellsPs; simp
    rw [e]
    cases j with
    | zero => exact ⟨rfl, rfl, rfl, rfl, rfl, rfl⟩
    | succ j =>
      have h := ih j (by simpa using hj)
      rw [List.getElem?_append_right (by simp; omega), List.getElem?_append_right (by simp; omega), List.getElem?_append_right (by simp; omega), List.getElem?_append_right (by simp; omega), List.getElem?_append_right (by simp; omega), List.getElem?_append_right (by simp; omega)]
      simp only [List.length_cons, List.length_nil, List.getD_cons_succ]
      rw [show (j + 1) * 6 - (0 + 1 + 1 + 1 + 1 + 1 + 1) = j * 6 by omega, show (j + 1) * 6 + 1 - (0 + 1 + 1 + 1 + 1 + 1 + 1) = j * 6 + 1 by omega, show (j + 1) * 6 + 2 - (0 + 1 + 1 + 1 + 1 + 1 + 1) = j * 6 + 2 by omega, show (j + 1) * 6 + 3 - (0 + 1 + 1 + 1 + 1 + 1 + 1) = j * 6 + 3 by omega, show (j + 1) * 6 + 4 - (0 + 1 + 1 + 1 + 1 + 1 + 1) = j * 6 + 4 by omega, show (j + 1) * 6 + 5 - (0 + 1 + 1 + 1 + 1 + 1 + 1) = j * 6 + 5 by omega]
      exact h
theorem cellsPs_of {ys : List Value} {ps : List Ps} (hl : ys.length = ps.length * 6) (h : RowPs ys ps ps.length) : ys = cellsPs ps := by
  apply List.ext_getElem?
  intro i
  by_cases hi : i < ps.length * 6
  · have h1 := h (i / 6) (by omega)
    have h2 := cellsPs_at ps (i / 6) (by omega)
    rcases (show i = i / 6 * 6 ∨ i = i / 6 * 6 + 1 ∨ i = i / 6 * 6 + 2 ∨ i = i / 6 * 6 + 3 ∨ i = i / 6 * 6 + 4 ∨ i = i / 6 * 6 + 5 by omega) with e | e | e | e | e | e
    · rw [e, h1.1, h2.1]
    · rw [e, h1.2.1, h2.2.1]
    · rw [e, h1.2.2.1, h2.2.2.1]
    · rw [e, h1.2.2.2.1, h2.2.2.2.1]
    · rw [e, h1.2.2.2.2.1, h2.2.2.2.2.1]
    · rw [e, h1.2.2.2.2.2, h2.2.2.2.2.2]
  · rw [List.getElem?_eq_none (by omega), List.getElem?_eq_none (by rw [cellsPs_length]; omega)]
def AtPs (w : World) (b off : Nat) (ps : List Ps) : Prop := ∀ j, j < ps.length → w.cell? ⟨b, off + j * 6, none⟩ = some (.int .i64 (ps.getD j Ps0).1) ∧ w.cell? ⟨b, off + j * 6 + 1, none⟩ = some (.int .i64 (ps.getD j Ps0).2.1) ∧ w.cell? ⟨b, off + j * 6 + 2, none⟩ = some (.int .i64 (ps.getD j Ps0).2.2.1) ∧ w.cell? ⟨b, off + j * 6 + 3, none⟩ = some (.int .i64 (ps.getD j Ps0).2.2.2.1) ∧ w.cell? ⟨b, off + j * 6 + 4, none⟩ = some (.int .i64 (ps.getD j Ps0).2.2.2.2.1) ∧ w.cell? ⟨b, off + j * 6 + 5, none⟩ = some (.int .i64 (ps.getD j Ps0).2.2.2.2.2)
def InPs (ps : List Ps) : Prop := ∀ j, (-9223372036854775808 ≤ (ps.getD j Ps0).1 ∧ (ps.getD j Ps0).1 ≤ 9223372036854775807) ∧ (-9223372036854775808 ≤ (ps.getD j Ps0).2.1 ∧ (ps.getD j Ps0).2.1 ≤ 9223372036854775807) ∧ (-9223372036854775808 ≤ (ps.getD j Ps0).2.2.1 ∧ (ps.getD j Ps0).2.2.1 ≤ 9223372036854775807) ∧ (-9223372036854775808 ≤ (ps.getD j Ps0).2.2.2.1 ∧ (ps.getD j Ps0).2.2.2.1 ≤ 9223372036854775807) ∧ (-9223372036854775808 ≤ (ps.getD j Ps0).2.2.2.2.1 ∧ (ps.getD j Ps0).2.2.2.2.1 ≤ 9223372036854775807) ∧ (-9223372036854775808 ≤ (ps.getD j Ps0).2.2.2.2.2 ∧ (ps.getD j Ps0).2.2.2.2.2 ≤ 9223372036854775807)
def ArgPs (w : World) (ad : Option Addr) (ps : List Ps) : Prop := ps ≠ [] → ∃ b off, ad = some ⟨b, off, none⟩ ∧ b < w.heap.size ∧ AtPs w b off ps
theorem ArgPs.below {w w' : World} {ad : Option Addr} {ps : List Ps} (h : ArgPs w ad ps) (hb : Below w.heap.size w w') : ArgPs w' ad ps := by
  intro hne
  obtain ⟨b, off, e, hl, hc⟩ := h hne
  exact ⟨b, off, e, Nat.lt_of_lt_of_le hl hb.size, fun j hj => ⟨(hb.cell (by simpa using hl)).trans (hc j hj).1, (hb.cell (by simpa using hl)).trans (hc j hj).2.1, (hb.cell (by simpa using hl)).trans (hc j hj).2.2.1, (hb.cell (by simpa using hl)).trans (hc j hj).2.2.2.1, (hb.cell (by simpa using hl)).trans (hc j hj).2.2.2.2.1, (hb.cell (by simpa using hl)).trans (hc j hj).2.2.2.2.2⟩⟩
def RdPs (w : World) (v : Value) (ps : List Ps) : Prop := ∃ ad cap, v = .slice ad ps.length cap ∧ ArgPs w ad ps
theorem RdPs.below {w w' : World} {v : Value} {ps : List Ps} (h : RdPs w v ps) (hb : Below w.heap.size w w') : RdPs w' v ps := by
  obtain ⟨ad, cap, e, h⟩ := h
  exact ⟨ad, cap, e, h.below hb⟩
def marksPs (k n : Nat) : List Ps := (List.range n).map fun j => (((k + 6 * j : Nat) : Int), ((k + 6 * j + 1 : Nat) : Int), ((k + 6 * j + 2 : Nat) : Int), ((k + 6 * j + 3 : Nat) : Int), ((k + 6 * j + 4 : Nat) : Int), ((k + 6 * j + 5 : Nat) : Int))
@[simp] theorem marksPs_length (k n : Nat) : (marksPs k n).length = n := by simp [marksPs]
theorem marksPs_at (k n j : Nat) (h : j < n) : (marksPs k n).getD j Ps0 = (((k + 6 * j : Nat) : Int), ((k + 6 * j + 1 : Nat) : Int), ((k + 6 * j + 2 : Nat) : Int), ((k + 6 * j + 3 : Nat) : Int), ((k + 6 * j + 4 : Nat) : Int), ((k + 6 * j + 5 : Nat) : Int)) := by
  unfold marksPs; rw [List.getD_eq_getElem?_getD, List.getElem?_map, List.getElem?_range h]; rfl
end Go.Proofs.Ytocoeodoihdkgaa

/- The program's mixes for another side. -/
namespace Go.Proofs.Ytocoeodoihdkgaa
open Go.RowKit

def RowMx (ys : List Value) (old side k : Nat) : Prop := ∀ j, j < k → ys[j * 3]? = some (.int .i64 ((min (fromF j old side / 256) (old - 1) : Nat) : Int)) ∧ ys[j * 3 + 1]? = some (.int .i64 ((min (fromF j old side / 256 + 1) (old - 1) : Nat) : Int)) ∧ ys[j * 3 + 2]? = some (.int .i64 ((fromF j old side % 256 : Nat) : Int))
theorem RowMx.snoc {ys : List Value} {old side k : Nat} (h : RowMx ys old side k) (hk : k * 3 + 2 < ys.length) :
    RowMx (((ys.set (k * 3) (.int .i64 ((min (fromF k old side / 256) (old - 1) : Nat) : Int))).set (k * 3 + 1) (.int .i64 ((min (fromF k old side / 256 + 1) (old - 1) : Nat) : Int))).set (k * 3 + 2) (.int .i64 ((fromF k old side % 256 : Nat) : Int))) old side (k + 1) := by
  intro j hj
  by_cases e : j = k
  · subst e
    refine ⟨?_, ?_, ?_⟩
    · rw [List.getElem?_set_ne (by omega), List.getElem?_set_ne (by omega), List.getElem?_set_self (by first | omega | (simp; omega))]
    · rw [List.getElem?_set_ne (by omega), List.getElem?_set_self (by first | omega | (simp; omega))]
    · rw [List.getElem?_set_self (by first | omega | (simp; omega))]
  · have := h j (by omega)
    refine ⟨?_, ?_, ?_⟩
    · rw [List.getElem?_set_ne (by omega), List.getElem?_set_ne (by omega), List.getElem?_set_ne (by omega)]; exact this.1
    · rw [List.getElem?_set_ne (by omega), List.getElem?_set_ne (by omega), List.getElem?_set_ne (by omega)]; exact this.2.1
    · rw [List.getElem?_set_ne (by omega), List.getElem?_set_ne (by omega), List.getElem?_set_ne (by omega)]; exact this.2.2
end Go.Proofs.Ytocoeodoihdkgaa

/- How many bits a number has; grades: the program's walk. -/
namespace Go.Proofs.Ytocoeodoihdkgaa
open Go.RowKit

/-- The bits of a number of which all but the last eight are shifted away. -/
theorem len_of (x q : Int) (s : Nat) (h0 : 0 ≤ x) (h1 : x ≤ 18446744073709551615) (hq : q.toNat = x.toNat / 2 ^ s) (hl : 2 ^ s ≤ x.toNat) (q0 : 0 ≤ q) (q1 : q ≤ 255) :
    (s : Int) + Lib.len8 q = Lib.bitLen x.toNat := by
  rw [Lib.len8_of q q0 q1, hq, Lib.bitLen_shift s x.toNat hl (show x.toNat < 18446744073709551616 by omega)]
  omega
theorem len_bd (q : Int) (q0 : 0 ≤ q) (q1 : q ≤ 255) : 0 ≤ Lib.len8 q ∧ Lib.len8 q ≤ 8 := by
  rw [Lib.len8_of q q0 q1]
  have := Lib.bitLen_le8' q q0 q1
  omega
set_option maxHeartbeats 4000000 in
set_option maxRecDepth 100000 in
theorem implLen64c111 (x : Int) (w : World) (h0 : 0 ≤ x) (h1 : x ≤ 18446744073709551615) (_c1 : 4294967296 ≤ x) (_c2 : 65536 ≤ x / 4294967296) (_c3 : 256 ≤ x / 4294967296 / 65536) :
    Calls Try.prog 122 #[.int .u64 x] w fun e w' => e = .returned (.int .i64 (Lib.bitLen x.toNat)) ∧ w' = w := by
  obtain ⟨q, hq⟩ : ∃ q : Int, q = x / 4294967296 / 65536 / 256 := ⟨_, rfl⟩
  have q0 : 0 ≤ q := by omega
  have q1 : q ≤ 255 := by omega
  have hv : (56 : Int) + Lib.len8 q = Lib.bitLen x.toNat := len_of x q 56 h0 h1 (by rw [hq]; show _ = x.toNat / 72057594037927936; omega) (by show 72057594037927936 ≤ x.toNat; omega) q0 q1
  rw [← hv]
  have hb := len_bd q q0 q1
  have hix := fun W => Lib.run_index_len8tab (P := Try.prog) W 9 .u8 q (by kernel_rfl) q0 q1
  have hw : IntKind.u8.wrap q = q := by simp [IntKind.wrap, IntKind.bits, IntKind.signed]; omega
  clear hv
  generalize Lib.len8 q = r at hb hix ⊢
  go_enter Try.func122, Try.ntmps122
  go_upto_region 10 with fail
  rw [← hq]
  clear hq _c1 _c2 _c3 h0 h1
  go_wp2
  go_ret
  exact ⟨ret_int (by omega), rfl⟩
set_option maxHeartbeats 4000000 in
set_option maxRecDepth 100000 in
theorem implLen64c110 (x : Int) (w : World) (h0 : 0 ≤ x) (h1 : x ≤ 18446744073709551615) (_c1 : 4294967296 ≤ x) (_c2 : 65536 ≤ x / 4294967296) (_c3 : x / 4294967296 / 65536 < 256) :
    Calls Try.prog 122 #[.int .u64 x] w fun e w' => e = .returned (.int .i64 (Lib.bitLen x.toNat)) ∧ w' = w := by
  obtain ⟨q, hq⟩ : ∃ q : Int, q = x / 4294967296 / 65536 := ⟨_, rfl⟩
  have q0 : 0 ≤ q := by omega
  have q1 : q ≤ 255 := by omega
  have hv : (48 : Int) + Lib.len8 q = Lib.bitLen x.toNat := len_of x q 48 h0 h1 (by rw [hq]; show _ = x.toNat / 281474976710656; omega) (by show 281474976710656 ≤ x.toNat; omega) q0 q1
  rw [← hv]
  have hb := len_bd q q0 q1
  have hix := fun W => Lib.run_index_len8tab (P := Try.prog) W 9 .u8 q (by kernel_rfl) q0 q1
  have hw : IntKind.u8.wrap q = q := by simp [IntKind.wrap, IntKind.bits, IntKind.signed]; omega
  clear hv
  generalize Lib.len8 q = r at hb hix ⊢
  go_enter Try.func122, Try.ntmps122
  go_upto_region 10 with fail
  rw [← hq]
  clear hq _c1 _c2 _c3 h0 h1
  go_wp2
  go_ret
  exact ⟨ret_int (by omega), rfl⟩
set_option maxHeartbeats 4000000 in
set_option maxRecDepth 100000 in
theorem implLen64c101 (x : Int) (w : World) (h0 : 0 ≤ x) (h1 : x ≤ 18446744073709551615) (_c1 : 4294967296 ≤ x) (_c2 : x / 4294967296 < 65536) (_c3 : 256 ≤ x / 4294967296) :
    Calls Try.prog 122 #[.int .u64 x] w fun e w' => e = .returned (.int .i64 (Lib.bitLen x.toNat)) ∧ w' = w := by
  obtain ⟨q, hq⟩ : ∃ q : Int, q = x / 4294967296 / 256 := ⟨_, rfl⟩
  have q0 : 0 ≤ q := by omega
  have q1 : q ≤ 255 := by omega
  have hv : (40 : Int) + Lib.len8 q = Lib.bitLen x.toNat := len_of x q 40 h0 h1 (by rw [hq]; show _ = x.toNat / 1099511627776; omega) (by show 1099511627776 ≤ x.toNat; omega) q0 q1
  rw [← hv]
  have hb := len_bd q q0 q1
  have hix := fun W => Lib.run_index_len8tab (P := Try.prog) W 9 .u8 q (by kernel_rfl) q0 q1
  have hw : IntKind.u8.wrap q = q := by simp [IntKind.wrap, IntKind.bits, IntKind.signed]; omega
  clear hv
  generalize Lib.len8 q = r at hb hix ⊢
  go_enter Try.func122, Try.ntmps122
  go_upto_region 10 with fail
  rw [← hq]
  clear hq _c1 _c2 _c3 h0 h1
  go_wp2
  go_ret
  exact ⟨ret_int (by omega), rfl⟩
set_option maxHeartbeats 4000000 in
set_option maxRecDepth 100000 in
theorem implLen64c100 (x : Int) (w : World) (h0 : 0 ≤ x) (h1 : x ≤ 18446744073709551615) (_c1 : 4294967296 ≤ x) (_c2 : x / 4294967296 < 65536) (_c3 : x / 4294967296 < 256) :
    Calls Try.prog 122 #[.int .u64 x] w fun e w' => e = .returned (.int .i64 (Lib.bitLen x.toNat)) ∧ w' = w := by
  obtain ⟨q, hq⟩ : ∃ q : Int, q = x / 4294967296 := ⟨_, rfl⟩
  have q0 : 0 ≤ q := by omega
  have q1 : q ≤ 255 := by omega
  have hv : (32 : Int) + Lib.len8 q = Lib.bitLen x.toNat := len_of x q 32 h0 h1 (by rw [hq]; show _ = x.toNat / 4294967296; omega) (by show 4294967296 ≤ x.toNat; omega) q0 q1
  rw [← hv]
  have hb := len_bd q q0 q1
  have hix := fun W => Lib.run_index_len8tab (P := Try.prog) W 9 .u8 q (by kernel_rfl) q0 q1
  have hw : IntKind.u8.wrap q = q := by simp [IntKind.wrap, IntKind.bits, IntKind.signed]; omega
  clear hv
  generalize Lib.len8 q = r at hb hix ⊢
  go_enter Try.func122, Try.ntmps122
  go_upto_region 10 with fail
  rw [← hq]
  clear hq _c1 _c2 _c3 h0 h1
  go_wp2
  go_ret
  exact ⟨ret_int (by omega), rfl⟩
set_option maxHeartbeats 4000000 in
set_option maxRecDepth 100000 in
theorem implLen64c011 (x : Int) (w : World) (h0 : 0 ≤ x) (h1 : x ≤ 18446744073709551615) (_c1 : x < 4294967296) (_c2 : 65536 ≤ x) (_c3 : 256 ≤ x / 65536) :
    Calls Try.prog 122 #[.int .u64 x] w fun e w' => e = .returned (.int .i64 (Lib.bitLen x.toNat)) ∧ w' = w := by
  obtain ⟨q, hq⟩ : ∃ q : Int, q = x / 65536 / 256 := ⟨_, rfl⟩
  have q0 : 0 ≤ q := by omega
  have q1 : q ≤ 255 := by omega
  have hv : (24 : Int) + Lib.len8 q = Lib.bitLen x.toNat := len_of x q 24 h0 h1 (by rw [hq]; show _ = x.toNat / 16777216; omega) (by show 16777216 ≤ x.toNat; omega) q0 q1
  rw [← hv]
  have hb := len_bd q q0 q1
  have hix := fun W => Lib.run_index_len8tab (P := Try.prog) W 9 .u8 q (by kernel_rfl) q0 q1
  have hw : IntKind.u8.wrap q = q := by simp [IntKind.wrap, IntKind.bits, IntKind.signed]; omega
  clear hv
  generalize Lib.len8 q = r at hb hix ⊢
  go_enter Try.func122, Try.ntmps122
  go_upto_region 10 with fail
  rw [← hq]
  clear hq _c1 _c2 _c3 h0 h1
  go_wp2
  go_ret
  exact ⟨ret_int (by omega), rfl⟩
set_option maxHeartbeats 4000000 in
set_option maxRecDepth 100000 in
theorem implLen64c010 (x : Int) (w : World) (h0 : 0 ≤ x) (h1 : x ≤ 18446744073709551615) (_c1 : x < 4294967296) (_c2 : 65536 ≤ x) (_c3 : x / 65536 < 256) :
    Calls Try.prog 122 #[.int .u64 x] w fun e w' => e = .returned (.int .i64 (Lib.bitLen x.toNat)) ∧ w' = w := by
  obtain ⟨q, hq⟩ : ∃ q : Int, q = x / 65536 := ⟨_, rfl⟩
  have q0 : 0 ≤ q := by omega
  have q1 : q ≤ 255 := by omega
  have hv : (16 : Int) + Lib.len8 q = Lib.bitLen x.toNat := len_of x q 16 h0 h1 (by rw [hq]; show _ = x.toNat / 65536; omega) (by show 65536 ≤ x.toNat; omega) q0 q1
  rw [← hv]
  have hb := len_bd q q0 q1
  have hix := fun W => Lib.run_index_len8tab (P := Try.prog) W 9 .u8 q (by kernel_rfl) q0 q1
  have hw : IntKind.u8.wrap q = q := by simp [IntKind.wrap, IntKind.bits, IntKind.signed]; omega
  clear hv
  generalize Lib.len8 q = r at hb hix ⊢
  go_enter Try.func122, Try.ntmps122
  go_upto_region 10 with fail
  rw [← hq]
  clear hq _c1 _c2 _c3 h0 h1
  go_wp2
  go_ret
  exact ⟨ret_int (by omega), rfl⟩
set_option maxHeartbeats 4000000 in
set_option maxRecDepth 100000 in
theorem implLen64c001 (x : Int) (w : World) (h0 : 0 ≤ x) (h1 : x ≤ 18446744073709551615) (_c1 : x < 4294967296) (_c2 : x < 65536) (_c3 : 256 ≤ x) :
    Calls Try.prog 122 #[.int .u64 x] w fun e w' => e = .returned (.int .i64 (Lib.bitLen x.toNat)) ∧ w' = w := by
  obtain ⟨q, hq⟩ : ∃ q : Int, q = x / 256 := ⟨_, rfl⟩
  have q0 : 0 ≤ q := by omega
  have q1 : q ≤ 255 := by omega
  have hv : (8 : Int) + Lib.len8 q = Lib.bitLen x.toNat := len_of x q 8 h0 h1 (by rw [hq]; show _ = x.toNat / 256; omega) (by show 256 ≤ x.toNat; omega) q0 q1
  rw [← hv]
  have hb := len_bd q q0 q1
  have hix := fun W => Lib.run_index_len8tab (P := Try.prog) W 9 .u8 q (by kernel_rfl) q0 q1
  have hw : IntKind.u8.wrap q = q := by simp [IntKind.wrap, IntKind.bits, IntKind.signed]; omega
  clear hv
  generalize Lib.len8 q = r at hb hix ⊢
  go_enter Try.func122, Try.ntmps122
  go_upto_region 10 with fail
  rw [← hq]
  clear hq _c1 _c2 _c3 h0 h1
  go_wp2
  go_ret
  exact ⟨ret_int (by omega), rfl⟩
set_option maxHeartbeats 4000000 in
set_option maxRecDepth 100000 in
theorem implLen64c000 (x : Int) (w : World) (h0 : 0 ≤ x) (h1 : x ≤ 18446744073709551615) (_c1 : x < 4294967296) (_c2 : x < 65536) (_c3 : x < 256) :
    Calls Try.prog 122 #[.int .u64 x] w fun e w' => e = .returned (.int .i64 (Lib.bitLen x.toNat)) ∧ w' = w := by
  obtain ⟨q, hq⟩ : ∃ q : Int, q = x := ⟨_, rfl⟩
  have q0 : 0 ≤ q := by omega
  have q1 : q ≤ 255 := by omega
  have hv : (0 : Int) + Lib.len8 q = Lib.bitLen x.toNat := by have e : q.toNat = x.toNat := (by omega); have e2 := Lib.len8_of q q0 q1; rw [e] at e2; omega
  rw [← hv]
  have hb := len_bd q q0 q1
  have hix := fun W => Lib.run_index_len8tab (P := Try.prog) W 9 .u8 q (by kernel_rfl) q0 q1
  have hw : IntKind.u8.wrap q = q := by simp [IntKind.wrap, IntKind.bits, IntKind.signed]; omega
  clear hv
  generalize Lib.len8 q = r at hb hix ⊢
  go_enter Try.func122, Try.ntmps122
  go_upto_region 10 with fail
  rw [← hq]
  clear hq _c1 _c2 _c3 h0 h1
  go_wp2
  go_ret
  exact ⟨ret_int (by omega), rfl⟩
theorem implLen64 (x : Int) (w : World) (h0 : 0 ≤ x) (h1 : x ≤ 18446744073709551615) :
    Calls Try.prog 122 #[.int .u64 x] w fun e w' => e = .returned (.int .i64 (Lib.bitLen x.toNat)) ∧ w' = w := by
  rcases Int.lt_or_le x 4294967296 with c1 | c1
  · rcases Int.lt_or_le x 65536 with c2 | c2
    · rcases Int.lt_or_le x 256 with c3 | c3
      · exact implLen64c000 x w h0 h1 c1 c2 c3
      · exact implLen64c001 x w h0 h1 c1 c2 c3
    · rcases Int.lt_or_le (x / 65536) 256 with c3 | c3
      · exact implLen64c010 x w h0 h1 c1 c2 c3
      · exact implLen64c011 x w h0 h1 c1 c2 c3
  · rcases Int.lt_or_le (x / 4294967296) 65536 with c2 | c2
    · rcases Int.lt_or_le (x / 4294967296) 256 with c3 | c3
      · exact implLen64c100 x w h0 h1 c1 c2 c3
      · exact implLen64c101 x w h0 h1 c1 c2 c3
    · rcases Int.lt_or_le (x / 4294967296 / 65536) 256 with c3 | c3
      · exact implLen64c110 x w h0 h1 c1 c2 c3
      · exact implLen64c111 x w h0 h1 c1 c2 c3
set_option maxHeartbeats 1000000 in
theorem implLen (x : Int) (w : World) (h0 : 0 ≤ x) (h1 : x ≤ 18446744073709551615) :
    Calls Try.prog 111 #[.int .u64 x] w fun e w' => e = .returned (.int .i64 (Lib.bitLen x.toNat)) ∧ w' = w := by
  have h := hide (implLen64 x w h0 h1)
  go_enter Try.func111, Try.ntmps111
  go_wp2_with fail
  refine (unhide h).mono ?_
  rintro e w' ⟨rfl, rfl⟩
  go_wp2
  go_ret
  exact ⟨rfl, rfl⟩
set_option maxHeartbeats 1000000 in
theorem implDistP (p : Int) (w : World) (h0 : 0 ≤ p) (h1 : p ≤ 9223372036854775807) :
    Calls Try.prog 112 #[.int .i64 p, .int .i64 0] w fun e w' => e = .returned (.int .i64 p) ∧ w' = w := by
  go_enter Try.func112, Try.ntmps112
  go_wp2
  all_goals
    go_ret
    exact ⟨ret_int (by omega), rfl⟩
set_option maxHeartbeats 1000000 in
theorem implSizeOf (p : Int) (w : World) (h0 : 0 ≤ p) (h1 : p ≤ 9223372036854775807) :
    Calls Try.prog 73 #[.int .i64 p] w fun e w' => e = .returned (.int .i64 (Lib.bitLen p.toNat)) ∧ w' = w := by
  have hd := hide (implDistP p w h0 h1)
  have h := hide (implLen p w h0 (by omega))
  go_enter Try.func73, Try.ntmps73
  go_wp2_with fail
  refine (unhide hd).mono ?_
  rintro e w' ⟨rfl, rfl⟩
  go_wp2_with fail
  refine (unhide h).mono ?_
  rintro e w' ⟨rfl, rfl⟩
  go_wp2
  go_ret
  exact ⟨rfl, rfl⟩
def GrdOk (p q : Int) : Prop := 0 ≤ p ∧ 0 ≤ q ∧ q ≤ 15
def gradeF (p q : Int) : Int := if p < 0 then 0 else if q < 0 then 0 else if 15 < q then 0 else max 0 (min 12 (((Lib.bitLen p.toNat : Int) + 1) / 2 - q))
theorem bitLen_64 (p : Int) (h1 : p ≤ 9223372036854775807) : Lib.bitLen p.toNat ≤ 64 := by
  refine Lib.bitLen_le _ 64 (Nat.le_refl _) ?_
  show p.toNat < 18446744073709551616
  omega
end Go.Proofs.Ytocoeodoihdkgaa

/- Odds: how they learn, what a choice costs: the small functions of both sides. -/
namespace Go.Proofs.Ytocoeodoihdkgaa
open Go.RowKit

set_option maxHeartbeats 4000000 in
theorem specL12Learn (o b : Int) (h : 31 ≤ o ∧ o ≤ 4065) (w : World) :
    Calls Try.prog 93 #[.int .i64 o, .int .i64 b] w fun e w' => e = .returned (.int .i64 (learnF o b)) ∧ w' = w := by
  obtain ⟨h0, h1⟩ := h
  unfold learnF
  by_cases hb : b = 0
  · rw [if_pos hb]
    have t : (b == 0) = true := by simpa using hb
    subst hb
    go_enter Try.func93, Try.ntmps93
    go_wp2
    go_ret
    exact ⟨rfl, rfl⟩
  · rw [if_neg hb]
    have t : (b == 0) = false := by simpa using hb
    clear hb
    go_enter Try.func93, Try.ntmps93
    go_wp2
    go_ret
    exact ⟨rfl, rfl⟩
theorem logF_of (v : Int) (b : Nat) (h0 : 1 ≤ v) (h1 : v ≤ 256) (hb0 : 2 ^ b ≤ v.toNat) (hb1 : v.toNat < 2 ^ (b + 1)) : logF v = 256 * (8 - (b : Int)) - 256 * (v - 2 ^ b) / 2 ^ b := by
  unfold logF
  rw [show max v 1 = v by omega]
  simp only [bitLen_between _ b hb0 hb1 (by omega), Nat.add_sub_cancel]
theorem shr_8 (m b : Nat) (h : 2 ^ b ≤ m) (hm : m ≤ 256) : b ≤ 8 := by
  rcases Nat.lt_or_ge 8 b with h1 | h1
  · have : 2 ^ 9 ≤ 2 ^ b := Nat.pow_le_pow_right (by omega) (by omega)
    omega
  · exact h1
set_option maxRecDepth 100000 in
set_option maxHeartbeats 8000000 in
theorem specL12Log (v : Int) (h0 : 1 ≤ v) (h1 : v ≤ 256) (w : World) :
    Calls Try.prog 92 #[.int .i64 v] w fun e w' => e = .returned (.int .i64 (logF v)) ∧ w' = w := by
  obtain ⟨m, rfl⟩ := Int.eq_ofNat_of_zero_le (show 0 ≤ v by omega)
  have hL := hide (fun b => logF_of (m : Int) b h0 h1)
  go_enter Try.func92, Try.ntmps92
  go_wp2_with fail
  go_loopw [3] (fun r wr => ∃ (b : Nat), r = .int .i64 (b : Int) ∧ b ≤ 8 ∧ Hid (2 ^ b ≤ m) ∧ w = wr) (fun r _ => 64 - (intOf r).toNat)
  case atStart => exact ⟨0, rfl, by omega, hide (show 2 ^ 0 ≤ m by rw [Nat.pow_zero]; omega), rfl⟩
  case round =>
    obtain ⟨b, rfl, hb, hbm, rfl⟩ := hrel
    have hb0 : (0 : Int) ≤ (b : Int) + 1 := by omega
    have hb1 : (b : Int) + 1 ≤ 64 := by omega
    by_cases hq : 2 ^ (b + 1) ≤ m
    · have hd : (0 : Int) < (m : Int) / 2 ^ (b + 1) := shr_pos m b hq
      have hgt : decide ((0 : Int) < (m : Int) / 2 ^ (b + 1)) = true := decide_eq_true hd
      have hb8 := shr_8 m (b + 1) hq (by omega)
      replace hd := hide hd
      replace hq := hide hq
      go_wp2_with fail
      go_roundw
      case rel => exact ⟨b + 1, by simp, by omega, hq, trivial⟩
      case measure => simp [intOf]; omega
    · have hd : ¬ ((0 : Int) < (m : Int) / 2 ^ (b + 1)) := shr_zero m b hq
      have hgt : decide ((0 : Int) < (m : Int) / 2 ^ (b + 1)) = false := decide_eq_false hd
      have hE := hide (unhide hL b (by simpa using unhide hbm) (by simp; omega))
      have hm0 := unhide hbm
      clear hL hbm hd
      obtain ⟨P, hP⟩ : ∃ P : Nat, 2 ^ b = P := ⟨_, rfl⟩
      have hPi : (2 : Int) ^ b = (P : Int) := by rw [← hP]; simp
      rw [hP] at hm0
      have hP0 : 0 < P := by rw [← hP]; exact Nat.two_pow_pos b
      have hb64 : (b : Int) ≤ 64 := by omega
      have hb00 : (0 : Int) ≤ (b : Int) := by omega
      rw [hPi] at hE
      clear hq hP
      have hlb := hide (logF_all ⟨m, by omega⟩)
      go_wp2
      go_ret
      refine ⟨ret_int ?_, rfl⟩
      have h2 : 0 ≤ logF (m : Int) ∧ logF (m : Int) ≤ 2048 := unhide hlb
      rw [← unhide hE]
      unfold wrap64
      omega
/-- With the number's bits known. -/
theorem bits_of (m : Nat) (h0 : 1 ≤ m) (h1 : m ≤ 256) : ∃ b, b ≤ 8 ∧ 2 ^ b ≤ m ∧ m < 2 ^ (b + 1) ∧ Lib.bitLen m = b + 1 := by
  obtain ⟨b, h2, h3⟩ := exists_between m (by omega)
  exact ⟨b, shr_8 m b h2 h1, h2, h3, bitLen_between m b h2 h3 (by omega)⟩
set_option maxRecDepth 100000 in
set_option maxHeartbeats 8000000 in
theorem implLikely (v : Int) (h0 : 1 ≤ v) (h1 : v ≤ 256) (w : World) :
    Calls Try.prog 107 #[.int .i64 v] w fun e w' => e = .returned (.int .i64 (logF v)) ∧ w' = w := by
  obtain ⟨m, rfl⟩ := Int.eq_ofNat_of_zero_le (show 0 ≤ v by omega)
  obtain ⟨b, hb, hm0, hm1, hbl⟩ := bits_of m (by omega) (by omega)
  have hE := hide (logF_of (m : Int) b h0 h1 (by simpa using hm0) (by simpa using hm1))
  have hlb := hide (logF_all ⟨m, by omega⟩)
  have hS := hide (fun X => implSizeOf (m : Int) X (by omega) (by omega))
  rw [show (Lib.bitLen (m : Int).toNat : Int) = (b : Int) + 1 by rw [Int.toNat_natCast, hbl]; rfl] at hS
  obtain ⟨P, hP⟩ : ∃ P : Nat, 2 ^ b = P := ⟨_, rfl⟩
  have hPi : (2 : Int) ^ b = (P : Int) := by rw [← hP]; simp
  rw [hP] at hm0
  have hP0 : 0 < P := by rw [← hP]; exact Nat.two_pow_pos b
  have hb64 : (b : Int) ≤ 64 := by omega
  have hb00 : (0 : Int) ≤ (b : Int) := by omega
  rw [hPi] at hE
  clear hP hm1 hbl
  go_enter Try.func107, Try.ntmps107
  go_wp2_with fail
  rw [show max (m : Int) 1 = (m : Int) by omega]
  refine (unhide hS _).mono ?_
  rintro e w1 ⟨rfl, rfl⟩
  go_wp2
  go_ret
  refine ⟨ret_int ?_, rfl⟩
  have h2 : 0 ≤ logF (m : Int) ∧ logF (m : Int) ≤ 2048 := unhide hlb
  rw [← unhide hE]
  unfold wrap64
  omega
end Go.Proofs.Ytocoeodoihdkgaa

/- Appending ints to a row of the call's own, whatever slice they come in. -/
namespace Go.Proofs.Ytocoeodoihdkgaa
open Go.RowKit

theorem ints_lengthA (zs : List Int) : (ints zs).length = zs.length := by simp [ints]
theorem ints_append (a b : List Int) : ints (a ++ b) = ints a ++ ints b := by simp [ints]
theorem ints_one (zs : List Int) : ∀ u ∈ ints zs, u.oneCell' = true := by
  intro u hu
  simp only [ints, List.mem_map] at hu
  obtain ⟨b, _, rfl⟩ := hu
  rfl
theorem ints_cells {w : World} {b off : Nat} {ys : List Int} (h : KindAt .i64 w b off ys) : ∀ j u, (ints ys)[j]? = some u → w.cell? ((⟨b, off, none⟩ : Addr).add j) = some u := by
  intro j u hu
  rw [add_cellAI]
  have hj : j < ys.length := by
    rcases Nat.lt_or_ge j ys.length with h' | h'
    · exact h'
    · rw [List.getElem?_eq_none (by rw [ints_lengthA]; exact h')] at hu; cases hu
  have := getD_map_int ys .i64 j hj
  unfold ints at hu
  rw [this] at hu
  cases hu
  exact h j hj
where
  add_cellAI {g o j : Nat} : (⟨g, o, none⟩ : Addr).add j = ⟨g, o + j, none⟩ := by unfold Addr.add; split <;> simp_all

/-- Ints that can be read: nil, or in the cells of a block. -/
def RdJ (w : World) (u : Value) (ys : List Int) : Prop := (u = .slice none 0 0 ∧ ys = []) ∨ ∃ b off cap, u = .slice (some ⟨b, off, none⟩) ys.length cap ∧ b < w.heap.size ∧ KindAt .i64 w b off ys
theorem RdJ.below {w w' : World} {u : Value} {ys : List Int} (h : RdJ w u ys) (hb : Below w.heap.size w w') : RdJ w' u ys := by
  rcases h with h | ⟨b, off, cap, e, hl, hc⟩
  · exact .inl h
  · exact .inr ⟨b, off, cap, e, Nat.lt_of_lt_of_le hl hb.size, fun j hj => (hb.cell (by simpa using hl)).trans (hc j hj)⟩
theorem RdJ.form {w : World} {u : Value} {ys : List Int} (h : RdJ w u ys) : ∃ ad cap, u = .slice ad ys.length cap := by
  rcases h with ⟨rfl, rfl⟩ | ⟨b, off, cap, rfl, _⟩
  · exact ⟨_, _, rfl⟩
  · exact ⟨_, _, rfl⟩
theorem rdJ_of_owns {w : World} {base : Nat} {v : Value} {zs : List Int} (h : w.ownsRow base 3 1 v zs.length (ints zs)) : RdJ w v zs := by
  rcases h.2 with ⟨rfl, hn⟩ | ⟨g, cap, cur, rfl, h1, h2, h3⟩
  · exact .inl ⟨rfl, List.length_eq_zero_iff.1 hn⟩
  · refine .inr ⟨g, 0, cap, rfl, (h.lt g rfl).2, fun j hj => ?_⟩
    rw [Nat.zero_add, h.cellAt j (by omega)]
    exact getD_map_int zs .i64 j hj
theorem rdJ_of_own {w : World} {a b : Nat} {v : Value} {zs : List Int} (h : OwnI w a b v zs) : RdJ w v zs := rdJ_of_owns h.1

theorem wpList_appI {ops : Array Oper} {rest : List Oper} {o : Oper} {a : Act} {Q : Exit → Act → World → Prop} {w : World} (hgd : o.guard = none) (s x : Operand)
    (ho : o.op = .call { callee := .builtin .append, args := #[s, x], argTypes := #[23, 23] }) (base : Nat) (v : Value) (zs : List Int) (hs : a.eval s = v)
    (hown : w.ownsRow base 3 1 v zs.length (ints zs)) (u : Value) (ys : List Int) (hx : a.eval x = u) (hr : RdJ w u ys) (h63 : zs.length + ys.length ≤ 1099511627776) (hbase : base ≤ w.heap.size)
    (h : ∀ v' w', w'.ownsRow base 3 1 v' (zs ++ ys).length (ints (zs ++ ys)) → w.grownBy w' v.ownBlock → (v'.ownBlock = v.ownBlock ∨ v'.ownBlock = some w.heap.size) → wpList Try.prog ops Q rest (a.put o.dst v') w') :
    wpList Try.prog ops Q (o :: rest) a w := by
  obtain ⟨i0, hi0, hz0, hz1, hz2⟩ := info_parts infoI
  rcases hr with ⟨rfl, rfl⟩ | ⟨b, off, cap, rfl, hl, hc⟩
  · refine wpList_append_own_none hgd s x 23 ho base 3 i0 1 Try.underlying23 hi0 v _ _ hs hown hx ?_
    refine h v w ?_ ⟨rfl, rfl, rfl, Nat.le_refl _, fun _ _ _ => rfl⟩ (.inl rfl)
    rw [List.append_nil]; exact hown
  · refine wpList_append_own_at _ hgd s x 23 ho base 3 i0 (.int .i64 0) 1 8 Try.underlying23 hi0 hz0 hz1 hz2 rfl (by decide) v zs.length (ints zs) hs hown ⟨b, off, none⟩ ys.length cap (ints ys) hx (by rw [ints_lengthA]; omega) (ints_cells hc) (ints_one ys) (by unfold maxLen; omega) (by omega) hbase ?_
    intro v' w' h1 h2 _ h4
    refine h v' w' ?_ h2 h4
    rw [List.length_append, ints_append]; exact h1

theorem own_nilI (w : World) (a b : Nat) : OwnI w a b (.slice none 0 0) [] := ⟨World.ownsRow_nil _ _ _ _, fun k hk => by simp [Value.ownBlock] at hk⟩
theorem upd_of_grownI {w w' : World} {a : Nat} {e : TypeId} {s : Nat} {v : Value} {n : Nat} {xs : List Value} (hg : w.grownBy w' v.ownBlock) (ho : w.ownsRow a e s v n xs) : Upd a w.heap.size w w' :=
  ⟨hg.os, hg.tape, hg.output, hg.size, fun k hk hn => hg.block k hk (fun e => by have := ho.lt k e.symm; omega)⟩
end Go.Proofs.Ytocoeodoihdkgaa

/- A row of ints of a call's own, made full, under way: its cells, stores into it and into others. -/
namespace Go.Proofs.Ytocoeodoihdkgaa
open Go.RowKit

def RowI (w : World) (g n : Nat) (xs : List Value) : Prop := w.ownsRow g 3 1 (.slice (some ⟨g, 0, none⟩) n n) n xs
theorem RowI.own {w : World} {g n : Nat} {xs : List Value} (h : RowI w g n xs) : Own 3 1 w g (g + 1) (.slice (some ⟨g, 0, none⟩) n n) n xs :=
  ⟨h, fun k hk => by simp [Value.ownBlock] at hk; omega⟩
theorem RowI.upd {w w' : World} {g n c e : Nat} {xs : List Value} (h : RowI w g n xs) (u : Upd c e w w') (hd : g + 1 ≤ c ∨ e ≤ g) : RowI w' g n xs := (h.own.upd u hd).1
theorem RowI.keep {w w' : World} {g n : Nat} {xs : List Value} (h : RowI w g n xs) (u : Upd 0 0 w w') : RowI w' g n xs := h.upd u (.inr (Nat.zero_le _))
theorem RowI.other {w : World} {g n c : Nat} {xs : List Value} (h : RowI w g n xs) (hne : c ≠ g) (o : Nat) (u : Value) : RowI (w.setCell ⟨c, o, none⟩ u) g n xs :=
  h.upd ((Upd.refl c (c + 1) w).setCell ⟨Nat.le_refl _, Nat.lt_succ_self _⟩ o u) (by omega)
theorem RowI.set {w : World} {g n : Nat} {xs : List Value} (h : RowI w g n xs) (k : Nat) (u : Value) : RowI (w.setCell ⟨g, k, none⟩ u) g n (xs.set k u) := (World.ownsRow.stored h k u).1
theorem RowI.len {w : World} {g n : Nat} {xs : List Value} (h : RowI w g n xs) : xs.length = n := by have h' : w.ownsRow g 3 1 (.slice (some ⟨g, 0, none⟩) n n) n xs := h; have := h'.1; omega
theorem RowI.cell {w : World} {g n : Nat} {xs : List Value} (h : RowI w g n xs) (k : Nat) (hk : k < n) : w.cell? ⟨g, k, none⟩ = xs[k]? := World.ownsRow.cellAt h k (by omega)
theorem RowI.frozen {w : World} {g n : Nat} {xs : List Value} (h : RowI w g n xs) (k : Nat) : w.frozen? ⟨g, k, none⟩ = false := World.ownsRow.frozenAt h k
theorem RowI.has {w : World} {g n : Nat} {xs : List Value} (h : RowI w g n xs) (k : Nat) (hk : k < n) : ∃ u, w.cell? ⟨g, k, none⟩ = some u := by
  rw [h.cell k hk]; exact ⟨_, List.getElem?_eq_getElem (by have := h.len; omega)⟩
theorem RowI.lt {w : World} {g n : Nat} {xs : List Value} (h : RowI w g n xs) : g < w.heap.size := by
  have h' : w.ownsRow g 3 1 (.slice (some ⟨g, 0, none⟩) n n) n xs := h
  exact (h'.lt g rfl).2
theorem RowI.ownI {w : World} {g : Nat} {zs : List Int} (h : RowI w g zs.length (ints zs)) : OwnI w g (g + 1) (.slice (some ⟨g, 0, none⟩) zs.length zs.length) zs := h.own
theorem RowI.alloc {w : World} {g n : Nat} {xs : List Value} (h : RowI w g n xs) (o : Obj) : RowI (w.alloc o) g n xs :=
  h.keep (Upd.of_below ((Below.refl w.heap.size w).alloc (Nat.le_refl _) o) 0 0)
theorem alloc_newR (w : World) (o : Obj) : (w.alloc o).heap[w.heap.size]? = Option.some o := by unfold World.alloc; simp
/-- A row of n numbers made in any world. -/
theorem mkRowI (n : Nat) (hn : n ≤ 1048576) : ∃ o : Obj, ∀ (X : World), (Instr.makeSlice 23 (.int .i64 (n : Int)) (.int .i64 (n : Int))).run Try.prog X = .ok (.slice (some ⟨X.heap.size, 0, none⟩) n n) (X.alloc o) ∧
    RowI (X.alloc o) X.heap.size n (List.replicate n (.int .i64 0)) := by
  obtain ⟨i0, hi, hz0, hz1, hz2⟩ := info_parts infoI
  refine ⟨.cells (madeCells (Value.int .i64 0).cells ((n : Int).toNat * i0.size)) 3, fun X => ⟨?_, ?_⟩⟩
  · have h := run_makeSlice (P := Try.prog) (w := X) 23 3 i0 (.int .i64 0) Try.underlying23 hi hz0 .i64 .i64 (n : Int) (n : Int) (by omega) (by omega) (by rw [hz1]; omega) (by rw [hz2]; omega) (by omega)
    simpa using h
  · refine ⟨by simp, .inr ⟨X.heap.size, n, _, rfl, Nat.le_refl _, alloc_newR X _, Nat.le_refl _, by unfold maxLen; omega, by rw [size_madeCells, hz1]; simp, ?_⟩⟩
    rw [hz1]
    simp [toList_madeCells_one, Value.cells]
end Go.Proofs.Ytocoeodoihdkgaa

/- Odds: the specification's odds at first, and what choices cost. -/
namespace Go.Proofs.Ytocoeodoihdkgaa
open Go.RowKit

def oddsI (P : Nat) (s : Int → Int) : List Value := (List.range P).map fun p : Nat => .int .i64 (s (p : Int))
@[simp] theorem oddsI_length (P : Nat) (s : Int → Int) : (oddsI P s).length = P := by simp [oddsI]
theorem oddsI_at (P : Nat) (s : Int → Int) (p : Nat) (h : p < P) : (oddsI P s)[p]? = some (.int .i64 (s p)) := by
  unfold oddsI; rw [List.getElem?_map, List.getElem?_range h]; rfl
theorem oddsI_put (P : Nat) (s s' : Int → Int) (p : Nat) (y : Int) (h : ∀ q, s' q = if q = (p : Int) then y else s q) : (oddsI P s).set p (.int .i64 y) = oddsI P s' := by
  apply List.ext_getElem?
  intro j
  by_cases hj : j < P
  · by_cases e : p = j
    · subst e
      rw [List.getElem?_set_self (by simpa using hj), oddsI_at _ _ _ hj, h, if_pos rfl]
    · rw [List.getElem?_set_ne e, oddsI_at _ _ _ hj, oddsI_at _ _ _ hj, h, if_neg (by omega)]
  · rw [List.getElem?_eq_none (by simp; omega), List.getElem?_eq_none (by simp; omega)]
theorem oddsI_congr (P : Nat) (s s' : Int → Int) (h : ∀ p : Nat, p < P → s p = s' p) : oddsI P s = oddsI P s' := by
  unfold oddsI
  apply List.map_congr_left
  intro p hp
  rw [h p (List.mem_range.1 hp)]
def oddsTo (k : Nat) : Int → Int := fun q => if q < (k : Int) then 2048 else 0
theorem oddsTo_zero (P : Nat) : oddsI P (oddsTo 0) = List.replicate P (.int .i64 0) := by
  apply List.ext_getElem?
  intro j
  by_cases hj : j < P
  · rw [oddsI_at _ _ _ hj, List.getElem?_replicate, if_pos hj]; unfold oddsTo; rw [if_neg (by omega)]
  · rw [List.getElem?_eq_none (by simp; omega), List.getElem?_eq_none (by simp; omega)]
theorem oddsTo_succ (P k : Nat) : (oddsI P (oddsTo k)).set k (.int .i64 2048) = oddsI P (oddsTo (k + 1)) :=
  oddsI_put P _ _ k 2048 (fun q => by unfold oddsTo; by_cases h : q = (k : Int)
                                      · rw [if_pos h, if_pos (by omega)]
                                      · rw [if_neg h]
                                        by_cases h2 : q < (k : Int)
                                        · rw [if_pos h2, if_pos (by omega)]
                                        · rw [if_neg h2, if_neg (by omega)])
theorem oddsTo_all (P : Nat) : oddsI P (oddsTo P) = oddsI P (fun _ => 2048) := oddsI_congr P _ _ (fun p hp => by unfold oddsTo; rw [if_pos (by omega)])
theorem RowI.learn {w : World} {g P : Nat} {s : Int → Int} (h : RowI w g P (oddsI P s)) (c : Int × Int) (p : Nat) (hp : c.1 = (p : Int)) : RowI (w.setCell ⟨g, p, none⟩ (.int .i64 (learnF (s p) c.2))) g P (oddsI P (oddsSet s c)) := by
  have h1 := RowI.set h p (.int .i64 (learnF (s p) c.2))
  rw [oddsI_put P s (oddsSet s c) p (learnF (s p) c.2) (fun q => by
    unfold oddsSet
    by_cases e : q = (p : Int)
    · rw [if_pos (by rw [hp]; exact e), if_pos e, e]
    · rw [if_neg (by rw [hp]; exact e), if_neg e])] at h1
  exact h1
set_option maxHeartbeats 8000000 in
set_option maxRecDepth 100000 in
theorem specL12Odds (P : Nat) (w : World) (hP : P ≤ 512) :
    Calls Try.prog 91 #[.int .i64 (P : Int)] w fun e w' => e = .returned (.slice (some ⟨w.heap.size, 0, none⟩) P P) ∧ RowI w' w.heap.size P (oddsI P (fun _ => 2048)) ∧ Below w.heap.size w w' := by
  obtain ⟨o, hmk⟩ := mkRowI P (by omega)
  have hrun : ∀ X : World, (Instr.makeSlice 23 (.int .i64 (P : Int)) (.int .i64 (P : Int))).run Try.prog X = .ok (.slice (some ⟨X.heap.size, 0, none⟩) P P) (X.alloc o) := fun X => (hmk X).1
  have hrow := (hmk w).2
  rw [← oddsTo_zero] at hrow
  replace hrow := hide hrow
  have hB := hide ((Below.refl w.heap.size w).alloc (Nat.le_refl _) o)
  clear hmk
  go_enter Try.func91, Try.ntmps91
  go_upto_region 2 with fail
  generalize w.alloc o = w0 at hrow hB ⊢
  clear hrun
  go_wp2_with fail
  go_loopw [4, 9] (fun _ i wr => ∃ k : Nat, k ≤ P ∧ i = .int .i64 k ∧ Hid (RowI wr w.heap.size P (oddsI P (oddsTo k))) ∧ Hid (Below w.heap.size w wr)) (fun _ i _ => P - (intOf i).toNat)
  case atStart => exact ⟨0, Nat.zero_le _, rfl, hrow, hB⟩
  case round =>
    clear hrow hB
    obtain ⟨k, hk, rfl, hrow, hB⟩ := hrel
    by_cases hlt : k < P
    · have c0 := (unhide hrow).cell k hlt
      rw [oddsI_at _ _ _ hlt] at c0
      have f0 := (unhide hrow).frozen k
      have hr2 := (unhide hrow).set k (.int .i64 2048)
      rw [oddsTo_succ] at hr2
      replace hr2 := hide hr2
      have hB2 := hide ((unhide hB).setCell (p := ⟨w.heap.size, k, none⟩) (Nat.le_refl _) (.int .i64 2048))
      have kI : decide ((k : Int) < (P : Int)) = true := decide_eq_true (by omega)
      clear hrow hB
      go_wp2_with fail
      go_roundw
      case rel => exact ⟨k + 1, by omega, by go_num, hr2, hB2⟩
      case measure => simp [intOf]; omega
    · obtain rfl : k = P := by omega
      have kI : decide ((k : Int) < (k : Int)) = false := decide_eq_false (by omega)
      have hE := hide (oddsTo_all k)
      go_wp2
      go_ret
      exact ⟨rfl, by rw [← unhide hE]; exact unhide hrow, unhide hB⟩
end Go.Proofs.Ytocoeodoihdkgaa

/- Odds: the specification's OddsCost. -/
namespace Go.Proofs.Ytocoeodoihdkgaa
open Go.RowKit

/-- One cell of a block is written. -/
theorem upd_setCellG (w : World) (g j : Nat) (v : Value) : Upd g (g + 1) w (w.setCell ⟨g, j, none⟩ v) :=
  ⟨rfl, rfl, rfl, by simp, fun k _ hk => Below.heap_setCell w ⟨g, j, none⟩ v k (by simp; omega)⟩
set_option maxHeartbeats 16000000 in
set_option maxRecDepth 1000000 in
theorem specOddsCost (p : Int) (v : Value) (cs : List Ch) (w : World) (hp0 : -9223372036854775808 ≤ p) (hp1 : p ≤ 9223372036854775807) (hn : cs.length ≤ 1048576) (_hR : InCh cs) (hv : RdCh w v cs) :
    Calls Try.prog 52 #[.int .i64 p, v] w fun e w' => e = .returned (.int .i64 (oddsCost p cs)) ∧ Upd 0 0 w w' := by
  have hG := hide (specL12Ok p v cs w hn hv)
  obtain ⟨ad, cap, rfl, hA⟩ := hv
  by_cases hok : oddsB p cs = true
  case neg =>
    have hok : oddsB p cs = false := by simpa using hok
    have hE := hide (show oddsCost p cs = -1 by unfold oddsCost; rw [hok]; rfl)
    rw [hok] at hG
    clear hok hA
    go_enter Try.func52, Try.ntmps52
    go_wp2_with fail
    refine (unhide hG).mono ?_
    rintro e w1 ⟨rfl, hu⟩
    replace hu := hide hu
    clear hG
    go_wp2
    go_ret
    exact ⟨by rw [unhide hE]; rfl, unhide hu⟩
  have hE := hide (show oddsCost p cs = costK cs cs.length by unfold oddsCost; rw [hok]; rfl)
  rw [hok] at hG
  obtain ⟨⟨hp1', hp512⟩, hlen, hch⟩ := (oddsB_iff _ _).1 hok
  obtain ⟨P, rfl⟩ := Int.eq_ofNat_of_zero_le (show 0 ≤ p by omega)
  have hS := hide (fun X => specL12Odds P X (by omega))
  replace hch := hide hch
  replace hA := hide hA
  clear hok
  go_enter Try.func52, Try.ntmps52
  go_wp2_with fail
  refine (unhide hG).mono ?_
  rintro e w1 ⟨rfl, hu1⟩
  replace hu1 := hide hu1
  clear hG
  go_wp2_with fail
  refine (unhide hS _).mono ?_
  rintro e w2 ⟨rfl, hrow, hb2⟩
  have hs1 := (unhide hu1).size
  have hB := hide ((unhide hu1).none.trans (hb2.mono hs1))
  generalize w1.heap.size = g at hs1 hrow hB ⊢
  clear hu1 hb2
  replace hrow := hide (show RowI w2 g P (oddsI P (oddsK cs 0)) from hrow)
  go_wp2_with fail
  go_loopw [6, 18, 8, 9] (fun c i _ _ wr => ∃ (k : Nat), c = .int .i64 (costK cs k) ∧ i = .int .i64 (k : Int) ∧ k ≤ cs.length ∧ Hid (RowI wr g P (oddsI P (oddsK cs k))) ∧ Hid (Below w.heap.size w wr)) (fun _ i _ _ _ => cs.length - (intOf i).toNat)
  case atStart => exact ⟨0, rfl, rfl, by omega, hrow, hB⟩
  case round =>
    clear hB hrow
    obtain ⟨k, rfl, rfl, hk, hod, hB⟩ := hrel
    by_cases hkl : k < cs.length
    · obtain ⟨bb, off, rfl, hbl, hcl⟩ := (unhide hA) (ne_of_lt_length hkl)
      obtain ⟨c0, c1⟩ := hcl k hkl
      replace c0 := ((unhide hB).cell (by simpa using hbl)).trans c0
      replace c1 := ((unhide hB).cell (by simpa using hbl)).trans c1
      have hck := unhide hch k hkl
      have hsc := costK_succ cs k
      have hso := oddsK_succ cs k
      have hcb := costK_bd cs k
      have hSk : ∀ q, 31 ≤ oddsK cs k q ∧ oddsK cs k q ≤ 4065 := oddsK_bd cs k
      rw [show cs.getD k Ch0 = cs.getD k (0, 0) from rfl] at c0 c1
      generalize cs.getD k (0, 0) = c at c0 c1 hck hsc hso
      obtain ⟨x, y⟩ := c
      obtain ⟨⟨x0, x1⟩, y0, y1⟩ := hck
      obtain ⟨q, rfl⟩ := Int.eq_ofNat_of_zero_le x0
      have hq : q < P := by simp at x1; omega
      have hqI : (q : Int) < (P : Int) := by omega
      replace c0 : wr.cell? ⟨bb, off + k * 2, none⟩ = some (.int .i64 (q : Int)) := c0
      replace c1 : wr.cell? ⟨bb, off + k * 2 + 1, none⟩ = some (.int .i64 y) := c1
      replace hsc : costK cs (k + 1) = costK cs k + costF (oddsK cs k (q : Int)) y := hsc
      have hcf := costF_bd (oddsK cs k (q : Int)) y (hSk _)
      have hpb := partsF_bd (oddsK cs k (q : Int)) y (hSk _)
      have hLog := hide (fun X => specL12Log (partsF (oddsK cs k (q : Int)) y) (by omega) (by omega) X)
      have hLn := hide (fun X => specL12Learn (oddsK cs k (q : Int)) y (hSk _) X)
      rw [show logF (partsF (oddsK cs k (q : Int)) y) = costF (oddsK cs k (q : Int)) y from rfl] at hLog
      have hpf : partsF (oddsK cs k (q : Int)) y = ((if y = 1 then 4096 - oddsK cs k (q : Int) else oddsK cs k (q : Int)) + 8) / 16 := rfl
      rw [hpf] at hLog
      clear hpf hpb
      have hal := Upd.of_below ((Below.refl wr.heap.size wr).alloc (Nat.le_refl _) (.cells #[.int .i64 (q : Int), .int .i64 y] 38)) 0 0
      have hod1 := (unhide hod).keep hal
      have hcc := heldF_new wr [.int .i64 (q : Int), .int .i64 y] 38
      have hB1 := hide (below_upd (unhide hB) hal (Nat.le_refl _) (.inr (Nat.le_refl _)))
      have hgl := (unhide hod).lt
      have hgw : w.heap.size ≤ g := hs1
      have hput := hide (fun X (hX : RowI X g P (oddsI P (oddsK cs k))) => hX.learn ((q : Int), y) q rfl)
      rw [← hso] at hput
      generalize costF (oddsK cs k (q : Int)) y = cf at hcf hsc hLog
      have hob := hSk (q : Int)
      have hcell := oddsI_at P (oddsK cs k) q hq
      generalize hov : oddsK cs k (q : Int) = o at hob hcell hLog hLn hput
      have hlb := learnF_bd o y hob
      generalize hlv : learnF o y = o2 at hlb hLn hput
      obtain ⟨o0, o1⟩ := hob
      obtain ⟨l0, l1⟩ := hlb
      obtain ⟨s0, s1⟩ := hcb
      obtain ⟨cf0, cf1⟩ := hcf
      have s2 : costK cs k ≤ 40960000 := by omega
      clear s1
      generalize costK cs k = sm at s0 s2 hsc ⊢
      generalize hs2 : costK cs (k + 1) = sm2 at hsc
      subst hsc
      replace hcell := hide hcell
      replace hod1 := hide hod1
      replace hcc := hide hcc
      replace hso := hide hso
      replace hs2 := hide hs2
      replace hov := hide hov
      replace hlv := hide hlv
      clear hal hod hB hcl x1 hSk
      have kI : decide ((k : Int) < (cs.length : Int)) = true := decide_eq_true (by omega)
      go_upto_region 8 with fail
      simp only [List.toArray] at hcc
      generalize wr.alloc (.cells #[.int .i64 (q : Int), .int .i64 y] 38) = wn at hod1 hcc hB1 ⊢
      generalize wr.heap.size = cb at hcc hgl ⊢
      have d0 := (unhide hcc).1.2 0 _ rfl
      have d1 := (unhide hcc).1.2 1 _ rfl
      have dq := ((unhide hod1).cell q hq).trans (unhide hcell)
      clear c0 c1
      by_cases hy : y = 1
      · have ty : (y == 1) = true := by simpa using hy
        rw [if_pos hy] at hLog
        clear hy
        go_wp2_with fail
        refine (unhide hLog _).mono ?_
        rintro e w3 ⟨rfl, hw3⟩
        obtain rfl : wn = w3 := hw3.symm
        clear hLog
        go_wp2_with fail
        clear d0 d1 dq
        have k0 := fun X : UpdT wn => (((unhide hcc).1.updT X).2 0 _ rfl)
        have k1 := fun X : UpdT wn => (((unhide hcc).1.updT X).2 1 _ rfl)
        have kq := fun X : UpdT wn => ((((unhide hod1).keep X.upd).cell q hq).trans (unhide hcell))
        refine wq_region_tail 12 (by kernel_rfl) (by kernel_rfl) ?_
        simp only [List.take_succ_cons, List.take_zero, List.drop_succ_cons, List.drop_zero]
        iterate 10
          refine WQ.step (fun K hK => ?_)
          go_simp
          refine hK _ ?_
          clear hK K
        refine WQ.step (fun K hK => ?_)
        go_simp
        refine ⟨_, fun X => Calls.updT_same X (unhide hLn X.to), hK _ ?_⟩
        clear hK K
        refine WQ.step (fun K hK => ?_)
        go_simp
        refine hK _ ?_
        clear hK K
        refine WQ.nil ?_
        rintro _ ⟨X, rfl⟩
        clear k0 k1 kq
        have hX := X.upd
        generalize X.to = wt at hX ⊢
        have hod4 := (unhide hod1).keep hX
        have dq := (hod4.cell q hq).trans (unhide hcell)
        have fq := hod4.frozen q
        have hod5 := hide (unhide hput _ hod4)
        have hB5 := hide (below_upd (below_upd (unhide hB1) hX (Nat.le_refl _) (.inr (Nat.le_refl _))) (upd_setCellG wt g q (.int .i64 o2)) (Nat.le_refl _) (.inl hgw))
        clear hX hod1 hod4 hB1 hcc hput hLn
        go_wp2_with fail
        go_roundw
        case rel => exact ⟨k + 1, by rw [unhide hs2], by go_num, by omega, hod5, hB5⟩
        case measure => simp [intOf]; omega
      · have ty : (y == 1) = false := by simpa using hy
        rw [if_neg hy] at hLog
        clear hy
        go_wp2_with fail
        refine (unhide hLog _).mono ?_
        rintro e w3 ⟨rfl, hw3⟩
        obtain rfl : wn = w3 := hw3.symm
        clear hLog
        go_wp2_with fail
        clear d0 d1 dq
        have k0 := fun X : UpdT wn => (((unhide hcc).1.updT X).2 0 _ rfl)
        have k1 := fun X : UpdT wn => (((unhide hcc).1.updT X).2 1 _ rfl)
        have kq := fun X : UpdT wn => ((((unhide hod1).keep X.upd).cell q hq).trans (unhide hcell))
        refine wq_region_tail 12 (by kernel_rfl) (by kernel_rfl) ?_
        simp only [List.take_succ_cons, List.take_zero, List.drop_succ_cons, List.drop_zero]
        iterate 10
          refine WQ.step (fun K hK => ?_)
          go_simp
          refine hK _ ?_
          clear hK K
        refine WQ.step (fun K hK => ?_)
        go_simp
        refine ⟨_, fun X => Calls.updT_same X (unhide hLn X.to), hK _ ?_⟩
        clear hK K
        refine WQ.step (fun K hK => ?_)
        go_simp
        refine hK _ ?_
        clear hK K
        refine WQ.nil ?_
        rintro _ ⟨X, rfl⟩
        clear k0 k1 kq
        have hX := X.upd
        generalize X.to = wt at hX ⊢
        have hod4 := (unhide hod1).keep hX
        have dq := (hod4.cell q hq).trans (unhide hcell)
        have fq := hod4.frozen q
        have hod5 := hide (unhide hput _ hod4)
        have hB5 := hide (below_upd (below_upd (unhide hB1) hX (Nat.le_refl _) (.inr (Nat.le_refl _))) (upd_setCellG wt g q (.int .i64 o2)) (Nat.le_refl _) (.inl hgw))
        clear hX hod1 hod4 hB1 hcc hput hLn
        go_wp2_with fail
        go_roundw
        case rel => exact ⟨k + 1, by rw [unhide hs2], by go_num, by omega, hod5, hB5⟩
        case measure => simp [intOf]; omega
    · obtain rfl : k = cs.length := by omega
      have hfin := hide (Upd.of_below (unhide hB) 0 0)
      have kI : decide ((cs.length : Int) < (cs.length : Int)) = false := decide_eq_false (by omega)
      clear hB hod
      go_wp2
      go_ret
      exact ⟨by rw [unhide hE]; rfl, unhide hfin⟩
end Go.Proofs.Ytocoeodoihdkgaa

/- Odds: the specification's reader: a byte taken. -/
namespace Go.Proofs.Ytocoeodoihdkgaa
open Go.RowKit

/-- The specification's reader. -/
def InAt (W : World) (g : Nat) (dv ov : Value) (r : Rd) : Prop := HeldF W g [dv, .int .i64 (r.at_ : Int), .int .u64 r.code, .int .u64 r.rng, ov, .int .i64 r.err]
set_option maxHeartbeats 16000000 in
set_option maxRecDepth 100000 in
theorem specByte (g : Nat) (ad : Option Addr) (cap : Nat) (ds : List Int) (ov : Value) (r : Rd) (W : World) (h : InAt W g (.slice ad ds.length cap) ov r) (hA : ArgY W ad ds) (hd : ByteOk ds) (hn : ds.length ≤ 1048576) (ha : r.at_ ≤ ds.length) (c0 : 0 ≤ r.code) (c1 : r.code ≤ 16777215 ∨ ds.length ≤ r.at_) (he : -1 ≤ r.err ∧ r.err ≤ 10) :
    Calls Try.prog 118 #[.pointer (some ⟨g, 0, none⟩)] W fun e w' => e = .returned (.tuple #[]) ∧ InAt w' g (.slice ad ds.length cap) ov (byteF ds r) ∧ Upd g (g + 1) W w' := by
  obtain ⟨rng, code, at_, err⟩ := r
  simp only at ha c0 c1 he
  have hh := hide (show HeldF W g [.slice ad ds.length cap, .int .i64 (at_ : Int), .int .u64 code, .int .u64 rng, ov, .int .i64 err] from h)
  have hgl := h.1.1
  clear h
  unfold byteF
  simp only
  by_cases hl : ds.length ≤ at_
  · rw [if_pos hl]
    have e5 := (unhide hh).1.2 5 _ rfl
    have f5 := (unhide hh).2 5
    have t1 : decide ((ds.length : Int) ≤ (at_ : Int)) = true := decide_eq_true (by omega)
    have t1n : decide (ds.length ≤ at_) = true := decide_eq_true hl
    have k0 := fun X : UpdT W => (((unhide hh).1.updT X).2 0 _ rfl)
    have k1 := fun X : UpdT W => (((unhide hh).1.updT X).2 1 _ rfl)
    clear hl hA
    go_enter Try.func118, Try.ntmps118
    go_wp2_with fail
    refine wq_region_tail 9 (by kernel_rfl) (by kernel_rfl) ?_
    simp only [List.take_succ_cons, List.take_zero, List.drop_succ_cons, List.drop_zero]
    iterate 9
      refine WQ.step (fun K hK => ?_)
      go_simp
      refine hK _ ?_
      clear hK K
    refine WQ.nil ?_
    rintro _ ⟨X, rfl⟩
    clear k0 k1 e5 f5
    have hX := X.upd
    generalize X.to = wt at hX ⊢
    have hh2 := hide ((unhide hh).keep hX)
    have hu : Hid (Upd g (g + 1) W wt) := hide ⟨hX.os, hX.tape, hX.output, hX.size, fun k hk _ => hX.block k hk (.inr (Nat.zero_le _))⟩
    clear hX hh
    have e5 := (unhide hh2).1.2 5 _ rfl
    have f5 := (unhide hh2).2 5
    by_cases he0 : err = 0
    · subst he0
      have t2 : ((0 : Int) == 0) = true := by decide
      have hh3 := hide (show HeldF (wt.setCell ⟨g, 5, none⟩ (.int .i64 2)) g [.slice ad ds.length cap, .int .i64 (at_ : Int), .int .u64 code, .int .u64 rng, ov, .int .i64 2] from (unhide hh2).set 5 (.int .i64 2) (by simp))
      have hu3 := hide ((unhide hu).trans (upd_setCellG wt g 5 (.int .i64 2)))
      clear hh2 hu
      go_wp2
      (try simp only [Exit.inBlock, Exit.then])
      refine bodyPost_ret (results_none rfl _ _ _) rfl ?_
      exact ⟨rfl, unhide hh3, unhide hu3⟩
    · have t2 : (err == 0) = false := by simpa using he0
      go_wp2
      (try simp only [Exit.inBlock, Exit.then])
      refine bodyPost_ret (results_none rfl _ _ _) rfl ?_
      exact ⟨rfl, by first | exact unhide hh2 | (rw [if_neg he0]; exact unhide hh2), unhide hu⟩
  · rw [if_neg hl]
    obtain ⟨bb, off, rfl, hbl, hcl⟩ := hA (ne_of_lt_length (show at_ < ds.length by omega))
    have hbyte := hcl at_ (by omega)
    have hd1 := hd at_
    have c16 : code ≤ 16777215 := by omega
    generalize ds.getD at_ 0 = y at hbyte hd1 ⊢
    obtain ⟨y0, y1⟩ := hd1
    have t1 : decide ((ds.length : Int) ≤ (at_ : Int)) = false := decide_eq_false (by omega)
    have t1n : decide (ds.length ≤ at_) = false := decide_eq_false hl
    have hai : (at_ : Int) < (ds.length : Int) := by omega
    have hw1 : IntKind.u64.wrap (code * 256) = code * 256 := by simp [IntKind.wrap, IntKind.bits, IntKind.signed]; omega
    have hw2 : IntKind.u64.wrap (code * 256 + y) = code * 256 + y := by simp [IntKind.wrap, IntKind.bits, IntKind.signed]; omega
    have k0 := fun X : UpdT W => (((unhide hh).1.updT X).2 0 _ rfl)
    have k1 := fun X : UpdT W => (((unhide hh).1.updT X).2 1 _ rfl)
    clear hl hcl
    go_enter Try.func118, Try.ntmps118
    go_wp2_with fail
    refine wq_region_tail 9 (by kernel_rfl) (by kernel_rfl) ?_
    simp only [List.take_succ_cons, List.take_zero, List.drop_succ_cons, List.drop_zero]
    iterate 9
      refine WQ.step (fun K hK => ?_)
      go_simp
      refine hK _ ?_
      clear hK K
    refine WQ.nil ?_
    rintro _ ⟨X, rfl⟩
    clear k0 k1
    have hX := X.upd
    generalize X.to = wt at hX ⊢
    have hh2 := hide ((unhide hh).keep hX)
    have hu : Hid (Upd g (g + 1) W wt) := hide ⟨hX.os, hX.tape, hX.output, hX.size, fun k hk _ => hX.block k hk (.inr (Nat.zero_le _))⟩
    have hby2 : Hid (bb < wt.heap.size ∧ wt.cell? ⟨bb, off + at_, none⟩ = some (.int .u8 y)) := hide ⟨Nat.lt_of_lt_of_le hbl hX.size, (hX.none.cell (by simpa using hbl)).trans hbyte⟩
    clear hX hh hbyte
    go_wp2_with fail
    have k0 := fun X : UpdT wt => (((unhide hh2).1.updT X).2 0 _ rfl)
    have k1 := fun X : UpdT wt => (((unhide hh2).1.updT X).2 1 _ rfl)
    have k2 := fun X : UpdT wt => (((unhide hh2).1.updT X).2 2 _ rfl)
    have kb := fun X : UpdT wt => ((X.upd.none.cell (p := ⟨bb, off + at_, none⟩) (unhide hby2).1).trans (unhide hby2).2)
    refine wq_region_tail 20 (by kernel_rfl) (by kernel_rfl) ?_
    simp only [List.take_succ_cons, List.take_zero, List.drop_succ_cons, List.drop_zero]
    iterate 20
      refine WQ.step (fun K hK => ?_)
      go_simp
      refine hK _ ?_
      clear hK K
    refine WQ.nil ?_
    rintro _ ⟨X, rfl⟩
    clear k0 k1 k2 kb
    have hX := X.upd
    generalize X.to = wx at hX ⊢
    have hh3 := (unhide hh2).keep hX
    have e2 := hh3.1.2 2 _ rfl
    have f2 := hh3.2 2
    have hh4 := hide (show HeldF (wx.setCell ⟨g, 2, none⟩ (.int .u64 (code * 256 + y))) g [.slice (some ⟨bb, off, none⟩) ds.length cap, .int .i64 (at_ : Int), .int .u64 (code * 256 + y), .int .u64 rng, ov, .int .i64 err] from hh3.set 2 (.int .u64 (code * 256 + y)) (by simp))
    have hu4 := hide (((unhide hu).trans ⟨hX.os, hX.tape, hX.output, hX.size, fun k hk _ => hX.block k hk (.inr (Nat.zero_le _))⟩).trans (upd_setCellG wx g 2 (.int .u64 (code * 256 + y))))
    clear hX hh2 hh3 hu hby2
    go_upto_region 4 with fail
    generalize wx.setCell ⟨g, 2, none⟩ (.int .u64 (code * 256 + y)) = w5 at hh4 hu4 ⊢
    clear e2 f2
    have e1 := (unhide hh4).1.2 1 _ rfl
    have f1 := (unhide hh4).2 1
    have hh5 := hide (show HeldF (w5.setCell ⟨g, 1, none⟩ (.int .i64 ((at_ : Int) + 1))) g [.slice (some ⟨bb, off, none⟩) ds.length cap, .int .i64 ((at_ : Int) + 1), .int .u64 (code * 256 + y), .int .u64 rng, ov, .int .i64 err] from (unhide hh4).set 1 (.int .i64 ((at_ : Int) + 1)) (by simp))
    have hu5 := hide ((unhide hu4).trans (upd_setCellG w5 g 1 (.int .i64 ((at_ : Int) + 1))))
    clear hh4 hu4
    go_wp2
    go_end0
    exact ⟨rfl, unhide hh5, unhide hu5⟩
end Go.Proofs.Ytocoeodoihdkgaa

/- Chunks, plainly: a number in four bytes, what a name is, the bytes of a chunk; no program is named here. -/
namespace Go.Proofs.Ytocoeodoihdkgaa
open Go.RowKit

def four (n : Nat) : List Nat := [n / 16777216 % 256, n / 65536 % 256, n / 256 % 256, n % 256]
theorem byte_step (v : Nat) (zs : List Nat) (d : Nat) (hd : d % 8 = 0) (h32 : d + 8 ≤ 32) (hz : (ft true v 32 [] 0 d) = zs) (hl : zs.length = d / 8) :
    ft true v 32 [] 0 (d + 8) = zs ++ [v / 2 ^ (24 - d) % 256] := by
  have h := ft_chunk (h := true) (v := v) (n := 32) (zs := []) (L := 0) (inv_nil true) d 7 (by omega) (by omega)
  rw [hz] at h
  have ho : opn zs (0 + d) = zs ++ [0] := by unfold opn; rw [if_pos (by omega)]
  rw [ho] at h
  have hi : (0 + d) / 8 = zs.length := by omega
  rw [hi] at h
  rw [h, List.set_append, if_neg (by omega)]
  have e0 : (zs ++ [0]).getD zs.length 0 = 0 := getD_snoc_last zs 0
  rw [e0]
  have e1 : (0 + d) % 8 = 0 := by omega
  rw [e1]
  simp [chunk, cex, show 32 - d - 8 = 24 - d by omega]
theorem packF_four (n : Nat) : packF true [(32, (n : Int))] = four n := by
  rw [packF_good _ _ (by simp) (by intro j hj; simp at hj; subst hj; unfold okF; simp)]
  have hp : (packTo true [(32, (n : Int))] [(32, (n : Int))].length).1 = ft true n 32 [] 0 32 := by
    simp [packTo, packStep]
  refine hp.trans ?_
  have h1 := byte_step n [] 0 rfl (by omega) rfl rfl
  have h2 := byte_step n _ 8 rfl (by omega) h1 rfl
  have h3 := byte_step n _ 16 rfl (by omega) h2 rfl
  have h4 := byte_step n _ 24 rfl (by omega) h3 rfl
  rw [h4]
  unfold four
  simp
theorem four_length (n : Nat) : (four n).length = 4 := rfl

/-- The bytes of a text. -/
def strB (s : ByteArray) : List Int := s.data.toList.map fun b => (b.toNat : Int)
theorem strB_length (s : ByteArray) : (strB s).length = s.size := by simp [strB]
theorem strB_getD (s : ByteArray) (k : Nat) (h : k < s.size) : (strB s).getD k 0 = ((s[k]'h).toNat : Int) := by
  unfold strB
  rw [List.getD_eq_getElem?_getD, List.getElem?_map, List.getElem?_eq_getElem (by simpa using h)]
  rfl
def letterI (x : Int) : Bool := (decide (97 ≤ x) && decide (x ≤ 122)) || (decide (65 ≤ x) && decide (x ≤ 90))
def nameOk (s : ByteArray) : Prop := s.size = 4 ∧ ∀ k, k < s.size → letterI ((strB s).getD k 0) = true
noncomputable def nameB (s : ByteArray) : Bool := open Classical in decide (nameOk s)
theorem nameB_yes {s : ByteArray} (h : nameOk s) : nameB s = true := by unfold nameB; simpa using h
theorem nameB_no {s : ByteArray} (h : ¬ nameOk s) : nameB s = false := by unfold nameB; simpa using h
theorem crcF_nat (zs : List Int) : ∃ n : Nat, crcF zs = (n : Int) ∧ n < 4294967296 := by
  have h := crcTo_lt zs zs.length
  refine ⟨4294967295 - crcTo zs zs.length, ?_, by omega⟩
  unfold crcF; omega
noncomputable def chunkF (s : ByteArray) (zs : List Int) : List Int :=
  open Classical in if nameOk s ∧ zs.length ≤ 60000 then (four zs.length).map (fun n : Nat => (n : Int)) ++ (strB s ++ zs) ++ (four (crcF (strB s ++ zs)).toNat).map (fun n : Nat => (n : Int)) else []
theorem chunkF_len (s : ByteArray) (zs : List Int) : (chunkF s zs).length ≤ 1048576 := by
  unfold chunkF; split
  · rename_i h
    simp [strB_length, four_length]; have := h.1.1; omega
  · simp
theorem chunkF_yes {s : ByteArray} {zs : List Int} (h1 : nameOk s) (h2 : zs.length ≤ 60000) (n : Nat) (hn : crcF (strB s ++ zs) = (n : Int)) :
    chunkF s zs = (four zs.length).map (fun n : Nat => (n : Int)) ++ (strB s ++ zs) ++ (four n).map (fun n : Nat => (n : Int)) := by
  unfold chunkF; rw [if_pos ⟨h1, h2⟩, hn, Int.toNat_natCast]
theorem chunkF_name {s : ByteArray} {zs : List Int} (h1 : ¬ nameOk s) : chunkF s zs = [] := by unfold chunkF; rw [if_neg (fun h => h1 h.1)]
theorem chunkF_long {s : ByteArray} {zs : List Int} (h2 : ¬ zs.length ≤ 60000) : chunkF s zs = [] := by unfold chunkF; rw [if_neg (fun h => h2 h.2)]
end Go.Proofs.Ytocoeodoihdkgaa

/- Appending bytes to a row of the call's own, whatever slice they come in. -/
namespace Go.Proofs.Ytocoeodoihdkgaa
open Go.RowKit

theorem byts_append (a b : List Int) : byts (a ++ b) = byts a ++ byts b := by simp [byts]
theorem byts_one (zs : List Int) : ∀ u ∈ byts zs, u.oneCell' = true := by
  intro u hu
  simp only [byts, List.mem_map] at hu
  obtain ⟨b, _, rfl⟩ := hu
  rfl
theorem byts_cells {w : World} {b off : Nat} {ys : List Int} (h : KindAt .u8 w b off ys) : ∀ j u, (byts ys)[j]? = some u → w.cell? ((⟨b, off, none⟩ : Addr).add j) = some u := by
  intro j u hu
  rw [add_cellA]
  have hj : j < ys.length := by
    rcases Nat.lt_or_ge j ys.length with h' | h'
    · exact h'
    · rw [List.getElem?_eq_none (by rw [byts_length]; exact h')] at hu; cases hu
  have := getD_map_int ys .u8 j hj
  unfold byts at hu
  rw [this] at hu
  cases hu
  exact h j hj
where
  add_cellA {g o j : Nat} : (⟨g, o, none⟩ : Addr).add j = ⟨g, o + j, none⟩ := by unfold Addr.add; split <;> simp_all

/-- Bytes that can be read: nil, or in the cells of a block. -/
def RdN (w : World) (u : Value) (ys : List Int) : Prop := (u = .slice none 0 0 ∧ ys = []) ∨ ∃ b off cap, u = .slice (some ⟨b, off, none⟩) ys.length cap ∧ b < w.heap.size ∧ KindAt .u8 w b off ys
theorem RdN.below {w w' : World} {u : Value} {ys : List Int} (h : RdN w u ys) (hb : Below w.heap.size w w') : RdN w' u ys := by
  rcases h with h | ⟨b, off, cap, e, hl, hc⟩
  · exact .inl h
  · exact .inr ⟨b, off, cap, e, Nat.lt_of_lt_of_le hl hb.size, fun j hj => (hb.cell (by simpa using hl)).trans (hc j hj)⟩
theorem RdN.form {w : World} {u : Value} {ys : List Int} (h : RdN w u ys) : ∃ ad cap, u = .slice ad ys.length cap := by
  rcases h with ⟨rfl, rfl⟩ | ⟨b, off, cap, rfl, _⟩
  · exact ⟨_, _, rfl⟩
  · exact ⟨_, _, rfl⟩
theorem RdN.argB {w : World} {ad : Option Addr} {cap : Nat} {ys : List Int} (h : RdN w (.slice ad ys.length cap) ys) (hB : InB ys) : ArgB w ad ys := by
  refine ⟨hB, fun hne => ?_⟩
  rcases h with ⟨_, rfl⟩ | ⟨b, off, cap', e, hl, hc⟩
  · exact absurd rfl hne
  · cases e; exact ⟨b, off, rfl, hl, hc⟩
theorem inB_append {a b : List Int} (ha : InB a) (hb : InB b) : InB (a ++ b) := by
  intro j
  rcases Nat.lt_or_ge j a.length with h | h
  · have := ha j
    rw [List.getD_eq_getElem?_getD] at this ⊢
    rw [List.getElem?_append_left h]; exact this
  · have := hb (j - a.length)
    rw [List.getD_eq_getElem?_getD] at this ⊢
    rw [List.getElem?_append_right h]; exact this
theorem inB_strB (s : ByteArray) : InB (strB s) := by
  intro j
  rcases Nat.lt_or_ge j s.size with h | h
  · rw [strB_getD s j h]; have := (s[j]'h).toNat_lt; omega
  · rw [List.getD_eq_getElem?_getD, List.getElem?_eq_none (by rw [strB_length]; exact h)]; simp
theorem rdN_of_owns {w : World} {base : Nat} {v : Value} {zs : List Int} (h : w.ownsRow base 5 1 v zs.length (byts zs)) : RdN w v zs := by
  rcases h.2 with ⟨rfl, hn⟩ | ⟨g, cap, cur, rfl, h1, h2, h3⟩
  · exact .inl ⟨rfl, List.length_eq_zero_iff.1 hn⟩
  · refine .inr ⟨g, 0, cap, rfl, (h.lt g rfl).2, fun j hj => ?_⟩
    rw [Nat.zero_add, h.cellAt j (by omega)]
    exact getD_map_int zs .u8 j hj
theorem rdN_of_own {w : World} {a b : Nat} {v : Value} {zs : List Int} (h : OwnY w a b v zs) : RdN w v zs := rdN_of_owns h.1

theorem wpList_appY {ops : Array Oper} {rest : List Oper} {o : Oper} {a : Act} {Q : Exit → Act → World → Prop} {w : World} (hgd : o.guard = none) (s x : Operand)
    (ho : o.op = .call { callee := .builtin .append, args := #[s, x], argTypes := #[22, 22] }) (base : Nat) (v : Value) (zs : List Int) (hs : a.eval s = v)
    (hown : w.ownsRow base 5 1 v zs.length (byts zs)) (u : Value) (ys : List Int) (hx : a.eval x = u) (hr : RdN w u ys) (h63 : zs.length + ys.length ≤ 1099511627776) (hbase : base ≤ w.heap.size)
    (h : ∀ v' w', w'.ownsRow base 5 1 v' (zs ++ ys).length (byts (zs ++ ys)) → w.grownBy w' v.ownBlock → (v'.ownBlock = v.ownBlock ∨ v'.ownBlock = some w.heap.size) → wpList Try.prog ops Q rest (a.put o.dst v') w') :
    wpList Try.prog ops Q (o :: rest) a w := by
  obtain ⟨i0, hi0, hz0, hz1, hz2⟩ := info_parts infoB
  rcases hr with ⟨rfl, rfl⟩ | ⟨b, off, cap, rfl, hl, hc⟩
  · refine wpList_append_own_none hgd s x 22 ho base 5 i0 1 Try.underlying22 hi0 v _ _ hs hown hx ?_
    refine h v w ?_ ⟨rfl, rfl, rfl, Nat.le_refl _, fun _ _ _ => rfl⟩ (.inl rfl)
    rw [List.append_nil]; exact hown
  · refine wpList_append_own_at _ hgd s x 22 ho base 5 i0 (.int .u8 0) 1 1 Try.underlying22 hi0 hz0 hz1 hz2 rfl (by decide) v zs.length (byts zs) hs hown ⟨b, off, none⟩ ys.length cap (byts ys) hx (by rw [byts_length]; omega) (byts_cells hc) (byts_one ys) (by unfold maxLen; omega) (by omega) hbase ?_
    intro v' w' h1 h2 _ h4
    refine h v' w' ?_ h2 h4
    rw [List.length_append, byts_append]; exact h1

theorem strCells_byts (s : ByteArray) : Lib.strCells s = byts (strB s) := by unfold Lib.strCells byts strB; simp
theorem wpList_appS {ops : Array Oper} {rest : List Oper} {o : Oper} {a : Act} {Q : Exit → Act → World → Prop} {w : World} (hgd : o.guard = none) (sl x : Operand)
    (ho : o.op = .call { callee := .builtin .append, args := #[sl, x], argTypes := #[22, 9] }) (base : Nat) (v : Value) (zs : List Int) (hs : a.eval sl = v)
    (hown : w.ownsRow base 5 1 v zs.length (byts zs)) (s : ByteArray) (hx : a.eval x = .string s) (h63 : zs.length + s.size ≤ 1099511627776) (hbase : base ≤ w.heap.size)
    (h : ∀ v' w', w'.ownsRow base 5 1 v' (zs ++ strB s).length (byts (zs ++ strB s)) → w.grownBy w' v.ownBlock → wpList Try.prog ops Q rest (a.put o.dst v') w') :
    wpList Try.prog ops Q (o :: rest) a w := by
  obtain ⟨i0, hi0, hz0, hz1, hz2⟩ := info_parts infoB
  refine Lib.wpList_append_own_string _ hgd sl x 22 9 ho base 5 i0 Try.underlying22 Try.underlying9 hi0 hz0 hz1 hz2 v zs.length (byts zs) hs hown s hx (by unfold maxLen; omega) (by omega) hbase ?_
  intro v' w' h1 h2 _
  refine h v' w' ?_ h2
  rw [List.length_append, byts_append, strB_length, ← strCells_byts]; exact h1
theorem own_nilY (w : World) (a b : Nat) : OwnY w a b (.slice none 0 0) [] := ⟨World.ownsRow_nil _ _ _ _, fun k hk => by simp [Value.ownBlock] at hk⟩
theorem upd_of_grown {w w' : World} {a : Nat} {e : TypeId} {s : Nat} {v : Value} {n : Nat} {xs : List Value} (hg : w.grownBy w' v.ownBlock) (ho : w.ownsRow a e s v n xs) : Upd a w.heap.size w w' :=
  ⟨hg.os, hg.tape, hg.output, hg.size, fun k hk hn => hg.block k hk (fun e => by have := ho.lt k e.symm; omega)⟩
theorem byts_nats (l : List Nat) : byts (l.map (fun n : Nat => (n : Int))) = vals l := by unfold byts vals; simp
/-- A text's bytes, laid anew. -/
theorem bytesOfStr (s : ByteArray) (w : World) : ∃ cp w2, (convert 9 22 (.string s)).run Try.prog w = .ok (.slice (some ⟨w.heap.size, 0, none⟩) s.size cp) w2 ∧ RdN w2 (.slice (some ⟨w.heap.size, 0, none⟩) s.size cp) (strB s) ∧ Upd 0 0 w w2 ∧ w.heap.size < w2.heap.size := by
  refine ⟨_, _, run_bytes_of_string (P := Try.prog) w 9 22 5 s Try.underlying9 Try.underlying22 Try.underlying5, ?_, ?_, ?_⟩
  · refine .inr ⟨w.heap.size, 0, _, by rw [strB_length], ?_, ?_⟩
    · exact (Array.getElem?_eq_some_iff.1 (heap_alloc_new w.drew _)).1
    · intro j hj
      rw [strB_length] at hj
      have := World.cell?_alloc_mark w.drew (bytesRow s (grownCap w s.size 0 5)) 5 ((bytesRow s (grownCap w s.size 0 5)).size, (bytesRow s (grownCap w s.size 0 5)).size + 1) j
      rw [Nat.zero_add, strB_getD s j hj]
      exact this.trans (bytesRow_at s _ j (by simpa using hj))
  · exact (Upd.of_below (Below.alloc (⟨rfl, rfl, rfl, Nat.le_refl _, fun _ _ => rfl⟩ : Below w.heap.size w w.drew) (Nat.le_refl _) _) 0 0)
  · exact (Array.getElem?_eq_some_iff.1 (heap_alloc_new w.drew _)).1
end Go.Proofs.Ytocoeodoihdkgaa

/- A struct's block and the row of bytes that it tells: what calls on it keep. -/
namespace Go.Proofs.Ytocoeodoihdkgaa
open Go.RowKit

theorem bytsAt (xs : List Int) (j : Nat) (h : j < xs.length) : (byts xs)[j]? = some (.int .u8 (xs.getD j 0)) := by
  unfold byts; rw [List.getElem?_map, List.getElem?_eq_getElem h, List.getD_eq_getElem?_getD, List.getElem?_eq_getElem h]; rfl
theorem bytsSet (xs : List Int) (k : Nat) (x : Int) : (byts xs).set k (.int .u8 x) = byts (xs.set k x) := by unfold byts; rw [List.map_set]
/-- All blocks stay but the struct's own and its row's. -/
structure KpO (g : Nat) (v : Value) (w w' : World) : Prop where
  os : w'.os = w.os
  tape : w'.tape = w.tape
  output : w'.output = w.output
  size : w.heap.size ≤ w'.heap.size
  block : ∀ k, k < w.heap.size → k ≠ g → some k ≠ v.ownBlock → w'.heap[k]? = w.heap[k]?
/-- A row that is new, or the one from before. -/
def FreshV (w : World) (v v' : Value) : Prop := ∀ b, v'.ownBlock = some b → v.ownBlock = some b ∨ w.heap.size ≤ b
theorem FreshV.refl (w : World) (v : Value) : FreshV w v v := fun _ h => .inl h
theorem FreshV.trans {w w1 : World} {v v1 v2 : Value} (h1 : FreshV w v v1) (h2 : FreshV w1 v1 v2) (hs : w.heap.size ≤ w1.heap.size) : FreshV w v v2 := fun b hb => by
  rcases h2 b hb with h | h
  · exact h1 b h
  · exact .inr (by omega)
theorem KpO.refl (g : Nat) (v : Value) (w : World) : KpO g v w w := ⟨rfl, rfl, rfl, Nat.le_refl _, fun _ _ _ _ => rfl⟩
theorem KpO.trans {g : Nat} {v v1 : Value} {w w1 w2 : World} (h1 : KpO g v w w1) (f : FreshV w v v1) (h2 : KpO g v1 w1 w2) : KpO g v w w2 :=
  ⟨h2.os.trans h1.os, h2.tape.trans h1.tape, h2.output.trans h1.output, Nat.le_trans h1.size h2.size, fun k hk hg hv =>
    (h2.block k (Nat.lt_of_lt_of_le hk h1.size) hg (fun e => by
      rcases f k e.symm with h | h
      · exact hv h.symm
      · omega)).trans (h1.block k hk hg hv)⟩
theorem KpO.upd {g : Nat} {v : Value} {w w' : World} (u : Upd 0 0 w w') : KpO g v w w' := ⟨u.os, u.tape, u.output, u.size, fun k hk _ _ => u.block k hk (.inr (Nat.zero_le _))⟩
theorem KpO.grown {g : Nat} {v : Value} {w w' : World} (h : w.grownBy w' v.ownBlock) : KpO g v w w' := ⟨h.os, h.tape, h.output, h.size, fun k hk _ hv => h.block k hk hv⟩
theorem KpO.head (g j : Nat) (v u : Value) (w : World) : KpO g v w (w.setCell ⟨g, j, none⟩ u) :=
  ⟨rfl, rfl, rfl, by simp, fun k _ hk _ => Below.heap_setCell w ⟨g, j, none⟩ u k (by simp; omega)⟩
theorem KpO.below {g B : Nat} {v : Value} {x w w' : World} (h : KpO g v w w') (hB : Below B x w) (hx : B ≤ x.heap.size) (hg : B ≤ g) (hv : ∀ b, v.ownBlock = some b → B ≤ b) : Below B x w' :=
  hB.trans ⟨h.os, h.tape, h.output, h.size, fun k hk => h.block k (by have := hB.size; omega) (by omega) (fun e => by have := hv k e.symm; omega)⟩
theorem HeldF.kpO {g c : Nat} {v : Value} {cs : List Value} {w w' : World} (h : HeldF w c cs) (k : KpO g v w w') (hc : c ≠ g) (hv : some c ≠ v.ownBlock) : HeldF w' c cs := by
  have hb := k.block c h.1.1 hc hv
  exact ⟨⟨Nat.lt_of_lt_of_le h.1.1 k.size, fun j u hj => (World.cell?_of_block (a := ⟨c, j, none⟩) hb).trans (h.1.2 j u hj)⟩, fun j => (World.frozen?_of_block (a := ⟨c, j, none⟩) hb).trans (h.2 j)⟩
theorem RowI.kpO {g c n : Nat} {v : Value} {xs : List Value} {w w' : World} (h : RowI w c n xs) (k : KpO g v w w') (hc : c ≠ g) (hv : some c ≠ v.ownBlock) : RowI w' c n xs := by
  have hb := k.block c h.lt hc hv
  obtain ⟨h1, h2⟩ := (show w.ownsRow c 3 1 (.slice (some ⟨c, 0, none⟩) n n) n xs from h)
  refine ⟨h1, ?_⟩
  rcases h2 with h2 | ⟨g', cap, cur, hv', hg, hh, r⟩
  · exact .inl h2
  · have e : g' = c := by cases hv'; rfl
    subst e
    exact .inr ⟨g', cap, cur, hv', hg, hb.trans hh, r⟩
/-- The row of bytes told. -/
def TRow (w : World) (base : Nat) (v : Value) (xs : List Int) : Prop := w.ownsRow base 5 1 v xs.length (byts xs)
theorem TRow.block {w : World} {base : Nat} {v : Value} {xs : List Int} (h : TRow w base v xs) : ∀ b, v.ownBlock = some b → base ≤ b ∧ b < w.heap.size := fun b hb => (World.ownsRow.lt h b hb)
theorem TRow.kept {w w' : World} {base : Nat} {v : Value} {xs : List Int} (h : TRow w base v xs) (hb : ∀ b, v.ownBlock = some b → w'.heap[b]? = w.heap[b]?) : TRow w' base v xs := by
  obtain ⟨h1, h2⟩ := (show w.ownsRow base 5 1 v xs.length (byts xs) from h)
  refine ⟨h1, ?_⟩
  rcases h2 with h2 | ⟨g', cap, cur, rfl, hg, hh, r⟩
  · exact .inl h2
  · exact .inr ⟨g', cap, cur, rfl, hg, (hb g' rfl).trans hh, r⟩
theorem TRow.upd {w w' : World} {base : Nat} {v : Value} {xs : List Int} (h : TRow w base v xs) (u : Upd 0 0 w w') : TRow w' base v xs := h.kept fun b hb => u.block b (h.block b hb).2 (.inr (Nat.zero_le _))
theorem TRow.head {w : World} {base g j : Nat} {v u : Value} {xs : List Int} (h : TRow w base v xs) (hg : g < base) : TRow (w.setCell ⟨g, j, none⟩ u) base v xs :=
  h.kept fun b hb => Below.heap_setCell w ⟨g, j, none⟩ u b (by have := (h.block b hb).1; simp; omega)
/-- The row's cells. -/
theorem TRow.at {w : World} {base : Nat} {v : Value} {xs : List Int} (h : TRow w base v xs) (h0 : xs ≠ []) : ∃ b cap, v = .slice (some ⟨b, 0, none⟩) xs.length cap ∧ base ≤ b ∧ b < w.heap.size ∧
    (∀ j, j < xs.length → w.cell? ⟨b, j, none⟩ = some (.int .u8 (xs.getD j 0))) ∧ (∀ j, w.frozen? ⟨b, j, none⟩ = false) ∧ (∀ j y, TRow (w.setCell ⟨b, j, none⟩ (.int .u8 y)) base v (xs.set j y) ∧ w.grownBy (w.setCell ⟨b, j, none⟩ (.int .u8 y)) v.ownBlock) := by
  rcases h.2 with ⟨_, hn⟩ | ⟨b, cap, cur, rfl, hg, hh, r⟩
  · exact absurd (List.length_eq_zero_iff.1 hn) h0
  · have h' : w.ownsRow base 5 1 (.slice (some ⟨b, 0, none⟩) xs.length cap) xs.length (byts xs) := h
    refine ⟨b, cap, rfl, hg, (h'.lt b rfl).2, fun j hj => ?_, fun j => World.ownsRow.frozenAt h' j, fun j y => ?_⟩
    · rw [World.ownsRow.cellAt h' j (by omega)]
      exact bytsAt xs j hj
    · have hs := World.ownsRow.stored h' j (.int .u8 y)
      refine ⟨?_, hs.2⟩
      unfold TRow
      rw [List.length_set, ← bytsSet]
      exact hs.1
end Go.Proofs.Ytocoeodoihdkgaa

/- Odds: the specification's reader opened. -/
namespace Go.Proofs.Ytocoeodoihdkgaa
open Go.RowKit

theorem KpO.updS {g : Nat} {v : Value} {w w' : World} (u : Upd g (g + 1) w w') : KpO g v w w' := ⟨u.os, u.tape, u.output, u.size, fun k hk hg _ => u.block k hk (by omega)⟩
theorem KpO.own {g o j n c : Nat} {u : Value} {w : World} : KpO g (.slice (some ⟨o, 0, none⟩) n c) w (w.setCell ⟨o, j, none⟩ u) :=
  ⟨rfl, rfl, rfl, by simp, fun k _ _ hv => Below.heap_setCell w ⟨o, j, none⟩ u k (fun e => hv (by simp only at e; rw [e]; rfl))⟩
theorem RowI.updS {w w' : World} {g c n : Nat} {xs : List Value} (h : RowI w c n xs) (u : Upd g (g + 1) w w') (hc : c ≠ g) : RowI w' c n xs := h.upd u (by omega)
theorem ByteOk.of {ds : List Int} (h : InB ds) : ByteOk ds := fun j => by have := h j; omega
/-- The reader and its odds. -/
structure RdSt (W : World) (g og P : Nat) (dv : Value) (s : Int → Int) (r : Rd) : Prop where
  inn : InAt W g dv (.slice (some ⟨og, 0, none⟩) P P) r
  row : RowI W og P (oddsI P s)
  og : og < g
theorem RdSt.keep {W W' : World} {g og P : Nat} {dv : Value} {s : Int → Int} {r : Rd} (h : RdSt W g og P dv s r) (u : Upd 0 0 W W') : RdSt W' g og P dv s r := ⟨HeldF.keep h.inn u, h.row.keep u, h.og⟩
theorem RdSt.kpO {W W' : World} {g og P c : Nat} {dv v : Value} {s : Int → Int} {r : Rd} (h : RdSt W g og P dv s r) (k : KpO c v W W') (h1 : g ≠ c) (h2 : og ≠ c) (h3 : some g ≠ v.ownBlock) (h4 : some og ≠ v.ownBlock) : RdSt W' g og P dv s r := ⟨HeldF.kpO h.inn k h1 h3, h.row.kpO k h2 h4, h.og⟩
set_option maxHeartbeats 16000000 in
set_option maxRecDepth 100000 in
theorem specOpen (P : Nat) (ad : Option Addr) (cap : Nat) (ds : List Int) (w : World) (hP : P ≤ 512) (hA : ArgY w ad ds) (hd : ByteOk ds) (hn : ds.length ≤ 1048576) :
    Calls Try.prog 89 #[.int .i64 (P : Int), .slice ad ds.length cap] w fun e w' => ∃ g, e = .returned (.pointer (some ⟨g, 0, none⟩)) ∧ RdSt w' g w.heap.size P (.slice ad ds.length cap) (fun _ => 2048) (openR ds) ∧ Below w.heap.size w w' := by
  have hS := hide (fun X => specL12Odds P X hP)
  have hok := hide (openK_ok ds hd)
  replace hA := hide hA
  go_enter Try.func89, Try.ntmps89
  go_wp2_with fail
  refine (unhide hS _).mono ?_
  rintro e w1 ⟨rfl, hrow, hb1⟩
  have hlt := hrow.lt
  have hal := (Below.refl w1.heap.size w1).alloc (Nat.le_refl _) (.cells #[.slice ad ds.length cap, .int .i64 0, .int .u64 0, .int .u64 4294967295, .slice (some ⟨w.heap.size, 0, none⟩) P P, .int .i64 0] 118)
  have hh := hide (heldF_new w1 [.slice ad ds.length cap, .int .i64 0, .int .u64 0, .int .u64 4294967295, .slice (some ⟨w.heap.size, 0, none⟩) P P, .int .i64 0] 118)
  have hrow2 := hide (hrow.keep (Upd.of_below hal 0 0))
  have hB2 := hide (hb1.trans (hal.mono hb1.size))
  clear hrow hb1 hal hS
  go_upto_region 2 with fail
  simp only [List.toArray] at hh
  generalize w1.alloc (.cells #[.slice ad ds.length cap, .int .i64 0, .int .u64 0, .int .u64 4294967295, .slice (some ⟨w.heap.size, 0, none⟩) P P, .int .i64 0] 118) = w2 at hh hrow2 hB2 ⊢
  generalize w1.heap.size = g at hh hlt ⊢
  have hSt := hide (show RdSt w2 g w.heap.size P (.slice ad ds.length cap) (fun _ => 2048) (openK ds 0) from ⟨unhide hh, unhide hrow2, hlt⟩)
  clear hh hrow2
  go_wp2_with fail
  go_loopw [6] (fun i wx => ∃ m : Nat, i = .int .i64 (m : Int) ∧ m ≤ 4 ∧ Hid (RdSt wx g w.heap.size P (.slice ad ds.length cap) (fun _ => 2048) (openK ds m)) ∧ Hid (Below w.heap.size w wx)) (fun i _ => 4 - (intOf i).toNat)
  case atStart => exact ⟨0, rfl, by omega, hSt, hB2⟩
  case round =>
    clear hSt hB2
    obtain ⟨m, rfl, hm, hSt, hB⟩ := hrel
    by_cases hm4 : m < 4
    · have t4 : decide ((m : Int) < 4) = true := decide_eq_true (by omega)
      obtain ⟨o1, o2, o3, o4, o5⟩ := unhide hok m (by omega)
      have o6 : (2 : Int) ^ (8 * m) ≤ 16777216 := by
        rcases (show m = 0 ∨ m = 1 ∨ m = 2 ∨ m = 3 by omega) with rfl | rfl | rfl | rfl <;> decide
      have hby := hide (specByte g ad cap ds _ (openK ds m) wr (unhide hSt).inn ((unhide hA).below (unhide hB)) hd hn o1 o2 (.inl (by omega)) (by omega))
      rw [← openK_succ] at hby
      clear o1 o2 o3 o4 o5 o6
      go_wp2_with fail
      refine (unhide hby).mono ?_
      rintro e w4 ⟨rfl, hO4, hu4⟩
      have hSt4 := hide (show RdSt w4 g w.heap.size P (.slice ad ds.length cap) (fun _ => 2048) (openK ds (m + 1)) from ⟨hO4, (unhide hSt).row.updS hu4 (by omega), hlt⟩)
      have hB4 := hide (below_upd (unhide hB) hu4 (Nat.le_refl _) (.inl (by omega)))
      clear hSt hB hO4 hu4 hby
      go_wp2_with fail
      go_roundw
      case rel => exact ⟨m + 1, by go_num, by omega, hSt4, hB4⟩
      case measure => simp [intOf]; omega
    · obtain rfl : m = 4 := by omega
      obtain ⟨o1, o2, o3, o4, o5⟩ := unhide hok 4 (by omega)
      have hE : Hid (openR ds = codeF (openK ds 4)) := hide rfl
      generalize openK ds 4 = r at hSt o1 o2 o3 o4 o5 hE
      obtain ⟨rng, code, at_, err⟩ := r
      simp only at o1 o2 o3 o4 o5
      subst o4
      have hh := hide (show HeldF wr g [.slice ad ds.length cap, .int .i64 (at_ : Int), .int .u64 code, .int .u64 4294967295, .slice (some ⟨w.heap.size, 0, none⟩) P P, .int .i64 err] from (unhide hSt).inn)
      have hrw := hide (unhide hSt).row
      clear hSt hok
      have e2 := (unhide hh).1.2 2 _ rfl
      have e3 := (unhide hh).1.2 3 _ rfl
      have e5 := (unhide hh).1.2 5 _ rfl
      have f5 := (unhide hh).2 5
      have hgw := (unhide hh).1.1
      by_cases he : err = 0
      · subst he
        by_cases hc : 4294967295 ≤ code
        · have t1 : decide (4294967295 ≤ code) = true := decide_eq_true hc
          have hE2 := hide (show openR ds = ⟨4294967295, code, at_, 4⟩ by rw [unhide hE]; unfold codeF; rw [if_pos ⟨rfl, hc⟩])
          clear hE hc
          go_wp2_with fail
          go_quiet (fail)
          rename_i nq
          have hX := Upd.of_below (below_drewN (Below.refl wr.heap.size wr) nq) 0 0
          have hh2 := hide ((unhide hh).keep hX)
          have hrw2 := hide ((unhide hrw).keep hX)
          have hB2 := hide (below_upd (unhide hB) hX (Nat.le_refl _) (.inr (Nat.le_refl _)))
          clear hX hh hrw hB e2 e3 e5 f5
          generalize wr.drewN nq = wd at hh2 hrw2 hB2 ⊢
          have e5 := (unhide hh2).1.2 5 _ rfl
          have f5 := (unhide hh2).2 5
          have hh3 := hide (show HeldF (wd.setCell ⟨g, 5, none⟩ (.int .i64 4)) g [.slice ad ds.length cap, .int .i64 (at_ : Int), .int .u64 code, .int .u64 4294967295, .slice (some ⟨w.heap.size, 0, none⟩) P P, .int .i64 4] from (unhide hh2).set 5 (.int .i64 4) (by simp))
          have hrw3 := hide ((unhide hrw2).other (c := g) (by omega) 5 (.int .i64 4))
          have hB3 := hide ((unhide hB2).setCell (p := ⟨g, 5, none⟩) (by simp; omega) (.int .i64 4))
          clear hh2 hrw2 hB2
          go_wp2
          go_ret
          exact ⟨g, rfl, ⟨by rw [unhide hE2]; exact unhide hh3, unhide hrw3, hlt⟩, unhide hB3⟩
        · have t1 : decide (4294967295 ≤ code) = false := decide_eq_false hc
          have hE2 := hide (show openR ds = ⟨4294967295, code, at_, 0⟩ by rw [unhide hE]; unfold codeF; rw [if_neg (fun h => hc h.2)])
          clear hE hc
          go_wp2_with fail
          go_quiet (fail)
          rename_i nq
          have hX := Upd.of_below (below_drewN (Below.refl wr.heap.size wr) nq) 0 0
          have hh2 := hide ((unhide hh).keep hX)
          have hrw2 := hide ((unhide hrw).keep hX)
          have hB2 := hide (below_upd (unhide hB) hX (Nat.le_refl _) (.inr (Nat.le_refl _)))
          clear hX hh hrw hB e2 e3 e5 f5
          generalize wr.drewN nq = wd at hh2 hrw2 hB2 ⊢
          go_wp2
          go_ret
          exact ⟨g, rfl, ⟨by rw [unhide hE2]; exact unhide hh2, unhide hrw2, hlt⟩, unhide hB2⟩
      · have t0 : (err == 0) = false := by simpa using he
        have hE2 := hide (show openR ds = ⟨4294967295, code, at_, err⟩ by rw [unhide hE]; unfold codeF; rw [if_neg (fun h => he h.1)])
        clear hE he
        go_wp2_with fail
        go_quiet (fail)
        rename_i nq
        have hX := Upd.of_below (below_drewN (Below.refl wr.heap.size wr) nq) 0 0
        have hh2 := hide ((unhide hh).keep hX)
        have hrw2 := hide ((unhide hrw).keep hX)
        have hB2 := hide (below_upd (unhide hB) hX (Nat.le_refl _) (.inr (Nat.le_refl _)))
        clear hX hh hrw hB e2 e3 e5 f5
        generalize wr.drewN nq = wd at hh2 hrw2 hB2 ⊢
        go_wp2
        go_ret
        exact ⟨g, rfl, ⟨by rw [unhide hE2]; exact unhide hh2, unhide hrw2, hlt⟩, unhide hB2⟩
end Go.Proofs.Ytocoeodoihdkgaa

/- Odds: the specification's reader of one bit. -/
namespace Go.Proofs.Ytocoeodoihdkgaa
open Go.RowKit

def rngLeftI (wr : World) (g : Nat) : Nat := match wr.cell? ⟨g, 3, none⟩ with | some (.int _ n) => if n < 16777216 then 1 else 0 | _ => 0
theorem rngLeftI_of {wr : World} {g : Nat} {dv ov : Value} {r : Rd} (h : InAt wr g dv ov r) : rngLeftI wr g = if r.rng < 16777216 then 1 else 0 := by
  unfold rngLeftI; rw [h.1.2 3 _ rfl]
theorem KpO.toUpd {g : Nat} {v : Value} {w w' : World} (u : Upd 0 0 w w') : KpO g v w w' := KpO.upd u
set_option maxHeartbeats 4000000 in
theorem specTakeBad (g : Nat) (dv ov : Value) (r : Rd) (p : Int) (W : World) (h : InAt W g dv ov r) (he : r.err ≠ 0) :
    Calls Try.prog 90 #[.pointer (some ⟨g, 0, none⟩), .int .i64 p] W fun e w' => e = .returned (.int .i64 0) ∧ w' = W := by
  have e5 := h.1.2 5 _ rfl
  have t : (r.err == 0) = false := by simpa using he
  generalize r.err = e at e5 t
  clear h he
  go_enter Try.func90, Try.ntmps90
  go_wp2
  go_ret
  exact ⟨rfl, rfl⟩
set_option maxHeartbeats 32000000 in
set_option maxRecDepth 100000 in
theorem specTake (g og P : Nat) (ad : Option Addr) (cap : Nat) (ds : List Int) (s : Int → Int) (r : Rd) (p : Nat) (W : World) (h : RdSt W g og P (.slice ad ds.length cap) s r) (hr : RdOk ds r) (he : r.err = 0) (hs : ∀ q, 31 ≤ s q ∧ s q ≤ 4065) (hp : p < P)
    (hA : ∀ X, KpO g (.slice (some ⟨og, 0, none⟩) P P) W X → ArgY X ad ds) (hd : ByteOk ds) (hn : ds.length ≤ 1048576) :
    Calls Try.prog 90 #[.pointer (some ⟨g, 0, none⟩), .int .i64 (p : Int)] W fun e w' => e = .returned (.int .i64 (bitOf r (s p))) ∧ RdSt w' g og P (.slice ad ds.length cap) (oddsSet s ((p : Int), bitOf r (s p))) (takeR ds r (s p)) ∧ KpO g (.slice (some ⟨og, 0, none⟩) P P) W w' := by
  obtain ⟨b1, b2, b3, b4, b5, b6⟩ := halfR_bd ds r (s p) hr he (hs p)
  have ha := hr.at0
  have hco := hr.code0
  have hc1 := hr.code1
  obtain ⟨g0, g1⟩ := hr.good he
  have hr1 := hr.rng1
  have hsp := split_bd r.rng (s p) (hs p) g0
  have hog := h.og
  have hcell := hide (oddsI_at P s p hp)
  have hput := hide (fun b X (hX : RowI X og P (oddsI P s)) => hX.learn ((p : Int), b) p rfl)
  have hLn := hide (fun b X => specL12Learn (s p) b (hs p) X)
  have hlb := hide (fun b => learnF_bd (s p) b (hs p))
  have htk : takeR ds r (s p) = wideR ds (halfR r (s p)) := rfl
  rw [htk]
  have hhf : halfR r (s p) = if r.code < splitF r.rng (s p) then ⟨splitF r.rng (s p), r.code, r.at_, r.err⟩ else ⟨r.rng - splitF r.rng (s p), r.code - splitF r.rng (s p), r.at_, r.err⟩ := rfl
  have hbt : bitOf r (s p) = if r.code < splitF r.rng (s p) then 0 else 1 := rfl
  have hsv : r.rng / 4096 * s p = splitF r.rng (s p) := rfl
  generalize halfR r (s p) = r1 at b1 b2 b3 b4 b5 b6 hhf ⊢
  generalize bitOf r (s p) = bt at hbt ⊢
  have hop := hs p
  generalize splitF r.rng (s p) = sv at hsp hhf hbt hsv
  clear htk hr hs
  generalize s p = o at hcell hput hLn hlb hsv hop
  obtain ⟨o0, o1⟩ := hop
  obtain ⟨rng, code, at_, err⟩ := r
  simp only at ha hco hc1 he g0 g1 hr1 hsp hhf hbt hsv b5
  subst he
  have hwo : IntKind.u64.wrap o = o := by simp [IntKind.wrap, IntKind.bits, IntKind.signed]; omega
  have hwm : IntKind.u64.wrap (rng / 4096 * o) = sv := by rw [hsv]; simp [IntKind.wrap, IntKind.bits, IntKind.signed]; omega
  have hh := hide (show HeldF W g [.slice ad ds.length cap, .int .i64 (at_ : Int), .int .u64 code, .int .u64 rng, .slice (some ⟨og, 0, none⟩) P P, .int .i64 0] from h.inn)
  have hrw := hide h.row
  have hpI : (p : Int) < (P : Int) := by omega
  have e5 := (unhide hh).1.2 5 _ rfl
  replace hA := hide hA
  replace hd := hide hd
  replace hwo := hide hwo
  replace hwm := hide hwm
  replace hsv := hide hsv
  clear h
  go_enter Try.func90, Try.ntmps90
  go_wp2_with fail
  clear e5
  have k3 := fun X : UpdT W => (((unhide hh).1.updT X).2 3 _ rfl)
  have k4 := fun X : UpdT W => (((unhide hh).1.updT X).2 4 _ rfl)
  have kq := fun X : UpdT W => ((((unhide hrw).keep X.upd).cell p hp).trans (unhide hcell))
  refine wq_region_tail 14 (by kernel_rfl) (by kernel_rfl) ?_
  simp only [List.take_succ_cons, List.take_zero, List.drop_succ_cons, List.drop_zero]
  iterate 14
    refine WQ.step (fun K hK => ?_)
    go_simp
    refine hK _ ?_
    clear hK K
  refine WQ.nil ?_
  rintro _ ⟨X, rfl⟩
  clear k3 k4 kq
  have hX := X.upd
  generalize X.to = w1 at hX ⊢
  have hh1 := hide ((unhide hh).keep hX)
  have hrw1 := hide ((unhide hrw).keep hX)
  have hk1 := hide (KpO.toUpd (g := g) (v := .slice (some ⟨og, 0, none⟩) P P) hX)
  clear hX hh hrw
  rw [unhide hwo, unhide hwm]
  have e2 := (unhide hh1).1.2 2 _ rfl
  have e3 := (unhide hh1).1.2 3 _ rfl
  have f2 := (unhide hh1).2 2
  have f3 := (unhide hh1).2 3
  by_cases hc : code < sv
  · have t : decide (code < sv) = true := decide_eq_true hc
    rw [if_pos hc] at hhf hbt
    have hR := hide hhf
    have hB := hide hbt
    clear hhf hbt hc
    go_upto_region 10 with fail
    have hh3 := hide (show HeldF (w1.setCell ⟨g, 3, none⟩ (.int .u64 sv)) g [.slice ad ds.length cap, .int .i64 (at_ : Int), .int .u64 code, .int .u64 sv, .slice (some ⟨og, 0, none⟩) P P, .int .i64 0] from (unhide hh1).set 3 (.int .u64 sv) (by simp))
    have hrw3 := hide ((unhide hrw1).other (c := g) (by omega) 3 (.int .u64 sv))
    have hk3 := hide ((unhide hk1).trans (FreshV.refl _ _) (KpO.head g 3 _ (.int .u64 sv) w1))
    clear hh1 hrw1 hk1
    generalize w1.setCell ⟨g, 3, none⟩ (.int .u64 sv) = w3 at hh3 hrw3 hk3 ⊢
    have hog2 : og ≠ g := by omega
    clear e2 e3 f2 f3
    have k4 := fun X : UpdT w3 => (((unhide hh3).1.updT X).2 4 _ rfl)
    have kq := fun X : UpdT w3 => ((((unhide hrw3).keep X.upd).cell p hp).trans (unhide hcell))
    have hLb := hide (unhide hLn 0)
    obtain ⟨l0, l1⟩ := unhide hlb 0
    have hpb := hide (unhide hput 0)
    obtain ⟨o2, ho2⟩ : ∃ o2, learnF o 0 = o2 := ⟨_, rfl⟩
    simp only [ho2] at hLb l0 l1 hpb
    replace ho2 := hide ho2
    clear hput hLn hlb
    go_wp2_with fail
    refine wq_region_tail 15 (by kernel_rfl) (by kernel_rfl) ?_
    simp only [List.take_succ_cons, List.take_zero, List.drop_succ_cons, List.drop_zero]
    iterate 13
      refine WQ.step (fun K hK => ?_)
      go_simp
      refine hK _ ?_
      clear hK K
    refine WQ.step (fun K hK => ?_)
    go_simp
    refine ⟨_, fun X => Calls.updT_same X (unhide hLb X.to), hK _ ?_⟩
    clear hK K
    refine WQ.step (fun K hK => ?_)
    go_simp
    refine hK _ ?_
    clear hK K
    refine WQ.nil ?_
    rintro _ ⟨X, rfl⟩
    clear k4 kq
    have hX := X.upd
    generalize X.to = w4 at hX ⊢
    have hh4 := (unhide hh3).keep hX
    have hrw4 := (unhide hrw3).keep hX
    have dq := (hrw4.cell p hp).trans (unhide hcell)
    have fq := hrw4.frozen p
    have hIn : Hid (InAt (w4.setCell ⟨og, p, none⟩ (.int .i64 o2)) g (.slice ad ds.length cap) (.slice (some ⟨og, 0, none⟩) P P) r1) := hide (by
      rw [unhide hR]; exact hh4.other hog2 p (.int .i64 o2))
    have hrw5 := hide (unhide hpb _ hrw4)
    have hk5 := hide ((unhide hk3).trans (FreshV.refl _ _) ((KpO.toUpd hX).trans (FreshV.refl _ _) (KpO.own (o := og) (j := p) (u := .int .i64 o2))))
    clear hX hh3 hrw3 hh4 hrw4 hk3 hpb hLb
    go_upto_region 11 with fail
    generalize w4.setCell ⟨og, p, none⟩ (.int .i64 o2) = w5 at hIn hrw5 hk5 ⊢
    clear dq fq
    obtain ⟨s2, hs2⟩ : ∃ s2, oddsSet s ((p : Int), 0) = s2 := ⟨_, rfl⟩
    rw [hs2] at hrw5
    replace hs2 := hide hs2
    go_loopw [67] (fun _ wr => ∃ (rr : Rd), (rr = r1 ∨ (r1.rng < 16777216 ∧ rr = wideR ds r1)) ∧ Hid (InAt wr g (.slice ad ds.length cap) (.slice (some ⟨og, 0, none⟩) P P) rr) ∧ Hid (RowI wr og P (oddsI P s2)) ∧ Hid (KpO g (.slice (some ⟨og, 0, none⟩) P P) W wr)) (fun _ wr => rngLeftI wr g)
    case atStart => exact ⟨r1, .inl rfl, hIn, hrw5, hk5⟩
    case round =>
      clear hIn hrw5 hk5
      obtain ⟨rr, hrr, hO, hrw, hkp⟩ := hrel
      have d3 := (unhide hO).1.2 3 _ rfl
      have d5 := (unhide hO).1.2 5 _ rfl
      have m3 := (unhide hO).2 3
      have hm0 := hide (rngLeftI_of (unhide hO))
      have hAr := hide (unhide hA _ (unhide hkp))
      by_cases hlt : r1.rng < 16777216
      · rcases hrr with rfl | ⟨_, rfl⟩
        · have t1 : decide (rr.rng < 16777216) = true := decide_eq_true hlt
          have t2 : (rr.err == 0) = true := by rw [b6]; rfl
          have hw : IntKind.u64.wrap (rr.rng * 256) = rr.rng * 256 := by simp [IntKind.wrap, IntKind.bits, IntKind.signed]; omega
          have hwd : Hid (byteF ds ⟨rr.rng * 256, rr.code, rr.at_, rr.err⟩ = wideR ds rr) := hide (by unfold wideR; rw [if_pos hlt])
          have hwl : Hid (rngLeftI wr g = 1) := hide (by rw [unhide hm0, if_pos hlt])
          have hw2 : Hid (16777216 ≤ (wideR ds rr).rng) := hide (by unfold wideR; rw [if_pos hlt]; unfold byteF; split <;> (simp only; omega))
          have hO2 := hide (show InAt (wr.setCell ⟨g, 3, none⟩ (.int .u64 (rr.rng * 256))) g (.slice ad ds.length cap) (.slice (some ⟨og, 0, none⟩) P P) ⟨rr.rng * 256, rr.code, rr.at_, rr.err⟩ from HeldF.set (unhide hO) 3 (.int .u64 (rr.rng * 256)) (by simp))
          have hrw2 := hide ((unhide hrw).other (c := g) (by omega) 3 (.int .u64 (rr.rng * 256)))
          have hk2 := hide ((unhide hkp).trans (FreshV.refl _ _) (KpO.head g 3 _ (.int .u64 (rr.rng * 256)) wr))
          have hcl : rr.code ≤ 16777215 := by omega
          have hltH := hide hlt
          have b6H := hide b6
          have hb5 : rr.at_ ≤ ds.length := by omega
          have her : -1 ≤ rr.err ∧ rr.err ≤ 10 := by rw [b6]; omega
          clear hO hrw hkp hm0 hlt b6 hAr
          go_upto_region 13 with fail
          generalize wr.setCell ⟨g, 3, none⟩ (.int .u64 (rr.rng * 256)) = w6 at hO2 hrw2 hk2 ⊢
          clear d3 d5 m3
          have hBy := hide (specByte g ad cap ds _ _ w6 (unhide hO2) (unhide hA _ (unhide hk2)) (unhide hd) hn hb5 b3 (.inl hcl) her)
          rw [unhide hwd] at hBy
          go_wp2_with fail
          refine (unhide hBy).mono ?_
          rintro e w7 ⟨rfl, hO7, hu7⟩
          have hrw7 := hide ((unhide hrw2).updS hu7 hog2)
          have hk7 := hide ((unhide hk2).trans (FreshV.refl _ _) (KpO.updS hu7))
          have hmm : Hid (rngLeftI w7 g = 0) := hide (by rw [rngLeftI_of hO7, if_neg (Int.not_lt.2 (unhide hw2))])
          replace hO7 := hide hO7
          have b6 := unhide b6H
          clear hu7 hO2 hrw2 hk2 hBy hw2 hwd
          go_wp2_with fail
          go_roundw
          case rel => exact ⟨wideR ds rr, .inr ⟨unhide hltH, rfl⟩, hO7, hrw7, hk7⟩
          case measure => rw [unhide hmm, unhide hwl]; omega
        · have hw2 : 16777216 ≤ (wideR ds r1).rng := by unfold wideR; rw [if_pos hlt]; unfold byteF; split <;> (simp only; omega)
          have t1 : decide ((wideR ds r1).rng < 16777216) = false := decide_eq_false (by omega)
          clear hm0 hlt hw2
          go_wp2
          go_ret
          exact ⟨by rw [unhide hB]; rfl, ⟨unhide hO, by rw [unhide hB, unhide hs2]; exact unhide hrw, hog⟩, unhide hkp⟩
      · have hrr2 : rr = r1 := by
          rcases hrr with h | ⟨h, _⟩
          · exact h
          · exact absurd h hlt
        subst hrr2
        have t1 : decide (rr.rng < 16777216) = false := decide_eq_false hlt
        have hwd : Hid (wideR ds rr = rr) := hide (by unfold wideR; rw [if_neg hlt])
        clear hm0 hlt hrr
        go_wp2
        go_ret
        exact ⟨by rw [unhide hB]; rfl, ⟨by rw [unhide hwd]; exact unhide hO, by rw [unhide hB, unhide hs2]; exact unhide hrw, hog⟩, unhide hkp⟩
  · have t : decide (code < sv) = false := decide_eq_false hc
    rw [if_neg hc] at hhf hbt
    have hR := hide hhf
    have hB := hide hbt
    have hwc : IntKind.u64.wrap (code - sv) = code - sv := by simp [IntKind.wrap, IntKind.bits, IntKind.signed]; omega
    have hwr : IntKind.u64.wrap (rng - sv) = rng - sv := by simp [IntKind.wrap, IntKind.bits, IntKind.signed]; omega
    clear hhf hbt hc
    go_upto_region 9 with fail
    have hh2 := hide (show HeldF (w1.setCell ⟨g, 2, none⟩ (.int .u64 (code - sv))) g [.slice ad ds.length cap, .int .i64 (at_ : Int), .int .u64 (code - sv), .int .u64 rng, .slice (some ⟨og, 0, none⟩) P P, .int .i64 0] from (unhide hh1).set 2 (.int .u64 (code - sv)) (by simp))
    have hrw2 := hide ((unhide hrw1).other (c := g) (by omega) 2 (.int .u64 (code - sv)))
    have hk2 := hide ((unhide hk1).trans (FreshV.refl _ _) (KpO.head g 2 _ (.int .u64 (code - sv)) w1))
    clear hh1 hrw1 hk1 e2 e3 f2 f3
    generalize w1.setCell ⟨g, 2, none⟩ (.int .u64 (code - sv)) = w2 at hh2 hrw2 hk2 ⊢
    have e2 := (unhide hh2).1.2 2 _ rfl
    have e3 := (unhide hh2).1.2 3 _ rfl
    have f2 := (unhide hh2).2 2
    have f3 := (unhide hh2).2 3
    go_upto_region 10 with fail
    have hh3 := hide (show HeldF (w2.setCell ⟨g, 3, none⟩ (.int .u64 (rng - sv))) g [.slice ad ds.length cap, .int .i64 (at_ : Int), .int .u64 (code - sv), .int .u64 (rng - sv), .slice (some ⟨og, 0, none⟩) P P, .int .i64 0] from (unhide hh2).set 3 (.int .u64 (rng - sv)) (by simp))
    have hrw3 := hide ((unhide hrw2).other (c := g) (by omega) 3 (.int .u64 (rng - sv)))
    have hk3 := hide ((unhide hk2).trans (FreshV.refl _ _) (KpO.head g 3 _ (.int .u64 (rng - sv)) w2))
    clear hh2 hrw2 hk2
    generalize w2.setCell ⟨g, 3, none⟩ (.int .u64 (rng - sv)) = w3 at hh3 hrw3 hk3 ⊢
    have hog2 : og ≠ g := by omega
    clear e2 e3 f2 f3
    have k4 := fun X : UpdT w3 => (((unhide hh3).1.updT X).2 4 _ rfl)
    have kq := fun X : UpdT w3 => ((((unhide hrw3).keep X.upd).cell p hp).trans (unhide hcell))
    have hLb := hide (unhide hLn 1)
    obtain ⟨l0, l1⟩ := unhide hlb 1
    have hpb := hide (unhide hput 1)
    obtain ⟨o2, ho2⟩ : ∃ o2, learnF o 1 = o2 := ⟨_, rfl⟩
    simp only [ho2] at hLb l0 l1 hpb
    replace ho2 := hide ho2
    clear hput hLn hlb
    go_wp2_with fail
    refine wq_region_tail 15 (by kernel_rfl) (by kernel_rfl) ?_
    simp only [List.take_succ_cons, List.take_zero, List.drop_succ_cons, List.drop_zero]
    iterate 13
      refine WQ.step (fun K hK => ?_)
      go_simp
      refine hK _ ?_
      clear hK K
    refine WQ.step (fun K hK => ?_)
    go_simp
    refine ⟨_, fun X => Calls.updT_same X (unhide hLb X.to), hK _ ?_⟩
    clear hK K
    refine WQ.step (fun K hK => ?_)
    go_simp
    refine hK _ ?_
    clear hK K
    refine WQ.nil ?_
    rintro _ ⟨X, rfl⟩
    clear k4 kq
    have hX := X.upd
    generalize X.to = w4 at hX ⊢
    have hh4 := (unhide hh3).keep hX
    have hrw4 := (unhide hrw3).keep hX
    have dq := (hrw4.cell p hp).trans (unhide hcell)
    have fq := hrw4.frozen p
    have hIn : Hid (InAt (w4.setCell ⟨og, p, none⟩ (.int .i64 o2)) g (.slice ad ds.length cap) (.slice (some ⟨og, 0, none⟩) P P) r1) := hide (by
      rw [unhide hR]; exact hh4.other hog2 p (.int .i64 o2))
    have hrw5 := hide (unhide hpb _ hrw4)
    have hk5 := hide ((unhide hk3).trans (FreshV.refl _ _) ((KpO.toUpd hX).trans (FreshV.refl _ _) (KpO.own (o := og) (j := p) (u := .int .i64 o2))))
    clear hX hh3 hrw3 hh4 hrw4 hk3 hpb hLb
    go_upto_region 11 with fail
    generalize w4.setCell ⟨og, p, none⟩ (.int .i64 o2) = w5 at hIn hrw5 hk5 ⊢
    clear dq fq
    obtain ⟨s2, hs2⟩ : ∃ s2, oddsSet s ((p : Int), 1) = s2 := ⟨_, rfl⟩
    rw [hs2] at hrw5
    replace hs2 := hide hs2
    go_loopw [67] (fun _ wr => ∃ (rr : Rd), (rr = r1 ∨ (r1.rng < 16777216 ∧ rr = wideR ds r1)) ∧ Hid (InAt wr g (.slice ad ds.length cap) (.slice (some ⟨og, 0, none⟩) P P) rr) ∧ Hid (RowI wr og P (oddsI P s2)) ∧ Hid (KpO g (.slice (some ⟨og, 0, none⟩) P P) W wr)) (fun _ wr => rngLeftI wr g)
    case atStart => exact ⟨r1, .inl rfl, hIn, hrw5, hk5⟩
    case round =>
      clear hIn hrw5 hk5
      obtain ⟨rr, hrr, hO, hrw, hkp⟩ := hrel
      have d3 := (unhide hO).1.2 3 _ rfl
      have d5 := (unhide hO).1.2 5 _ rfl
      have m3 := (unhide hO).2 3
      have hm0 := hide (rngLeftI_of (unhide hO))
      have hAr := hide (unhide hA _ (unhide hkp))
      by_cases hlt : r1.rng < 16777216
      · rcases hrr with rfl | ⟨_, rfl⟩
        · have t1 : decide (rr.rng < 16777216) = true := decide_eq_true hlt
          have t2 : (rr.err == 0) = true := by rw [b6]; rfl
          have hw : IntKind.u64.wrap (rr.rng * 256) = rr.rng * 256 := by simp [IntKind.wrap, IntKind.bits, IntKind.signed]; omega
          have hwd : Hid (byteF ds ⟨rr.rng * 256, rr.code, rr.at_, rr.err⟩ = wideR ds rr) := hide (by unfold wideR; rw [if_pos hlt])
          have hwl : Hid (rngLeftI wr g = 1) := hide (by rw [unhide hm0, if_pos hlt])
          have hw2 : Hid (16777216 ≤ (wideR ds rr).rng) := hide (by unfold wideR; rw [if_pos hlt]; unfold byteF; split <;> (simp only; omega))
          have hO2 := hide (show InAt (wr.setCell ⟨g, 3, none⟩ (.int .u64 (rr.rng * 256))) g (.slice ad ds.length cap) (.slice (some ⟨og, 0, none⟩) P P) ⟨rr.rng * 256, rr.code, rr.at_, rr.err⟩ from HeldF.set (unhide hO) 3 (.int .u64 (rr.rng * 256)) (by simp))
          have hrw2 := hide ((unhide hrw).other (c := g) (by omega) 3 (.int .u64 (rr.rng * 256)))
          have hk2 := hide ((unhide hkp).trans (FreshV.refl _ _) (KpO.head g 3 _ (.int .u64 (rr.rng * 256)) wr))
          have hcl : rr.code ≤ 16777215 := by omega
          have hltH := hide hlt
          have b6H := hide b6
          have hb5 : rr.at_ ≤ ds.length := by omega
          have her : -1 ≤ rr.err ∧ rr.err ≤ 10 := by rw [b6]; omega
          clear hO hrw hkp hm0 hlt b6 hAr
          go_upto_region 13 with fail
          generalize wr.setCell ⟨g, 3, none⟩ (.int .u64 (rr.rng * 256)) = w6 at hO2 hrw2 hk2 ⊢
          clear d3 d5 m3
          have hBy := hide (specByte g ad cap ds _ _ w6 (unhide hO2) (unhide hA _ (unhide hk2)) (unhide hd) hn hb5 b3 (.inl hcl) her)
          rw [unhide hwd] at hBy
          go_wp2_with fail
          refine (unhide hBy).mono ?_
          rintro e w7 ⟨rfl, hO7, hu7⟩
          have hrw7 := hide ((unhide hrw2).updS hu7 hog2)
          have hk7 := hide ((unhide hk2).trans (FreshV.refl _ _) (KpO.updS hu7))
          have hmm : Hid (rngLeftI w7 g = 0) := hide (by rw [rngLeftI_of hO7, if_neg (Int.not_lt.2 (unhide hw2))])
          replace hO7 := hide hO7
          have b6 := unhide b6H
          clear hu7 hO2 hrw2 hk2 hBy hw2 hwd
          go_wp2_with fail
          go_roundw
          case rel => exact ⟨wideR ds rr, .inr ⟨unhide hltH, rfl⟩, hO7, hrw7, hk7⟩
          case measure => rw [unhide hmm, unhide hwl]; omega
        · have hw2 : 16777216 ≤ (wideR ds r1).rng := by unfold wideR; rw [if_pos hlt]; unfold byteF; split <;> (simp only; omega)
          have t1 : decide ((wideR ds r1).rng < 16777216) = false := decide_eq_false (by omega)
          clear hm0 hlt hw2
          go_wp2
          go_ret
          exact ⟨by rw [unhide hB]; rfl, ⟨unhide hO, by rw [unhide hB, unhide hs2]; exact unhide hrw, hog⟩, unhide hkp⟩
      · have hrr2 : rr = r1 := by
          rcases hrr with h | ⟨h, _⟩
          · exact h
          · exact absurd h hlt
        subst hrr2
        have t1 : decide (rr.rng < 16777216) = false := decide_eq_false hlt
        have hwd : Hid (wideR ds rr = rr) := hide (by unfold wideR; rw [if_neg hlt])
        clear hm0 hlt hrr
        go_wp2
        go_ret
        exact ⟨by rw [unhide hB]; rfl, ⟨by rw [unhide hwd]; exact unhide hO, by rw [unhide hB, unhide hs2]; exact unhide hrw, hog⟩, unhide hkp⟩
end Go.Proofs.Ytocoeodoihdkgaa

/- Append of one byte to a row that a struct tells, as a step of a region that draws its order. -/
namespace Go.Proofs.Ytocoeodoihdkgaa
open Go.RowKit

theorem step_appT {ops : Array Oper} {o : Oper} {a : Act} {wc w : World} {K : Act → World → Prop} {Q : Exit → Act → World → Prop} {E : Prop}
    (hgd : o.guard = none) (s x : Operand) (ho : o.op = .call { callee := .builtin .append, args := #[s, x], argTypes := #[22, 22] })
    (g base : Nat) (v : Value) (xs : List Int) (cs : List Value) (y : Int) (hh : HeldF wc g cs) (hrow : TRow wc base v xs) (hg : g < base) (hn : xs.length ≤ 1048576) (hb : base ≤ wc.heap.size) (hu : Upd 0 0 wc w)
    (hs : a.eval s = v) (b c : Nat) (hx : a.eval x = .slice (some ⟨b, 0, none⟩) 1 c) (hc : w.cell? ⟨b, 0, none⟩ = some (.int .u8 y))
    (hK : ∀ ad cp w', TRow w' base (.slice ad (xs.length + 1) cp) (xs ++ [y]) → HeldF w' g cs → KpO g v wc w' → FreshV wc v (.slice ad (xs.length + 1) cp) → K (a.put o.dst (.slice ad (xs.length + 1) cp)) w') :
    if Region.wanted o (yielded ops a.tmps) = true then Oper.wp Try.prog o a w K Q else E := by
  have hw : Region.wanted o (yielded ops a.tmps) = true := by simp [Region.wanted, hgd]
  rw [if_pos hw]
  obtain ⟨i0, hi0, hz0, hz1, hz2⟩ := info_parts infoB
  have hrow' : TRow w base v xs := hrow.upd hu
  obtain ⟨v', w', hr, h2, h3, h4, h5⟩ := run_append_own_at (P := Try.prog) w base 22 o.type 5 i0 (.int .u8 0) 1 1 Try.underlying22 hi0 hz0 hz1 hz2 rfl (by decide) v xs.length (byts xs) hrow' ⟨b, 0, none⟩ 1 c [.int .u8 y] rfl
    (fun j u hj => by
      match j, hj with
      | 0, hj => simp at hj; subst hj; simpa [Addr.add] using hc)
    (fun u hu' => by simp at hu'; subst hu'; rfl) (by unfold maxLen; omega) (by omega) (by have := hu.size; omega)
  obtain ⟨ad, cp, rfl⟩ : ∃ ad cp, v' = .slice ad (xs.length + 1) cp := by
    obtain ⟨g', c', e⟩ := ownsRow_succ h2
    exact ⟨_, _, e⟩
  unfold Oper.wp execOp
  simp only [ho, resolve, invoke, builtin, Sem.run_bind, Sem.run_pure, Result.andThen_ok, List.map_toArray, List.map_cons, List.map_nil, hs, hx, hr]
  have hgn : some g ≠ v.ownBlock := fun e => by have := (hrow.block g e.symm).1; omega
  have hk1 : KpO g v w w' := KpO.grown h3
  have hk : KpO g v wc w' := KpO.trans (KpO.upd hu) (FreshV.refl _ _) hk1
  refine hK ad cp w' (by unfold TRow; rw [List.length_append, byts_append]; exact h2) ?_ hk (fun b' hb' => ?_)
  · have hhw := hh.keep hu
    have hb2 := h3.block g hhw.1.1 hgn
    exact ⟨⟨Nat.lt_of_lt_of_le hhw.1.1 h3.size, fun j u hj => (World.cell?_of_block (a := ⟨g, j, none⟩) hb2).trans (hhw.1.2 j u hj)⟩, fun j => (World.frozen?_of_block (a := ⟨g, j, none⟩) hb2).trans (hhw.2 j)⟩
  · rcases h5 with e | e
    · exact .inl (e.symm.trans hb')
    · rw [e] at hb'
      have := hu.size
      simp only [Option.some.injEq] at hb'
      exact .inr (by omega)
theorem TRow.empty (w : World) (base : Nat) : TRow w base (.slice none 0 0) [] := World.ownsRow_nil _ _ _ _
end Go.Proofs.Ytocoeodoihdkgaa

/- Steps of regions that draw their order: a call told by what holds behind it; a number appended to a row. -/
namespace Go.Proofs.Ytocoeodoihdkgaa
open Go.RowKit

theorem step_wanted {ops : Array Oper} {o : Oper} {a : Act} {w : World} {K : Act → World → Prop} {Q : Exit → Act → World → Prop} {E : Prop}
    (hgd : o.guard = none) (h : Oper.wp Try.prog o a w K Q) : if Region.wanted o (yielded ops a.tmps) = true then Oper.wp Try.prog o a w K Q else E := by
  have hw : Region.wanted o (yielded ops a.tmps) = true := by simp [Region.wanted, hgd]
  rw [if_pos hw]
  exact h
/-- The row of numbers told. -/
def NRow (w : World) (base : Nat) (v : Value) (xs : List Int) : Prop := w.ownsRow base 3 1 v xs.length (ints xs)
theorem NRow.block {w : World} {base : Nat} {v : Value} {xs : List Int} (h : NRow w base v xs) : ∀ b, v.ownBlock = some b → base ≤ b ∧ b < w.heap.size := fun b hb => (World.ownsRow.lt h b hb)
theorem NRow.kept {w w' : World} {base : Nat} {v : Value} {xs : List Int} (h : NRow w base v xs) (hb : ∀ b, v.ownBlock = some b → w'.heap[b]? = w.heap[b]?) : NRow w' base v xs := by
  obtain ⟨h1, h2⟩ := (show w.ownsRow base 3 1 v xs.length (ints xs) from h)
  refine ⟨h1, ?_⟩
  rcases h2 with h2 | ⟨g', cap, cur, rfl, hg, hh, r⟩
  · exact .inl h2
  · exact .inr ⟨g', cap, cur, rfl, hg, (hb g' rfl).trans hh, r⟩
theorem NRow.upd {w w' : World} {base : Nat} {v : Value} {xs : List Int} (h : NRow w base v xs) (u : Upd 0 0 w w') : NRow w' base v xs := h.kept fun b hb => u.block b (h.block b hb).2 (.inr (Nat.zero_le _))
theorem NRow.head {w : World} {base g j : Nat} {v u : Value} {xs : List Int} (h : NRow w base v xs) (hg : g < base) : NRow (w.setCell ⟨g, j, none⟩ u) base v xs :=
  h.kept fun b hb => Below.heap_setCell w ⟨g, j, none⟩ u b (by have := (h.block b hb).1; simp; omega)
theorem step_appN {ops : Array Oper} {o : Oper} {a : Act} {wc w : World} {K : Act → World → Prop} {Q : Exit → Act → World → Prop} {E : Prop}
    (hgd : o.guard = none) (s x : Operand) (ho : o.op = .call { callee := .builtin .append, args := #[s, x], argTypes := #[23, 23] })
    (g base : Nat) (v : Value) (xs : List Int) (cs : List Value) (y : Int) (hh : HeldF wc g cs) (hrow : NRow wc base v xs) (hg : g < base) (hn : xs.length ≤ 1048576) (hb : base ≤ wc.heap.size) (hu : Upd 0 0 wc w)
    (hs : a.eval s = v) (b c : Nat) (hx : a.eval x = .slice (some ⟨b, 0, none⟩) 1 c) (hc : w.cell? ⟨b, 0, none⟩ = some (.int .i64 y))
    (hK : ∀ ad cp w', NRow w' base (.slice ad (xs.length + 1) cp) (xs ++ [y]) → HeldF w' g cs → KpO g v wc w' → FreshV wc v (.slice ad (xs.length + 1) cp) → K (a.put o.dst (.slice ad (xs.length + 1) cp)) w') :
    if Region.wanted o (yielded ops a.tmps) = true then Oper.wp Try.prog o a w K Q else E := by
  have hw : Region.wanted o (yielded ops a.tmps) = true := by simp [Region.wanted, hgd]
  rw [if_pos hw]
  obtain ⟨i0, hi0, hz0, hz1, hz2⟩ := info_parts infoI
  have hrow' : NRow w base v xs := hrow.upd hu
  obtain ⟨v', w', hr, h2, h3, h4, h5⟩ := run_append_own_at (P := Try.prog) w base 23 o.type 3 i0 (.int .i64 0) 1 8 Try.underlying23 hi0 hz0 hz1 hz2 rfl (by decide) v xs.length (ints xs) hrow' ⟨b, 0, none⟩ 1 c [.int .i64 y] rfl
    (fun j u hj => by
      match j, hj with
      | 0, hj => simp at hj; subst hj; simpa [Addr.add] using hc)
    (fun u hu' => by simp at hu'; subst hu'; rfl) (by unfold maxLen; omega) (by omega) (by have := hu.size; omega)
  obtain ⟨ad, cp, rfl⟩ : ∃ ad cp, v' = .slice ad (xs.length + 1) cp := by
    obtain ⟨g', c', e⟩ := ownsRow_succ h2
    exact ⟨_, _, e⟩
  unfold Oper.wp execOp
  simp only [ho, resolve, invoke, builtin, Sem.run_bind, Sem.run_pure, Result.andThen_ok, List.map_toArray, List.map_cons, List.map_nil, hs, hx, hr]
  have hgn : some g ≠ v.ownBlock := fun e => by have := (hrow.block g e.symm).1; omega
  have hk1 : KpO g v w w' := KpO.grown h3
  have hk : KpO g v wc w' := KpO.trans (KpO.upd hu) (FreshV.refl _ _) hk1
  refine hK ad cp w' (by unfold NRow ints; rw [List.length_append, List.map_append]; exact h2) ?_ hk (fun b' hb' => ?_)
  · have hhw := hh.keep hu
    have hb2 := h3.block g hhw.1.1 hgn
    exact ⟨⟨Nat.lt_of_lt_of_le hhw.1.1 h3.size, fun j u hj => (World.cell?_of_block (a := ⟨g, j, none⟩) hb2).trans (hhw.1.2 j u hj)⟩, fun j => (World.frozen?_of_block (a := ⟨g, j, none⟩) hb2).trans (hhw.2 j)⟩
  · rcases h5 with e | e
    · exact .inl (e.symm.trans hb')
    · rw [e] at hb'
      have := hu.size
      simp only [Option.some.injEq] at hb'
      exact .inr (by omega)
end Go.Proofs.Ytocoeodoihdkgaa

/- Chosens as arguments and answers; the walks of the laws' own helpers on them. -/
namespace Go.Proofs.Ytocoeodoihdkgaa
open Go.RowKit

abbrev Cn := Int × List Int × Int
abbrev Cnv (d : Cn) (v0 : Value) : Value := .agg #[.int .i64 d.1, v0, .int .i64 d.2.2]
def RdCn (w : World) (v : Value) (d : Cn) : Prop := ∃ v0, v = Cnv d v0 ∧ RdI w v0 d.2.1
def OwnCn (w : World) (a b : Nat) (v : Value) (d : Cn) : Prop := ∃ v0, v = Cnv d v0 ∧ OwnI w a b v0 d.2.1
theorem OwnCn.rd {w : World} {a b : Nat} {v : Value} {d : Cn} (h : OwnCn w a b v d) : RdCn w v d := by
  obtain ⟨v0, rfl, h0⟩ := h
  exact ⟨v0, rfl, h0.rd⟩
theorem RdCn.below {w w' : World} {v : Value} {d : Cn} (h : RdCn w v d) (hb : Below w.heap.size w w') : RdCn w' v d := by
  obtain ⟨v0, rfl, h0⟩ := h
  exact ⟨v0, rfl, h0.below hb⟩
theorem OwnCn.upd {w w' : World} {a b c e : Nat} {v : Value} {d : Cn} (h : OwnCn w a b v d) (u : Upd c e w w') (hd : b ≤ c ∨ e ≤ a) : OwnCn w' a b v d := by
  obtain ⟨v0, rfl, h0⟩ := h
  exact ⟨v0, rfl, h0.upd u (by omega)⟩
theorem OwnCn.keep {w w' : World} {a b : Nat} {v : Value} {d : Cn} (h : OwnCn w a b v d) (u : Upd 0 0 w w') : OwnCn w' a b v d := h.upd u (.inr (Nat.zero_le _))
theorem OwnCn.form {w : World} {a b : Nat} {v : Value} {d : Cn} (h : OwnCn w a b v d) : ∃ ad0 cap0, v = Cnv d (.slice ad0 d.2.1.length cap0) := by
  obtain ⟨v0, rfl, h0⟩ := h
  obtain ⟨ad0, cap0, rfl, _⟩ := h0.rd
  exact ⟨ad0, cap0, rfl⟩
/-- All numbers fit. -/
def InCn (d : Cn) : Prop := (-9223372036854775808 ≤ d.1 ∧ d.1 ≤ 9223372036854775807) ∧ InI d.2.1 ∧ (-9223372036854775808 ≤ d.2.2 ∧ d.2.2 ≤ 9223372036854775807)
def CnSize (d : Cn) : Nat := d.2.1.length
def CnCount (d : Cn) : Nat := d.2.1.length

set_option maxHeartbeats 4000000 in
set_option maxRecDepth 100000 in
theorem eqChosen_rd (u v : Value) (d : Cn) (w : World) (hn : CnSize d ≤ 1048576) (hu : RdCn w u d) (hv : RdCn w v d) :
    Calls Try.prog 49 #[u, v] w fun e w' => e = .returned (.bool true) ∧ Upd 0 0 w w' := by
  obtain ⟨p0, rfl, hu0⟩ := hu
  obtain ⟨v0, rfl, hv0⟩ := hv
  obtain ⟨x0, zs0, x1⟩ := d
  simp only [Cnv, CnSize] at hn ⊢
  have hn0 : zs0.length ≤ 1048576 := by omega
  replace hu0 := hide hu0
  replace hv0 := hide hv0
  have hB0 := ((Below.refl w.heap.size w).alloc (Nat.le_refl _) (.cells #[.int .i64 x0, p0, .int .i64 x1] 40)).alloc (by simp) (.cells #[.int .i64 x0, v0, .int .i64 x1] 40)
  have hbx0 := (heldF_new w [.int .i64 x0, p0, .int .i64 x1] 40).keep (Upd.of_below ((Below.refl _ _).alloc (Nat.le_refl _) (.cells #[.int .i64 x0, v0, .int .i64 x1] 40)) 0 0)
  have hby0 := heldF_new (w.alloc (.cells #[.int .i64 x0, p0, .int .i64 x1] 40)) [.int .i64 x0, v0, .int .i64 x1] 40
  have e1 : (w.alloc (.cells #[.int .i64 x0, p0, .int .i64 x1] 40)).heap.size = w.heap.size + 1 := by simp
  rw [e1] at hby0
  clear e1
  go_enter Try.func49, Try.ntmps49
  go_wp2_with fail
  generalize (w.alloc (.cells #[.int .i64 x0, p0, .int .i64 x1] 40)).alloc (.cells #[.int .i64 x0, v0, .int .i64 x1] 40) = w0 at hbx0 hby0 hB0 ⊢
  have hbx := hide hbx0
  have hby := hide hby0
  have hB := hide hB0
  clear hbx0 hby0 hB0
  refine (eqIntS_rd _ _ zs0 w0 hn0 ((unhide hu0).below (unhide hB)) ((unhide hv0).below (unhide hB))).mono ?_
  rintro e w1 ⟨rfl, hu⟩
  replace hbx := hide ((unhide hbx).keep hu)
  replace hby := hide ((unhide hby).keep hu)
  replace hB := hide (below_upd (unhide hB) hu (Nat.le_refl _) (.inr (Nat.le_refl _)))
  clear hu
  have cb0 := (unhide hbx).1.2 0 _ rfl
  have cd0 := (unhide hby).1.2 0 _ rfl
  have cb1 := (unhide hbx).1.2 1 _ rfl
  have cd1 := (unhide hby).1.2 1 _ rfl
  have cb2 := (unhide hbx).1.2 2 _ rfl
  have cd2 := (unhide hby).1.2 2 _ rfl
  go_wp2
  go_ret
  exact ⟨rfl, Upd.of_below (unhide hB) 0 0⟩

end Go.Proofs.Ytocoeodoihdkgaa

/- Odds: the specification's OddsUnpack. -/
namespace Go.Proofs.Ytocoeodoihdkgaa
open Go.RowKit

theorem unpB_iff (places : Int) (ps : List Int) : unpB places ps = true ↔ (1 ≤ places ∧ places ≤ 512) ∧ ps.length ≤ 20000 ∧ PsOk places ps := by
  unfold unpB
  simp only [Bool.and_eq_true, decide_eq_true_eq, psB_iff, and_assoc]
theorem unpB_no {places : Int} {ds ps : List Int} (h : ¬ ((1 ≤ places ∧ places ≤ 512) ∧ ps.length ≤ 20000 ∧ PsOk places ps)) : oddsUnpack places ds ps = (1, [], 0) := by
  unfold oddsUnpack
  rw [if_neg (fun h' => h ((unpB_iff _ _).1 h'))]
abbrev ans0 (e n : Int) : Value := .agg #[.int .i64 e, .slice none 0 0, .int .i64 n]
theorem own_ans (w : World) (a b : Nat) (e n : Int) : OwnCn w a b (ans0 e n) (e, [], n) := ⟨.slice none 0 0, rfl, World.ownsRow_nil _ _ _ _, fun k hk => by simp [Value.ownBlock] at hk⟩
set_option maxHeartbeats 16000000 in
set_option maxRecDepth 100000 in
theorem specOddsUnpackBad (p : Int) (v1 : Value) (ds : List Int) (ad : Option Addr) (cap : Nat) (ps : List Int) (w : World) (hn : ps.length ≤ 1048576) (hA : ArgI w ad ps) (hbad : ¬ ((1 ≤ p ∧ p ≤ 512) ∧ ps.length ≤ 20000 ∧ PsOk p ps)) :
    Calls Try.prog 47 #[.int .i64 p, v1, .slice ad ps.length cap] w fun e w' => ∃ u, e = .returned u ∧ OwnCn w' w.heap.size w'.heap.size u (oddsUnpack p ds ps) ∧ Upd 0 0 w w' := by
  rw [unpB_no hbad]
  have hB0 := hide ((Below.refl w.heap.size w).alloc (Nat.le_refl _) (.cells #[.int .i64 0, .slice none 0 0, .int .i64 0] 40))
  have hh0 := hide (heldF_new w [.int .i64 0, .slice none 0 0, .int .i64 0] 40)
  by_cases h1 : 1 ≤ p ∧ p ≤ 512 ∧ ps.length ≤ 20000
  case neg =>
    have hE : Hid (∀ X, OwnCn X w.heap.size X.heap.size (ans0 1 0) (1, [], 0)) := hide (fun X => own_ans X _ _ 1 0)
    clear hbad hA
    rcases (show p < 1 ∨ (1 ≤ p ∧ 512 < p) ∨ (1 ≤ p ∧ p ≤ 512 ∧ 20000 < ps.length) by omega) with h | ⟨h, h'⟩ | ⟨h, h', h''⟩
    all_goals
      clear h1
      go_enter Try.func47, Try.ntmps47
      go_upto_region 1 with fail
      simp only [List.toArray] at hh0
      generalize w.alloc (.cells #[.int .i64 0, .slice none 0 0, .int .i64 0] 40) = w0 at hB0 hh0 ⊢
      have z0 := (unhide hh0).1.2 0 _ rfl
      have z1 := (unhide hh0).1.2 1 _ rfl
      have z2 := (unhide hh0).1.2 2 _ rfl
      have y0 := (unhide hh0).2 0
      have y1 := (unhide hh0).2 1
      have y2 := (unhide hh0).2 2
      go_wp2
      refine bodyPost_ret (v := ans0 1 0) (by simp [results, Try.results47, go_sem, z0, z1, z2]) rfl ⟨_, rfl, unhide hE _, Upd.of_below ((((unhide hB0).setCell (by simp) _).setCell (by simp) _).setCell (by simp) _) 0 0⟩
  obtain ⟨a1, a2, a3⟩ := h1
  have hps : ¬ PsOk p ps := fun h => hbad ⟨⟨a1, a2⟩, a3, h⟩
  clear hbad
  replace hA := hide hA
  replace hps := hide hps
  have hE : Hid (∀ X, OwnCn X w.heap.size X.heap.size (ans0 1 0) (1, [], 0)) := hide (fun X => own_ans X _ _ 1 0)
  go_enter Try.func47, Try.ntmps47
  go_upto_region 1 with fail
  simp only [List.toArray] at hh0
  generalize w.alloc (.cells #[.int .i64 0, .slice none 0 0, .int .i64 0] 40) = w0 at hB0 hh0 ⊢
  go_wp2_with fail
  go_loopw [8, 27] (fun _ i wr => ∃ j : Nat, i = .int .i64 (j : Int) ∧ j ≤ ps.length ∧ Hid (∀ k, k < j → 0 ≤ ps.getD k 0 ∧ ps.getD k 0 < p) ∧ w0 = wr) (fun _ i _ => ps.length - (intOf i).toNat)
  case atStart => exact ⟨0, rfl, by omega, hide (fun k hk => by omega), rfl⟩
  case round =>
    obtain ⟨j, rfl, hj, hst, rfl⟩ := hrel
    by_cases hjl : j < ps.length
    · obtain ⟨bb, off, rfl, hbl, hcl⟩ := (unhide hA) (ne_of_lt_length hjl)
      have c0 := hcl j hjl
      have hx : ps.getD j 0 = ps.getD j 0 := rfl
      generalize hx : ps.getD j 0 = x at c0
      have c0 : w0.cell? ⟨bb, off + j, none⟩ = some (.int .i64 x) := ((unhide hB0).cell (by simpa using hbl)).trans c0
      have kI : decide ((j : Int) < (ps.length : Int)) = true := decide_eq_true (by omega)
      replace hA := hide hA
      clear hcl
      rcases (show x < 0 ∨ (0 ≤ x ∧ p ≤ x) ∨ (0 ≤ x ∧ x < p) by omega) with h | ⟨h, h'⟩ | ⟨h, h'⟩
      case inr.inr =>
        have hst2 := hide (show ∀ k, k < j + 1 → 0 ≤ ps.getD k 0 ∧ ps.getD k 0 < p from fun k hk => by
          rcases Nat.lt_or_ge k j with h1 | h1
          · exact unhide hst k h1
          · rw [show k = j by omega, hx]; exact ⟨h, h'⟩)
        clear hst hx
        go_wp2_with fail
        go_roundw
        case rel => exact ⟨j + 1, by go_num, by omega, hst2, trivial⟩
        case measure => simp [intOf]; omega
      all_goals
        have z0 := (unhide hh0).1.2 0 _ rfl
        have z1 := (unhide hh0).1.2 1 _ rfl
        have z2 := (unhide hh0).1.2 2 _ rfl
        have y0 := (unhide hh0).2 0
        have y1 := (unhide hh0).2 1
        have y2 := (unhide hh0).2 2
        clear hst hx
        go_wp2
        refine bodyPost_ret (v := ans0 1 0) (by simp [results, Try.results47, go_sem, z0, z1, z2]) rfl ⟨_, rfl, unhide hE _, Upd.of_below ((((unhide hB0).setCell (by simp) _).setCell (by simp) _).setCell (by simp) _) 0 0⟩
    · exact absurd (show PsOk p ps from fun k hk => unhide hst k (by omega)) (unhide hps)
end Go.Proofs.Ytocoeodoihdkgaa

/- Odds: the specification's OddsUnpack, where places and list are good. -/
namespace Go.Proofs.Ytocoeodoihdkgaa
open Go.RowKit

theorem heldF_belowE {B g : Nat} {cs : List Value} {w w' : World} (h : HeldF w g cs) (hb : Below B w w') (hg : g < B) : HeldF w' g cs := by
  have e := hb.block g hg
  exact ⟨⟨Nat.lt_of_lt_of_le h.1.1 hb.size, fun j u hj => (World.cell?_of_block (a := ⟨g, j, none⟩) e).trans (h.1.2 j u hj)⟩, fun j => (World.frozen?_of_block (a := ⟨g, j, none⟩) e).trans (h.2 j)⟩
/-- What stands between two bits read. -/
structure UnSt (w wr : World) (rb g og ob P : Nat) (dv bv : Value) (s : Int → Int) (r : Rd) (bits : List Int) : Prop where
  rd : RdSt wr g og P dv s r
  out : HeldF wr ob [.int .i64 0, bv, .int .i64 0]
  row : NRow wr (ob + 1) bv bits
  res : HeldF wr rb [.int .i64 0, .slice none 0 0, .int .i64 0]
  bel : Below w.heap.size w wr
  o1 : w.heap.size ≤ rb ∧ rb < og
  o2 : g < ob ∧ ob < wr.heap.size
theorem UnSt.upd {w wr wx : World} {rb g og ob P : Nat} {dv bv : Value} {s : Int → Int} {r : Rd} {bits : List Int} (h : UnSt w wr rb g og ob P dv bv s r bits) (u : Upd 0 0 wr wx) : UnSt w wx rb g og ob P dv bv s r bits :=
  ⟨h.rd.keep u, h.out.keep u, h.row.upd u, h.res.keep u, below_upd h.bel u (Nat.le_refl _) (.inr (Nat.le_refl _)), h.o1, ⟨h.o2.1, by have := h.o2.2; have := u.size; omega⟩⟩
theorem UnSt.read {w wr wx : World} {rb g og ob P : Nat} {dv bv : Value} {s s' : Int → Int} {r r' : Rd} {bits : List Int} (h : UnSt w wr rb g og ob P dv bv s r bits) (h' : RdSt wx g og P dv s' r') (k : KpO g (.slice (some ⟨og, 0, none⟩) P P) wr wx) : UnSt w wx rb g og ob P dv bv s' r' bits := by
  have hog := h.rd.og
  have h1 := h.o1
  have h2 := h.o2
  have e1 : some ob ≠ (Value.slice (some ⟨og, 0, none⟩) P P).ownBlock := fun e => by simp [Value.ownBlock] at e; omega
  have e2 : some rb ≠ (Value.slice (some ⟨og, 0, none⟩) P P).ownBlock := fun e => by simp [Value.ownBlock] at e; omega
  refine ⟨h', h.out.kpO k (by omega) e1, h.row.kept fun b hb => ?_, h.res.kpO k (by omega) e2, k.below h.bel (Nat.le_refl _) (by omega) (fun b hb => by simp [Value.ownBlock] at hb; omega), h1, ⟨h2.1, by have := k.size; omega⟩⟩
  have hb2 := h.row.block b hb
  exact k.block b hb2.2 (by omega) (fun e => by simp [Value.ownBlock] at e; omega)
/-- A bit is told. -/
theorem UnSt.told {w wr wx : World} {rb g og ob P : Nat} {dv bv bv' : Value} {s : Int → Int} {r : Rd} {bits : List Int} {b : Int} (h : UnSt w wr rb g og ob P dv bv s r bits) (hr : NRow wx (ob + 1) bv' (bits ++ [b])) (hh : HeldF wx ob [.int .i64 0, bv, .int .i64 0]) (k : KpO ob bv wr wx) :
    UnSt w (wx.setCell ⟨ob, 1, none⟩ bv') rb g og ob P dv bv' s r (bits ++ [b]) := by
  have hog := h.rd.og
  have h1 := h.o1
  have h2 := h.o2
  have nb : ∀ c, c ≤ ob → some c ≠ bv.ownBlock := fun c hc e => by have := (h.row.block c e.symm).1; omega
  have hrd := h.rd.kpO k (by omega) (by omega) (nb g (by omega)) (nb og (by omega))
  refine ⟨⟨HeldF.other hrd.inn (by omega) 1 bv', hrd.row.other (by omega) 1 bv', hog⟩, hh.set 1 bv' (by simp), hr.head (by omega), (h.res.kpO k (by omega) (nb rb (by omega))).other (by omega) 1 bv', ?_, h1, ⟨h2.1, by have := k.size; simp; omega⟩⟩
  exact (k.below h.bel (Nat.le_refl _) (by omega) (fun b hb => by have := (h.row.block b hb).1; omega)).setCell (p := ⟨ob, 1, none⟩) (by simp; omega) bv'
set_option maxHeartbeats 32000000 in
set_option maxRecDepth 100000 in
theorem specOddsUnpackOk (P : Nat) (ad1 : Option Addr) (cap1 : Nat) (ds : List Int) (ad : Option Addr) (cap : Nat) (ps : List Int) (w : World) (hA1 : ArgY w ad1 ds) (hd : ByteOk ds) (hn1 : ds.length ≤ 1048576) (hA : ArgI w ad ps) (hp1 : 1 ≤ P) (hp2 : P ≤ 512) (hlen : ps.length ≤ 20000) (hps : PsOk (P : Int) ps) :
    Calls Try.prog 47 #[.int .i64 (P : Int), .slice ad1 ds.length cap1, .slice ad ps.length cap] w fun e w' => ∃ u, e = .returned u ∧ OwnCn w' w.heap.size w'.heap.size u (oddsUnpack (P : Int) ds ps) ∧ Upd 0 0 w w' := by
  have hB0 := hide ((Below.refl w.heap.size w).alloc (Nat.le_refl _) (.cells #[.int .i64 0, .slice none 0 0, .int .i64 0] 40))
  have hh0 := hide (heldF_new w [.int .i64 0, .slice none 0 0, .int .i64 0] 40)
  have hz0 : (w.alloc (.cells #[.int .i64 0, .slice none 0 0, .int .i64 0] 40)).heap.size = w.heap.size + 1 := by simp
  have hE : Hid (oddsUnpack (P : Int) ds ps = if (stR ds ps ps.length).2.err ≠ 0 then ((stR ds ps ps.length).2.err, [], 0) else (0, bitsR ds ps ps.length, ((stR ds ps ps.length).2.at_ : Int))) := hide (by
    unfold oddsUnpack; rw [if_pos ((unpB_iff _ _).2 ⟨⟨by omega, by omega⟩, hlen, hps⟩)])
  have hok := hide (stR_ok ds ps hd)
  have hOp := hide (fun X (h : ArgY X ad1 ds) => specOpen P ad1 cap1 ds X hp2 h hd hn1)
  have pI1 : (1 : Int) ≤ (P : Int) := by omega
  have pI2 : (P : Int) ≤ 512 := by omega
  replace hA := hide hA
  replace hA1 := hide hA1
  replace hps := hide hps
  replace hd := hide hd
  go_enter Try.func47, Try.ntmps47
  go_upto_region 1 with fail
  simp only [List.toArray] at hh0
  generalize w.alloc (.cells #[.int .i64 0, .slice none 0 0, .int .i64 0] 40) = w0 at hB0 hh0 hz0 ⊢
  go_wp2_with fail
  go_loopw [8, 27] (fun _ i wr => ∃ j : Nat, i = .int .i64 (j : Int) ∧ j ≤ ps.length ∧ w0 = wr) (fun _ i _ => ps.length - (intOf i).toNat)
  case atStart => exact ⟨0, rfl, by omega, rfl⟩
  case round =>
    obtain ⟨j, rfl, hj, rfl⟩ := hrel
    by_cases hjl : j < ps.length
    · obtain ⟨bb, off, rfl, hbl, hcl⟩ := (unhide hA) (ne_of_lt_length hjl)
      have c0 := hcl j hjl
      have hx := unhide hps j hjl
      generalize ps.getD j 0 = x at c0 hx
      have c0 : w0.cell? ⟨bb, off + j, none⟩ = some (.int .i64 x) := ((unhide hB0).cell (by simpa using hbl)).trans c0
      have kI : decide ((j : Int) < (ps.length : Int)) = true := decide_eq_true (by omega)
      obtain ⟨x0, x1⟩ := hx
      replace hA := hide hA
      clear hcl
      go_wp2_with fail
      go_roundw
      case rel => exact ⟨j + 1, by go_num, by omega, trivial⟩
      case measure => simp [intOf]; omega
    · obtain rfl : j = ps.length := by omega
      have kI : decide ((ps.length : Int) < (ps.length : Int)) = false := decide_eq_false (by omega)
      clear hjl
      go_wp2_with fail
      refine (unhide hOp w0 ((unhide hA1).below (unhide hB0))).mono ?_
      rintro e w1 ⟨g, rfl, hrd, hb1⟩
      rw [hz0] at hrd hb1
      have hres1 := hide (heldF_belowE (unhide hh0) hb1 (by omega))
      have hB1 := hide ((unhide hB0).trans (hb1.mono (by omega)))
      have hog := hrd.og
      have hgl := hrd.inn.1.1
      replace hrd := hide hrd
      clear hb1 hh0 hB0 hOp
      obtain ⟨rb, hrb⟩ : ∃ rb, w.heap.size = rb := ⟨_, rfl⟩
      have hrb0 : w.heap.size ≤ rb := by omega
      rw [show w.heap.size + 1 = rb + 1 by omega] at hrd hog
      rw [hrb] at hres1 ⊢
      have hal := Upd.of_below ((Below.refl w1.heap.size w1).alloc (Nat.le_refl _) (.cells #[.int .i64 0, .slice none 0 0, .int .i64 0] 40)) 0 0
      have hob := hide (heldF_new w1 [.int .i64 0, .slice none 0 0, .int .i64 0] 40)
      have hzs : (w1.alloc (.cells #[.int .i64 0, .slice none 0 0, .int .i64 0] 40)).heap.size = w1.heap.size + 1 := by simp
      have hrd2 := hide ((unhide hrd).keep hal)
      have hres2 := hide ((unhide hres1).keep hal)
      have hB2 := hide (below_upd (unhide hB1) hal (Nat.le_refl _) (.inr (Nat.le_refl _)))
      clear hal hrd hres1 hB1
      go_upto_region 11 with fail
      simp only [List.toArray] at hob
      generalize w1.alloc (.cells #[.int .i64 0, .slice none 0 0, .int .i64 0] 40) = w2 at hob hrd2 hres2 hB2 hzs ⊢
      generalize w1.heap.size = ob at hob hzs hgl ⊢
      have hU0 : Hid (UnSt w w2 rb g (rb + 1) ob P (.slice ad1 ds.length cap1) (.slice none 0 0) (stR ds ps 0).1 (stR ds ps 0).2 (bitsR ds ps 0)) := hide
        ⟨unhide hrd2, unhide hob, World.ownsRow_nil _ _ _ _, unhide hres2, unhide hB2, ⟨hrb0, by omega⟩, ⟨hgl, by omega⟩⟩
      clear hob hrd2 hres2 hB2 hzs
      go_wp2_with fail
      rename_i wq
      go_loopw [12, 46] (fun _ i wr => ∃ (k : Nat) (bv : Value), i = .int .i64 (k : Int) ∧ k ≤ ps.length ∧ (k = 0 ∨ (stR ds ps k).2.err = 0) ∧ Hid (UnSt w wr rb g (rb + 1) ob P (.slice ad1 ds.length cap1) bv (stR ds ps k).1 (stR ds ps k).2 (bitsR ds ps k))) (fun _ i _ => ps.length - (intOf i).toNat)
      case atStart => exact ⟨0, _, rfl, by omega, .inl rfl, hU0⟩
      case round =>
        clear hU0
        obtain ⟨k, bv, rfl, hk, hk0, hU⟩ := hrel
        by_cases hkl : k < ps.length
        · obtain ⟨bb, off, rfl, hbl, hcl⟩ := (unhide hA) (ne_of_lt_length hkl)
          have c0 := hcl k hkl
          have hx := unhide hps k hkl
          have hbk := bitsR_succ ds ps k
          have hlb := bitsR_len ds ps k
          have hbk2 : bitK ds ps k = if (stR ds ps k).2.err ≠ 0 then 0 else bitOf (stR ds ps k).2 ((stR ds ps k).1 (ps.getD k 0)) := rfl
          have hbad := stR_bad ds ps k
          have hgood := stR_good ds ps k
          have hokk := unhide hok k
          have hon := (unhide hok (k + 1)).1.errs
          generalize ps.getD k 0 = x at c0 hx hbk2 hgood
          have c0 : wr.cell? ⟨bb, off + k, none⟩ = some (.int .i64 x) := ((unhide hU).bel.cell (by simpa using hbl)).trans c0
          obtain ⟨x0, x1⟩ := hx
          obtain ⟨q, rfl⟩ := Int.eq_ofNat_of_zero_le x0
          have hq : q < P := by omega
          have hA1w := hide (fun X (h : Below w.heap.size w X) => (unhide hA1).below h)
          obtain ⟨bt, hbt⟩ : ∃ bt, bitK ds ps k = bt := ⟨_, rfl⟩
          rw [hbt] at hbk hbk2
          -- what the call leaves
          have hCall : Hid (∀ X, Upd 0 0 wr X → Calls Try.prog 90 #[.pointer (some ⟨g, 0, none⟩), .int .i64 (q : Int)] X fun e w' => e = .returned (.int .i64 bt) ∧ UnSt w w' rb g (rb + 1) ob P (.slice ad1 ds.length cap1) bv (stR ds ps (k + 1)).1 (stR ds ps (k + 1)).2 (bitsR ds ps k)) := hide (fun X hX => by
            have hUX := (unhide hU).upd hX
            by_cases he : (stR ds ps k).2.err = 0
            · rw [hgood he]
              rw [if_neg (by simpa using he)] at hbk2
              rw [hbk2]
              refine (specTake g (rb + 1) P ad1 cap1 ds (stR ds ps k).1 (stR ds ps k).2 q X hUX.rd hokk.1 he hokk.2 hq (fun Y hY => unhide hA1w Y (hY.below hUX.bel (Nat.le_refl _) (by have := hUX.rd.og; omega) (fun b hb => by simp [Value.ownBlock] at hb; omega))) (unhide hd) hn1).mono ?_
              rintro e w' ⟨rfl, h1, h2⟩
              exact ⟨rfl, hUX.read h1 h2⟩
            · rw [hbad he]
              rw [if_pos he] at hbk2
              rw [hbk2]
              refine (specTakeBad g _ _ (stR ds ps k).2 (q : Int) X hUX.rd.inn he).mono ?_
              rintro e w' ⟨rfl, rfl⟩
              exact ⟨rfl, hUX⟩)
          have hU2 := (unhide hU).o2
          obtain ⟨st2, hst2⟩ : ∃ st2, stR ds ps (k + 1) = st2 := ⟨_, rfl⟩
          rw [hst2] at hCall hon
          replace hst2 := hide hst2
          have kI : decide ((k : Int) < (ps.length : Int)) = true := decide_eq_true (by omega)
          have hlb2 : (bitsR ds ps k).length ≤ 20000 := by omega
          generalize bitsR ds ps k = bits at hU hCall hbk hlb2 hlb
          have q1 := (unhide hU).out.1.2 1 _ rfl
          have hobw : ob < wr.heap.size := hU2.2
          replace hA := hide hA
          replace hbk2 := hide hbk2
          replace hbt := hide hbt
          replace hlb := hide hlb
          clear hcl hbad hgood hokk hU2
          go_upto_region 14 with fail
          go_region_law (first | (refine step_wanted rfl ?_; go_simp; go_at_call 90; refine (unhide hCall _ (Upd.of_below (by repeat (first | exact Below.refl _ _ | refine Below.alloc ?_ (by simp) _ | refine Below.drew ?_)) 0 0)).mono ?_; rintro e7 w7 ⟨rfl, hU7⟩; have q7 := hU7.out.1.2 1 _ rfl; have o7 := hU7.o2.2; replace hU7 := hide hU7) | (refine step_appN rfl (.tmp 51) (.tmp 55) rfl ob (ob + 1) bv bits [.int .i64 0, bv, .int .i64 0] bt (unhide hU7).out (unhide hU7).row (by omega) (by omega) (by omega) (Upd.of_below (by repeat (first | exact Below.refl _ _ | refine Below.alloc ?_ (by simp) _ | refine Below.drew ?_)) 0 0) rfl _ _ rfl (by simp) ?_; intro ad6 cp6 w6 hrow6 hh6 hkp6 hfr6; have c60 := hh6.1.2 1 _ rfl; have f60 := hh6.2 1; replace hrow6 := hide hrow6; replace hkp6 := hide hkp6; replace hh6 := hide hh6; clear hfr6))
          all_goals
            have hU8 := hide ((unhide hU7).told (bv' := .slice ad6 (bits.length + 1) cp6) (unhide hrow6) (unhide hh6) (unhide hkp6))
            rw [← hbk] at hU8
            clear hrow6 hh6 hkp6 hU7 q7 o7 c60 f60 q1 hCall hU c0
            go_upto_region 15 with fail
            generalize w6.setCell ⟨ob, 1, none⟩ (.slice ad6 (bits.length + 1) cp6) = w8 at hU8 ⊢
            have e5 := (unhide hU8).rd.inn.1.2 5 _ rfl
            obtain ⟨st21, rr⟩ := st2
            obtain ⟨er, her⟩ : ∃ er, rr.err = er := ⟨_, rfl⟩
            replace e5 : w8.cell? ⟨g, 5, none⟩ = some (.int .i64 er) := by rw [← her]; exact e5
            by_cases he : er = 0
            · have t : (er != 0) = false := by rw [he]; rfl
              have her0 : rr.err = 0 := by rw [her, he]
              subst he
              have hU9 : Hid (UnSt w w8 rb g (rb + 1) ob P (.slice ad1 ds.length cap1) (.slice ad6 (bits.length + 1) cp6) (stR ds ps (k + 1)).1 (stR ds ps (k + 1)).2 (bitsR ds ps (k + 1))) := hide (by rw [unhide hst2]; exact unhide hU8)
              have her1 : Hid ((stR ds ps (k + 1)).2.err = 0) := hide (by rw [unhide hst2]; exact her0)
              replace her0 := hide her0
              replace her := hide her
              clear hU8 hon
              go_wp2_with fail
              go_roundw
              case rel => exact ⟨k + 1, _, by go_num, by omega, .inr (unhide her1), hU9⟩
              case measure => simp [intOf]; omega
            · have t : (er != 0) = true := by simpa using he
              have hE2 : Hid (oddsUnpack (P : Int) ds ps = (er, [], 0)) := hide (by
                have h1 : (stR ds ps (k + 1)).2.err ≠ 0 := by rw [unhide hst2, her]; exact he
                have h2 := stR_stays ds ps (k + 1) h1 (ps.length - (k + 1))
                rw [show k + 1 + (ps.length - (k + 1)) = ps.length by omega] at h2
                rw [unhide hE, h2, if_pos h1, unhide hst2, her])
              replace her := hide her
              clear he hon
              have z0 := (unhide hU8).res.1.2 0 _ rfl
              have z1 := (unhide hU8).res.1.2 1 _ rfl
              have z2 := (unhide hU8).res.1.2 2 _ rfl
              have y0 := (unhide hU8).res.2 0
              have y1 := (unhide hU8).res.2 1
              have y2 := (unhide hU8).res.2 2
              have hB8 := hide (unhide hU8).bel
              have hAns := hide (fun X => own_ans X w.heap.size X.heap.size er 0)
              clear hU8
              go_wp2
              refine bodyPost_ret (v := ans0 er 0) (by simp [results, Try.results47, go_sem, z0, z1, z2]) rfl ⟨_, rfl, by rw [unhide hE2]; exact unhide hAns _, Upd.of_below ((((unhide hB8).setCell (by simp; omega) _).setCell (by simp; omega) _).setCell (by simp; omega) _) 0 0⟩
        · obtain rfl : k = ps.length := by omega
          have kI : decide ((ps.length : Int) < (ps.length : Int)) = false := decide_eq_false (by omega)
          obtain ⟨er, her⟩ : ∃ er, (stR ds ps ps.length).2.err = er := ⟨_, rfl⟩
          have e5 : wr.cell? ⟨g, 5, none⟩ = some (.int .i64 er) := by rw [← her]; exact (unhide hU).rd.inn.1.2 5 _ rfl
          by_cases he : er = 0
          · have t : (er != 0) = false := by rw [he]; rfl
            have hE2 := hide (show oddsUnpack (P : Int) ds ps = (0, bitsR ds ps ps.length, ((stR ds ps ps.length).2.at_ : Int)) by rw [unhide hE, if_neg (by rw [her, he]; simp)])
            replace her := hide her
            subst he
            have e1 := (unhide hU).rd.inn.1.2 1 _ rfl
            generalize (stR ds ps ps.length).2.at_ = na at e1 hE2
            have f2 := (unhide hU).out.2 2
            have e2 := (unhide hU).out.1.2 2 _ rfl
            have hho := hide ((unhide hU).out.set 2 (.int .i64 (na : Int)) (by simp))
            have hrow := hide ((unhide hU).row.head (g := ob) (j := 2) (u := .int .i64 (na : Int)) (by omega))
            have hrs := hide ((unhide hU).res.other (g' := ob) (by have := (unhide hU).o1; have := (unhide hU).o2; omega) 2 (.int .i64 (na : Int)))
            have hBw := hide ((unhide hU).bel.setCell (p := ⟨ob, 2, none⟩) (by have := (unhide hU).o1; have := (unhide hU).o2; simp; omega) (.int .i64 (na : Int)))
            have hlb := bitsR_len ds ps ps.length
            generalize bitsR ds ps ps.length = bits at hrow hE2 hlb
            have hord : rb < ob := by have := (unhide hU).o2; omega
            clear hlb
            clear hU
            obtain ⟨adb, cpb, rfl⟩ : ∃ adb cpb, bv = .slice adb bits.length cpb := by
              rcases (unhide hrow).2 with ⟨rfl, hz⟩ | ⟨b, cap', cur, rfl, _⟩
              · exact ⟨none, 0, by rw [hz]⟩
              · exact ⟨_, cap', rfl⟩
            go_upto_region 20 with fail
            generalize wr.setCell ⟨ob, 2, none⟩ (.int .i64 (na : Int)) = w9 at hho hrow hrs hBw ⊢
            clear e1 e2 f2 e5
            have x0 := (unhide hho).1.2 0 _ rfl
            have x1 := (unhide hho).1.2 1 _ rfl
            have x2 := (unhide hho).1.2 2 _ rfl
            have z0 := (unhide hrs).1.2 0 _ rfl
            have z1 := (unhide hrs).1.2 1 _ rfl
            have z2 := (unhide hrs).1.2 2 _ rfl
            have y0 := (unhide hrs).2 0
            have y1 := (unhide hrs).2 1
            have y2 := (unhide hrs).2 2
            have hfr : Hid (NRow (((w9.setCell ⟨rb, 0, none⟩ (.int .i64 0)).setCell ⟨rb, 1, none⟩ (.slice adb bits.length cpb)).setCell ⟨rb, 2, none⟩ (.int .i64 (na : Int))) (ob + 1) (.slice adb bits.length cpb) bits) := hide ((((unhide hrow).head (by omega)).head (by omega)).head (by omega))
            have hBf : Hid (Upd 0 0 w (((w9.setCell ⟨rb, 0, none⟩ (.int .i64 0)).setCell ⟨rb, 1, none⟩ (.slice adb bits.length cpb)).setCell ⟨rb, 2, none⟩ (.int .i64 (na : Int)))) := hide (Upd.of_below ((((unhide hBw).setCell (by simp; omega) _).setCell (by simp; omega) _).setCell (by simp; omega) _) 0 0)
            have hobw : w.heap.size ≤ ob + 1 := by omega
            clear hho hrow hrs hBw
            go_wp2
            refine bodyPost_ret (v := .agg #[.int .i64 0, .slice adb bits.length cpb, .int .i64 (na : Int)]) (by simp [results, Try.results47, go_sem, z0, z1, z2]) rfl ⟨_, rfl, ?_, unhide hBf⟩
            rw [unhide hE2]
            exact ⟨_, rfl, own_mono (Own.of (unhide hfr)) hobw (Nat.le_refl _)⟩
          · have t : (er != 0) = true := by simpa using he
            have hE2 := hide (show oddsUnpack (P : Int) ds ps = (er, [], 0) by rw [unhide hE, if_pos (by rw [her]; exact he), her])
            have hU8 := hU
            replace her := hide her
            clear he hU
            have z0 := (unhide hU8).res.1.2 0 _ rfl
            have z1 := (unhide hU8).res.1.2 1 _ rfl
            have z2 := (unhide hU8).res.1.2 2 _ rfl
            have y0 := (unhide hU8).res.2 0
            have y1 := (unhide hU8).res.2 1
            have y2 := (unhide hU8).res.2 2
            have hB8 := hide (unhide hU8).bel
            have hAns := hide (fun X => own_ans X w.heap.size X.heap.size er 0)
            clear hU8
            go_wp2
            refine bodyPost_ret (v := ans0 er 0) (by simp [results, Try.results47, go_sem, z0, z1, z2]) rfl ⟨_, rfl, by rw [unhide hE2]; exact unhide hAns _, Upd.of_below ((((unhide hB8).setCell (by simp; omega) _).setCell (by simp; omega) _).setCell (by simp; omega) _) 0 0⟩
end Go.Proofs.Ytocoeodoihdkgaa

/- Odds: the program's rows of 512 odds: how they begin, learn, what a choice costs by them. -/
namespace Go.Proofs.Ytocoeodoihdkgaa
open Go.RowKit

def oddsV (s : Int → Int) : List Value := (List.range 512).map fun p : Nat => .int .u16 (s (p : Int))
@[simp] theorem oddsV_length (s : Int → Int) : (oddsV s).length = 512 := by simp [oddsV]
theorem oddsV_at (s : Int → Int) (p : Nat) (h : p < 512) : (oddsV s)[p]? = some (.int .u16 (s p)) := by
  unfold oddsV; rw [List.getElem?_map, List.getElem?_range h]; rfl
theorem oddsV_put (s : Int → Int) (c : Int × Int) (p : Nat) (hp : c.1 = (p : Int)) : (oddsV s).set p (.int .u16 (learnF (s c.1) c.2)) = oddsV (oddsSet s c) := by
  apply List.ext_getElem?
  intro j
  by_cases hj : j < 512
  · by_cases e : p = j
    · subst e
      rw [List.getElem?_set_self (by simpa using hj), oddsV_at _ _ hj]
      unfold oddsSet; rw [if_pos hp.symm, hp]
    · rw [List.getElem?_set_ne e, oddsV_at _ _ hj, oddsV_at _ _ hj]
      unfold oddsSet; rw [if_neg (by omega)]
  · rw [List.getElem?_eq_none (by simp; omega), List.getElem?_eq_none (by simp; omega)]
/-- A row of odds at the head of a block, other cells behind them. -/
def OdAt (w : World) (g : Nat) (s : Int → Int) (rest : List Value) : Prop := HeldF w g (oddsV s ++ rest)
theorem OdAt.odds {w : World} {g : Nat} {s : Int → Int} {rest : List Value} (h : OdAt w g s rest) (p : Nat) (hp : p < 512) : w.cell? ⟨g, p, none⟩ = some (.int .u16 (s p)) :=
  h.1.2 p _ (by rw [List.getElem?_append_left (by simpa using hp)]; exact oddsV_at s p hp)
theorem OdAt.back {w : World} {g : Nat} {s : Int → Int} {rest : List Value} (h : OdAt w g s rest) (i : Nat) (v : Value) (hv : rest[i]? = some v) : w.cell? ⟨g, 512 + i, none⟩ = some v :=
  h.1.2 (512 + i) v (by rw [List.getElem?_append_right (by simp)]; simpa using hv)
theorem OdAt.frozen {w : World} {g : Nat} {s : Int → Int} {rest : List Value} (h : OdAt w g s rest) (j : Nat) : w.frozen? ⟨g, j, none⟩ = false := h.2 j
theorem OdAt.lt {w : World} {g : Nat} {s : Int → Int} {rest : List Value} (h : OdAt w g s rest) : g < w.heap.size := h.1.1
theorem OdAt.upd {w w' : World} {g a b : Nat} {s : Int → Int} {rest : List Value} (h : OdAt w g s rest) (u : Upd a b w w') (hd : g + 1 ≤ a ∨ b ≤ g) : OdAt w' g s rest := HeldF.upd h u hd
theorem OdAt.learn {w : World} {g : Nat} {s : Int → Int} {rest : List Value} (h : OdAt w g s rest) (c : Int × Int) (p : Nat) (hp : c.1 = (p : Int)) (hl : p < 512) : OdAt (w.setCell ⟨g, p, none⟩ (.int .u16 (learnF (s c.1) c.2))) g (oddsSet s c) rest := by
  have h1 := HeldF.set h p (.int .u16 (learnF (s c.1) c.2)) (by simp; omega)
  rw [List.set_append_left _ _ (by simpa using hl), oddsV_put s c p hp] at h1
  exact h1
theorem OdAt.setBack {w : World} {g : Nat} {s : Int → Int} {rest : List Value} (h : OdAt w g s rest) (i : Nat) (hi : i < rest.length) (v : Value) : OdAt (w.setCell ⟨g, 512 + i, none⟩ v) g s (rest.set i v) := by
  have h1 := HeldF.set h (512 + i) v (by simp; omega)
  rw [List.set_append_right _ _ (by simp)] at h1
  rw [show 512 + i - (oddsV s).length = i by simp] at h1
  exact h1
theorem OdAt.other {w : World} {g : Nat} {s : Int → Int} {rest : List Value} (h : OdAt w g s rest) {g' : Nat} (hne : g' ≠ g) (o : Nat) (u : Value) : OdAt (w.setCell ⟨g', o, none⟩ u) g s rest := HeldF.other h hne o u
/-- One cell of a block is written. -/
theorem upd_setCell (w : World) (g j : Nat) (v : Value) : Upd g (g + 1) w (w.setCell ⟨g, j, none⟩ v) :=
  ⟨rfl, rfl, rfl, by simp, fun k _ hk => Below.heap_setCell w ⟨g, j, none⟩ v k (by simp; omega)⟩

def SOk (s : Int → Int) : Prop := ∀ p, 31 ≤ s p ∧ s p ≤ 4065
/-- What learning leaves, behind whatever was laid besides. -/
theorem learn_fin {w w0 wt : World} {g p : Nat} {b : Int} {s : Int → Int} {rest : List Value} (h : OdAt w0 g s rest) (hp : p < 512) (u0 : Upd 0 0 w w0) (u : Upd 0 0 w0 wt) (y : Int) (hy : y = learnF (s p) b) :
    OdAt (wt.setCell ⟨g, p, none⟩ (.int .u16 y)) g (oddsSet s (p, b)) rest ∧ Upd g (g + 1) w (wt.setCell ⟨g, p, none⟩ (.int .u16 y)) := by
  have h1 : OdAt wt g s rest := h.upd u (.inr (Nat.zero_le _))
  refine ⟨by rw [hy]; exact h1.learn (p, b) p rfl hp, ?_⟩
  have h2 := u0.trans u
  exact Upd.trans ⟨h2.os, h2.tape, h2.output, h2.size, fun k hk _ => h2.block k hk (.inr (Nat.zero_le _))⟩ (upd_setCell _ g p _)
set_option maxRecDepth 100000 in
set_option maxHeartbeats 8000000 in
theorem implLearn (g : Nat) (p : Nat) (b : Int) (s : Int → Int) (rest : List Value) (w : World) (h : OdAt w g s rest) (hp : p < 512) (hs : SOk s) :
    Calls Try.prog 66 #[.pointer (some ⟨g, 0, none⟩), .agg #[.int .i64 (p : Int), .int .i64 b]] w fun e w' => e = .returned (.tuple #[]) ∧ OdAt w' g (oddsSet s (p, b)) rest ∧ Upd g (g + 1) w w' := by
  have hu0 := Upd.of_below ((Below.refl w.heap.size w).alloc (Nat.le_refl _) (.cells #[.int .i64 (p : Int), .int .i64 b] 38)) 0 0
  have h1 := h.upd hu0 (.inr (Nat.zero_le _))
  have hch := heldF_new w [.int .i64 (p : Int), .int .i64 b] 38
  have hcell : (oddsV s ++ rest)[p]? = some (.int .u16 (s p)) := by rw [List.getElem?_append_left (by simpa using hp)]; exact oddsV_at s p hp
  obtain ⟨o, ho⟩ : ∃ o, s p = o := ⟨_, rfl⟩
  have hob := hs p
  rw [ho] at hcell hob
  have hl := learnF_bd o b hob
  obtain ⟨o0, o1⟩ := hob
  have hpI : (p : Int) < 512 := by omega
  replace h1 := hide h1
  replace hu0 := hide hu0
  replace hch := hide hch
  replace hcell := hide hcell
  replace ho := hide ho
  clear h hs
  by_cases hb : b = 0
  · have t : (b == 0) = true := by simpa using hb
    subst hb
    have hE : learnF o 0 = o + (4096 - o) / 32 := by unfold learnF; rw [if_pos rfl]
    rw [hE] at hl
    replace hE := hide hE
    obtain ⟨l0, l1⟩ := hl
    go_enter Try.func66, Try.ntmps66
    go_wp2_with fail
    simp only [List.toArray] at hch
    generalize w.alloc (.cells #[.int .i64 (p : Int), .int .i64 0] 38) = w0 at h1 hch hu0 ⊢
    generalize w.heap.size = c at hch ⊢
    have k0 := fun x : UpdT w0 => (((unhide hch).1.updT x).2 0 _ rfl)
    have kc := fun x : UpdT w0 => (((unhide h1).1.updT x).2 p _ (unhide hcell))
    refine wq_region_tail 17 (by kernel_rfl) (by kernel_rfl) ?_
    simp only [List.take_succ_cons, List.take_zero, List.drop_succ_cons, List.drop_zero]
    iterate 17
      refine WQ.step (fun K hK => ?_)
      go_simp
      refine hK _ ?_
      clear hK K
    refine WQ.nil ?_
    rintro _ ⟨x, rfl⟩
    clear k0 kc
    have hx := x.upd
    generalize x.to = wt at hx ⊢
    have f0 := (unhide h1).upd hx (.inr (Nat.zero_le _)) |>.frozen p
    have c0 := ((unhide h1).upd hx (.inr (Nat.zero_le _))).1.2 p _ (unhide hcell)
    have hfin := hide (learn_fin (b := 0) (unhide h1) hp (unhide hu0) hx (o + (4096 - o) / 32) (by rw [unhide ho, unhide hE]))
    clear hx h1 hch hu0
    go_wp2
    go_end0
    exact ⟨rfl, unhide hfin⟩
  · have t : (b == 0) = false := by simpa using hb
    have hE : learnF o b = o - o / 32 := by unfold learnF; rw [if_neg hb]
    rw [hE] at hl
    replace hE := hide hE
    obtain ⟨l0, l1⟩ := hl
    clear hb
    go_enter Try.func66, Try.ntmps66
    go_wp2_with fail
    simp only [List.toArray] at hch
    generalize w.alloc (.cells #[.int .i64 (p : Int), .int .i64 b] 38) = w0 at h1 hch hu0 ⊢
    generalize w.heap.size = c at hch ⊢
    have k0 := fun x : UpdT w0 => (((unhide hch).1.updT x).2 0 _ rfl)
    have kc := fun x : UpdT w0 => (((unhide h1).1.updT x).2 p _ (unhide hcell))
    refine wq_region_tail 16 (by kernel_rfl) (by kernel_rfl) ?_
    simp only [List.take_succ_cons, List.take_zero, List.drop_succ_cons, List.drop_zero]
    iterate 16
      refine WQ.step (fun K hK => ?_)
      go_simp
      refine hK _ ?_
      clear hK K
    refine WQ.nil ?_
    rintro _ ⟨x, rfl⟩
    clear k0 kc
    have hx := x.upd
    generalize x.to = wt at hx ⊢
    have f0 := (unhide h1).upd hx (.inr (Nat.zero_le _)) |>.frozen p
    have c0 := ((unhide h1).upd hx (.inr (Nat.zero_le _))).1.2 p _ (unhide hcell)
    have hfin := hide (learn_fin (b := b) (unhide h1) hp (unhide hu0) hx (o - o / 32) (by rw [unhide ho, unhide hE]))
    clear hx h1 hch hu0
    go_wp2
    go_end0
    exact ⟨rfl, unhide hfin⟩
set_option maxRecDepth 100000 in
set_option maxHeartbeats 8000000 in
theorem implCost (g : Nat) (p : Nat) (b : Int) (s : Int → Int) (rest : List Value) (w : World) (h : OdAt w g s rest) (hp : p < 512) (hs : SOk s) :
    Calls Try.prog 65 #[.pointer (some ⟨g, 0, none⟩), .agg #[.int .i64 (p : Int), .int .i64 b]] w fun e w' => e = .returned (.int .i64 (costF (s p) b)) ∧ Upd 0 0 w w' := by
  have hu0 := Upd.of_below ((Below.refl w.heap.size w).alloc (Nat.le_refl _) (.cells #[.int .i64 (p : Int), .int .i64 b] 38)) 0 0
  have h1 := h.upd hu0 (.inr (Nat.zero_le _))
  have hch := heldF_new w [.int .i64 (p : Int), .int .i64 b] 38
  have hcell : (oddsV s ++ rest)[p]? = some (.int .u16 (s p)) := by rw [List.getElem?_append_left (by simpa using hp)]; exact oddsV_at s p hp
  have hob := hs p
  generalize s p = o at hcell hob ⊢
  have hpb := partsF_bd o b hob
  have hL := hide (fun X => implLikely (partsF o b) (by omega) (by omega) X)
  have hR := hide (fun X => implRound4 (if b = 1 then 4096 - o else o) X (by split <;> omega) (by split <;> omega))
  have hcf : costF o b = logF (partsF o b) := rfl
  have hpf : partsF o b = ((if b = 1 then 4096 - o else o) + 8) / 16 := rfl
  rw [← hpf] at hR
  rw [hcf]
  clear hcf hpf
  generalize partsF o b = q at hR hL hpb ⊢
  obtain ⟨o0, o1⟩ := hob
  obtain ⟨q0, q1⟩ := hpb
  have hpI : (p : Int) < 512 := by omega
  replace h1 := hide h1
  replace hu0 := hide hu0
  replace hch := hide hch
  replace hcell := hide hcell
  clear h hs
  go_enter Try.func65, Try.ntmps65
  go_wp2_with fail
  simp only [List.toArray] at hch
  generalize w.alloc (.cells #[.int .i64 (p : Int), .int .i64 b] 38) = w0 at h1 hch hu0 ⊢
  generalize w.heap.size = c at hch ⊢
  have k0 := fun x : UpdT w0 => (((unhide hch).1.updT x).2 0 _ rfl)
  have kc := fun x : UpdT w0 => (((unhide h1).1.updT x).2 p _ (unhide hcell))
  refine wq_region_tail 7 (by kernel_rfl) (by kernel_rfl) ?_
  simp only [List.take_succ_cons, List.take_zero, List.drop_succ_cons, List.drop_zero]
  iterate 7
    refine WQ.step (fun K hK => ?_)
    go_simp
    refine hK _ ?_
    clear hK K
  refine WQ.nil ?_
  rintro _ ⟨x, rfl⟩
  clear k0 kc
  have hx := x.upd
  generalize x.to = wt at hx ⊢
  have c1 := ((unhide hch).keep hx).1.2 1 _ rfl
  have hfin := hide ((unhide hu0).trans hx)
  clear hx h1 hch hu0
  by_cases hb : b = 1
  · have t : (b == 1) = true := by simpa using hb
    rw [if_pos hb] at hR
    clear hb
    go_wp2_with fail
    refine (unhide hR _).mono ?_
    rintro e w1 ⟨rfl, rfl⟩
    go_wp2_with fail
    refine (unhide hL _).mono ?_
    rintro e w1 ⟨rfl, rfl⟩
    go_wp2
    go_ret
    exact ⟨rfl, unhide hfin⟩
  · have t : (b == 1) = false := by simpa using hb
    rw [if_neg hb] at hR
    clear hb
    go_wp2_with fail
    refine (unhide hR _).mono ?_
    rintro e w1 ⟨rfl, rfl⟩
    go_wp2_with fail
    refine (unhide hL _).mono ?_
    rintro e w1 ⟨rfl, rfl⟩
    go_wp2
    go_ret
    exact ⟨rfl, unhide hfin⟩
end Go.Proofs.Ytocoeodoihdkgaa

/- Odds: the program's odds at first, and what choices cost. -/
namespace Go.Proofs.Ytocoeodoihdkgaa
open Go.RowKit

def odCells (k : Nat) (cs : Array Value) : Prop := cs.size = 512 ∧ cs.all (·.oneCell') = true ∧ ∀ j, j < k → cs[j]? = some (.int .u16 2048)
theorem odCells_zero : odCells 0 (Array.replicate 512 (.int .u16 0)) := ⟨by simp, by rw [Array.all_eq_true_iff_forall_mem]; intro v hv; rw [Array.mem_replicate] at hv; rw [hv.2]; rfl, fun j h => by omega⟩
theorem odCells_succ (k : Nat) (cs : Array Value) (hk : k < 512) (h : odCells k cs) : odCells (k + 1) (cs.setIfInBounds k (.int .u16 2048)) := by
  refine ⟨by simpa using h.1, ?_, ?_⟩
  · have h1 := h.2.1
    rw [Array.all_eq_true_iff_forall_mem] at h1 ⊢
    intro v hv
    rcases Array.mem_or_eq_of_mem_setIfInBounds hv with hv | rfl
    · exact h1 v hv
    · rfl
  · intro j hj
    rw [Array.getElem?_setIfInBounds]
    by_cases e : k = j
    · subst e; simp [h.1, hk]
    · rw [if_neg e]; exact h.2.2 j (by omega)
def odds0 : Int → Int := fun _ => 2048
theorem odCells_all (cs : Array Value) (h : odCells 512 cs) : cs = (oddsV odds0).toArray := by
  apply Array.ext_getElem?
  intro j
  by_cases hj : j < 512
  · rw [h.2.2 j hj, List.getElem?_toArray, oddsV_at _ _ hj]; rfl
  · rw [Array.getElem?_eq_none (by rw [h.1]; omega), List.getElem?_toArray, List.getElem?_eq_none (by simp; omega)]
theorem infoOd : (Try.prog.info? 86).map (fun i => (i.zero, i.size)) = some (some (.agg (Array.replicate 512 (.int .u16 0))), 512) := by kernel_rfl
theorem zeroOd : ∃ z, odCells 0 z ∧ ∀ w, (zeroValue 86).run Try.prog w = .ok (.agg z) w := ⟨_, odCells_zero, (zero_of_info infoOd).1⟩
theorem sizeOd : (Try.prog.info? 86).map (·.size) = some 512 := (zero_of_info infoOd).2
set_option maxHeartbeats 4000000 in
set_option maxRecDepth 1000000 in
theorem implStartOdds (w : World) :
    Calls Try.prog 64 #[] w fun e w' => e = .returned (.agg (oddsV odds0).toArray) ∧ Upd 0 0 w w' := by
  obtain ⟨z, hz0, hz⟩ := zeroOd
  go_enter Try.func64, Try.ntmps64
  go_wp2
  go_loopw [2, 3] (fun _ i wr => ∃ k : Nat, ∃ cs, k ≤ 512 ∧ i = .int .i64 k ∧ odCells k cs ∧ wr.heap[w.heap.size + 1]? = some (.cells cs 86 (0, 0)) ∧ wr.heap[w.heap.size]? = some (.cells z 86 (0, 0)) ∧ Below w.heap.size w wr) (fun _ i _ => 512 - (intOf i).toNat)
  case atStart =>
    refine ⟨0, z, by omega, rfl, hz0, ?_, ?_, ((Below.refl _ _).alloc (Nat.le_refl _) _).alloc (by simp) _⟩
    · have := heap_alloc_new (w.alloc (.cells z 86)) (.cells z 86); simpa using this
    · rw [Below.heap_alloc _ _ _ (by simp)]; exact heap_alloc_new _ _
  case round =>
    obtain ⟨k, cs, hk, rfl, hcs, hrow, hrow0, hbel⟩ := hrel
    by_cases hlt : k < 512
    · have hd : decide ((k : Int) < 512) = true := by simp; omega
      have hcell : wr.cell? ⟨w.heap.size + 1, k, none⟩ = some (cs.getD k undef) := by
        rw [cell_of_row _ _ _ _ _ _ hrow, Array.getElem?_eq_getElem (by rw [hcs.1]; exact hlt)]; simp [hcs.1, hlt]
      have hfree : wr.frozen? ⟨w.heap.size + 1, k, none⟩ = false := by simp [World.frozen?, hrow]
      have hnew := odCells_succ k cs hlt hcs
      have hnr := heap_setCell_same wr (w.heap.size + 1) k cs 86 (.int .u16 2048) hrow
      have hg0 : (wr.setCell ⟨w.heap.size + 1, k, none⟩ (.int .u16 2048)).heap[w.heap.size]? = some (.cells z 86 (0, 0)) := by
        rw [Below.heap_setCell _ _ _ _ (by simp)]; exact hrow0
      have hbel' := hbel.setCell (p := ⟨w.heap.size + 1, k, none⟩) (by simp) (.int .u16 2048)
      replace hnr := hide hnr
      replace hg0 := hide hg0
      replace hrow := hide hrow
      replace hrow0 := hide hrow0
      clear hz
      go_wp2
      go_roundw
      case rel => exact ⟨k + 1, _, by omega, by go_num, hnew, unhide hnr, unhide hg0, hbel'⟩
      case measure => simp [intOf]; omega
    · have hkl : k = 512 := by omega
      subst hkl
      replace hrow0 := hide hrow0
      replace hrow := hide hrow
      have hE := hide (odCells_all cs hcs)
      go_wp2_with fail
      refine wp_load_row 86 (.tmp 1) rfl (w.heap.size + 1) rfl 86 cs (0, 0) _ (unhide hrow) Try.underlying86 rfl (by rw [hcs.1]; exact sizeOd) ?_
      rename_i aK
      refine aK _ _ ?_
      refine wpList_store_row rfl 86 (.tmp 0) (.tmp 9) rfl w.heap.size cs rfl rfl 86 z (unhide hrow0) (by rw [hcs.1]; exact sizeOd) (by rw [hcs.1, hz0.1]) hcs.2.1 ?_
      have hres : (wr.setRow w.heap.size cs).heap[w.heap.size]? = some (.cells cs 86 (0, 0)) := setRow_heap wr _ z cs _ _ (unhide hrow0)
      replace hres := hide hres
      have hb2 : Below w.heap.size w (wr.setRow w.heap.size cs) := below_setRow hbel (Nat.le_refl _) cs
      go_wp2_with fail
      refine bodyPost_ret (v := .agg cs) (results_cell_row rfl _ _ w.heap.size 86 cs (0, 0) _ rfl (unhide hres) Try.underlying86 rfl (by rw [hcs.1]; exact sizeOd)) rfl ⟨by rw [unhide hE], Upd.of_below hb2 0 0⟩
end Go.Proofs.Ytocoeodoihdkgaa

/- Odds: the program's range: split, narrowed, widened. -/
namespace Go.Proofs.Ytocoeodoihdkgaa
open Go.RowKit

theorem OdAt.keep {w w' : World} {g : Nat} {s : Int → Int} {rest : List Value} (h : OdAt w g s rest) (u : Upd 0 0 w w') : OdAt w' g s rest := h.upd u (.inr (Nat.zero_le _))
theorem odds_get (s : Int → Int) (rest : List Value) (p : Nat) (hp : p < 512) : (oddsV s ++ rest)[p]? = some (.int .u16 (s p)) := by rw [List.getElem?_append_left (by simpa using hp)]; exact oddsV_at s p hp
theorem odds_back (s : Int → Int) (rest : List Value) (i : Nat) (v : Value) (h : rest[i]? = some v) : (oddsV s ++ rest)[512 + i]? = some v := by rw [List.getElem?_append_right (by simp)]; simpa using h
set_option maxRecDepth 100000 in
set_option maxHeartbeats 8000000 in
theorem implSplit (g p : Nat) (s : Int → Int) (rng : Int) (tl : List Value) (w : World) (h : OdAt w g s (.int .u32 rng :: tl)) (hp : p < 512) (hs : SOk s) (r0 : 16777216 ≤ rng) (r1 : rng ≤ 4294967295) :
    Calls Try.prog 100 #[.pointer (some ⟨g, 0, none⟩), .int .i64 (p : Int)] w fun e w' => e = .returned (.int .u32 (splitF rng (s p))) ∧ Upd 0 0 w w' := by
  have hsp := split_bd rng (s p) (hs p) r0
  have hcell := odds_get s (.int .u32 rng :: tl) p hp
  have hcw := odds_back s (.int .u32 rng :: tl) 0 _ rfl
  have hob := hs p
  have hsv : splitF rng (s p) = rng / 4096 * s p := rfl
  generalize splitF rng (s p) = sv at hsp hsv ⊢
  generalize s p = o at hcell hob hsv
  obtain ⟨o0, o1⟩ := hob
  have hwm : IntKind.u32.wrap (rng / 4096 * o) = sv := by rw [← hsv]; simp [IntKind.wrap, IntKind.bits, IntKind.signed]; omega
  have hwo : IntKind.u32.wrap o = o := by simp [IntKind.wrap, IntKind.bits, IntKind.signed]; omega
  have hpI : (p : Int) < 512 := by omega
  have hof : g < w.heap.size := h.lt
  replace h := hide h
  replace hcell := hide hcell
  replace hcw := hide hcw
  clear hs hsv
  go_enter Try.func100, Try.ntmps100
  go_wp2_with fail
  have kc := fun x : UpdT w => (((unhide h).1.updT x).2 p _ (unhide hcell))
  have kw := fun x : UpdT w => (((unhide h).1.updT x).2 512 _ (unhide hcw))
  refine wq_region_tail 13 (by kernel_rfl) (by kernel_rfl) ?_
  simp only [List.take_succ_cons, List.take_zero, List.drop_succ_cons, List.drop_zero]
  iterate 13
    refine WQ.step (fun K hK => ?_)
    go_simp
    refine hK _ ?_
    clear hK K
  refine WQ.nil ?_
  rintro _ ⟨x, rfl⟩
  clear kc kw
  have hx := hide x.upd
  generalize x.to = wt at hx ⊢
  replace hwo := hide hwo
  replace hwm := hide hwm
  go_wp2
  go_ret
  exact ⟨ret_int (by first | rfl | rw [unhide hwo, unhide hwm]), unhide hx⟩
def rngF (rng sv b : Int) : Int := if b = 0 then sv else rng - sv
set_option maxRecDepth 100000 in
set_option maxHeartbeats 8000000 in
theorem implNarrow (g p : Nat) (b : Int) (s : Int → Int) (rng sv : Int) (tl : List Value) (w : World) (h : OdAt w g s (.int .u32 rng :: tl)) (hp : p < 512) (hs : SOk s) (r1 : rng ≤ 4294967295) (s0 : 0 ≤ sv) (s1 : sv ≤ rng) :
    Calls Try.prog 102 #[.pointer (some ⟨g, 0, none⟩), .agg #[.int .i64 (p : Int), .int .i64 b], .int .u32 sv] w fun e w' => e = .returned (.tuple #[]) ∧ OdAt w' g (oddsSet s (p, b)) (.int .u32 (rngF rng sv b) :: tl) ∧ Upd g (g + 1) w w' := by
  have hu0 := Upd.of_below ((Below.refl w.heap.size w).alloc (Nat.le_refl _) (.cells #[.int .i64 (p : Int), .int .i64 b] 38)) 0 0
  have h1 := h.keep hu0
  have hch := heldF_new w [.int .i64 (p : Int), .int .i64 b] 38
  have hgl := h.lt
  have hL := hide (fun X tl (hX : OdAt X g s tl) => implLearn g p b s tl X hX hp hs)
  have hof := hgl
  replace hu0 := hide hu0
  replace h1 := hide h1
  replace hch := hide hch
  clear h hs
  obtain ⟨nr, hnr⟩ : ∃ nr, rngF rng sv b = nr := ⟨_, rfl⟩
  have hnr2 := hnr
  unfold rngF at hnr2
  rw [hnr]
  clear hnr
  by_cases hb : b = 0
  · have t : (b == 0) = true := by simpa using hb
    rw [if_pos hb] at hnr2
    subst hnr2
    clear hb
    go_enter Try.func102, Try.ntmps102
    go_upto_region 1 with fail
    simp only [List.toArray] at hch
    generalize hw0 : w.alloc (.cells #[.int .i64 (p : Int), .int .i64 b] 38) = w0 at h1 hch hu0 ⊢
    clear hw0
    have hcg : w.heap.size ≠ g := by omega
    generalize w.heap.size = c at hch hcg ⊢
    have d1 := (unhide hch).1.2 1 _ rfl
    have f512 := (unhide h1).frozen 512
    have c512 := (unhide h1).back 0 _ rfl
    simp only [Nat.add_zero] at c512
    go_upto_region 4 with fail
    clear d1 f512 c512
    have h2 := hide (show OdAt (w0.setCell ⟨g, 512, none⟩ (.int .u32 sv)) g s (.int .u32 sv :: tl) from (unhide h1).setBack 0 (by simp) (.int .u32 sv))
    have hch2 := hide ((unhide hch).other (g' := g) (by omega) 512 (.int .u32 sv))
    have hu2 : Hid (Upd g (g + 1) w (w0.setCell ⟨g, 512, none⟩ (.int .u32 sv))) := hide (Upd.trans ⟨(unhide hu0).os, (unhide hu0).tape, (unhide hu0).output, (unhide hu0).size, fun k hk _ => (unhide hu0).block k hk (.inr (Nat.zero_le _))⟩ (upd_setCell w0 g 512 _))
    clear h1 hch hu0
    generalize w0.setCell ⟨g, 512, none⟩ (.int .u32 sv) = w2 at h2 hch2 hu2 ⊢
    have k0 := fun X : UpdT w2 => (((unhide hch2).1.updT X).2 0 _ rfl)
    have k1 := fun X : UpdT w2 => (((unhide hch2).1.updT X).2 1 _ rfl)
    refine wq_region_tail 4 (by kernel_rfl) (by kernel_rfl) ?_
    simp only [List.take_succ_cons, List.take_zero, List.drop_succ_cons, List.drop_zero]
    iterate 4
      refine WQ.step (fun K hK => ?_)
      go_simp
      refine hK _ ?_
      clear hK K
    refine WQ.nil ?_
    rintro _ ⟨X, rfl⟩
    clear k0 k1
    have hX := X.upd
    generalize X.to = wt at hX ⊢
    have h3 := (unhide h2).keep hX
    have hu3 : Hid (Upd g (g + 1) w wt) := hide (Upd.trans (unhide hu2) ⟨hX.os, hX.tape, hX.output, hX.size, fun k hk _ => hX.block k hk (.inr (Nat.zero_le _))⟩)
    clear hX h2 hch2 hu2
    go_wp2_with fail
    refine (unhide hL wt _ h3).mono ?_
    rintro e w4 ⟨rfl, h4, hu4⟩
    have hu5 := hide ((unhide hu3).trans hu4)
    replace h4 := hide h4
    clear hu3 hu4 h3 hL
    go_wp2
    go_end0
    exact ⟨rfl, unhide h4, unhide hu5⟩
  · have t : (b == 0) = false := by simpa using hb
    rw [if_neg hb] at hnr2
    have hwr : IntKind.u32.wrap (rng - sv) = nr := by rw [hnr2]; simp [IntKind.wrap, IntKind.bits, IntKind.signed]; omega
    clear hb
    replace hnr2 := hide hnr2
    go_enter Try.func102, Try.ntmps102
    go_upto_region 1 with fail
    simp only [List.toArray] at hch
    generalize hw0 : w.alloc (.cells #[.int .i64 (p : Int), .int .i64 b] 38) = w0 at h1 hch hu0 ⊢
    clear hw0
    have hcg : w.heap.size ≠ g := by omega
    generalize w.heap.size = c at hch hcg ⊢
    have d1 := (unhide hch).1.2 1 _ rfl
    have f512 := (unhide h1).frozen 512
    have c512 := (unhide h1).back 0 _ rfl
    simp only [Nat.add_zero] at c512
    go_upto_region 4 with fail
    clear d1 f512 c512
    have h2 := hide (show OdAt (w0.setCell ⟨g, 512, none⟩ (.int .u32 nr)) g s (.int .u32 nr :: tl) from (unhide h1).setBack 0 (by simp) (.int .u32 nr))
    have hch2 := hide ((unhide hch).other (g' := g) (by omega) 512 (.int .u32 nr))
    have hu2 : Hid (Upd g (g + 1) w (w0.setCell ⟨g, 512, none⟩ (.int .u32 nr))) := hide (Upd.trans ⟨(unhide hu0).os, (unhide hu0).tape, (unhide hu0).output, (unhide hu0).size, fun k hk _ => (unhide hu0).block k hk (.inr (Nat.zero_le _))⟩ (upd_setCell w0 g 512 _))
    clear h1 hch hu0
    generalize w0.setCell ⟨g, 512, none⟩ (.int .u32 nr) = w2 at h2 hch2 hu2 ⊢
    have k0 := fun X : UpdT w2 => (((unhide hch2).1.updT X).2 0 _ rfl)
    have k1 := fun X : UpdT w2 => (((unhide hch2).1.updT X).2 1 _ rfl)
    refine wq_region_tail 4 (by kernel_rfl) (by kernel_rfl) ?_
    simp only [List.take_succ_cons, List.take_zero, List.drop_succ_cons, List.drop_zero]
    iterate 4
      refine WQ.step (fun K hK => ?_)
      go_simp
      refine hK _ ?_
      clear hK K
    refine WQ.nil ?_
    rintro _ ⟨X, rfl⟩
    clear k0 k1
    have hX := X.upd
    generalize X.to = wt at hX ⊢
    have h3 := (unhide h2).keep hX
    have hu3 : Hid (Upd g (g + 1) w wt) := hide (Upd.trans (unhide hu2) ⟨hX.os, hX.tape, hX.output, hX.size, fun k hk _ => hX.block k hk (.inr (Nat.zero_le _))⟩)
    clear hX h2 hch2 hu2
    go_wp2_with fail
    refine (unhide hL wt _ h3).mono ?_
    rintro e w4 ⟨rfl, h4, hu4⟩
    have hu5 := hide ((unhide hu3).trans hu4)
    replace h4 := hide h4
    clear hu3 hu4 h3 hL
    go_wp2
    go_end0
    exact ⟨rfl, unhide h4, unhide hu5⟩
set_option maxHeartbeats 4000000 in
theorem implWidenNo (g : Nat) (s : Int → Int) (rng : Int) (tl : List Value) (w : World) (h : OdAt w g s (.int .u32 rng :: tl)) (r0 : 16777216 ≤ rng) :
    Calls Try.prog 103 #[.pointer (some ⟨g, 0, none⟩)] w fun e w' => e = .returned (.bool false) ∧ w' = w := by
  have c := h.back 0 _ rfl
  simp only [Nat.add_zero] at c
  have t : decide (16777216 ≤ rng) = true := decide_eq_true r0
  clear h
  go_enter Try.func103, Try.ntmps103
  go_wp2
  go_ret
  exact ⟨rfl, rfl⟩
set_option maxHeartbeats 4000000 in
theorem implWidenYes (g : Nat) (s : Int → Int) (rng : Int) (tl : List Value) (w : World) (h : OdAt w g s (.int .u32 rng :: tl)) (r0 : 0 ≤ rng) (r1 : rng < 16777216) :
    Calls Try.prog 103 #[.pointer (some ⟨g, 0, none⟩)] w fun e w' => e = .returned (.bool true) ∧ OdAt w' g s (.int .u32 (rng * 256) :: tl) ∧ Upd g (g + 1) w w' := by
  have c := h.back 0 _ rfl
  have f := h.frozen 512
  simp only [Nat.add_zero] at c
  have t : decide (16777216 ≤ rng) = false := decide_eq_false (by omega)
  have hw : IntKind.u32.wrap (rng * 256) = rng * 256 := by simp [IntKind.wrap, IntKind.bits, IntKind.signed]; omega
  have hfin := hide (show OdAt (w.setCell ⟨g, 512, none⟩ (.int .u32 (rng * 256))) g s (.int .u32 (rng * 256) :: tl) from h.setBack 0 (by simp) (.int .u32 (rng * 256)))
  have hu := hide (upd_setCell w g 512 (.int .u32 (rng * 256)))
  clear h
  go_enter Try.func103, Try.ntmps103
  go_wp2
  go_ret
  exact ⟨rfl, unhide hfin, unhide hu⟩
end Go.Proofs.Ytocoeodoihdkgaa
