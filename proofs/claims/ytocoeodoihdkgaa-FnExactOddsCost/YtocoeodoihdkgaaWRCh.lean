/- Lists of Choices: 2 numbers each; the walks of the laws' own helpers on them. -/
import Derived.Test.YtocoeodoihdkgaaWInts
import Derived.Test.YtocoeodoihdkgaaWOwn2
import Derived.Deep.RegionWith
namespace Go.Proofs.Ytocoeodoihdkgaa
open Go.RowKit

abbrev Ch := Int × Int
abbrev Ch0 : Ch := (0, 0)
def cellsCh (ps : List Ch) : List Value := ps.flatMap fun p => [.int .i64 p.1, .int .i64 p.2]
theorem cellsCh_length (ps : List Ch) : (cellsCh ps).length = ps.length * 2 := by
  induction ps with
  | nil => rfl
  | cons p ps ih => unfold cellsCh at ih ⊢; rw [List.flatMap_cons, List.length_append, ih]; simp; omega
theorem cellsCh_snoc (ps : List Ch) (p : Ch) : cellsCh (ps ++ [p]) = cellsCh ps ++ [.int .i64 p.1, .int .i64 p.2] := by unfold cellsCh; simp
def RowCh (ys : List Value) (ps : List Ch) (k : Nat) : Prop := ∀ j, j < k → ys[j * 2]? = some (.int .i64 (ps.getD j Ch0).1) ∧ ys[j * 2 + 1]? = some (.int .i64 (ps.getD j Ch0).2)
theorem cellsCh_at (ps : List Ch) : RowCh (cellsCh ps) ps ps.length := by
  induction ps with
  | nil => intro j hj; simp at hj
  | cons p ps ih =>
    intro j hj
    have e : cellsCh (p :: ps) = [.int .i64 p.1, .int .i64 p.2] ++ cellsCh ps := by unfold cellsCh; simp
    rw [e]
    cases j with
    | zero => exact ⟨rfl, rfl⟩
    | succ j =>
      have h := ih j (by simpa using hj)
      rw [List.getElem?_append_right (by simp; omega), List.getElem?_append_right (by simp; omega)]
      simp only [List.length_cons, List.length_nil, List.getD_cons_succ]
      rw [show (j + 1) * 2 - (0 + 1 + 1) = j * 2 by omega, show (j + 1) * 2 + 1 - (0 + 1 + 1) = j * 2 + 1 by omega]
      exact h
theorem cellsCh_of {ys : List Value} {ps : List Ch} (hl : ys.length = ps.length * 2) (h : RowCh ys ps ps.length) : ys = cellsCh ps := by
  apply List.ext_getElem?
  intro i
  by_cases hi : i < ps.length * 2
  · have h1 := h (i / 2) (by omega)
    have h2 := cellsCh_at ps (i / 2) (by omega)
    rcases (show i = i / 2 * 2 ∨ i = i / 2 * 2 + 1 by omega) with e | e
    · rw [e, h1.1, h2.1]
    · rw [e, h1.2, h2.2]
  · rw [List.getElem?_eq_none (by omega), List.getElem?_eq_none (by rw [cellsCh_length]; omega)]
def AtCh (w : World) (b off : Nat) (ps : List Ch) : Prop := ∀ j, j < ps.length → w.cell? ⟨b, off + j * 2, none⟩ = some (.int .i64 (ps.getD j Ch0).1) ∧ w.cell? ⟨b, off + j * 2 + 1, none⟩ = some (.int .i64 (ps.getD j Ch0).2)
def InCh (ps : List Ch) : Prop := ∀ j, (-9223372036854775808 ≤ (ps.getD j Ch0).1 ∧ (ps.getD j Ch0).1 ≤ 9223372036854775807) ∧ (-9223372036854775808 ≤ (ps.getD j Ch0).2 ∧ (ps.getD j Ch0).2 ≤ 9223372036854775807)
def ArgCh (w : World) (ad : Option Addr) (ps : List Ch) : Prop := ps ≠ [] → ∃ b off, ad = some ⟨b, off, none⟩ ∧ b < w.heap.size ∧ AtCh w b off ps
theorem ArgCh.below {w w' : World} {ad : Option Addr} {ps : List Ch} (h : ArgCh w ad ps) (hb : Below w.heap.size w w') : ArgCh w' ad ps := by
  intro hne
  obtain ⟨b, off, e, hl, hc⟩ := h hne
  exact ⟨b, off, e, Nat.lt_of_lt_of_le hl hb.size, fun j hj => ⟨(hb.cell (by simpa using hl)).trans (hc j hj).1, (hb.cell (by simpa using hl)).trans (hc j hj).2⟩⟩
def RdCh (w : World) (v : Value) (ps : List Ch) : Prop := ∃ ad cap, v = .slice ad ps.length cap ∧ ArgCh w ad ps
theorem RdCh.below {w w' : World} {v : Value} {ps : List Ch} (h : RdCh w v ps) (hb : Below w.heap.size w w') : RdCh w' v ps := by
  obtain ⟨ad, cap, e, h⟩ := h
  exact ⟨ad, cap, e, h.below hb⟩
abbrev OwnCh (w : World) (a b : Nat) (v : Value) (ps : List Ch) : Prop := Own 38 2 w a b v ps.length (cellsCh ps)
theorem OwnCh.rd {w : World} {a b : Nat} {v : Value} {ps : List Ch} (h : OwnCh w a b v ps) : RdCh w v ps := by
  rcases h.1.2 with ⟨rfl, hn⟩ | ⟨g, cap, cur, rfl, h1, h2, h3⟩
  · refine ⟨none, 0, by rw [hn], fun hne => absurd (List.length_eq_zero_iff.1 hn) hne⟩
  · refine ⟨some ⟨g, 0, none⟩, cap, rfl, fun _ => ⟨g, 0, rfl, (h.1.lt g rfl).2, fun j hj => ?_⟩⟩
    have := cellsCh_at ps j hj
    rw [Nat.zero_add, h.1.cellAt _ (by omega), h.1.cellAt _ (by omega)]
    exact this
def marksCh (k n : Nat) : List Ch := (List.range n).map fun j => (((k + 2 * j : Nat) : Int), ((k + 2 * j + 1 : Nat) : Int))
@[simp] theorem marksCh_length (k n : Nat) : (marksCh k n).length = n := by simp [marksCh]
theorem marksCh_at (k n j : Nat) (h : j < n) : (marksCh k n).getD j Ch0 = (((k + 2 * j : Nat) : Int), ((k + 2 * j + 1 : Nat) : Int)) := by
  unfold marksCh; rw [List.getD_eq_getElem?_getD, List.getElem?_map, List.getElem?_range h]; rfl
theorem infoCh : (Try.prog.info? 38).map (fun i => (i.zero, i.size, i.bytes)) = some (some (.agg #[.int .i64 0, .int .i64 0]), 2, 16) := by kernel_rfl
theorem own_nilCh (w : World) (a b : Nat) : OwnCh w a b (.slice none 0 0) [] := ⟨World.ownsRow_nil _ _ _ _, fun k hk => by simp [Value.ownBlock] at hk⟩

set_option maxHeartbeats 1000000 in
theorem toChoice_any (x0 : Int) (x1 : Int) (w : World) :
    Calls Try.prog 87 #[.agg #[.int .i64 x0, .int .i64 x1]] w fun e w' => e = .returned (.agg #[.int .i64 x0, .int .i64 x1]) ∧ Below w.heap.size w w' := by
  go_enter Try.func87, Try.ntmps87
  go_wp2
  refine bodyPost_ret (v := .agg #[.int .i64 x0, .int .i64 x1]) (by simp [results, Try.results87, go_sem]) rfl ⟨rfl, ?_⟩
  repeat (first | exact Below.refl _ _ | refine Below.setCell ?_ (by simp) _ | refine Below.alloc ?_ (by first | exact Nat.le_refl _ | (simp; done) | (simp; omega)) _)

set_option maxHeartbeats 1000000 in
theorem eqChoice_eq (x0 : Int) (x1 : Int) (w : World) :
    Calls Try.prog 88 #[.agg #[.int .i64 x0, .int .i64 x1], .agg #[.int .i64 x0, .int .i64 x1]] w fun e w' => e = .returned (.bool true) ∧ Below w.heap.size w w' := by
  go_enter Try.func88, Try.ntmps88
  go_wp2
  go_ret
  refine ⟨rfl, ?_⟩
  repeat (first | exact Below.refl _ _ | refine Below.setCell ?_ (by simp) _ | refine Below.alloc ?_ (by first | exact Nat.le_refl _ | (simp; done) | (simp; omega)) _)

set_option maxHeartbeats 1000000 in
theorem szChoiceS_any (ad : Option Addr) (n cap : Nat) (left : Int) (w : World) (h0 : 0 ≤ left) (h1 : left ≤ 1099511627776) (hn : n ≤ 9223372036854775807) :
    Calls Try.prog 40 #[.slice ad n cap, .int .i64 left] w fun e w' => e = .returned (.int .i64 (if left < n then -1 else left - n)) ∧ w' = w := by
  by_cases hlt : left < n
  · rw [if_pos hlt]
    go_enter Try.func40, Try.ntmps40
    go_wp2
    go_ret
    exact ⟨rfl, rfl⟩
  · rw [if_neg hlt]
    go_enter Try.func40, Try.ntmps40
    go_wp2
    go_ret
    exact ⟨rfl, rfl⟩

set_option maxHeartbeats 4000000 in
theorem toChoiceS_own (ad : Option Addr) (cap : Nat) (ps : List Ch) (w : World) (hn : ps.length ≤ 1048576) (hA : ArgCh w ad ps) :
    Calls Try.prog 41 #[.slice ad ps.length cap] w fun e w' =>
      ∃ v, e = .returned v ∧ OwnCh w' w.heap.size w'.heap.size v ps ∧ Upd 0 0 w w' := by
  obtain ⟨i0, hi, hz0, hz1, hz2⟩ := info_parts infoCh
  replace hA := hide hA
  go_enter Try.func41, Try.ntmps41
  go_wp2_with (at_make; refine wpList_make_full _ rfl _ _ 32 rfl w.heap.size 38 i0 (.agg #[.int .i64 0, .int .i64 0]) 2 Try.underlying32 hi hz0 hz1 .i64 .i64 _ _ ps.length rfl rfl (by omega) (by omega) (by rw [hz2]; omega) (by unfold maxLen; omega) (Nat.le_refl _) ?_; intro w1 hown hgrow)
  have hbel := (Below.refl w.heap.size w).grown hgrow (Nat.le_refl _) (by simp)
  generalize (madeCells (Value.cells (.agg #[.int .i64 0, .int .i64 0])) (ps.length * 2)).toList = ys0 at hown
  clear hgrow
  go_loopw [4] (fun i wr => ∃ k : Nat, ∃ ys, k ≤ ps.length ∧ i = .int .i64 k ∧ wr.ownsRow w.heap.size 38 2 (.slice (some ⟨w.heap.size, 0, none⟩) ps.length ps.length) ps.length ys ∧ Hid (RowCh ys ps k) ∧ Below w.heap.size w wr) (fun i _ => ps.length - (intOf i).toNat)
  case atStart => exact ⟨0, ys0, Nat.zero_le _, rfl, hown, fun j hj => by omega, hbel⟩
  case round =>
    clear hown hbel
    obtain ⟨k, ys, hk, rfl, hown, hrow, hbel⟩ := hrel
    by_cases hlt : k < ps.length
    · obtain ⟨b, off, rfl, hbl, hc⟩ := (unhide hA) (ne_of_lt_length hlt)
      have hl : ys.length = ps.length * 2 := hown.1
      have d0 := (hbel.cell (p := ⟨b, off + k * 2, none⟩) (by simpa using hbl)).trans (hc k hlt).1
      have d1 := (hbel.cell (p := ⟨b, off + k * 2 + 1, none⟩) (by simpa using hbl)).trans (hc k hlt).2
      generalize hf : ps.getD k Ch0 = f at d0 d1
      replace hf := hide hf
      obtain ⟨x0, x1⟩ := f
      simp only at d0 d1
      replace hc := hide hc
      go_wp2_with fail
      refine (toChoice_any x0 x1 wr).mono ?_
      rintro e w2 ⟨rfl, hb2⟩
      have hown2 := ownsP_below hown hb2
      have hbel2 := hbel.trans (hb2.mono hbel.size)
      clear hown hbel hb2 d0 d1 hc
      have e0 : ∃ a, w2.cell? ⟨w.heap.size, k * 2, none⟩ = some a := by rw [hown2.cellAt _ (by omega)]; exact ⟨_, List.getElem?_eq_getElem (by omega)⟩
      have e1 : ∃ a, w2.cell? ⟨w.heap.size, k * 2 + 1, none⟩ = some a := by rw [hown2.cellAt _ (by omega)]; exact ⟨_, List.getElem?_eq_getElem (by omega)⟩
      obtain ⟨a0, e0⟩ := e0
      obtain ⟨a1, e1⟩ := e1
      have f0 := hown2.frozenAt (k * 2)
      have f1 := hown2.frozenAt (k * 2 + 1)
      have hst := hide (((hown2.stored (k * 2) (.int .i64 x0)).1.stored (k * 2 + 1) (.int .i64 x1)).1)
      have hB2 := hide (((hbel2.setCell (p := ⟨w.heap.size, k * 2, none⟩) (Nat.le_refl _) (.int .i64 x0)).setCell (p := ⟨w.heap.size, k * 2 + 1, none⟩) (Nat.le_refl _) (.int .i64 x1)))
      have hrow2 : Hid (RowCh ((ys.set (k * 2) (.int .i64 x0)).set (k * 2 + 1) (.int .i64 x1)) ps (k + 1)) := by
        intro j hj
        by_cases e : j = k
        · subst e
          rw [unhide hf]
          refine ⟨?_, ?_⟩
          · rw [List.getElem?_set_ne (by omega), List.getElem?_set_self (by first | omega | (simp; omega))]
          · rw [List.getElem?_set_self (by first | omega | (simp; omega))]
        · have := unhide hrow j (by omega)
          refine ⟨?_, ?_⟩
          · rw [List.getElem?_set_ne (by omega), List.getElem?_set_ne (by omega)]; exact this.1
          · rw [List.getElem?_set_ne (by omega), List.getElem?_set_ne (by omega)]; exact this.2
      clear hown2 hbel2 hrow hf
      go_wp2
      go_roundw
      case rel => exact ⟨k + 1, _, by omega, by go_num, unhide hst, hrow2, unhide hB2⟩
      case measure => simp [intOf]; omega
    · have hkl : k = ps.length := by omega
      subst hkl
      have he := cellsCh_of hown.1 (unhide hrow)
      rw [he] at hown
      replace hown := hide (Own.of hown)
      clear hrow he
      go_wp2
      go_ret
      exact ⟨_, rfl, unhide hown, Upd.of_below hbel 0 0⟩

set_option maxHeartbeats 8000000 in
theorem eqChoiceS_rd (u v : Value) (ps : List Ch) (w : World) (hn : ps.length ≤ 1048576) (hu : RdCh w u ps) (hv : RdCh w v ps) :
    Calls Try.prog 43 #[u, v] w fun e w' => e = .returned (.bool true) ∧ Upd 0 0 w w' := by
  obtain ⟨ad, cap, rfl, hA⟩ := hu
  obtain ⟨ad', cap', rfl, hA'⟩ := hv
  replace hA := hide hA
  replace hA' := hide hA'
  go_enter Try.func43, Try.ntmps43
  go_wp2
  go_loopw [5] (fun i wr => ∃ k : Nat, k ≤ ps.length ∧ i = .int .i64 k ∧ Below w.heap.size w wr) (fun i _ => ps.length - (intOf i).toNat)
  case atStart => exact ⟨0, Nat.zero_le _, rfl, Below.refl _ _⟩
  case round =>
    obtain ⟨k, hk, rfl, hbel⟩ := hrel
    by_cases hlt : k < ps.length
    · obtain ⟨b, off, rfl, hbl, hc⟩ := ((unhide hA).below hbel) (ne_of_lt_length hlt)
      obtain ⟨b', off', rfl, hbl', hc'⟩ := ((unhide hA').below hbel) (ne_of_lt_length hlt)
      obtain ⟨d0, d1⟩ := hc k hlt
      obtain ⟨g0, g1⟩ := hc' k hlt
      clear hc hc' hbl hbl'
      generalize ps.getD k Ch0 = f at d0 d1 g0 g1
      obtain ⟨x0, x1⟩ := f
      simp only at d0 d1 g0 g1
      have hk0 : (0 : Int) ≤ (k : Int) := by omega
      have hk1 : (k : Int) < (ps.length : Int) := by omega
      go_wp2_with fail
      go_region_with (go_at_call 88; refine (eqChoice_eq x0 x1 _).mono ?_; rintro e w2 ⟨rfl, hb2⟩)
      all_goals
        have hb3 := hbel.drew.trans (hb2.mono (show w.heap.size ≤ _ from hbel.size))
        clear hb2
        go_wp2
        go_roundw
        case rel => exact ⟨k + 1, by omega, by go_num, hb3⟩
        case measure => simp [intOf]; omega
    · have hkl : k = ps.length := by omega
      subst hkl
      go_wp2
      go_ret
      exact ⟨rfl, Upd.of_below hbel 0 0⟩
end Go.Proofs.Ytocoeodoihdkgaa
