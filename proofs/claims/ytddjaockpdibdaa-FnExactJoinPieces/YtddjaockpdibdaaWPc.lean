/- Lists of pieces: three numbers each; the walks of the laws' own helpers on them. -/
import Derived.Test.YtddjaockpdibdaaWInts
import Derived.Deep.RegionWith
namespace Go.Proofs.Ytddjaockpdibdaa
open Go.RowKit

abbrev Pc := Int × Int × Int
abbrev pc0 : Pc := (0, 0, 0)
def pcells (ps : List Pc) : List Value := ps.flatMap fun p => [.int .i64 p.1, .int .i64 p.2.1, .int .i64 p.2.2]
theorem pcells_length (ps : List Pc) : (pcells ps).length = ps.length * 3 := by
  induction ps with
  | nil => rfl
  | cons p ps ih => unfold pcells at ih ⊢; rw [List.flatMap_cons, List.length_append, ih]; simp; omega
theorem pcells_snoc (ps : List Pc) (p : Pc) : pcells (ps ++ [p]) = pcells ps ++ [.int .i64 p.1, .int .i64 p.2.1, .int .i64 p.2.2] := by unfold pcells; simp
def PcRow (ys : List Value) (ps : List Pc) (k : Nat) : Prop := ∀ j, j < k → ys[j * 3]? = some (.int .i64 (ps.getD j pc0).1) ∧ ys[j * 3 + 1]? = some (.int .i64 (ps.getD j pc0).2.1) ∧ ys[j * 3 + 2]? = some (.int .i64 (ps.getD j pc0).2.2)
theorem pcells_at (ps : List Pc) : PcRow (pcells ps) ps ps.length := by
  induction ps with
  | nil => intro j hj; simp at hj
  | cons p ps ih =>
    intro j hj
    have e : pcells (p :: ps) = [.int .i64 p.1, .int .i64 p.2.1, .int .i64 p.2.2] ++ pcells ps := by unfold pcells; simp
    rw [e]
    cases j with
    | zero => exact ⟨rfl, rfl, rfl⟩
    | succ j =>
      have h := ih j (by simpa using hj)
      rw [List.getElem?_append_right (by simp; omega), List.getElem?_append_right (by simp; omega), List.getElem?_append_right (by simp; omega)]
      simp only [List.length_cons, List.length_nil, List.getD_cons_succ]
      rw [show (j + 1) * 3 - (0 + 1 + 1 + 1) = j * 3 by omega, show (j + 1) * 3 + 1 - (0 + 1 + 1 + 1) = j * 3 + 1 by omega, show (j + 1) * 3 + 2 - (0 + 1 + 1 + 1) = j * 3 + 2 by omega]
      exact h
theorem pcells_of {ys : List Value} {ps : List Pc} (hl : ys.length = ps.length * 3) (h : PcRow ys ps ps.length) : ys = pcells ps := by
  apply List.ext_getElem?
  intro i
  by_cases hi : i < ps.length * 3
  · have h1 := h (i / 3) (by omega)
    have h2 := pcells_at ps (i / 3) (by omega)
    rcases (show i = i / 3 * 3 ∨ i = i / 3 * 3 + 1 ∨ i = i / 3 * 3 + 2 by omega) with e | e | e
    · rw [e, h1.1, h2.1]
    · rw [e, h1.2.1, h2.2.1]
    · rw [e, h1.2.2, h2.2.2]
  · rw [List.getElem?_eq_none (by omega), List.getElem?_eq_none (by rw [pcells_length]; omega)]
def PcAt (w : World) (b off : Nat) (ps : List Pc) : Prop := ∀ j, j < ps.length → w.cell? ⟨b, off + j * 3, none⟩ = some (.int .i64 (ps.getD j pc0).1) ∧ w.cell? ⟨b, off + j * 3 + 1, none⟩ = some (.int .i64 (ps.getD j pc0).2.1) ∧ w.cell? ⟨b, off + j * 3 + 2, none⟩ = some (.int .i64 (ps.getD j pc0).2.2)
def InP (ps : List Pc) : Prop := ∀ j, (-9223372036854775808 ≤ (ps.getD j pc0).1 ∧ (ps.getD j pc0).1 ≤ 9223372036854775807) ∧ (-9223372036854775808 ≤ (ps.getD j pc0).2.1 ∧ (ps.getD j pc0).2.1 ≤ 9223372036854775807) ∧ (-9223372036854775808 ≤ (ps.getD j pc0).2.2 ∧ (ps.getD j pc0).2.2 ≤ 9223372036854775807)
def ArgP (w : World) (ad : Option Addr) (ps : List Pc) : Prop := ps ≠ [] → ∃ b off, ad = some ⟨b, off, none⟩ ∧ b < w.heap.size ∧ PcAt w b off ps
theorem ArgP.below {w w' : World} {ad : Option Addr} {ps : List Pc} (h : ArgP w ad ps) (hb : Below w.heap.size w w') : ArgP w' ad ps := by
  intro hne
  obtain ⟨b, off, e, hl, hc⟩ := h hne
  exact ⟨b, off, e, Nat.lt_of_lt_of_le hl hb.size, fun j hj => ⟨(hb.cell (by simpa using hl)).trans (hc j hj).1, (hb.cell (by simpa using hl)).trans (hc j hj).2.1, (hb.cell (by simpa using hl)).trans (hc j hj).2.2⟩⟩
def RdP (w : World) (v : Value) (ps : List Pc) : Prop := ∃ ad cap, v = .slice ad ps.length cap ∧ ArgP w ad ps
theorem RdP.below {w w' : World} {v : Value} {ps : List Pc} (h : RdP w v ps) (hb : Below w.heap.size w w') : RdP w' v ps := by
  obtain ⟨ad, cap, e, h⟩ := h
  exact ⟨ad, cap, e, h.below hb⟩
abbrev OwnP (w : World) (a b : Nat) (v : Value) (ps : List Pc) : Prop := Own 102 3 w a b v ps.length (pcells ps)
theorem OwnP.rd {w : World} {a b : Nat} {v : Value} {ps : List Pc} (h : OwnP w a b v ps) : RdP w v ps := by
  rcases h.1.2 with ⟨rfl, hn⟩ | ⟨g, cap, cur, rfl, h1, h2, h3⟩
  · refine ⟨none, 0, by rw [hn], fun hne => absurd (List.length_eq_zero_iff.1 hn) hne⟩
  · refine ⟨some ⟨g, 0, none⟩, cap, rfl, fun _ => ⟨g, 0, rfl, (h.1.lt g rfl).2, fun j hj => ?_⟩⟩
    have := pcells_at ps j hj
    rw [Nat.zero_add, h.1.cellAt _ (by omega), h.1.cellAt _ (by omega), h.1.cellAt _ (by omega)]
    exact this
def marksP (k n : Nat) : List Pc := (List.range n).map fun j => (((k + 3 * j : Nat) : Int), ((k + 3 * j + 1 : Nat) : Int), ((k + 3 * j + 2 : Nat) : Int))
@[simp] theorem marksP_length (k n : Nat) : (marksP k n).length = n := by simp [marksP]
theorem marksP_at (k n j : Nat) (h : j < n) : (marksP k n).getD j pc0 = (((k + 3 * j : Nat) : Int), ((k + 3 * j + 1 : Nat) : Int), ((k + 3 * j + 2 : Nat) : Int)) := by
  unfold marksP; rw [List.getD_eq_getElem?_getD, List.getElem?_map, List.getElem?_range h]; rfl
theorem infoPc : (Try.prog.info? 102).map (fun i => (i.zero, i.size, i.bytes)) = some (some (.agg #[.int .i64 0, .int .i64 0, .int .i64 0]), 3, 24) := by kernel_rfl

set_option maxHeartbeats 1000000 in
theorem toPiece_any (x y z : Int) (w : World) :
    Calls Try.prog 84 #[.agg #[.int .i64 x, .int .i64 y, .int .i64 z]] w fun e w' => e = .returned (.agg #[.int .i64 x, .int .i64 y, .int .i64 z]) ∧ Below w.heap.size w w' := by
  go_enter Try.func84, Try.ntmps84
  go_wp2
  refine bodyPost_ret (v := .agg #[.int .i64 x, .int .i64 y, .int .i64 z]) (by simp [results, Try.results84, go_sem]) rfl ⟨rfl, ?_⟩
  repeat (first | exact Below.refl _ _ | refine Below.setCell ?_ (by simp) _ | refine Below.alloc ?_ (by first | exact Nat.le_refl _ | (simp; done) | (simp; omega)) _)

set_option maxHeartbeats 1000000 in
theorem eqPiece_eq (x y z : Int) (w : World) :
    Calls Try.prog 83 #[.agg #[.int .i64 x, .int .i64 y, .int .i64 z], .agg #[.int .i64 x, .int .i64 y, .int .i64 z]] w fun e w' => e = .returned (.bool true) ∧ Below w.heap.size w w' := by
  go_enter Try.func83, Try.ntmps83
  go_wp2
  go_ret
  refine ⟨rfl, ?_⟩
  repeat (first | exact Below.refl _ _ | refine Below.setCell ?_ (by simp) _ | refine Below.alloc ?_ (by first | exact Nat.le_refl _ | (simp; done) | (simp; omega)) _)

set_option maxHeartbeats 1000000 in
theorem szPieceS_any (ad : Option Addr) (n cap : Nat) (left : Int) (w : World) (h0 : 0 ≤ left) (h1 : left ≤ 1099511627776) (hn : n ≤ 9223372036854775807) :
    Calls Try.prog 48 #[.slice ad n cap, .int .i64 left] w fun e w' => e = .returned (.int .i64 (if left < n then -1 else left - n)) ∧ w' = w := by
  by_cases hlt : left < n
  · rw [if_pos hlt]
    go_enter Try.func48, Try.ntmps48
    go_wp2
    go_ret
    exact ⟨rfl, rfl⟩
  · rw [if_neg hlt]
    go_enter Try.func48, Try.ntmps48
    go_wp2
    go_ret
    exact ⟨rfl, rfl⟩

theorem ownsP_below {w w' : World} {base : Nat} {e : TypeId} {size n : Nat} {v : Value} {xs : List Value} (h : w.ownsRow base e size v n xs) (hb : Below w.heap.size w w') : w'.ownsRow base e size v n xs :=
  ((Own.of h).keep (Upd.of_below hb 0 0)).1

set_option maxHeartbeats 2000000 in
theorem toPieceS_own (ad : Option Addr) (cap : Nat) (ps : List Pc) (w : World) (hn : ps.length ≤ 1048576) (hA : ArgP w ad ps) :
    Calls Try.prog 49 #[.slice ad ps.length cap] w fun e w' =>
      ∃ v, e = .returned v ∧ OwnP w' w.heap.size w'.heap.size v ps ∧ Upd 0 0 w w' := by
  obtain ⟨i0, hi, hz0, hz1, hz2⟩ := info_parts infoPc
  replace hA := hide hA
  go_enter Try.func49, Try.ntmps49
  go_wp2_with (at_make; refine wpList_make_full _ rfl _ _ 51 rfl w.heap.size 102 i0 (.agg #[.int .i64 0, .int .i64 0, .int .i64 0]) 3 Try.underlying51 hi hz0 hz1 .i64 .i64 _ _ ps.length rfl rfl (by omega) (by omega) (by rw [hz2]; omega) (by unfold maxLen; omega) (Nat.le_refl _) ?_; intro w1 hown hgrow)
  have hbel := (Below.refl w.heap.size w).grown hgrow (Nat.le_refl _) (by simp)
  generalize (madeCells (Value.agg #[.int .i64 0, .int .i64 0, .int .i64 0]).cells (ps.length * 3)).toList = ys0 at hown
  clear hgrow
  go_loopw [4] (fun i wr => ∃ k : Nat, ∃ ys, k ≤ ps.length ∧ i = .int .i64 k ∧ wr.ownsRow w.heap.size 102 3 (.slice (some ⟨w.heap.size, 0, none⟩) ps.length ps.length) ps.length ys ∧ Hid (PcRow ys ps k) ∧ Below w.heap.size w wr) (fun i _ => ps.length - (intOf i).toNat)
  case atStart => exact ⟨0, ys0, Nat.zero_le _, rfl, hown, fun j hj => by omega, hbel⟩
  case round =>
    clear hown hbel
    obtain ⟨k, ys, hk, rfl, hown, hrow, hbel⟩ := hrel
    by_cases hlt : k < ps.length
    · obtain ⟨b, off, rfl, hbl, hc⟩ := (unhide hA) (ne_of_lt_length hlt)
      have hl : ys.length = ps.length * 3 := hown.1
      have d0 := (hbel.cell (p := ⟨b, off + k * 3, none⟩) (by simpa using hbl)).trans (hc k hlt).1
      have d1 := (hbel.cell (p := ⟨b, off + k * 3 + 1, none⟩) (by simpa using hbl)).trans (hc k hlt).2.1
      have d2 := (hbel.cell (p := ⟨b, off + k * 3 + 2, none⟩) (by simpa using hbl)).trans (hc k hlt).2.2
      generalize hf : ps.getD k pc0 = f at d0 d1 d2
      replace hf := hide hf
      obtain ⟨x, y, z⟩ := f
      simp only at d0 d1 d2
      replace hc := hide hc
      go_wp2_with fail
      refine (toPiece_any x y z wr).mono ?_
      rintro e w2 ⟨rfl, hb2⟩
      have hown2 := ownsP_below hown hb2
      have hbel2 := hbel.trans (hb2.mono hbel.size)
      clear hown hbel hb2 d0 d1 d2 hc
      have e0 : ∃ a, w2.cell? ⟨w.heap.size, k * 3, none⟩ = some a := by rw [hown2.cellAt _ (by omega)]; exact ⟨_, List.getElem?_eq_getElem (by omega)⟩
      have e1 : ∃ a, w2.cell? ⟨w.heap.size, k * 3 + 1, none⟩ = some a := by rw [hown2.cellAt _ (by omega)]; exact ⟨_, List.getElem?_eq_getElem (by omega)⟩
      have e2 : ∃ a, w2.cell? ⟨w.heap.size, k * 3 + 2, none⟩ = some a := by rw [hown2.cellAt _ (by omega)]; exact ⟨_, List.getElem?_eq_getElem (by omega)⟩
      obtain ⟨a0, e0⟩ := e0
      obtain ⟨a1, e1⟩ := e1
      obtain ⟨a2, e2⟩ := e2
      have f0 := hown2.frozenAt (k * 3)
      have f1 := hown2.frozenAt (k * 3 + 1)
      have f2 := hown2.frozenAt (k * 3 + 2)
      have hst := hide ((((hown2.stored (k * 3) (.int .i64 x)).1.stored (k * 3 + 1) (.int .i64 y)).1).stored (k * 3 + 2) (.int .i64 z)).1
      have hB2 := hide (((hbel2.setCell (p := ⟨w.heap.size, k * 3, none⟩) (Nat.le_refl _) (.int .i64 x)).setCell (p := ⟨w.heap.size, k * 3 + 1, none⟩) (Nat.le_refl _) (.int .i64 y)).setCell (p := ⟨w.heap.size, k * 3 + 2, none⟩) (Nat.le_refl _) (.int .i64 z))
      have hrow2 : Hid (PcRow (((ys.set (k * 3) (.int .i64 x)).set (k * 3 + 1) (.int .i64 y)).set (k * 3 + 2) (.int .i64 z)) ps (k + 1)) := by
        intro j hj
        by_cases e : j = k
        · subst e
          rw [unhide hf]
          refine ⟨?_, ?_, ?_⟩
          · rw [List.getElem?_set_ne (by omega), List.getElem?_set_ne (by omega), List.getElem?_set_self (by omega)]
          · rw [List.getElem?_set_ne (by omega), List.getElem?_set_self (by simp; omega)]
          · rw [List.getElem?_set_self (by simp; omega)]
        · have := unhide hrow j (by omega)
          refine ⟨?_, ?_, ?_⟩
          · rw [List.getElem?_set_ne (by omega), List.getElem?_set_ne (by omega), List.getElem?_set_ne (by omega)]; exact this.1
          · rw [List.getElem?_set_ne (by omega), List.getElem?_set_ne (by omega), List.getElem?_set_ne (by omega)]; exact this.2.1
          · rw [List.getElem?_set_ne (by omega), List.getElem?_set_ne (by omega), List.getElem?_set_ne (by omega)]; exact this.2.2
      clear hown2 hbel2 hrow hf
      go_wp2
      go_roundw
      case rel => exact ⟨k + 1, _, by omega, by go_num, unhide hst, hrow2, unhide hB2⟩
      case measure => simp [intOf]; omega
    · have hkl : k = ps.length := by omega
      subst hkl
      have he := pcells_of hown.1 (unhide hrow)
      rw [he] at hown
      replace hown := hide (Own.of hown)
      clear hrow he
      go_wp2
      go_ret
      exact ⟨_, rfl, unhide hown, Upd.of_below hbel 0 0⟩

set_option maxHeartbeats 4000000 in
theorem eqPieceS_rd (u v : Value) (ps : List Pc) (w : World) (hn : ps.length ≤ 1048576) (hu : RdP w u ps) (hv : RdP w v ps) :
    Calls Try.prog 43 #[u, v] w fun e w' => e = .returned (.bool true) ∧ Upd 0 0 w w' := by
  obtain ⟨ad, cap, rfl, hA⟩ := hu
  obtain ⟨ad', cap', rfl, hA'⟩ := hv
  replace hA := hide hA
  replace hA' := hide hA'
  go_enter Try.func43, Try.ntmps43
  go_wp2
  go_loopw [5] (fun i wr => ∃ k : Nat, k ≤ ps.length ∧ i = .int .i64 k ∧ Below w.heap.size w wr) (fun i _ => ps.length - (intOf i).toNat)
  case atStart => exact ⟨0, Nat.zero_le _, rfl, Below.refl _ _⟩
  case round =>
    obtain ⟨k, hk, rfl, hbel⟩ := hrel
    by_cases hlt : k < ps.length
    · obtain ⟨b, off, rfl, hbl, hc⟩ := ((unhide hA).below hbel) (ne_of_lt_length hlt)
      obtain ⟨b', off', rfl, hbl', hc'⟩ := ((unhide hA').below hbel) (ne_of_lt_length hlt)
      obtain ⟨d0, d1, d2⟩ := hc k hlt
      obtain ⟨g0, g1, g2⟩ := hc' k hlt
      clear hc hc' hbl hbl'
      generalize ps.getD k pc0 = f at d0 d1 d2 g0 g1 g2
      obtain ⟨x, y, z⟩ := f
      simp only at d0 d1 d2 g0 g1 g2
      have hk0 : (0 : Int) ≤ (k : Int) := by omega
      have hk1 : (k : Int) < (ps.length : Int) := by omega
      go_wp2_with fail
      go_region_with (go_at_call 83; refine (eqPiece_eq x y z _).mono ?_; rintro e w2 ⟨rfl, hb2⟩)
      all_goals
        have hb3 := hbel.drew.trans (hb2.mono (show w.heap.size ≤ _ from hbel.size))
        clear hb2
        go_wp2
        go_roundw
        case rel => exact ⟨k + 1, by omega, by go_num, hb3⟩
        case measure => simp [intOf]; omega
    · have hkl : k = ps.length := by omega
      subst hkl
      go_wp2
      go_ret
      exact ⟨rfl, Upd.of_below hbel 0 0⟩
end Go.Proofs.Ytddjaockpdibdaa
