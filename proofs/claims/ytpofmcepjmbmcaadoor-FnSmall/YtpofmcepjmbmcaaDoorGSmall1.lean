/- The texts behind FnSmall, part 1: what each of them says stands at its head. -/
import Derived.Test.YtpofmcepjmbmcaaDoorGSmall0
import Derived.Deep.QuietTactic
import Derived.BigQuiet
import Derived.Deep.RegionWith
import Derived.Deep.RegionHeld3
import Derived.Deep.WholeRow
import Derived.Laws.ResultCell
import Derived.Laws.CopyOwn
import Derived.StillTailTactics
import Derived.Deep.DeepCutAuto
import Derived.OwnWalk
import Derived.Laws.EntriesVeiled
import Derived.StillTail
/- A region that draws its order, whose operations read old memory and whose calls only lay new blocks: one walk of the text's order serves. -/
namespace Go.Proofs.YtpofmcepjmbmcaaDoor
open Go.RowKit

/-- The worlds in which all that was there is as it was. -/
def UpdT (w : World) : Type := { w' : World // Upd 0 0 w w' }
def UpdT.to {w : World} (x : UpdT w) : World := x.1
instance (w : World) : Nonempty (UpdT w) := ⟨⟨w, Upd.refl _ _ _⟩⟩
theorem UpdT.upd {w : World} (x : UpdT w) : Upd 0 0 w x.to := x.2
theorem wp_region_upd {P : Program} {id : Nat} {Q : Exit → Act → World → Prop} {a : Act} {w : World} {l : List Oper} (hm : P.follows .mixedOrders = true) (hB : Region.lexB .any l.toArray = true)
    (h : wpQuiet P l.toArray (fun w' => ∃ x : UpdT w, w' = x.to) (fun a' => ∀ w', (∃ x : UpdT w, w' = x.to) → Q .normal a' w') l a) : (Code.region id l.toArray true).wp P Q a w :=
  wp_region_quiet (C := fun w' => ∃ x : UpdT w, w' = x.to) hm hB ⟨⟨{ w with drawn := w.drawn + 1 }, ⟨rfl, rfl, rfl, Nat.le_refl _, fun _ _ _ => rfl⟩⟩, rfl⟩ (by simpa using h)
/-- A call that only lays new blocks, in such a world. -/
theorem Calls.updT {P : Program} {f : FuncId} {args : Array Value} {w : World} {v : Value} (x : UpdT w) (h : Calls P f args x.to fun e w' => e = .returned v ∧ Upd 0 0 x.to w') :
    Calls P f args x.to fun e w' => e = .returned v ∧ ∃ y : UpdT w, w' = y.to :=
  h.mono fun _ w' ⟨he, hu⟩ => ⟨he, ⟨w', x.upd.trans hu⟩, rfl⟩
theorem Calls.updT_same {P : Program} {f : FuncId} {args : Array Value} {w : World} {v : Value} (x : UpdT w) (h : Calls P f args x.to fun e w' => e = .returned v ∧ w' = x.to) :
    Calls P f args x.to fun e w' => e = .returned v ∧ ∃ y : UpdT w, w' = y.to :=
  h.mono fun _ _ ⟨he, hw⟩ => ⟨he, x, hw⟩
theorem Held.updT {w : World} {g : Nat} {cs : List Value} (h : Held w g cs) (x : UpdT w) : Held x.to g cs := h.keep x.upd
end Go.Proofs.YtpofmcepjmbmcaaDoor

/- The walk of a region that draws its order, behind a wrapper that no elaborator looks through (a guard's test is then never evaluated unasked). -/
namespace Go.Proofs.YtpofmcepjmbmcaaDoor
open Go.RowKit

structure WQ (P : Program) (ops : Array Oper) (C : World → Prop) (Q : Act → Prop) (l : List Oper) (a : Act) : Prop where
  h : wpQuiet P ops C Q l a
theorem WQ.nil {P : Program} {ops : Array Oper} {C : World → Prop} {Q : Act → Prop} {a : Act} (h : Q a) : WQ P ops C Q [] a := ⟨h⟩
theorem WQ.step {P : Program} {ops : Array Oper} {C : World → Prop} {Q : Act → Prop} {a : Act} {o : Oper} {rest : List Oper}
    (h : ∀ K : Act → Prop, (∀ a, WQ P ops C Q rest a → K a) → if Region.wanted o (yielded ops a.tmps) then o.quiet P a C K else K (a.put o.dst undef)) : WQ P ops C Q (o :: rest) a :=
  ⟨wpQuiet_step (fun K hK => h K (fun a ha => hK a ha.h))⟩
theorem wq_region_upd {P : Program} {id : Nat} {Q : Exit → Act → World → Prop} {a : Act} {w : World} {l : List Oper} (hm : P.follows .mixedOrders = true) (hB : Region.lexB .any l.toArray = true)
    (h : WQ P l.toArray (fun w' => ∃ x : UpdT w, w' = x.to) (fun a' => ∀ w', (∃ x : UpdT w, w' = x.to) → Q .normal a' w') l a) : (Code.region id l.toArray true).wp P Q a w :=
  wp_region_upd hm hB h.h
end Go.Proofs.YtpofmcepjmbmcaaDoor

/- Small blocks: the specification's walks. -/
namespace Go.Proofs.YtpofmcepjmbmcaaDoor
open Go.RowKit

theorem wrapS {n : Int} (h : -9223372036854775808 ≤ n ∧ n ≤ 9223372036854775807) : IntKind.i64.wrap n = n := by
  simp [IntKind.wrap, IntKind.bits, IntKind.signed]; omega
theorem cell_updS {w : World} {p : Addr} {v : Value} (h : w.cell? p = some v) (hp : p.block < w.heap.size) (X : UpdT w) : X.to.cell? p = some v := (X.upd.none.cell hp).trans h
set_option maxHeartbeats 4000000 in
theorem specL13Small (ad : Option Addr) (cap : Nat) (zs : List Int) (w : World) (hn : zs.length ≤ 1048576) (hA : ArgI w ad zs) :
    Calls Tryd.prog 73 #[.slice ad zs.length cap] w fun e w' => e = .returned (.bool (smB zs)) ∧ w' = w := by
  replace hA := hide hA
  have hNo : Hid (∀ k, k < zs.length → ¬ ((-65536 : Int) ≤ zs.getD k 0 ∧ zs.getD k 0 ≤ 65535) → smB zs = false) := hide (fun k hk h => smB_no (fun h' => h (h'.2 k hk)))
  have hYes : Hid ((∀ j, j < zs.length → ((-65536 : Int) ≤ zs.getD j 0 ∧ zs.getD j 0 ≤ 65535)) → smB zs = decide (zs.length = 16)) := hide (fun h => by
    by_cases hl : zs.length = 16
    · rw [smB_yes ⟨hl, h⟩, decide_eq_true hl]
    · rw [smB_no (fun h' => hl h'.1), decide_eq_false hl])
  go_enter Tryd.func73, Tryd.ntmps73
  go_wp2
  go_loop [7] (fun i => ∃ k : Nat, k ≤ zs.length ∧ i = .int .i64 k ∧ Hid (∀ j, j < k → ((-65536 : Int) ≤ zs.getD j 0 ∧ zs.getD j 0 ≤ 65535))) (fun i => zs.length - (intOf i).toNat)
  case atStart => exact ⟨0, Nat.zero_le _, rfl, fun j hj => by omega⟩
  case round =>
    obtain ⟨k, hk', rfl, hok⟩ := hrel
    by_cases hlt : k < zs.length
    · obtain ⟨bb, off, rfl, hbl, hcl⟩ := (unhide hA) (ne_of_lt_length hlt)
      have hck := hcl k hlt
      have hbad := hide (unhide hNo k hlt)
      have hOk : Hid (((-65536 : Int) ≤ zs.getD k 0 ∧ zs.getD k 0 ≤ 65535) → ∀ j, j < k + 1 → ((-65536 : Int) ≤ zs.getD j 0 ∧ zs.getD j 0 ≤ 65535)) := hide (fun h j hj => by
        rcases Nat.lt_or_eq_of_le (Nat.le_of_lt_succ hj) with h' | h'
        · exact unhide hok j h'
        · subst h'; exact h)
      clear hcl hbl
      generalize zs.getD k 0 = x at hck hbad hOk
      by_cases h1 : x < -65536
      · have hB := hide (unhide hbad (fun h => by have := h.1; omega))
        clear hbad hOk
        go_wp2
        go_ret
        exact ⟨by rw [unhide hB]; rfl, rfl⟩
      · by_cases h2 : 65535 < x
        · have hB := hide (unhide hbad (fun h => by have := h.2; omega))
          clear hbad hOk
          go_wp2
          go_ret
          exact ⟨by rw [unhide hB]; rfl, rfl⟩
        · have hok2 := hide (unhide hOk ⟨by omega, by omega⟩)
          clear hbad hOk
          go_wp2
          all_goals
            go_round
            case rel => exact ⟨k + 1, by omega, by go_num, unhide hok2⟩
            case measure => simp [intOf]; omega
    · have hkl : k = zs.length := by omega
      subst hkl
      have hs := hide (unhide hYes (unhide hok))
      have hb : ((zs.length : Int) == 16) = decide (zs.length = 16) := by rw [Bool.eq_iff_iff]; simp; omega
      go_wp2
      go_ret
      exact ⟨by rw [unhide hs]; rfl, rfl⟩
set_option maxRecDepth 100000 in
theorem specL13T (u x : Nat) (w : World) (hu : u < 4) (hx : x < 4) : Calls Tryd.prog 105 #[.int .i64 (u : Int), .int .i64 (x : Int)] w fun e w' => e = .returned (.int .i64 (smT u x)) ∧ Upd 0 0 w w' := by
  have hc := heldF_new w [.int .i64 1, .int .i64 1, .int .i64 1, .int .i64 1, .int .i64 2, .int .i64 1, .int .i64 (-1), .int .i64 (-2), .int .i64 1, .int .i64 (-1), .int .i64 (-1), .int .i64 1, .int .i64 1, .int .i64 (-2), .int .i64 2, .int .i64 (-1)] 3
  have hU := hide (Upd.of_below ((Below.refl w.heap.size w).alloc (Nat.le_refl _) (.cells #[.int .i64 1, .int .i64 1, .int .i64 1, .int .i64 1, .int .i64 2, .int .i64 1, .int .i64 (-1), .int .i64 (-2), .int .i64 1, .int .i64 (-1), .int .i64 (-1), .int .i64 1, .int .i64 1, .int .i64 (-2), .int .i64 2, .int .i64 (-1)] 3)) 0 0)
  have hcell : Hid (∀ k, k < 16 → (w.alloc (.cells #[.int .i64 1, .int .i64 1, .int .i64 1, .int .i64 1, .int .i64 2, .int .i64 1, .int .i64 (-1), .int .i64 (-2), .int .i64 1, .int .i64 (-1), .int .i64 (-1), .int .i64 1, .int .i64 1, .int .i64 (-2), .int .i64 2, .int .i64 (-1)] 3)).cell? ⟨w.heap.size, k, none⟩ = some (.int .i64 (([1, 1, 1, 1, 2, 1, -1, -2, 1, -1, -1, 1, 1, -2, 2, -1] : List Int).getD k 0))) := hide (fun k hk => by
    rcases (show k = 0 ∨ k = 1 ∨ k = 2 ∨ k = 3 ∨ k = 4 ∨ k = 5 ∨ k = 6 ∨ k = 7 ∨ k = 8 ∨ k = 9 ∨ k = 10 ∨ k = 11 ∨ k = 12 ∨ k = 13 ∨ k = 14 ∨ k = 15 by omega) with e | e | e | e | e | e | e | e | e | e | e | e | e | e | e | e <;> subst e <;> exact hc.1.2 _ _ rfl)
  clear hc
  obtain ⟨q, hq⟩ : ∃ q, 4 * u + x = q := ⟨_, rfl⟩
  have hq16 : q < 16 := by omega
  have hk := unhide hcell q hq16
  have hv : smT u x = ([1, 1, 1, 1, 2, 1, -1, -2, 1, -1, -1, 1, 1, -2, 2, -1] : List Int).getD q 0 := by unfold smT; rw [hq]
  rw [hv]
  generalize ([1, 1, 1, 1, 2, 1, -1, -2, 1, -1, -1, 1, 1, -2, 2, -1] : List Int).getD q 0 = y at hk ⊢
  have e1 : 4 * (u : Int) + (x : Int) = (q : Int) := by omega
  clear hcell hv hq
  go_enter Tryd.func105, Tryd.ntmps105
  go_wp2
  go_ret
  exact ⟨rfl, unhide hU⟩
end Go.Proofs.YtpofmcepjmbmcaaDoor

/- A row of ints of a call's own, made full, under way: its cells, stores into it and into others. -/
namespace Go.Proofs.YtpofmcepjmbmcaaDoor
open Go.RowKit

def RowI (w : World) (g n : Nat) (xs : List Value) : Prop := w.ownsRow g 3 1 (.slice (some ⟨g, 0, none⟩) n n) n xs
theorem RowI.own {w : World} {g n : Nat} {xs : List Value} (h : RowI w g n xs) : Own 3 1 w g (g + 1) (.slice (some ⟨g, 0, none⟩) n n) n xs :=
  ⟨h, fun k hk => by simp [Value.ownBlock] at hk; omega⟩
theorem RowI.upd {w w' : World} {g n c e : Nat} {xs : List Value} (h : RowI w g n xs) (u : Upd c e w w') (hd : g + 1 ≤ c ∨ e ≤ g) : RowI w' g n xs := (h.own.upd u hd).1
theorem RowI.keep {w w' : World} {g n : Nat} {xs : List Value} (h : RowI w g n xs) (u : Upd 0 0 w w') : RowI w' g n xs := h.upd u (.inr (Nat.zero_le _))
theorem RowI.other {w : World} {g n c : Nat} {xs : List Value} (h : RowI w g n xs) (hne : c ≠ g) (o : Nat) (u : Value) : RowI (w.setCell ⟨c, o, none⟩ u) g n xs :=
  h.upd ((Upd.refl c (c + 1) w).setCell ⟨Nat.le_refl _, Nat.lt_succ_self _⟩ o u) (by omega)
theorem RowI.set {w : World} {g n : Nat} {xs : List Value} (h : RowI w g n xs) (k : Nat) (u : Value) : RowI (w.setCell ⟨g, k, none⟩ u) g n (xs.set k u) := (World.ownsRow.stored h k u).1
theorem RowI.len {w : World} {g n : Nat} {xs : List Value} (h : RowI w g n xs) : xs.length = n := by have h' : w.ownsRow g 3 1 (.slice (some ⟨g, 0, none⟩) n n) n xs := h; have := h'.1; omega
theorem RowI.cell {w : World} {g n : Nat} {xs : List Value} (h : RowI w g n xs) (k : Nat) (hk : k < n) : w.cell? ⟨g, k, none⟩ = xs[k]? := World.ownsRow.cellAt h k (by omega)
theorem RowI.frozen {w : World} {g n : Nat} {xs : List Value} (h : RowI w g n xs) (k : Nat) : w.frozen? ⟨g, k, none⟩ = false := World.ownsRow.frozenAt h k
theorem RowI.has {w : World} {g n : Nat} {xs : List Value} (h : RowI w g n xs) (k : Nat) (hk : k < n) : ∃ u, w.cell? ⟨g, k, none⟩ = some u := by
  rw [h.cell k hk]; exact ⟨_, List.getElem?_eq_getElem (by have := h.len; omega)⟩
theorem RowI.lt {w : World} {g n : Nat} {xs : List Value} (h : RowI w g n xs) : g < w.heap.size := by
  have h' : w.ownsRow g 3 1 (.slice (some ⟨g, 0, none⟩) n n) n xs := h
  exact (h'.lt g rfl).2
theorem RowI.ownI {w : World} {g : Nat} {zs : List Int} (h : RowI w g zs.length (ints zs)) : OwnI w g (g + 1) (.slice (some ⟨g, 0, none⟩) zs.length zs.length) zs := h.own
theorem RowI.alloc {w : World} {g n : Nat} {xs : List Value} (h : RowI w g n xs) (o : Obj) : RowI (w.alloc o) g n xs :=
  h.keep (Upd.of_below ((Below.refl w.heap.size w).alloc (Nat.le_refl _) o) 0 0)
theorem alloc_newR (w : World) (o : Obj) : (w.alloc o).heap[w.heap.size]? = Option.some o := by unfold World.alloc; simp
/-- A row of n numbers made in any world. -/
theorem mkRowI (n : Nat) (hn : n ≤ 1048576) : ∃ o : Obj, ∀ (X : World), (Instr.makeSlice 23 (.int .i64 (n : Int)) (.int .i64 (n : Int))).run Tryd.prog X = .ok (.slice (some ⟨X.heap.size, 0, none⟩) n n) (X.alloc o) ∧
    RowI (X.alloc o) X.heap.size n (List.replicate n (.int .i64 0)) := by
  obtain ⟨i0, hi, hz0, hz1, hz2⟩ := info_parts infoI
  refine ⟨.cells (madeCells (Value.int .i64 0).cells ((n : Int).toNat * i0.size)) 3, fun X => ⟨?_, ?_⟩⟩
  · have h := run_makeSlice (P := Tryd.prog) (w := X) 23 3 i0 (.int .i64 0) Tryd.underlying23 hi hz0 .i64 .i64 (n : Int) (n : Int) (by omega) (by omega) (by rw [hz1]; omega) (by rw [hz2]; omega) (by omega)
    simpa using h
  · refine ⟨by simp, .inr ⟨X.heap.size, n, _, rfl, Nat.le_refl _, alloc_newR X _, Nat.le_refl _, by unfold maxLen; omega, by rw [size_madeCells, hz1]; simp, ?_⟩⟩
    rw [hz1]
    simp [toList_madeCells_one, Value.cells]
end Go.Proofs.YtpofmcepjmbmcaaDoor

/- The walks of the laws' own helpers on byte strings: a copy, whether two are equal, marksB. -/
namespace Go.Proofs.YtpofmcepjmbmcaaDoor
open Go.RowKit

def byts (zs : List Int) : List Value := zs.map (.int .u8)
theorem byts_length (zs : List Int) : (byts zs).length = zs.length := by simp [byts]
abbrev OwnY (w : World) (a b : Nat) (v : Value) (zs : List Int) : Prop := Own 5 1 w a b v zs.length (byts zs)
abbrev ArgY (w : World) (ad : Option Addr) (zs : List Int) : Prop := ReadK .u8 w ad zs
/-- A byte string as a value that can be read. -/
def RdY (w : World) (v : Value) (zs : List Int) : Prop := ∃ ad cap, v = .slice ad zs.length cap ∧ ArgY w ad zs
theorem RdY.below {w w' : World} {v : Value} {zs : List Int} (h : RdY w v zs) (hb : Below w.heap.size w w') : RdY w' v zs := by
  obtain ⟨ad, cap, e, h⟩ := h
  exact ⟨ad, cap, e, h.below hb⟩
theorem OwnY.rd {w : World} {a b : Nat} {v : Value} {zs : List Int} (h : OwnY w a b v zs) : RdY w v zs := readK_of_own h

def partY (zs : List Int) (k : Nat) : List Value := byts (zs.take k) ++ List.replicate (zs.length - k) (.int .u8 0)
theorem partY_zero (zs : List Int) : partY zs 0 = List.replicate zs.length (.int .u8 0) := by unfold partY byts; simp
theorem partY_all (zs : List Int) : partY zs zs.length = byts zs := by unfold partY byts; simp
theorem partY_set (zs : List Int) (k : Nat) (h : k < zs.length) : (partY zs k).set k (.int .u8 (zs.getD k 0)) = partY zs (k + 1) := by
  unfold partY byts
  rw [take_snoc_getD zs 0 k h, List.map_append, List.set_append, if_neg (by simp; omega), List.append_assoc]
  congr 1
  have : zs.length - k = (zs.length - (k + 1)) + 1 := by omega
  rw [this, List.replicate_succ]
  simp [Nat.min_eq_left (Nat.le_of_lt h)]
theorem partY_length (zs : List Int) (k : Nat) (h : k ≤ zs.length) : (partY zs k).length = zs.length := by unfold partY byts; simp; omega

end Go.Proofs.YtpofmcepjmbmcaaDoor

/- Plain: rows of bytes filtered by what each byte is guessed from. -/
namespace Go.Proofs.YtpofmcepjmbmcaaDoor
open Go.RowKit

def atB (zs : List Int) (i : Int) : Int := if i < 0 then 0 else zs.getD i.toNat 0
def absI (n : Int) : Int := if n < 0 then -n else n
def nearF (a b c : Int) : Int :=
  if absI (a + b - c - a) ≤ absI (a + b - c - b) ∧ absI (a + b - c - a) ≤ absI (a + b - c - c) then a
  else if absI (a + b - c - b) ≤ absI (a + b - c - c) then b else c
def guessF (kind a b c : Int) : Int := if kind = 1 then a else if kind = 2 then b else if kind = 3 then (a + b) / 2 else if kind = 4 then nearF a b c else 0
theorem atB_bd {zs : List Int} (h : InB zs) (i : Int) : 0 ≤ atB zs i ∧ atB zs i < 256 := by
  unfold atB; split
  · omega
  · exact h _
theorem atB_neg {zs : List Int} {i : Int} (h : i < 0) : atB zs i = 0 := if_pos h
theorem atB_nat (zs : List Int) (k : Nat) : atB zs (k : Int) = zs.getD k 0 := by unfold atB; rw [if_neg (by omega), Int.toNat_natCast]
theorem atB_past {zs : List Int} {i : Int} (h : (zs.length : Int) ≤ i) : atB zs i = 0 := by
  unfold atB; rw [if_neg (by omega), List.getD_eq_getElem?_getD, List.getElem?_eq_none (by omega)]; rfl
theorem nearF_bd (a b c : Int) (ha : 0 ≤ a ∧ a < 256) (hb : 0 ≤ b ∧ b < 256) (hc : 0 ≤ c ∧ c < 256) : 0 ≤ nearF a b c ∧ nearF a b c < 256 := by
  unfold nearF; split
  · exact ha
  · split
    · exact hb
    · exact hc
theorem guessF_bd (kind a b c : Int) (ha : 0 ≤ a ∧ a < 256) (hb : 0 ≤ b ∧ b < 256) (hc : 0 ≤ c ∧ c < 256) : 0 ≤ guessF kind a b c ∧ guessF kind a b c < 256 := by
  unfold guessF; split
  · exact ha
  · split
    · exact hb
    · split
      · omega
      · split
        · exact nearF_bd a b c ha hb hc
        · omega
/-- The nearest one, looked for one by one. -/
theorem nearF_best (a b c : Int) (best : Int) (h : best = if absI (b - (a + b - c)) < absI (a - (a + b - c)) then b else a) :
    nearF a b c = if absI (c - (a + b - c)) < absI (best - (a + b - c)) then c else best := by
  have e1 : absI (a - (a + b - c)) = absI (a + b - c - a) := by unfold absI; split <;> split <;> omega
  have e2 : absI (b - (a + b - c)) = absI (a + b - c - b) := by unfold absI; split <;> split <;> omega
  have e3 : absI (c - (a + b - c)) = absI (a + b - c - c) := by unfold absI; split <;> split <;> omega
  rw [e1, e2] at h
  rw [e3]
  unfold nearF
  generalize hX : absI (a + b - c - a) = x at *
  generalize hY : absI (a + b - c - b) = y at *
  generalize hZ : absI (a + b - c - c) = z at *
  by_cases h1 : y < x
  · rw [if_pos h1] at h
    subst h
    rw [e2]
    by_cases h2 : z < y
    · rw [if_pos h2, if_neg (by omega), if_neg (by omega)]
    · rw [if_neg h2, if_neg (by omega), if_pos (by omega)]
  · rw [if_neg h1] at h
    subst h
    rw [e1]
    by_cases h2 : z < x
    · rw [if_pos h2, if_neg (by omega), if_neg (by omega)]
    · rw [if_neg h2, if_pos (by omega)]

def filtOk (kind step : Int) (ab row : List Int) : Prop := 0 ≤ kind ∧ kind ≤ 4 ∧ 1 ≤ step ∧ step ≤ 8 ∧ row.length ≤ 4096 ∧ (ab.length = 0 ∨ ab.length = row.length)
instance (kind step : Int) (ab row : List Int) : Decidable (filtOk kind step ab row) := by unfold filtOk; infer_instance
def filtB (kind step : Int) (ab row : List Int) : Bool := decide (filtOk kind step ab row)
theorem filtB_yes {kind step : Int} {ab row : List Int} (h : filtOk kind step ab row) : filtB kind step ab row = true := decide_eq_true h
theorem filtB_no {kind step : Int} {ab row : List Int} (h : ¬ filtOk kind step ab row) : filtB kind step ab row = false := decide_eq_false h
/-- What the byte at a place is guessed to be. -/
def gAt (kind step : Int) (ab row : List Int) (i : Nat) : Int := guessF kind (atB row ((i : Int) - step)) (atB ab (i : Int)) (atB ab ((i : Int) - step))
theorem gAt_bd {kind step : Int} {ab row : List Int} (ha : InB ab) (hr : InB row) (i : Nat) : 0 ≤ gAt kind step ab row i ∧ gAt kind step ab row i < 256 :=
  guessF_bd _ _ _ _ (atB_bd hr _) (atB_bd ha _) (atB_bd ha _)
def filtL (kind step : Int) (ab row : List Int) : List Int := (List.range row.length).map fun i => (row.getD i 0 - gAt kind step ab row i) % 256
@[simp] theorem filtL_length (kind step : Int) (ab row : List Int) : (filtL kind step ab row).length = row.length := by simp [filtL]
theorem filtL_at (kind step : Int) (ab row : List Int) (k : Nat) (h : k < row.length) : (filtL kind step ab row).getD k 0 = (row.getD k 0 - gAt kind step ab row k) % 256 := by
  unfold filtL
  rw [List.getD_eq_getElem?_getD, List.getElem?_map, List.getElem?_range h]; rfl
def filtF (kind step : Int) (ab row : List Int) : List Int := if filtOk kind step ab row then filtL kind step ab row else []
theorem filtF_yes {kind step : Int} {ab row : List Int} (h : filtOk kind step ab row) : filtF kind step ab row = filtL kind step ab row := if_pos h
theorem filtF_no {kind step : Int} {ab row : List Int} (h : ¬ filtOk kind step ab row) : filtF kind step ab row = [] := if_neg h
theorem filtF_len (kind step : Int) (ab row : List Int) : (filtF kind step ab row).length ≤ 1048576 := by
  by_cases h : filtOk kind step ab row
  · rw [filtF_yes h, filtL_length]; have := h.2.2.2.2.1; omega
  · rw [filtF_no h]; simp
theorem filtL_inB (kind step : Int) (ab row : List Int) : InB (filtL kind step ab row) := by
  intro j
  by_cases h : j < row.length
  · rw [filtL_at kind step ab row j h]; omega
  · rw [List.getD_eq_getElem?_getD, List.getElem?_eq_none (by simp; omega)]; simp
theorem filtF_inB (kind step : Int) (ab row : List Int) : InB (filtF kind step ab row) := by
  by_cases h : filtOk kind step ab row
  · rw [filtF_yes h]; exact filtL_inB _ _ _ _
  · rw [filtF_no h]; intro j; simp

/-- A row got back: byte by byte, out of those got so far. -/
def unfTo (kind step : Int) (ab fr : List Int) : Nat → List Int
  | 0 => []
  | k + 1 => unfTo kind step ab fr k ++ [(fr.getD k 0 + gAt kind step ab (unfTo kind step ab fr k) k) % 256]
@[simp] theorem unfTo_length (kind step : Int) (ab fr : List Int) (k : Nat) : (unfTo kind step ab fr k).length = k := by
  induction k with
  | zero => rfl
  | succ k ih => rw [unfTo, List.length_append, ih]; rfl
theorem unfTo_take (kind step : Int) (ab fr : List Int) (k n : Nat) (h : k ≤ n) : (unfTo kind step ab fr n).take k = unfTo kind step ab fr k := by
  induction n with
  | zero => have : k = 0 := by omega
            subst this; rfl
  | succ n ih =>
    by_cases e : k = n + 1
    · subst e; exact List.take_of_length_le (by simp)
    · rw [unfTo, List.take_append_of_le_length (by simp; omega)]; exact ih (by omega)
theorem unfTo_at (kind step : Int) (ab fr : List Int) (n k : Nat) (h : k < n) : (unfTo kind step ab fr n).getD k 0 = (fr.getD k 0 + gAt kind step ab (unfTo kind step ab fr k) k) % 256 := by
  have h1 := unfTo_take kind step ab fr (k + 1) n (by omega)
  have h2 : (unfTo kind step ab fr (k + 1)).getD k 0 = (fr.getD k 0 + gAt kind step ab (unfTo kind step ab fr k) k) % 256 := by
    rw [unfTo, List.getD_eq_getElem?_getD, List.getElem?_append_right (by simp)]; simp
  rw [← h2, ← h1, List.getD_eq_getElem?_getD, List.getD_eq_getElem?_getD, List.getElem?_take, if_pos (by omega)]
theorem unfTo_inB (kind step : Int) (ab fr : List Int) (n : Nat) : InB (unfTo kind step ab fr n) := by
  intro j
  by_cases h : j < n
  · rw [unfTo_at _ _ _ _ _ _ h]; omega
  · rw [List.getD_eq_getElem?_getD, List.getElem?_eq_none (by simp; omega)]; simp
def unfF (kind step : Int) (ab fr : List Int) : List Int := if filtOk kind step ab fr then unfTo kind step ab fr fr.length else []
theorem unfF_yes {kind step : Int} {ab row : List Int} (h : filtOk kind step ab row) : unfF kind step ab row = unfTo kind step ab row row.length := if_pos h
theorem unfF_no {kind step : Int} {ab row : List Int} (h : ¬ filtOk kind step ab row) : unfF kind step ab row = [] := if_neg h
theorem unfF_len (kind step : Int) (ab row : List Int) : (unfF kind step ab row).length ≤ 1048576 := by
  by_cases h : filtOk kind step ab row
  · rw [unfF_yes h, unfTo_length]; have := h.2.2.2.2.1; omega
  · rw [unfF_no h]; simp
/-- Only what is ahead counts. -/
theorem gAt_ahead (kind step : Int) (ab r s : List Int) (i : Nat) (hs : 1 ≤ step) (h : ∀ j, j < i → r.getD j 0 = s.getD j 0) : gAt kind step ab r i = gAt kind step ab s i := by
  unfold gAt
  have : atB r ((i : Int) - step) = atB s ((i : Int) - step) := by
    unfold atB; split
    · rfl
    · exact h _ (by omega)
  rw [this]
theorem unf_filt (kind step : Int) (ab row : List Int) (hs : 1 ≤ step) (hr : InB row) (k : Nat) (hk : k ≤ row.length) : unfTo kind step ab (filtL kind step ab row) k = row.take k := by
  induction k with
  | zero => rfl
  | succ k ih =>
    rw [unfTo, ih (by omega), filtL_at _ _ _ _ _ (by omega), take_snoc_getD row 0 k (by omega)]
    have e : gAt kind step ab (row.take k) k = gAt kind step ab row k := gAt_ahead _ _ _ _ _ _ hs (fun j hj => by
      rw [List.getD_eq_getElem?_getD, List.getD_eq_getElem?_getD, List.getElem?_take, if_pos hj])
    rw [e]
    have := hr k
    congr 2
    omega
/-- The row so far, and zeros behind it. -/
def unfPart (kind step : Int) (ab fr : List Int) (k n : Nat) : List Int := unfTo kind step ab fr k ++ List.replicate (n - k) 0
theorem unfPart_length (kind step : Int) (ab fr : List Int) (k n : Nat) (h : k ≤ n) : (unfPart kind step ab fr k n).length = n := by unfold unfPart; simp; omega
theorem unfPart_part (kind step : Int) (ab fr : List Int) (k n : Nat) (h : k ≤ n) : partY (unfTo kind step ab fr n) k = byts (unfPart kind step ab fr k n) := by
  unfold partY unfPart byts
  rw [unfTo_take _ _ _ _ _ _ h, unfTo_length]; simp
theorem unfPart_inB (kind step : Int) (ab fr : List Int) (k n : Nat) : InB (unfPart kind step ab fr k n) := by
  intro j
  unfold unfPart
  rw [List.getD_eq_getElem?_getD]
  by_cases h : j < k
  · rw [List.getElem?_append_left (by simpa using h), ← List.getD_eq_getElem?_getD]; exact unfTo_inB _ _ _ _ _ j
  · rw [List.getElem?_append_right (by simp; omega), List.getElem?_replicate]
    split <;> simp
theorem unfPart_g (kind step : Int) (ab fr : List Int) (k n : Nat) (hs : 1 ≤ step) : gAt kind step ab (unfPart kind step ab fr k n) k = gAt kind step ab (unfTo kind step ab fr k) k :=
  gAt_ahead _ _ _ _ _ _ hs (fun j hj => by
    unfold unfPart
    rw [List.getD_eq_getElem?_getD, List.getD_eq_getElem?_getD, List.getElem?_append_left (by simpa using hj)])
end Go.Proofs.YtpofmcepjmbmcaaDoor

/- The walks of the filters of rows: the specification's helpers. -/
namespace Go.Proofs.YtpofmcepjmbmcaaDoor
open Go.RowKit

theorem own_nilYF (w : World) (a b : Nat) : OwnY w a b (.slice none 0 0) [] := ⟨World.ownsRow_nil _ _ _ _, fun k hk => by simp [Value.ownBlock] at hk⟩

set_option maxHeartbeats 1000000 in
theorem specL4Abs (n : Int) (w : World) (h : -10000 ≤ n ∧ n ≤ 10000) : Calls Tryd.prog 103 #[.int .i64 n] w fun e w' => e = .returned (.int .i64 (absI n)) ∧ w' = w := by
  obtain ⟨h1, h2⟩ := h
  by_cases h0 : n < 0
  · have hE := hide (show absI n = -n from if_pos h0)
    go_enter Tryd.func103, Tryd.ntmps103
    go_wp2
    go_ret
    exact ⟨ret_int (unhide hE).symm, rfl⟩
  · have hE := hide (show absI n = n from if_neg h0)
    go_enter Tryd.func103, Tryd.ntmps103
    go_wp2
    go_ret
    exact ⟨ret_int (unhide hE).symm, rfl⟩

theorem absI_bd (n : Int) (m : Int) (h : -m ≤ n ∧ n ≤ m) : 0 ≤ absI n ∧ absI n ≤ m := by unfold absI; split <;> omega

end Go.Proofs.YtpofmcepjmbmcaaDoor

/- Classes of places, coarse numbers: the specification's walks. -/
namespace Go.Proofs.YtpofmcepjmbmcaaDoor
open Go.RowKit

theorem specL13Class (i : Nat) (w : World) (hi : i < 16) : Calls Tryd.prog 104 #[.int .i64 (i : Int)] w fun e w' => e = .returned (.int .i64 (smClass i : Int)) ∧ w' = w := by
  rcases (show i = 0 ∨ i = 1 ∨ i = 2 ∨ i = 3 ∨ i = 4 ∨ i = 5 ∨ i = 6 ∨ i = 7 ∨ i = 8 ∨ i = 9 ∨ i = 10 ∨ i = 11 ∨ i = 12 ∨ i = 13 ∨ i = 14 ∨ i = 15 by omega) with e | e | e | e | e | e | e | e | e | e | e | e | e | e | e | e <;> subst e <;>
  · go_enter Tryd.func104, Tryd.ntmps104
    go_wp2
    go_ret
    exact ⟨rfl, rfl⟩
set_option maxHeartbeats 1000000 in
theorem specAbsW (n : Int) (w : World) (h : -1000000000 ≤ n ∧ n ≤ 1000000000) : Calls Tryd.prog 103 #[.int .i64 n] w fun e w' => e = .returned (.int .i64 (absI n)) ∧ w' = w := by
  obtain ⟨h1, h2⟩ := h
  by_cases h0 : n < 0
  · have hE := hide (show absI n = -n from if_pos h0)
    go_enter Tryd.func103, Tryd.ntmps103
    go_wp2
    go_ret
    exact ⟨ret_int (unhide hE).symm, rfl⟩
  · have hE := hide (show absI n = n from if_neg h0)
    go_enter Tryd.func103, Tryd.ntmps103
    go_wp2
    go_ret
    exact ⟨ret_int (unhide hE).symm, rfl⟩
theorem sh_wraps (P A B : Int) (h0 : 0 ≤ P) (h1 : P ≤ 860000000) (hA : 0 ≤ A ∧ A ≤ 1048576) (hB : 0 < B) : wrap64 A = A ∧ wrap64 (P + A) = P + A ∧ wrap64 (-((P + A) / B)) = -((P + A) / B) := by
  have q0 : 0 ≤ (P + A) / B := Int.ediv_nonneg (by omega) (by omega)
  have q1 : (P + A) / B ≤ P + A := Int.ediv_le_self _ (by omega)
  generalize (P + A) / B = Q at *
  unfold wrap64
  omega
theorem pow_q (q : Nat) (h : q ≤ 6) : ((0 : Int) ≤ 2 ^ (14 + q) ∧ (2 : Int) ^ (14 + q) ≤ 1048576) ∧ (0 : Int) < 2 ^ (15 + q) := by
  rcases (show q = 0 ∨ q = 1 ∨ q = 2 ∨ q = 3 ∨ q = 4 ∨ q = 5 ∨ q = 6 by omega) with e | e | e | e | e | e | e <;> subst e <;> decide
end Go.Proofs.YtpofmcepjmbmcaaDoor

/- Coarse numbers: the specification's walk. -/
namespace Go.Proofs.YtpofmcepjmbmcaaDoor
open Go.RowKit

/-- The specification's factors and its answer under way. -/
structure KoSt (w wr : World) (L : List Value) (ys : List Int) : Prop where
  tb : HeldF wr w.heap.size L
  out : RowI wr (w.heap.size + 1) 16 (ints ys)
  bel : Below w.heap.size w wr
theorem KoSt.upd {w wr wx : World} {L : List Value} {ys : List Int} (h : KoSt w wr L ys) (u : Upd 0 0 wr wx) : KoSt w wx L ys :=
  ⟨h.tb.keep u, h.out.keep u, below_upd h.bel u (Nat.le_refl _) (.inr (Nat.zero_le _))⟩
theorem KoSt.put {w wr : World} {L : List Value} {ys : List Int} (h : KoSt w wr L ys) (k : Nat) (x : Int) : KoSt w (wr.setCell ⟨w.heap.size + 1, k, none⟩ (.int .i64 x)) L (ys.set k x) :=
  ⟨h.tb.other (by omega) k _, by have := h.out.set k (.int .i64 x); rw [show (ints ys).set k (.int .i64 x) = ints (ys.set k x) by unfold ints; rw [List.map_set]] at this; exact this, h.bel.setCell (p := ⟨w.heap.size + 1, k, none⟩) (by simp) _⟩
def coL (zs : List Int) (s : Nat) (p : Nat) : Int := smCo (zs.getD p 0) p s
theorem koSt_new (w : World) (L : List Value) (o16 : Obj) (hmk : ∀ X : World, RowI (X.alloc o16) X.heap.size 16 (List.replicate 16 (.int .i64 0))) (f : Nat → Int) : KoSt w ((w.alloc (.cells L.toArray 3)).alloc o16) L (tab16 (prt f id 0 0)) := by
  refine ⟨(heldF_new w L _).keep (Upd.of_below ((Below.refl _ _).alloc (Nat.le_refl _) _) 0 0), ?_, ((Below.refl _ w).alloc (Nat.le_refl _) _).alloc (by simp) _⟩
  have h := hmk (w.alloc (.cells L.toArray 3))
  rw [show (w.alloc (.cells L.toArray 3)).heap.size = w.heap.size + 1 by simp] at h
  rw [prt_zero]
  exact h
set_option maxHeartbeats 64000000 in
set_option maxRecDepth 100000 in
theorem specL13Coarse (ad : Option Addr) (cap : Nat) (zs : List Int) (s : Int) (w : World) (hl : zs.length = 16) (hz : InR (-65536) 65536 zs) (hs : 0 ≤ s ∧ s ≤ 40) (hA : ArgI w ad zs) :
    Calls Tryd.prog 74 #[.slice ad 16 cap, .int .i64 s] w fun e w' => ∃ v, e = .returned v ∧ OwnI w' w.heap.size w'.heap.size v (tab16 (coL zs s.toNat)) ∧ Upd 0 0 w w' := by
  obtain ⟨q, r, hq, hr, q6, r6, e1, e2⟩ := step_parts s hs.1 hs.2
  obtain ⟨o16, hmk⟩ := mkRowI 16 (by omega)
  have hmk1 : ∀ X : World, (Instr.makeSlice 23 (.int .i64 16) (.int .i64 16)).run Tryd.prog X = .ok (.slice (some ⟨X.heap.size, 0, none⟩) 16 16) (X.alloc o16) := fun X => (hmk X).1
  have hN0 := hide (koSt_new w [.int .i64 13107, .int .i64 5243, .int .i64 8066, .int .i64 11916, .int .i64 4660, .int .i64 7490, .int .i64 10082, .int .i64 4194, .int .i64 6554, .int .i64 9362, .int .i64 3647, .int .i64 5825, .int .i64 8192, .int .i64 3355, .int .i64 5243, .int .i64 7282, .int .i64 2893, .int .i64 4559] o16 (fun X => (hmk X).2) (coL zs s.toNat))
  have hF : Hid (∀ p, coL zs s.toNat p = coZ (zs.getD p 0) (smM r (smClass p)) q) := hide (fun p => by unfold coL; rw [smCo_eq, hq, hr])
  have hT : Hid (∀ k, k < 18 → ([.int .i64 13107, .int .i64 5243, .int .i64 8066, .int .i64 11916, .int .i64 4660, .int .i64 7490, .int .i64 10082, .int .i64 4194, .int .i64 6554, .int .i64 9362, .int .i64 3647, .int .i64 5825, .int .i64 8192, .int .i64 3355, .int .i64 5243, .int .i64 7282, .int .i64 2893, .int .i64 4559] : List Value)[k]? = some (.int .i64 (([13107, 5243, 8066, 11916, 4660, 7490, 10082, 4194, 6554, 9362, 3647, 5825, 8192, 3355, 5243, 7282, 2893, 4559] : List Int).getD k 0))) := hide (fun k hk => by
    rcases (show k = 0 ∨ k = 1 ∨ k = 2 ∨ k = 3 ∨ k = 4 ∨ k = 5 ∨ k = 6 ∨ k = 7 ∨ k = 8 ∨ k = 9 ∨ k = 10 ∨ k = 11 ∨ k = 12 ∨ k = 13 ∨ k = 14 ∨ k = 15 ∨ k = 16 ∨ k = 17 by omega) with e | e | e | e | e | e | e | e | e | e | e | e | e | e | e | e | e | e <;> subst e <;> rfl)
  replace hl := hide hl
  replace hA := hide hA
  replace hz := hide hz
  replace hq := hide hq
  replace hr := hide hr
  obtain ⟨s0, s1⟩ := hs
  clear hmk
  go_enter Tryd.func74, Tryd.ntmps74
  go_wp2_with fail
  generalize (w.alloc (.cells #[.int .i64 13107, .int .i64 5243, .int .i64 8066, .int .i64 11916, .int .i64 4660, .int .i64 7490, .int .i64 10082, .int .i64 4194, .int .i64 6554, .int .i64 9362, .int .i64 3647, .int .i64 5825, .int .i64 8192, .int .i64 3355, .int .i64 5243, .int .i64 7282, .int .i64 2893, .int .i64 4559] 3)).alloc o16 = w0 at hN0 ⊢
  clear hmk1
  go_loopw [18] (fun i wr => ∃ k : Nat, k ≤ 16 ∧ i = .int .i64 (k : Int) ∧ Hid (KoSt w wr [.int .i64 13107, .int .i64 5243, .int .i64 8066, .int .i64 11916, .int .i64 4660, .int .i64 7490, .int .i64 10082, .int .i64 4194, .int .i64 6554, .int .i64 9362, .int .i64 3647, .int .i64 5825, .int .i64 8192, .int .i64 3355, .int .i64 5243, .int .i64 7282, .int .i64 2893, .int .i64 4559] (tab16 (prt (coL zs s.toNat) id k 0)))) (fun i _ => 16 - (intOf i).toNat)
  case atStart => exact ⟨0, by omega, rfl, hN0⟩
  case round =>
    clear hN0
    obtain ⟨k, hk, rfl, hN⟩ := hrel
    by_cases hklt : k < 16
    · have hkb : decide ((k : Int) < 16) = true := decide_eq_true (by omega)
      obtain ⟨bb, off, hse, hbl, hcl⟩ := (unhide hA) (ne_of_lt_length (k := 0) (by have := unhide hl; omega))
      have hck : wr.cell? ⟨bb, off + k, none⟩ = some (.int .i64 (zs.getD k 0)) := ((unhide hN).bel.cell (by simpa using hbl)).trans (hcl k (by have := unhide hl; omega))
      subst hse
      obtain ⟨x0, x1⟩ := unhide hz k (by have := unhide hl; omega)
      have hFk := unhide hF k
      obtain ⟨c, hc⟩ : ∃ c, smClass k = c := ⟨_, rfl⟩
      have hc3 : c < 3 := by rw [← hc]; exact smClass_lt k
      have hCl := hide (fun W => specL13Class k W hklt)
      rw [hc] at hCl hFk
      obtain ⟨j, hj⟩ : ∃ j, 3 * r + c = j := ⟨_, rfl⟩
      have hm := smM_bd r c r6 hc3
      have hmk : smM r c = ([13107, 5243, 8066, 11916, 4660, 7490, 10082, 4194, 6554, 9362, 3647, 5825, 8192, 3355, 5243, 7282, 2893, 4559] : List Int).getD j 0 := by unfold smM; rw [hj]
      have hcm : wr.cell? ⟨w.heap.size, j, none⟩ = some (.int .i64 (smM r c)) := by rw [hmk]; exact (unhide hN).tb.1.2 j _ (unhide hT j (by omega))
      generalize smM r c = m at hm hmk hcm hFk
      have hAb := hide (fun W => specAbsW (zs.getD k 0) W (by omega))
      have hset := prt_set (coL zs s.toNat) id k 0 (coL zs s.toNat k) k hklt rfl (fun _ _ e => e)
      have hput := hide ((unhide hN).put k (coL zs s.toNat k))
      rw [hset, prt_next (coL zs s.toNat) id k (coL zs s.toNat k) (fun i _ e => by have e2 : i = k := e; rw [e2])] at hput
      obtain ⟨old, hdst⟩ := (unhide hN).out.has k hklt
      have hfz := (unhide hN).out.frozen k
      rw [hFk] at hput
      generalize zs.getD k 0 = x at hck x0 x1 hput hAb
      have d1 : 3 * (r : Int) + (c : Int) = (j : Int) := by omega
      have j0 : (0 : Int) ≤ (j : Int) := by omega
      have j1 : (j : Int) < 18 := by omega
      obtain ⟨m0, m1⟩ := hm
      have hmi := mul_in (absI x) m 65536 13107 (absI_bd x 65536 ⟨by omega, by omega⟩) ⟨by omega, m1⟩
      have hab := absI_bd x 65536 ⟨by omega, by omega⟩
      obtain ⟨P, hP⟩ : ∃ P, absI x * m = P := ⟨_, rfl⟩
      rw [hP] at hmi
      obtain ⟨P0, P1⟩ := hmi
      have k0 : (0 : Int) ≤ (k : Int) := by omega
      have k1 : (k : Int) < 16 := by omega
      clear hset hFk hN hmk hcl hbl hc hj
      obtain ⟨w1, w2, w3⟩ := sh_wraps P (2 ^ (14 + q)) (2 ^ (15 + q)) P0 (by omega) (pow_q q q6).1 (pow_q q q6).2
      by_cases hneg : x < 0
      · have hv : Hid (coZ x m q = -((P + 2 ^ (14 + q)) / 2 ^ (15 + q))) := hide (by
          unfold coZ; rw [if_pos hneg, ← hP, show absI x = -x from if_pos hneg])
        rw [unhide hv] at hput
        clear hv
        go_wp2_with (first | (go_at_call 103; refine (unhide hAb _).mono ?_; rintro e wz ⟨rfl, hwz⟩; subst wz) | (go_at_call 104; refine (unhide hCl _).mono ?_; rintro e wz ⟨rfl, hwz⟩; subst wz))
        go_roundw
        case rel => exact ⟨k + 1, by omega, by go_num, hput⟩
        case measure => simp [intOf]; omega
      · have hv : Hid (coZ x m q = (P + 2 ^ (14 + q)) / 2 ^ (15 + q)) := hide (by
          unfold coZ; rw [if_neg hneg, ← hP, show absI x = x from if_neg hneg])
        rw [unhide hv] at hput
        clear hv
        go_wp2_with (first | (go_at_call 103; refine (unhide hAb _).mono ?_; rintro e wz ⟨rfl, hwz⟩; subst wz) | (go_at_call 104; refine (unhide hCl _).mono ?_; rintro e wz ⟨rfl, hwz⟩; subst wz))
        go_roundw
        case rel => exact ⟨k + 1, by omega, by go_num, hput⟩
        case measure => simp [intOf]; omega
    · obtain rfl : k = 16 := by omega
      have hN2 := unhide hN
      rw [prt_done (coL zs s.toNat) id (fun k hk => hk)] at hN2
      have hlt := hN2.out.lt
      have hO2 : Hid (OwnI wr w.heap.size wr.heap.size (.slice (some ⟨w.heap.size + 1, 0, none⟩) 16 16) (tab16 (coL zs s.toNat))) := hide (by
        have h := own_mono hN2.out.own (Nat.le_succ w.heap.size) (Nat.succ_le_of_lt hlt)
        unfold OwnI
        rw [tab16_length]
        exact h)
      have hU := hide (Upd.of_below hN2.bel 0 0)
      clear hN2 hN hlt
      go_wp2
      go_ret
      exact ⟨_, rfl, unhide hO2, unhide hU⟩
end Go.Proofs.YtpofmcepjmbmcaaDoor

/- Fine numbers: the specification's walk. -/
namespace Go.Proofs.YtpofmcepjmbmcaaDoor
open Go.RowKit

def fiL (zs : List Int) (s : Nat) (p : Nat) : Int := smFi (zs.getD p 0) p s
theorem fi_at (n v : Int) (q : Nat) : n * (v * 2 ^ q) = n * v * 2 ^ q := (Int.mul_assoc _ _ _).symm
theorem pow_f (q : Nat) (h : q ≤ 6) : (1 : Int) ≤ 2 ^ q ∧ (2 : Int) ^ q ≤ 64 := by
  rcases (show q = 0 ∨ q = 1 ∨ q = 2 ∨ q = 3 ∨ q = 4 ∨ q = 5 ∨ q = 6 by omega) with e | e | e | e | e | e | e <;> subst e <;> decide
theorem fi_bd (P A : Int) (h : -1900544 ≤ P ∧ P ≤ 1900544) (hA : 1 ≤ A ∧ A ≤ 64) : -121634816 ≤ P * A ∧ P * A ≤ 121634816 := by
  have := mul_both P A 1900544 64 h ⟨by omega, hA.2⟩
  omega
theorem wrap_sm (n : Int) (h : -121634816 ≤ n ∧ n ≤ 121634816) : wrap64 n = n := by unfold wrap64; omega
set_option maxHeartbeats 64000000 in
set_option maxRecDepth 100000 in
theorem specL13Fine (ad : Option Addr) (cap : Nat) (zs : List Int) (s : Int) (w : World) (hl : zs.length = 16) (hz : InR (-65536) 65536 zs) (hs : 0 ≤ s ∧ s ≤ 40) (hA : ArgI w ad zs) :
    Calls Tryd.prog 80 #[.slice ad 16 cap, .int .i64 s] w fun e w' => ∃ v, e = .returned v ∧ OwnI w' w.heap.size w'.heap.size v (tab16 (fiL zs s.toNat)) ∧ Upd 0 0 w w' := by
  obtain ⟨q, r, hq, hr, q6, r6, e1, e2⟩ := step_parts s hs.1 hs.2
  obtain ⟨o16, hmk⟩ := mkRowI 16 (by omega)
  have hmk1 : ∀ X : World, (Instr.makeSlice 23 (.int .i64 16) (.int .i64 16)).run Tryd.prog X = .ok (.slice (some ⟨X.heap.size, 0, none⟩) 16 16) (X.alloc o16) := fun X => (hmk X).1
  have hN0 := hide (koSt_new w [.int .i64 10, .int .i64 16, .int .i64 13, .int .i64 11, .int .i64 18, .int .i64 14, .int .i64 13, .int .i64 20, .int .i64 16, .int .i64 14, .int .i64 23, .int .i64 18, .int .i64 16, .int .i64 25, .int .i64 20, .int .i64 18, .int .i64 29, .int .i64 23] o16 (fun X => (hmk X).2) (fiL zs s.toNat))
  have hF : Hid (∀ p, fiL zs s.toNat p = cutZ (-65536) 65535 (zs.getD p 0 * (smV r (smClass p)) * 2 ^ q)) := hide (fun p => by unfold fiL smFi; rw [hq, hr, fi_at])
  have hT : Hid (∀ k, k < 18 → ([.int .i64 10, .int .i64 16, .int .i64 13, .int .i64 11, .int .i64 18, .int .i64 14, .int .i64 13, .int .i64 20, .int .i64 16, .int .i64 14, .int .i64 23, .int .i64 18, .int .i64 16, .int .i64 25, .int .i64 20, .int .i64 18, .int .i64 29, .int .i64 23] : List Value)[k]? = some (.int .i64 (([10, 16, 13, 11, 18, 14, 13, 20, 16, 14, 23, 18, 16, 25, 20, 18, 29, 23] : List Int).getD k 0))) := hide (fun k hk => by
    rcases (show k = 0 ∨ k = 1 ∨ k = 2 ∨ k = 3 ∨ k = 4 ∨ k = 5 ∨ k = 6 ∨ k = 7 ∨ k = 8 ∨ k = 9 ∨ k = 10 ∨ k = 11 ∨ k = 12 ∨ k = 13 ∨ k = 14 ∨ k = 15 ∨ k = 16 ∨ k = 17 by omega) with e | e | e | e | e | e | e | e | e | e | e | e | e | e | e | e | e | e <;> subst e <;> rfl)
  replace hl := hide hl
  replace hA := hide hA
  replace hz := hide hz
  replace hq := hide hq
  replace hr := hide hr
  obtain ⟨s0, s1⟩ := hs
  clear hmk
  go_enter Tryd.func80, Tryd.ntmps80
  go_wp2_with fail
  generalize (w.alloc (.cells #[.int .i64 10, .int .i64 16, .int .i64 13, .int .i64 11, .int .i64 18, .int .i64 14, .int .i64 13, .int .i64 20, .int .i64 16, .int .i64 14, .int .i64 23, .int .i64 18, .int .i64 16, .int .i64 25, .int .i64 20, .int .i64 18, .int .i64 29, .int .i64 23] 3)).alloc o16 = w0 at hN0 ⊢
  clear hmk1
  go_loopw [14] (fun i wr => ∃ k : Nat, k ≤ 16 ∧ i = .int .i64 (k : Int) ∧ Hid (KoSt w wr [.int .i64 10, .int .i64 16, .int .i64 13, .int .i64 11, .int .i64 18, .int .i64 14, .int .i64 13, .int .i64 20, .int .i64 16, .int .i64 14, .int .i64 23, .int .i64 18, .int .i64 16, .int .i64 25, .int .i64 20, .int .i64 18, .int .i64 29, .int .i64 23] (tab16 (prt (fiL zs s.toNat) id k 0)))) (fun i _ => 16 - (intOf i).toNat)
  case atStart => exact ⟨0, by omega, rfl, hN0⟩
  case round =>
    clear hN0
    obtain ⟨k, hk, rfl, hN⟩ := hrel
    by_cases hklt : k < 16
    · have hkb : decide ((k : Int) < 16) = true := decide_eq_true (by omega)
      obtain ⟨bb, off, hse, hbl, hcl⟩ := (unhide hA) (ne_of_lt_length (k := 0) (by have := unhide hl; omega))
      have hck : wr.cell? ⟨bb, off + k, none⟩ = some (.int .i64 (zs.getD k 0)) := ((unhide hN).bel.cell (by simpa using hbl)).trans (hcl k (by have := unhide hl; omega))
      subst hse
      obtain ⟨x0, x1⟩ := unhide hz k (by have := unhide hl; omega)
      have hFk := unhide hF k
      obtain ⟨c, hc⟩ : ∃ c, smClass k = c := ⟨_, rfl⟩
      have hc3 : c < 3 := by rw [← hc]; exact smClass_lt k
      have hCl := hide (fun W => specL13Class k W hklt)
      rw [hc] at hCl hFk
      obtain ⟨j, hj⟩ : ∃ j, 3 * r + c = j := ⟨_, rfl⟩
      have hm := smV_bd r c r6 hc3
      have hmk : smV r c = ([10, 16, 13, 11, 18, 14, 13, 20, 16, 14, 23, 18, 16, 25, 20, 18, 29, 23] : List Int).getD j 0 := by unfold smV; rw [hj]
      have hcm : wr.cell? ⟨w.heap.size, j, none⟩ = some (.int .i64 (smV r c)) := by rw [hmk]; exact (unhide hN).tb.1.2 j _ (unhide hT j (by omega))
      generalize smV r c = m at hm hmk hcm hFk
      have hset := prt_set (fiL zs s.toNat) id k 0 (fiL zs s.toNat k) k hklt rfl (fun _ _ e => e)
      have hput := hide ((unhide hN).put k (fiL zs s.toNat k))
      rw [hset, prt_next (fiL zs s.toNat) id k (fiL zs s.toNat k) (fun i _ e => by have e2 : i = k := e; rw [e2])] at hput
      obtain ⟨old, hdst⟩ := (unhide hN).out.has k hklt
      have hfz := (unhide hN).out.frozen k
      rw [hFk] at hput
      generalize zs.getD k 0 = x at hck x0 x1 hput
      have d1 : 3 * (r : Int) + (c : Int) = (j : Int) := by omega
      have j0 : (0 : Int) ≤ (j : Int) := by omega
      have j1 : (j : Int) < 18 := by omega
      obtain ⟨m0, m1⟩ := hm
      have hmi := mul_both x m 65536 29 ⟨x0, by omega⟩ ⟨by omega, m1⟩
      obtain ⟨P, hP⟩ : ∃ P, x * m = P := ⟨_, rfl⟩
      rw [hP] at hmi hput
      obtain ⟨P0, P1⟩ := hmi
      have hYb := fi_bd P (2 ^ q) ⟨by omega, by omega⟩ (pow_f q q6)
      obtain ⟨Y, hY⟩ : ∃ Y, P * 2 ^ q = Y := ⟨_, rfl⟩
      rw [hY] at hYb hput
      obtain ⟨Y0, Y1⟩ := hYb
      have wY := wrap_sm Y ⟨Y0, Y1⟩
      have k0 : (0 : Int) ≤ (k : Int) := by omega
      have k1 : (k : Int) < 16 := by omega
      clear hset hFk hN hmk hcl hbl hc hj
      by_cases c1 : Y < -65536
      · have hv : Hid (cutZ (-65536) 65535 Y = -65536) := hide (by unfold cutZ; rw [if_pos c1])
        rw [unhide hv] at hput
        clear hv
        go_wp2_with (go_at_call 104; refine (unhide hCl _).mono ?_; rintro e wz ⟨rfl, hwz⟩; subst wz)
        go_roundw
        case rel => exact ⟨k + 1, by omega, by go_num, hput⟩
        case measure => simp [intOf]; omega
      · by_cases c2 : 65535 < Y
        · have hv : Hid (cutZ (-65536) 65535 Y = 65535) := hide (by unfold cutZ; rw [if_neg c1, if_pos c2])
          rw [unhide hv] at hput
          clear hv
          go_wp2_with (go_at_call 104; refine (unhide hCl _).mono ?_; rintro e wz ⟨rfl, hwz⟩; subst wz)
          go_roundw
          case rel => exact ⟨k + 1, by omega, by go_num, hput⟩
          case measure => simp [intOf]; omega
        · have hv : Hid (cutZ (-65536) 65535 Y = Y) := hide (by unfold cutZ; rw [if_neg c1, if_neg c2])
          rw [unhide hv] at hput
          clear hv
          go_wp2_with (go_at_call 104; refine (unhide hCl _).mono ?_; rintro e wz ⟨rfl, hwz⟩; subst wz)
          go_roundw
          case rel => exact ⟨k + 1, by omega, by go_num, hput⟩
          case measure => simp [intOf]; omega
    · obtain rfl : k = 16 := by omega
      have hN2 := unhide hN
      rw [prt_done (fiL zs s.toNat) id (fun k hk => hk)] at hN2
      have hlt := hN2.out.lt
      have hO2 : Hid (OwnI wr w.heap.size wr.heap.size (.slice (some ⟨w.heap.size + 1, 0, none⟩) 16 16) (tab16 (fiL zs s.toNat))) := hide (by
        have h := own_mono hN2.out.own (Nat.le_succ w.heap.size) (Nat.succ_le_of_lt hlt)
        unfold OwnI
        rw [tab16_length]
        exact h)
      have hU := hide (Upd.of_below hN2.bel 0 0)
      clear hN2 hN hlt
      go_wp2
      go_ret
      exact ⟨_, rfl, unhide hO2, unhide hU⟩
end Go.Proofs.YtpofmcepjmbmcaaDoor

/- Laws of the walk that the guide's texts lack: a part of a row read as a whole; and rows of numbers told by a function. -/
namespace Go.Proofs.YtpofmcepjmbmcaaDoor
open Go.RowKit

theorem wpList_load_list {P : Program} {ops : Array Oper} {rest : List Oper} {o : Oper} {a : Act} {w : World} {Q : Exit → Act → World → Prop} (hgd : o.guard = none) (ty : TypeId) (x : Operand) (ho : o.op = .load ty x)
    (p : Addr) (hx : a.eval x = .pointer (some p)) (l : List Value) (hl : ∀ j v, l[j]? = some v → w.cell? (p.add j) = some v) (d : TypeDesc)
    (hu : P.underlying ty = some d) (hd : (match d with | .struct _ | .array _ _ => true | _ => false) = true) (hi : (P.info? ty).map (·.size) = some l.length)
    (h : wpList P ops Q rest (a.put o.dst (.agg l.toArray)) w) : wpList P ops Q (o :: rest) a w := by
  have hL : (loadVar ty p).run P w = .ok (.agg l.toArray) w := by
    cases hq : P.info? ty with
    | none => simp [hq] at hi
    | some i =>
      have hs : i.size = l.length := by simpa [hq] using hi
      have hagg : (isAgg ty).run P w = .ok true w := by
        unfold isAgg
        rw [Sem.run_bind, run_underlying hu w]
        cases d <;> simp_all
      have hll := run_loadCells_list (P := P) w p l hl
      simp [loadVar, Sem.run_bind, hagg, sizeOf, typeInfo, hq, hs, hll]
  refine wpList_plain hgd fun K hK => ?_
  unfold Oper.wp execOp
  simp only [ho, hx, Instr.loadAt, Instr.sureAddr, Sem.run_bind, Sem.run_pure, Result.andThen_ok, hL]
  exact hK _ _ h

/-- A row of numbers, told by a function, within an array of cells: n of them from o on. -/
def NumsAt (cs : Array Value) (o n : Nat) (f : Nat → Nat) : Prop := ∀ j, j < n → cs[o + j]? = some (.int .i64 (f j : Nat))
theorem NumsAt.set {cs : Array Value} {o n : Nat} {f : Nat → Nat} (h : NumsAt cs o n f) (i x : Nat) (hi : i < n) (f' : Nat → Nat) (hx : f' i = x) (hf : ∀ j, j ≠ i → f' j = f j) :
    NumsAt (cs.setIfInBounds (o + i) (.int .i64 (x : Nat))) o n f' := by
  intro j hj
  have hs : o + i < cs.size := by
    have := h i hi
    exact (Array.getElem?_eq_some_iff.1 this).1
  rw [Array.getElem?_setIfInBounds]
  by_cases e : i = j
  · subst e; rw [if_pos rfl, if_pos hs, hx]
  · rw [if_neg (by omega), hf j (by omega)]; exact h j hj
theorem NumsAt.other {cs : Array Value} {o n : Nat} {f : Nat → Nat} (h : NumsAt cs o n f) (i : Nat) (u : Value) (hi : i < o ∨ o + n ≤ i) : NumsAt (cs.setIfInBounds i u) o n f := by
  intro j hj
  rw [Array.getElem?_setIfInBounds, if_neg (by omega)]; exact h j hj
theorem getElem?_set_other {cs : Array Value} {i k : Nat} {u v : Value} (h : cs[k]? = some v) (hne : i ≠ k) : (cs.setIfInBounds i u)[k]? = some v := by
  rw [Array.getElem?_setIfInBounds, if_neg hne]; exact h
theorem getElem?_set_same {cs : Array Value} {i : Nat} {u : Value} (h : i < cs.size) : (cs.setIfInBounds i u)[i]? = some u := by
  rw [Array.getElem?_setIfInBounds, if_pos rfl, if_pos h]
def OneCells (cs : Array Value) : Prop := cs.all (·.oneCell') = true
theorem OneCells.set {cs : Array Value} (h : OneCells cs) (i : Nat) (u : Value) (hu : u.oneCell' = true) : OneCells (cs.setIfInBounds i u) := by
  unfold OneCells at *
  rw [Array.all_eq_true_iff_forall_mem] at h ⊢
  intro v hv
  rcases Array.mem_or_eq_of_mem_setIfInBounds hv with hv | rfl
  · exact h v hv
  · exact hu
theorem add_cell (g o j : Nat) : (⟨g, o, none⟩ : Addr).add j = ⟨g, o + j, none⟩ := by unfold Addr.add; split <;> simp_all
theorem list_of_nums {cs : Array Value} {o n : Nat} {f : Nat → Nat} (h : NumsAt cs o n f) {w : World} {g : Nat} {t : TypeId} {fr : Nat × Nat} (hg : w.heap[g]? = some (.cells cs t fr)) :
    ∀ j v, ((List.range n).map fun j => Value.int .i64 (f j : Nat))[j]? = some v → w.cell? ((⟨g, o, none⟩ : Addr).add j) = some v := by
  intro j v hv
  rw [add_cell, cell_of_row w g _ cs t fr hg]
  rw [List.getElem?_map] at hv
  by_cases hj : j < n
  · rw [List.getElem?_range hj] at hv
    simp at hv; rw [h j hj, ← hv]
  · rw [List.getElem?_eq_none (by simp; omega)] at hv; simp at hv
theorem numsAt_list (n : Nat) (f : Nat → Nat) : NumsAt ((List.range n).map fun j => Value.int .i64 (f j : Nat)).toArray 0 n f := by
  intro j hj
  simp [hj]
theorem oneCells_list (n : Nat) (f : Nat → Nat) : OneCells ((List.range n).map fun j => Value.int .i64 (f j : Nat)).toArray := by
  unfold OneCells
  rw [Array.all_eq_true_iff_forall_mem]
  intro v hv
  simp at hv
  obtain ⟨j, _, rfl⟩ := hv
  rfl
end Go.Proofs.YtpofmcepjmbmcaaDoor

/- Rows of numbers as values and in blocks; the program's small rows, forward and back. -/
namespace Go.Proofs.YtpofmcepjmbmcaaDoor
open Go.RowKit

def rwc (xs : List Int) : Array Value := (ints xs).toArray
theorem rwc_size {xs : List Int} : (rwc xs).size = xs.length := by simp [rwc, ints]
theorem rwc_one (xs : List Int) : (rwc xs).all (·.oneCell') = true := by
  rw [Array.all_eq_true_iff_forall_mem]
  intro v hv
  simp only [rwc, ints, List.mem_toArray, List.mem_map] at hv
  obtain ⟨x, _, rfl⟩ := hv
  rfl
theorem rwc_at {xs : List Int} {j : Nat} (h : j < xs.length) : (rwc xs)[j]? = some (.int .i64 (xs.getD j 0)) := by
  simp only [rwc, ints, List.getElem?_toArray, List.getElem?_map, List.getD_eq_getElem?_getD, List.getElem?_eq_getElem h]
  rfl
theorem rwc_set (xs : List Int) (j : Nat) (x : Int) : (rwc xs).setIfInBounds j (.int .i64 x) = rwc (xs.set j x) := by
  simp only [rwc, ints, List.setIfInBounds_toArray, List.map_set]
/-- A row of n numbers lies in a block. -/
def RAt (t : TypeId) (n : Nat) (W : World) (g : Nat) (xs : List Int) : Prop := W.heap[g]? = some (.cells (rwc xs) t (0, 0)) ∧ xs.length = n
theorem RAt.lt {t : TypeId} {n : Nat} {W : World} {g : Nat} {xs : List Int} (h : RAt t n W g xs) : g < W.heap.size := (Array.getElem?_eq_some_iff.1 h.1).1
theorem RAt.cell {t : TypeId} {n : Nat} {W : World} {g : Nat} {xs : List Int} (h : RAt t n W g xs) {j : Nat} (hj : j < n) : W.cell? ⟨g, j, none⟩ = some (.int .i64 (xs.getD j 0)) := by
  rw [cell_of_row _ _ _ _ _ _ h.1, rwc_at (by rw [h.2]; exact hj)]
theorem RAt.frozen {t : TypeId} {n : Nat} {W : World} {g : Nat} {xs : List Int} (h : RAt t n W g xs) (j : Nat) : W.frozen? ⟨g, j, none⟩ = false := frozen_of_row _ _ _ _ _ h.1
theorem RAt.upd {t : TypeId} {n : Nat} {W W' : World} {g a b : Nat} {xs : List Int} (h : RAt t n W g xs) (u : Upd a b W W') (hg : g < a ∨ b ≤ g) : RAt t n W' g xs := ⟨by rw [u.block g h.lt hg]; exact h.1, h.2⟩
theorem RAt.keep {t : TypeId} {n : Nat} {W W' : World} {g : Nat} {xs : List Int} (h : RAt t n W g xs) (u : Upd 0 0 W W') : RAt t n W' g xs := h.upd u (.inr (Nat.zero_le _))
theorem RAt.other {t : TypeId} {n : Nat} {W : World} {g : Nat} {xs : List Int} (h : RAt t n W g xs) {a : Addr} (ha : a.block ≠ g) (v : Value) : RAt t n (W.setCell a v) g xs := ⟨by rw [Below.heap_setCell _ _ _ _ (fun e => ha e.symm)]; exact h.1, h.2⟩
theorem RAt.set {t : TypeId} {n : Nat} {W : World} {g : Nat} {xs : List Int} (h : RAt t n W g xs) (j : Nat) (x : Int) : RAt t n (W.setCell ⟨g, j, none⟩ (.int .i64 x)) g (xs.set j x) := by
  refine ⟨?_, by rw [List.length_set]; exact h.2⟩
  rw [heap_setCell_same _ _ _ _ _ _ h.1, rwc_set]
theorem rAt_new (t : TypeId) (n : Nat) (W : World) (xs : List Int) (h : xs.length = n) : RAt t n (W.alloc (.cells (rwc xs) t)) W.heap.size xs := ⟨heap_alloc_new _ _, h⟩
theorem RAt.alloc {t : TypeId} {n : Nat} {W : World} {g : Nat} {xs : List Int} (h : RAt t n W g xs) (o : Obj) : RAt t n (W.alloc o) g xs :=
  h.keep (Upd.of_below ((Below.refl W.heap.size W).alloc (Nat.le_refl _) o) 0 0)
/-- Three new rows. -/
theorem rows3 (t : TypeId) (n : Nat) (w : World) (A B C : List Int) (hA : A.length = n) (hB : B.length = n) (hC : C.length = n) (w0 : World) (hw : w0 = ((w.alloc (.cells (rwc A) t)).alloc (.cells (rwc B) t)).alloc (.cells (rwc C) t)) :
    RAt t n w0 w.heap.size A ∧ RAt t n w0 (w.heap.size + 1) B ∧ RAt t n w0 (w.heap.size + 2) C ∧ Below w.heap.size w w0 := by
  subst hw
  refine ⟨((rAt_new t n w A hA).alloc _).alloc _, ?_, ?_, (((Below.refl _ w).alloc (Nat.le_refl _) _).alloc (by simp) _).alloc (by simp; omega) _⟩
  · have h := rAt_new t n (w.alloc (.cells (rwc A) t)) B hB
    rw [show (w.alloc (.cells (rwc A) t)).heap.size = w.heap.size + 1 by simp] at h
    exact h.alloc _
  · have h := rAt_new t n ((w.alloc (.cells (rwc A) t)).alloc (.cells (rwc B) t)) C hC
    rw [show ((w.alloc (.cells (rwc A) t)).alloc (.cells (rwc B) t)).heap.size = w.heap.size + 2 by simp] at h
    exact h
theorem Upd.drewB (w : World) : Upd 0 0 w w.drew := ⟨rfl, rfl, rfl, Nat.le_refl _, fun _ _ _ => rfl⟩
def z4 : List Int := List.replicate 4 0
theorem z4_len : z4.length = 4 := rfl
theorem info4 : (Tryd.prog.info? 78).map (fun i => (i.zero, i.size)) = some (some (.agg #[.int .i64 0, .int .i64 0, .int .i64 0, .int .i64 0]), 4) := by kernel_rfl
theorem zero4 : ∀ w, (zeroValue 78).run Tryd.prog w = .ok (.agg #[.int .i64 0, .int .i64 0, .int .i64 0, .int .i64 0]) w := (zero_of_info info4).1
theorem size4 : (Tryd.prog.info? 78).map (·.size) = some 4 := (zero_of_info info4).2
theorem wrapB {n : Int} (h : -9223372036854775808 ≤ n ∧ n ≤ 9223372036854775807) : IntKind.i64.wrap n = n := by
  simp [IntKind.wrap, IntKind.bits, IntKind.signed]; omega
def smW : List Int := [1, 1, 1, 1, 2, 1, -1, -2, 1, -1, -1, 1, 1, -2, 2, -1]
theorem idx_wave (a : Nat) (ha : a < 4) (W : World) : (Instr.index 79 (.agg (ints smW).toArray) (.int .i64 (a : Int))).run Tryd.prog W = .ok (.agg #[.int .i64 (smT a 0), .int .i64 (smT a 1), .int .i64 (smT a 2), .int .i64 (smT a 3)]) W := by
  rcases (show a = 0 ∨ a = 1 ∨ a = 2 ∨ a = 3 by omega) with e | e | e | e <;> subst e <;> kernel_rfl
theorem idx_four (y0 y1 y2 y3 : Int) (j : Nat) (hj : j < 4) (W : World) : (Instr.index 78 (.agg #[.int .i64 y0, .int .i64 y1, .int .i64 y2, .int .i64 y3]) (.int .i64 (j : Int))).run Tryd.prog W = .ok (.int .i64 ([y0, y1, y2, y3].getD j 0)) W := by
  rcases (show j = 0 ∨ j = 1 ∨ j = 2 ∨ j = 3 by omega) with e | e | e | e <;> subst e <;> kernel_rfl
theorem smT_four (a j : Nat) (hj : j < 4) : [smT a 0, smT a 1, smT a 2, smT a 3].getD j 0 = smT a j := by
  rcases (show j = 0 ∨ j = 1 ∨ j = 2 ∨ j = 3 by omega) with e | e | e | e <;> subst e <;> rfl
theorem sizeW : (Tryd.prog.info? 79).map (·.size) = some 16 := by kernel_rfl
/-- What the sums' walk keeps. -/
structure SmSt (w wr : World) (r xs : List Int) : Prop where
  box : RAt 78 4 wr w.heap.size r
  res : RAt 78 4 wr (w.heap.size + 1) z4
  sum : RAt 78 4 wr (w.heap.size + 2) xs
  bel : Below w.heap.size w wr
theorem SmSt.upd {w wr wx : World} {r xs : List Int} (h : SmSt w wr r xs) (u : Upd 0 0 wr wx) : SmSt w wx r xs :=
  ⟨h.box.keep u, h.res.keep u, h.sum.keep u, below_upd h.bel u (Nat.le_refl _) (.inr (Nat.zero_le _))⟩
theorem SmSt.put {w wr : World} {r xs : List Int} (h : SmSt w wr r xs) (k : Nat) (x : Int) : SmSt w (wr.setCell ⟨w.heap.size + 2, k, none⟩ (.int .i64 x)) r (xs.set k x) :=
  ⟨h.box.other (by simp) _, h.res.other (by simp) _, h.sum.set k x, h.bel.setCell (p := ⟨w.heap.size + 2, k, none⟩) (by simp) _⟩
set_option maxHeartbeats 16000000 in
set_option maxRecDepth 1000000 in
theorem implSmallSums (r : List Int) (w : World) (hr : r.length = 4) (hb : ∀ j, j < 4 → -2000000000 ≤ r.getD j 0 ∧ r.getD j 0 ≤ 2000000000) (hTb : Held w 1 (ints smW)) :
    Calls Tryd.prog 71 #[.agg (rwc r)] w fun e w' => e = .returned (.agg (rwc (tabN 4 (sumS r)))) ∧ Upd 0 0 w w' := by
  have hz := zero4
  have hsq : Hid (∀ w0, w0 = ((w.alloc (.cells (rwc r) 78)).alloc (.cells #[.int .i64 0, .int .i64 0, .int .i64 0, .int .i64 0] 78)).alloc (.cells #[.int .i64 0, .int .i64 0, .int .i64 0, .int .i64 0] 78) →
      RAt 78 4 w0 w.heap.size r ∧ RAt 78 4 w0 (w.heap.size + 1) z4 ∧ RAt 78 4 w0 (w.heap.size + 2) z4 ∧ Below w.heap.size w w0) := hide (rows3 78 4 w r z4 z4 hr z4_len z4_len)
  have hS0 := hide (fun u (n : Nat) (hn : n ≤ 4) => sumT_bd (K := 2000000000) u hb n hn)
  replace hb := hide hb
  go_enter Tryd.func71, Tryd.ntmps71
  go_upto_region 2 with fail
  obtain ⟨w0, hw0⟩ : ∃ w0, w0 = ((w.alloc (.cells (rwc r) 78)).alloc (.cells #[.int .i64 0, .int .i64 0, .int .i64 0, .int .i64 0] 78)).alloc (.cells #[.int .i64 0, .int .i64 0, .int .i64 0, .int .i64 0] 78) := ⟨_, rfl⟩
  obtain ⟨hBx, hRs, hSm, hbw⟩ := unhide hsq w0 hw0
  rw [← hw0]
  clear hw0
  have hT0 := hTb.keep (Upd.of_below hbw 0 0)
  have hN : Hid (SmSt w w0 r (tabN 4 (prt (sumS r) id 0 0))) := hide ⟨hBx, hRs, by rw [prtN_zero]; exact hSm, hbw⟩
  clear hsq hBx hRs hSm hbw
  refine wp_region_lit ?_
  refine wpList_load_list rfl 79 (.global 1) rfl ⟨1, 0, none⟩ rfl (ints smW) (fun j v hj => by rw [add_cell, Nat.zero_add]; exact hT0.2 j v hj) _ Tryd.underlying79 rfl sizeW ?_
  clear hT0
  have hI := hide idx_wave
  go_wp2_with fail
  go_loopw [9] (fun i wr => ∃ a : Nat, a ≤ 4 ∧ i = .int .i64 (a : Int) ∧ Hid (SmSt w wr r (tabN 4 (prt (sumS r) id a 0)))) (fun i _ => 4 - (intOf i).toNat)
  case atStart => exact ⟨0, by omega, rfl, hN⟩
  case round =>
    clear hN
    obtain ⟨a, ha, rfl, hN⟩ := hrel
    by_cases halt : a < 4
    · have hab : decide ((a : Int) < 4) = true := decide_eq_true (by omega)
      have hI1 := unhide hI a halt
      have hnk := hide (heldF_new wr [.int .i64 (smT a 0), .int .i64 (smT a 1), .int .i64 (smT a 2), .int .i64 (smT a 3)] 78)
      have hN1 := hide ((unhide hN).upd (Upd.of_below ((Below.refl wr.heap.size wr).alloc (Nat.le_refl _) (.cells #[.int .i64 (smT a 0), .int .i64 (smT a 1), .int .i64 (smT a 2), .int .i64 (smT a 3)] 78)) 0 0))
      have hgt : w.heap.size + 2 < wr.heap.size := (unhide hN).sum.lt
      clear hN hI
      go_upto_region 5 with fail
      generalize wr.alloc (.cells #[.int .i64 (smT a 0), .int .i64 (smT a 1), .int .i64 (smT a 2), .int .i64 (smT a 3)] 78) = w1 at hN1 hnk ⊢
      have c0 := (unhide hnk).1.2 0 _ rfl
      have c1 := (unhide hnk).1.2 1 _ rfl
      have c2 := (unhide hnk).1.2 2 _ rfl
      have c3 := (unhide hnk).1.2 3 _ rfl
      clear hnk
      go_wp2_with fail
      clear c0 c1 c2 c3 hI1 hgt
      go_loopw [14] (fun i wr => ∃ (j : Nat) (S : Int), j ≤ 4 ∧ i = .int .i64 (j : Int) ∧ Hid (S = sumT r a j) ∧ Hid (SmSt w wr r (tabN 4 (prt (sumS r) id a S)))) (fun i _ => 4 - (intOf i).toNat)
      case atStart => exact ⟨0, 0, by omega, rfl, hide rfl, hN1⟩
      case round =>
        clear hN1
        obtain ⟨j, S, hj, rfl, hS, hN⟩ := hrel
        by_cases hjlt : j < 4
        · have hjb : decide ((j : Int) < 4) = true := decide_eq_true (by omega)
          have hJ := idx_four (smT a 0) (smT a 1) (smT a 2) (smT a 3) j hjlt
          rw [smT_four a j hjlt] at hJ
          have hSb := unhide hS0 a j (by omega)
          rw [← unhide hS] at hSb
          have hSb2 : -16000000000 ≤ S ∧ S ≤ 16000000000 := by omega
          clear hSb
          obtain ⟨S0, S1⟩ := hSb2
          have hnx : Hid (sumT r a (j + 1) = S + smT a j * r.getD j 0) := hide (by rw [unhide hS]; rfl)
          have hck := (unhide hN).box.cell hjlt
          have hsm := (unhide hN).sum.cell halt
          have hfz := (unhide hN).sum.frozen a
          have hput := hide (fun x => (unhide hN).put a x)
          rw [tabN_getD 4 _ a halt, prt_at (sumS r) id a S a rfl] at hsm
          have hPb := smT_mul a j (r.getD j 0) 2000000000 (unhide hb j hjlt)
          generalize r.getD j 0 = x at hck hnx hPb
          generalize smT a j = m at hJ hnx hPb
          obtain ⟨P, hP⟩ : ∃ P, m * x = P := ⟨_, rfl⟩
          rw [hP] at hnx hPb
          obtain ⟨P0, P1⟩ := hPb
          have hput2 := hide (unhide hput (S + P))
          rw [prtN_set 4 (sumS r) id a S (S + P) a halt rfl (fun k _ e => e)] at hput2
          have w4 : IntKind.i64.wrap P = P := wrapB (by omega)
          have w5 : IntKind.i64.wrap (S + P) = S + P := wrapB (by omega)
          have i1 : (0 : Int) ≤ (j : Int) := by omega
          have i2 : (j : Int) < 4 := by omega
          have i3 : (0 : Int) ≤ (a : Int) := by omega
          have i4 : (a : Int) < 4 := by omega
          clear hput hS hN
          go_wp2_with fail
          refine wp_region_still_tail 10 (by kernel_rfl) (by kernel_rfl) ?_
          simp only [List.take_succ_cons, List.take_zero, List.drop_succ_cons, List.drop_zero]
          iterate 10 still_step
          refine wpStill_nil ?_
          go_wp2_with fail
          go_roundw
          case rel => exact ⟨j + 1, S + P, by omega, by go_num, hide (unhide hnx).symm, hide ((unhide hput2).upd (Upd.drewB _))⟩
          case measure => simp [intOf]; omega
        · obtain rfl : j = 4 := by omega
          have hN2 : Hid (SmSt w wr r (tabN 4 (prt (sumS r) id (a + 1) 0))) := hide (by
            have h := unhide hN
            rw [prtN_next 4 (sumS r) id a S (fun k hk e => by have e2 : k = a := e; subst e2; rw [unhide hS]; rfl)] at h
            exact h)
          clear hN
          go_wp2_with fail
          go_roundw
          case rel => exact ⟨a + 1, by omega, by go_num, hN2⟩
          case measure => simp [intOf]; omega
    · obtain rfl : a = 4 := by omega
      have hN2 : Hid (SmSt w wr r (tabN 4 (sumS r))) := hide (by
        have h := unhide hN
        rw [prtN_done 4 (sumS r) id 4 (fun k hk => hk)] at h
        exact h)
      clear hN hI
      go_upto_region 11 with fail
      refine wp_region_lit ?_
      refine wpList_load_row rfl 78 (.tmp 3) rfl (w.heap.size + 2) rfl 78 (rwc (tabN 4 (sumS r))) (0, 0) _ (unhide hN2).sum.1 Tryd.underlying78 rfl (by rw [rwc_size, tabN_length]; exact size4) ?_
      refine wpList_store_row rfl 78 (.tmp 2) (.tmp 30) rfl (w.heap.size + 1) (rwc (tabN 4 (sumS r))) rfl rfl 78 (rwc z4) (unhide hN2).res.1 (by rw [rwc_size, tabN_length]; exact size4) (by rw [rwc_size, rwc_size, tabN_length]; rfl) (rwc_one _) ?_
      have hres : (wr.setRow (w.heap.size + 1) (rwc (tabN 4 (sumS r)))).heap[w.heap.size + 1]? = some (.cells (rwc (tabN 4 (sumS r))) 78 (0, 0)) := setRow_heap wr _ _ _ _ _ (unhide hN2).res.1
      replace hres := hide hres
      have hb2 := hide (below_setRow (unhide hN2).bel (show w.heap.size ≤ w.heap.size + 1 by omega) (rwc (tabN 4 (sumS r))))
      clear hN2
      go_wp2_with fail
      refine bodyPost_ret (v := .agg (rwc (tabN 4 (sumS r)))) (results_cell_row rfl _ _ (w.heap.size + 1) 78 (rwc (tabN 4 (sumS r))) (0, 0) _ rfl (unhide hres) Tryd.underlying78 rfl (by rw [rwc_size, tabN_length]; exact size4)) rfl ⟨rfl, Upd.of_below (unhide hb2) 0 0⟩
end Go.Proofs.YtpofmcepjmbmcaaDoor

/- The program's small rows, back. -/
namespace Go.Proofs.YtpofmcepjmbmcaaDoor
open Go.RowKit

theorem rows2 (t : TypeId) (n : Nat) (w : World) (A B : List Int) (hA : A.length = n) (hB : B.length = n) (w0 : World) (hw : w0 = (w.alloc (.cells (rwc A) t)).alloc (.cells (rwc B) t)) :
    RAt t n w0 w.heap.size A ∧ RAt t n w0 (w.heap.size + 1) B ∧ Below w.heap.size w w0 := by
  subst hw
  refine ⟨(rAt_new t n w A hA).alloc _, ?_, ((Below.refl _ w).alloc (Nat.le_refl _) _).alloc (by simp) _⟩
  have h := rAt_new t n (w.alloc (.cells (rwc A) t)) B hB
  rw [show (w.alloc (.cells (rwc A) t)).heap.size = w.heap.size + 1 by simp] at h
  exact h
set_option maxHeartbeats 16000000 in
set_option maxRecDepth 1000000 in
theorem implSmallBack (r : List Int) (w : World) (hr : r.length = 4) (hb : ∀ j, j < 4 → -2000000000 ≤ r.getD j 0 ∧ r.getD j 0 ≤ 2000000000) :
    Calls Tryd.prog 76 #[.agg (rwc r)] w fun e w' => e = .returned (.agg (rwc (tabN 4 (backS r)))) ∧ Upd 0 0 w w' := by
  have hz := zero4
  have hsq : Hid (∀ w0, w0 = (w.alloc (.cells (rwc r) 78)).alloc (.cells #[.int .i64 0, .int .i64 0, .int .i64 0, .int .i64 0] 78) →
      RAt 78 4 w0 w.heap.size r ∧ RAt 78 4 w0 (w.heap.size + 1) z4 ∧ Below w.heap.size w w0) := hide (rows2 78 4 w r z4 hr z4_len)
  have hE : Hid ((((z4.set 0 (r.getD 0 0 + r.getD 2 0 + (r.getD 1 0 + r.getD 3 0 / 2))).set 1 (r.getD 0 0 - r.getD 2 0 + (r.getD 1 0 / 2 - r.getD 3 0))).set 2 (r.getD 0 0 - r.getD 2 0 - (r.getD 1 0 / 2 - r.getD 3 0))).set 3 (r.getD 0 0 + r.getD 2 0 - (r.getD 1 0 + r.getD 3 0 / 2)) = tabN 4 (backS r)) := hide rfl
  have b0 := hb 0 (by omega); have b1 := hb 1 (by omega); have b2 := hb 2 (by omega); have b3 := hb 3 (by omega)
  go_enter Tryd.func76, Tryd.ntmps76
  go_upto_region 1 with fail
  obtain ⟨w0, hw0⟩ : ∃ w0, w0 = (w.alloc (.cells (rwc r) 78)).alloc (.cells #[.int .i64 0, .int .i64 0, .int .i64 0, .int .i64 0] 78) := ⟨_, rfl⟩
  obtain ⟨hBx, hRs, hbw⟩ := unhide hsq w0 hw0
  rw [← hw0]
  clear hw0
  have c0 := hBx.cell (j := 0) (by omega)
  have c1 := hBx.cell (j := 1) (by omega)
  have c2 := hBx.cell (j := 2) (by omega)
  have c3 := hBx.cell (j := 3) (by omega)
  have hR1 : Hid (RAt 78 4 w0.drew (w.heap.size + 1) z4) := hide (hRs.keep (Upd.drewB _))
  have hb1 : Hid (Below w.heap.size w w0.drew) := hide (below_upd hbw (Upd.drewB _) (Nat.le_refl _) (.inr (Nat.zero_le _)))
  clear hsq hBx hRs hbw hb hr
  generalize r.getD 0 0 = a at *
  generalize r.getD 1 0 = b at *
  generalize r.getD 2 0 = c at *
  generalize r.getD 3 0 = d at *
  refine wp_region_still_lit (by kernel_rfl) (by kernel_rfl) ?_
  iterate 12 still_step
  refine wpStill_nil ?_
  clear c0 c1 c2 c3
  obtain ⟨a0, a1⟩ := b0
  obtain ⟨a2, a3⟩ := b1
  obtain ⟨a4, a5⟩ := b2
  obtain ⟨a6, a7⟩ := b3
  have k0 : w0.cell? ⟨w.heap.size + 1, 0, none⟩ = some (.int .i64 0) := (unhide hR1).cell (j := 0) (by omega)
  have k1 : w0.cell? ⟨w.heap.size + 1, 1, none⟩ = some (.int .i64 0) := (unhide hR1).cell (j := 1) (by omega)
  have k2 : w0.cell? ⟨w.heap.size + 1, 2, none⟩ = some (.int .i64 0) := (unhide hR1).cell (j := 2) (by omega)
  have k3 : w0.cell? ⟨w.heap.size + 1, 3, none⟩ = some (.int .i64 0) := (unhide hR1).cell (j := 3) (by omega)
  have f0 : w0.frozen? ⟨w.heap.size + 1, 0, none⟩ = false := (unhide hR1).frozen 0
  have f1 : w0.frozen? ⟨w.heap.size + 1, 1, none⟩ = false := (unhide hR1).frozen 1
  have f2 : w0.frozen? ⟨w.heap.size + 1, 2, none⟩ = false := (unhide hR1).frozen 2
  have f3 : w0.frozen? ⟨w.heap.size + 1, 3, none⟩ = false := (unhide hR1).frozen 3
  go_wp2
  have hR4 := (((((unhide hR1).set 0 (a + c + (b + d / 2))).set 1 (a - c + (b / 2 - d))).set 2 (a - c - (b / 2 - d))).set 3 (a + c - (b + d / 2)))
  rw [unhide hE] at hR4
  have hb4 := ((((unhide hb1).setCell (p := ⟨w.heap.size + 1, 0, none⟩) (by simp) (.int .i64 (a + c + (b + d / 2)))).setCell (p := ⟨w.heap.size + 1, 1, none⟩) (by simp) (.int .i64 (a - c + (b / 2 - d)))).setCell (p := ⟨w.heap.size + 1, 2, none⟩) (by simp) (.int .i64 (a - c - (b / 2 - d)))).setCell (p := ⟨w.heap.size + 1, 3, none⟩) (by simp) (.int .i64 (a + c - (b + d / 2)))
  refine bodyPost_ret (v := .agg (rwc (tabN 4 (backS r)))) (results_cell_row rfl _ _ (w.heap.size + 1) 78 (rwc (tabN 4 (backS r))) (0, 0) _ rfl hR4.1 Tryd.underlying78 rfl (by rw [rwc_size, tabN_length]; exact size4)) rfl ⟨rfl, Upd.of_below hb4 0 0⟩
end Go.Proofs.YtpofmcepjmbmcaaDoor

/- The program's small blocks: turned over, each row changed on the way. -/
namespace Go.Proofs.YtpofmcepjmbmcaaDoor
open Go.RowKit

def z16 : List Int := List.replicate 16 0
theorem z16_len : z16.length = 16 := by simp [z16]
theorem infoSb : (Tryd.prog.info? 80).map (fun i => (i.zero, i.size)) = some (some (.agg (rwc z16)), 16) := by kernel_rfl
theorem zero16 : ∀ w, (zeroValue 80).run Tryd.prog w = .ok (.agg (rwc z16)) w := (zero_of_info infoSb).1
theorem size16 : (Tryd.prog.info? 80).map (·.size) = some 16 := (zero_of_info infoSb).2
theorem idx_rwc (ys : List Int) (hy : ys.length = 4) (j : Nat) (hj : j < 4) (W : World) : (Instr.index 78 (.agg (rwc ys)) (.int .i64 (j : Int))).run Tryd.prog W = .ok (.int .i64 (ys.getD j 0)) W := by
  match ys, hy with
  | [a, b, c, d], _ => exact idx_four a b c d j hj W
/-- What a block's turn keeps. -/
structure TuSt (w wr : World) (zs ys : List Int) : Prop where
  box : RAt 80 16 wr w.heap.size zs
  res : RAt 80 16 wr (w.heap.size + 1) z16
  out : RAt 80 16 wr (w.heap.size + 2) ys
  bel : Below w.heap.size w wr
theorem TuSt.upd {w wr wx : World} {zs ys : List Int} (h : TuSt w wr zs ys) (u : Upd 0 0 wr wx) : TuSt w wx zs ys :=
  ⟨h.box.keep u, h.res.keep u, h.out.keep u, below_upd h.bel u (Nat.le_refl _) (.inr (Nat.zero_le _))⟩
theorem TuSt.put {w wr : World} {zs ys : List Int} (h : TuSt w wr zs ys) (k : Nat) (x : Int) : TuSt w (wr.setCell ⟨w.heap.size + 2, k, none⟩ (.int .i64 x)) zs (ys.set k x) :=
  ⟨h.box.other (by simp) _, h.res.other (by simp) _, h.out.set k x, h.bel.setCell (p := ⟨w.heap.size + 2, k, none⟩) (by simp) _⟩
set_option maxHeartbeats 16000000 in
set_option maxRecDepth 1000000 in
theorem implTurnedSums (zs : List Int) (w : World) (hl : zs.length = 16) (hz : InR (-2000000000) 2000000000 zs) (hTb : Held w 1 (ints smW)) :
    Calls Tryd.prog 70 #[.agg (rwc zs), .func (.func 71) #[] #[]] w fun e w' => e = .returned (.agg (rwc (turn4 sumS zs))) ∧ Upd 0 0 w w' := by
  have hz0 := zero16
  have hsq := hide (rows3 80 16 w zs z16 z16 hl z16_len z16_len)
  have hRow := hide (rowZ_bd hl hz)
  replace hTb := hide hTb
  clear hz
  show Calls Tryd.prog 70 #[.agg (rwc zs), .func (.func 71) #[] #[]] w fun e w' => e = .returned (.agg (rwc (tabN 16 (turnZ sumS zs)))) ∧ Upd 0 0 w w'
  go_enter Tryd.func70, Tryd.ntmps70
  go_upto_region 2 with fail
  obtain ⟨w0, hw0⟩ : ∃ w0, w0 = ((w.alloc (.cells (rwc zs) 80)).alloc (.cells (rwc z16) 80)).alloc (.cells (rwc z16) 80) := ⟨_, rfl⟩
  obtain ⟨hBx, hRs, hSm, hbw⟩ := unhide hsq w0 hw0
  rw [← hw0]
  clear hw0
  have hN : Hid (TuSt w w0 zs (tabN 16 (prt (turnZ sumS zs) rkS (4 * 0 + 0) 0))) := hide ⟨hBx, hRs, by rw [show 4 * 0 + 0 = 0 from rfl, prtN_zero]; exact hSm, hbw⟩
  clear hsq hBx hRs hSm hbw hz0
  replace hl := hide hl
  go_wp2_with fail
  go_loopw [9] (fun i wr => ∃ k : Nat, k ≤ 4 ∧ i = .int .i64 (k : Int) ∧ Hid (TuSt w wr zs (tabN 16 (prt (turnZ sumS zs) rkS (4 * k + 0) 0)))) (fun i _ => 4 - (intOf i).toNat)
  case atStart => exact ⟨0, by omega, rfl, hN⟩
  case round =>
    clear hN
    obtain ⟨k, hk, rfl, hN⟩ := hrel
    by_cases hklt : k < 4
    · have hkb : decide ((k : Int) < 4) = true := decide_eq_true (by omega)
      have k0 : (0 : Int) ≤ (k : Int) := by omega
      have k1 : (k : Int) < 4 := by omega
      have hrow : ∀ j v, (ints (rowZ zs k))[j]? = some v → wr.cell? ((⟨w.heap.size, k * 4, none⟩ : Addr).add j) = some v := by
        intro j v hj
        have hj4 : j < 4 := by have := (List.getElem?_eq_some_iff.1 hj).1; simpa [ints] using this
        rw [add_cell, (unhide hN).box.cell (j := k * 4 + j) (by omega)]
        have e : (ints (rowZ zs k))[j]? = some (.int .i64 ((rowZ zs k).getD j 0)) := by
          rcases (show j = 0 ∨ j = 1 ∨ j = 2 ∨ j = 3 by omega) with e | e | e | e <;> subst e <;> rfl
        rw [e, rowZ_getD zs k j hj4, Nat.mul_comm 4 k] at hj
        exact hj
      have hTk := hide ((unhide hTb).keep (Upd.of_below (unhide hN).bel 0 0))
      have hC := hide (implSmallSums (rowZ zs k) wr rfl (unhide hRow k hklt) (unhide hTk))
      clear hTk
      go_upto_region 5 with fail
      refine wp_region_lit ?_
      go_wp2_with (first | (refine wpList_load_list rfl 78 (.tmp 14) rfl ⟨w.heap.size, k * 4, none⟩ rfl (ints (rowZ zs k)) hrow _ Tryd.underlying78 rfl size4 ?_))
      refine (unhide hC).mono ?_
      rintro e w1 ⟨rfl, hu⟩
      have hN1 := hide ((unhide hN).upd hu)
      clear hN hC hu hrow
      have hI := hide (fun c (hc : c < 4) W => idx_rwc (tabN 4 (sumS (rowZ zs k))) (tabN_length _ _) c hc W)
      go_wp2_with fail
      go_loopw [17] (fun i wr => ∃ c : Nat, c ≤ 4 ∧ i = .int .i64 (c : Int) ∧ Hid (TuSt w wr zs (tabN 16 (prt (turnZ sumS zs) rkS (4 * k + c) 0)))) (fun i _ => 4 - (intOf i).toNat)
      case atStart => exact ⟨0, by omega, rfl, hN1⟩
      case round =>
        clear hN1
        obtain ⟨c, hc, rfl, hN⟩ := hrel
        by_cases hclt : c < 4
        · have hcb : decide ((c : Int) < 4) = true := decide_eq_true (by omega)
          have c0 : (0 : Int) ≤ (c : Int) := by omega
          have c1 : (c : Int) < 4 := by omega
          have hJ := unhide hI c hclt
          rw [tabN_getD 4 _ c hclt] at hJ
          have hfx : turnZ sumS zs (c * 4 + k) = sumS (rowZ zs k) c := by unfold turnZ; rw [show (c * 4 + k) % 4 = k by omega, show (c * 4 + k) / 4 = c by omega]
          have hrk : rkS (c * 4 + k) = 4 * k + c := by unfold rkS; omega
          have hin : ∀ q, q < 16 → rkS q = 4 * k + c → q = c * 4 + k := fun q hq e => by unfold rkS at e; omega
          have hp16 : c * 4 + k < 16 := by omega
          have hck := (unhide hN).out.cell hp16
          have hfz := (unhide hN).out.frozen (c * 4 + k)
          have hput := hide ((unhide hN).put (c * 4 + k) (sumS (rowZ zs k) c))
          rw [prtN_set 16 (turnZ sumS zs) rkS (4 * k + c) 0 (sumS (rowZ zs k) c) (c * 4 + k) hp16 hrk hin, prtN_next 16 (turnZ sumS zs) rkS (4 * k + c) (sumS (rowZ zs k) c) (fun q hq e => by rw [hin q hq e, hfx])] at hput
          generalize (tabN 16 (prt (turnZ sumS zs) rkS (4 * k + c) 0)).getD (c * 4 + k) 0 = old at hck
          generalize sumS (rowZ zs k) c = y at hJ hput
          clear hN hfx hrk hin
          go_wp2_with fail
          go_roundw
          case rel => exact ⟨c + 1, by omega, by go_num, hput⟩
          case measure => simp [intOf]; omega
        · obtain rfl : c = 4 := by omega
          have hN2 : Hid (TuSt w wr zs (tabN 16 (prt (turnZ sumS zs) rkS (4 * (k + 1) + 0) 0))) := hide (by have h := unhide hN; rw [show 4 * (k + 1) + 0 = 4 * k + 4 by omega]; exact h)
          clear hN hI
          go_wp2_with fail
          go_roundw
          case rel => exact ⟨k + 1, by omega, by go_num, hN2⟩
          case measure => simp [intOf]; omega
    · obtain rfl : k = 4 := by omega
      have hN2 : Hid (TuSt w wr zs (tabN 16 (turnZ sumS zs))) := hide (by
        have h := unhide hN
        rw [show 4 * 4 + 0 = 16 from rfl, prtN_done 16 (turnZ sumS zs) rkS 16 rkS_lt] at h
        exact h)
      clear hN
      go_upto_region 11 with fail
      refine wp_region_lit ?_
      refine wpList_load_row rfl 80 (.tmp 5) rfl (w.heap.size + 2) rfl 80 (rwc (tabN 16 (turnZ sumS zs))) (0, 0) _ (unhide hN2).out.1 Tryd.underlying80 rfl (by rw [rwc_size, tabN_length]; exact size16) ?_
      refine wpList_store_row rfl 80 (.tmp 4) (.tmp 28) rfl (w.heap.size + 1) (rwc (tabN 16 (turnZ sumS zs))) rfl rfl 80 (rwc z16) (unhide hN2).res.1 (by rw [rwc_size, tabN_length]; exact size16) (by rw [rwc_size, rwc_size, tabN_length]; rfl) (rwc_one _) ?_
      have hres : (wr.setRow (w.heap.size + 1) (rwc (tabN 16 (turnZ sumS zs)))).heap[w.heap.size + 1]? = some (.cells (rwc (tabN 16 (turnZ sumS zs))) 80 (0, 0)) := setRow_heap wr _ _ _ _ _ (unhide hN2).res.1
      replace hres := hide hres
      have hb2 := hide (below_setRow (unhide hN2).bel (show w.heap.size ≤ w.heap.size + 1 by omega) (rwc (tabN 16 (turnZ sumS zs))))
      clear hN2
      go_wp2_with fail
      refine bodyPost_ret (v := .agg (rwc (tabN 16 (turnZ sumS zs)))) (results_cell_row rfl _ _ (w.heap.size + 1) 80 (rwc (tabN 16 (turnZ sumS zs))) (0, 0) _ rfl (unhide hres) Tryd.underlying80 rfl (by rw [rwc_size, tabN_length]; exact size16)) rfl ⟨rfl, Upd.of_below (unhide hb2) 0 0⟩
set_option maxHeartbeats 16000000 in
set_option maxRecDepth 1000000 in
theorem implTurnedBack (zs : List Int) (w : World) (hl : zs.length = 16) (hz : InR (-2000000000) 2000000000 zs) :
    Calls Tryd.prog 70 #[.agg (rwc zs), .func (.func 76) #[] #[]] w fun e w' => e = .returned (.agg (rwc (turn4 backS zs))) ∧ Upd 0 0 w w' := by
  have hz0 := zero16
  have hsq := hide (rows3 80 16 w zs z16 z16 hl z16_len z16_len)
  have hRow := hide (rowZ_bd hl hz)
  
  clear hz
  show Calls Tryd.prog 70 #[.agg (rwc zs), .func (.func 76) #[] #[]] w fun e w' => e = .returned (.agg (rwc (tabN 16 (turnZ backS zs)))) ∧ Upd 0 0 w w'
  go_enter Tryd.func70, Tryd.ntmps70
  go_upto_region 2 with fail
  obtain ⟨w0, hw0⟩ : ∃ w0, w0 = ((w.alloc (.cells (rwc zs) 80)).alloc (.cells (rwc z16) 80)).alloc (.cells (rwc z16) 80) := ⟨_, rfl⟩
  obtain ⟨hBx, hRs, hSm, hbw⟩ := unhide hsq w0 hw0
  rw [← hw0]
  clear hw0
  have hN : Hid (TuSt w w0 zs (tabN 16 (prt (turnZ backS zs) rkS (4 * 0 + 0) 0))) := hide ⟨hBx, hRs, by rw [show 4 * 0 + 0 = 0 from rfl, prtN_zero]; exact hSm, hbw⟩
  clear hsq hBx hRs hSm hbw hz0
  replace hl := hide hl
  go_wp2_with fail
  go_loopw [9] (fun i wr => ∃ k : Nat, k ≤ 4 ∧ i = .int .i64 (k : Int) ∧ Hid (TuSt w wr zs (tabN 16 (prt (turnZ backS zs) rkS (4 * k + 0) 0)))) (fun i _ => 4 - (intOf i).toNat)
  case atStart => exact ⟨0, by omega, rfl, hN⟩
  case round =>
    clear hN
    obtain ⟨k, hk, rfl, hN⟩ := hrel
    by_cases hklt : k < 4
    · have hkb : decide ((k : Int) < 4) = true := decide_eq_true (by omega)
      have k0 : (0 : Int) ≤ (k : Int) := by omega
      have k1 : (k : Int) < 4 := by omega
      have hrow : ∀ j v, (ints (rowZ zs k))[j]? = some v → wr.cell? ((⟨w.heap.size, k * 4, none⟩ : Addr).add j) = some v := by
        intro j v hj
        have hj4 : j < 4 := by have := (List.getElem?_eq_some_iff.1 hj).1; simpa [ints] using this
        rw [add_cell, (unhide hN).box.cell (j := k * 4 + j) (by omega)]
        have e : (ints (rowZ zs k))[j]? = some (.int .i64 ((rowZ zs k).getD j 0)) := by
          rcases (show j = 0 ∨ j = 1 ∨ j = 2 ∨ j = 3 by omega) with e | e | e | e <;> subst e <;> rfl
        rw [e, rowZ_getD zs k j hj4, Nat.mul_comm 4 k] at hj
        exact hj
      
      have hC := hide (implSmallBack (rowZ zs k) wr rfl (unhide hRow k hklt))
      
      go_upto_region 5 with fail
      refine wp_region_lit ?_
      go_wp2_with (first | (refine wpList_load_list rfl 78 (.tmp 14) rfl ⟨w.heap.size, k * 4, none⟩ rfl (ints (rowZ zs k)) hrow _ Tryd.underlying78 rfl size4 ?_))
      refine (unhide hC).mono ?_
      rintro e w1 ⟨rfl, hu⟩
      have hN1 := hide ((unhide hN).upd hu)
      clear hN hC hu hrow
      have hI := hide (fun c (hc : c < 4) W => idx_rwc (tabN 4 (backS (rowZ zs k))) (tabN_length _ _) c hc W)
      go_wp2_with fail
      go_loopw [17] (fun i wr => ∃ c : Nat, c ≤ 4 ∧ i = .int .i64 (c : Int) ∧ Hid (TuSt w wr zs (tabN 16 (prt (turnZ backS zs) rkS (4 * k + c) 0)))) (fun i _ => 4 - (intOf i).toNat)
      case atStart => exact ⟨0, by omega, rfl, hN1⟩
      case round =>
        clear hN1
        obtain ⟨c, hc, rfl, hN⟩ := hrel
        by_cases hclt : c < 4
        · have hcb : decide ((c : Int) < 4) = true := decide_eq_true (by omega)
          have c0 : (0 : Int) ≤ (c : Int) := by omega
          have c1 : (c : Int) < 4 := by omega
          have hJ := unhide hI c hclt
          rw [tabN_getD 4 _ c hclt] at hJ
          have hfx : turnZ backS zs (c * 4 + k) = backS (rowZ zs k) c := by unfold turnZ; rw [show (c * 4 + k) % 4 = k by omega, show (c * 4 + k) / 4 = c by omega]
          have hrk : rkS (c * 4 + k) = 4 * k + c := by unfold rkS; omega
          have hin : ∀ q, q < 16 → rkS q = 4 * k + c → q = c * 4 + k := fun q hq e => by unfold rkS at e; omega
          have hp16 : c * 4 + k < 16 := by omega
          have hck := (unhide hN).out.cell hp16
          have hfz := (unhide hN).out.frozen (c * 4 + k)
          have hput := hide ((unhide hN).put (c * 4 + k) (backS (rowZ zs k) c))
          rw [prtN_set 16 (turnZ backS zs) rkS (4 * k + c) 0 (backS (rowZ zs k) c) (c * 4 + k) hp16 hrk hin, prtN_next 16 (turnZ backS zs) rkS (4 * k + c) (backS (rowZ zs k) c) (fun q hq e => by rw [hin q hq e, hfx])] at hput
          generalize (tabN 16 (prt (turnZ backS zs) rkS (4 * k + c) 0)).getD (c * 4 + k) 0 = old at hck
          generalize backS (rowZ zs k) c = y at hJ hput
          clear hN hfx hrk hin
          go_wp2_with fail
          go_roundw
          case rel => exact ⟨c + 1, by omega, by go_num, hput⟩
          case measure => simp [intOf]; omega
        · obtain rfl : c = 4 := by omega
          have hN2 : Hid (TuSt w wr zs (tabN 16 (prt (turnZ backS zs) rkS (4 * (k + 1) + 0) 0))) := hide (by have h := unhide hN; rw [show 4 * (k + 1) + 0 = 4 * k + 4 by omega]; exact h)
          clear hN hI
          go_wp2_with fail
          go_roundw
          case rel => exact ⟨k + 1, by omega, by go_num, hN2⟩
          case measure => simp [intOf]; omega
    · obtain rfl : k = 4 := by omega
      have hN2 : Hid (TuSt w wr zs (tabN 16 (turnZ backS zs))) := hide (by
        have h := unhide hN
        rw [show 4 * 4 + 0 = 16 from rfl, prtN_done 16 (turnZ backS zs) rkS 16 rkS_lt] at h
        exact h)
      clear hN
      go_upto_region 11 with fail
      refine wp_region_lit ?_
      refine wpList_load_row rfl 80 (.tmp 5) rfl (w.heap.size + 2) rfl 80 (rwc (tabN 16 (turnZ backS zs))) (0, 0) _ (unhide hN2).out.1 Tryd.underlying80 rfl (by rw [rwc_size, tabN_length]; exact size16) ?_
      refine wpList_store_row rfl 80 (.tmp 4) (.tmp 28) rfl (w.heap.size + 1) (rwc (tabN 16 (turnZ backS zs))) rfl rfl 80 (rwc z16) (unhide hN2).res.1 (by rw [rwc_size, tabN_length]; exact size16) (by rw [rwc_size, rwc_size, tabN_length]; rfl) (rwc_one _) ?_
      have hres : (wr.setRow (w.heap.size + 1) (rwc (tabN 16 (turnZ backS zs)))).heap[w.heap.size + 1]? = some (.cells (rwc (tabN 16 (turnZ backS zs))) 80 (0, 0)) := setRow_heap wr _ _ _ _ _ (unhide hN2).res.1
      replace hres := hide hres
      have hb2 := hide (below_setRow (unhide hN2).bel (show w.heap.size ≤ w.heap.size + 1 by omega) (rwc (tabN 16 (turnZ backS zs))))
      clear hN2
      go_wp2_with fail
      refine bodyPost_ret (v := .agg (rwc (tabN 16 (turnZ backS zs)))) (results_cell_row rfl _ _ (w.heap.size + 1) 80 (rwc (tabN 16 (turnZ backS zs))) (0, 0) _ rfl (unhide hres) Tryd.underlying80 rfl (by rw [rwc_size, tabN_length]; exact size16)) rfl ⟨rfl, Upd.of_below (unhide hb2) 0 0⟩
end Go.Proofs.YtpofmcepjmbmcaaDoor

/- The program's small blocks: of lists, and as lists. -/
namespace Go.Proofs.YtpofmcepjmbmcaaDoor
open Go.RowKit

/-- A list that can be read, with the room behind it. -/
def RdC (w : World) (v : Value) (zs : List Int) : Prop := ∃ ad cap, v = .slice ad zs.length cap ∧ zs.length ≤ cap ∧ cap ≤ 9223372036854775807 ∧ ArgI w ad zs
theorem OwnI.rc {w : World} {a b : Nat} {v : Value} {zs : List Int} (h : OwnI w a b v zs) : RdC w v zs := by
  obtain ⟨ad, cap, rfl, hA⟩ := readK_of_own h
  refine ⟨ad, cap, rfl, ?_, ?_, hA⟩
  · rcases h.1.2 with ⟨e, hn⟩ | ⟨g, cp, cur, e, h1, h2, h3, h4, _⟩
    · simp only [Value.slice.injEq] at e; omega
    · simp only [Value.slice.injEq] at e; omega
  · rcases h.1.2 with ⟨e, hn⟩ | ⟨g, cp, cur, e, h1, h2, h3, h4, _⟩
    · simp only [Value.slice.injEq] at e; omega
    · simp only [Value.slice.injEq] at e; unfold maxLen at h4; omega
theorem RdC.rd {w : World} {v : Value} {zs : List Int} (h : RdC w v zs) : RdI w v zs := by
  obtain ⟨ad, cap, e, _, _, hA⟩ := h
  exact ⟨ad, cap, e, hA⟩
theorem splice_ints (xs ys : List Int) (o : Nat) : splice (ints xs) o (ints ys) = ints (splice xs o ys) := by
  unfold splice ints
  simp [List.map_take, List.map_drop]
theorem FilN.splice4 {zs xs : List Int} {k : Nat} (h : FilN 16 (fun p => zs.getD p 0) (fun p => p < 4 * k) xs) (hk : k < 4) (hz : zs.length = 16) : FilN 16 (fun p => zs.getD p 0) (fun p => p < 4 * (k + 1)) (splice xs (4 * k) ((zs.drop (4 * k)).take 4)) := by
  have hl : ((zs.drop (4 * k)).take 4).length = 4 := by simp; omega
  refine ⟨by rw [length_splice _ _ _ (by rw [hl, h.len]; omega)]; exact h.len, fun p hp hP => ?_⟩
  unfold splice
  rw [List.getD_eq_getElem?_getD]
  by_cases h1 : p < 4 * k
  · rw [List.getElem?_append_left (by simp; have := h.len; omega), List.getElem?_take_of_lt h1, ← List.getD_eq_getElem?_getD]
    exact h.val p hp h1
  · have ht : (xs.take (4 * k)).length = 4 * k := by simp; have := h.len; omega
    rw [List.getElem?_append_right (by omega), ht, List.getElem?_append_left (by omega), List.getElem?_take_of_lt (by omega), List.getElem?_drop, ← List.getD_eq_getElem?_getD]
    congr 1
    omega
theorem sbs2 (w : World) (A B : List Int) (hA : A.length = 16) (hB : B.length = 16) :
    RAt 80 16 ((w.alloc (.cells (rwc A) 80)).alloc (.cells (rwc B) 80)) w.heap.size A ∧ RAt 80 16 ((w.alloc (.cells (rwc A) 80)).alloc (.cells (rwc B) 80)) (w.heap.size + 1) B :=
  ⟨(rows2 _ 16 w A B hA hB _ rfl).1, (rows2 _ 16 w A B hA hB _ rfl).2.1⟩
/-- A block under way: part of it filled. -/
structure SbSt (W wr : World) (g : Nat) (f : Nat → Int) (P : Nat → Prop) (xs : List Int) : Prop where
  row : RAt 80 16 wr g xs
  fil : FilN 16 f P xs
  bel : Below W.heap.size W wr
  gw : W.heap.size ≤ g
theorem SbSt.done {W wr : World} {g : Nat} {f : Nat → Int} {P : Nat → Prop} {xs : List Int} (h : SbSt W wr g f P xs) (hP : ∀ p, p < 16 → P p) : RAt 80 16 wr g (tabN 16 f) := by
  have e := h.fil.all hP
  have h1 := h.row
  rw [e] at h1
  exact h1
set_option maxHeartbeats 16000000 in
set_option maxRecDepth 1000000 in
theorem implSmallBlockOf (ad : Option Addr) (cap : Nat) (zs : List Int) (w : World) (hl : zs.length = 16) (hc : 16 ≤ cap) (hc2 : cap ≤ 9223372036854775807) (hA : ArgI w ad zs) :
    Calls Tryd.prog 69 #[.slice ad 16 cap] w fun e w' => e = .returned (.agg (rwc zs)) ∧ Upd 0 0 w w' := by
  have hz := zero16
  have hsq := hide (sbs2 w z16 z16 z16_len z16_len)
  have hbw : Hid (Below w.heap.size w ((w.alloc (.cells (rwc z16) 80)).alloc (.cells (rwc z16) 80))) := hide (((Below.refl _ w).alloc (Nat.le_refl _) _).alloc (by simp) _)
  have hE : zs = tabN 16 (fun p => zs.getD p 0) := (FilN.all (n := 16) (f := fun p => zs.getD p 0) (P := fun _ => True) ⟨hl, fun _ _ _ => rfl⟩ (fun _ _ => trivial))
  have hsz : (Tryd.prog.info? 3).map (·.size) = some 1 := by kernel_rfl
  obtain ⟨bb, off, rfl, hbl, hcl⟩ := hA (ne_of_lt_length (k := 0) (by omega))
  go_enter Tryd.func69, Tryd.ntmps69
  go_wp2_with fail
  generalize (w.alloc (.cells (rwc z16) 80)).alloc (.cells (rwc z16) 80) = w0 at hsq hbw ⊢
  obtain ⟨hZ, hN⟩ := unhide hsq
  have hN : Hid (SbSt w w0 (w.heap.size + 1) (fun p => zs.getD p 0) (fun p => p < 4 * 0) z16) := hide ⟨hN, ⟨z16_len, fun p hp h => by omega⟩, unhide hbw, by omega⟩
  replace hZ := hide hZ
  replace hE := hide hE
  replace hcl := hide hcl
  clear hsq hbw hz
  go_loopw [5] (fun i wr => ∃ (k : Nat) (xs : List Int), k ≤ 4 ∧ i = .int .i64 (k : Int) ∧ Hid (SbSt w wr (w.heap.size + 1) (fun p => zs.getD p 0) (fun p => p < 4 * k) xs) ∧ Hid (RAt 80 16 wr w.heap.size z16)) (fun i _ => 4 - (intOf i).toNat)
  case atStart => exact ⟨0, z16, by omega, rfl, hN, hZ⟩
  case round =>
    clear hN hZ
    obtain ⟨k, xs, hk, rfl, hN, hZ⟩ := hrel
    by_cases hlt : k < 4
    · have hk0 : (0 : Int) ≤ (k : Int) := by omega
      have hk1 : (k : Int) < 4 := by omega
      have q1 : IntKind.i64.wrap ((k : Int) * 4) = (k : Int) * 4 := wrapB (by omega)
      have q2 : (0 : Int) ≤ (k : Int) * 4 := by omega
      have q3 : (k : Int) * 4 ≤ 16 := by omega
      have q4 : ((k : Int) * 4).toNat = k * 4 := by omega
      have q5 : ¬ cap = k * 4 := by omega
      go_wp2_with fail
      refine wp_region_still_tail 7 (by kernel_rfl) (by kernel_rfl) ?_
      simp only [List.take_succ_cons, List.take_zero, List.drop_succ_cons, List.drop_zero]
      iterate 7 still_step
      refine wpStill_nil ?_
      refine wpList_copy_splice rfl (.tmp 10) (.tmp 14) 23 23 rfl 3 Tryd.underlying23 hsz (some ⟨w.heap.size + 1, k * 4, none⟩) (some ⟨bb, off + k * 4, none⟩) 4 4 (16 - k * 4) (cap - k * 4) rfl rfl (w.heap.size + 1) (k * 4) (ints xs) 80 (unhide hN).row.1 (ints ((zs.drop (4 * k)).take 4)) (by rw [ints_lengthA, List.length_take, List.length_drop, hl]; show min 4 (16 - 4 * k) = min (16 - k * 4) 4; omega)
        (fun _ => ⟨rfl, _, rfl, fun j u hj => ?_⟩) (by rw [ints_lengthA, ints_lengthA, List.length_take, List.length_drop, hl, (unhide hN).fil.len]; omega) (ints_one _) (w.heap.size + 1) wr.drew (Below.refl _ _) (by omega) ?_
      · have hj8 : j < ((zs.drop (4 * k)).take 4).length := by
          have := (List.getElem?_eq_some_iff.1 hj).1
          rw [ints_lengthA] at this
          exact this
        have hj9 : j < 4 := by rw [List.length_take] at hj8; omega
        have e : ((zs.drop (4 * k)).take 4).getD j 0 = zs.getD (k * 4 + j) 0 := by
          rw [List.getD_eq_getElem?_getD, List.getElem?_take_of_lt hj9, List.getElem?_drop, ← List.getD_eq_getElem?_getD]
          congr 1
          omega
        rw [ints, getD_map_int ((zs.drop (4 * k)).take 4) .i64 j hj8, e] at hj
        rw [← Option.some.inj hj, add_cell, Nat.add_assoc]
        exact ((unhide hN).bel.cell (by simpa using hbl)).trans ((unhide hcl) (k * 4 + j) (by omega))
      intro w6 hg6 hb6
      have hN6 : Hid (SbSt w w6 (w.heap.size + 1) (fun p => zs.getD p 0) (fun p => p < 4 * (k + 1)) (splice xs (4 * k) ((zs.drop (4 * k)).take 4))) := hide (by
        have hf := (unhide hN).fil.splice4 hlt hl
        refine ⟨⟨?_, hf.len⟩, hf, ?_, by omega⟩
        · have h := unhide hg6
          rw [splice_ints, Nat.mul_comm k 4] at h
          exact h
        · exact ((unhide hN).bel).trans (((below_drewN (Below.refl _ wr) 1)).trans (hb6.mono (by omega))))
      have hZ6 : Hid (RAt 80 16 w6 w.heap.size z16) := hide ⟨by rw [hb6.block _ (by omega)]; exact (unhide hZ).1, (unhide hZ).2⟩
      clear hg6 hb6 hN hZ
      go_wp2_with fail
      go_roundw
      case rel => exact ⟨k + 1, _, by omega, by go_num, hN6, hZ6⟩
      case measure => simp [intOf]; omega
    · have hk4 : k = 4 := by omega
      subst hk4
      have hbel := hide (unhide hN).bel
      have hdn := hide ((unhide hN).done (fun p hp => by omega))
      rw [← unhide hE] at hdn
      clear hN
      go_upto_region 7 with fail
      refine wp_region_lit ?_
      refine wpList_load_row rfl 80 (.tmp 3) rfl (w.heap.size + 1) rfl 80 (rwc zs) (0, 0) _ (unhide hdn).1 Tryd.underlying80 rfl (by rw [rwc_size, hl]; exact size16) ?_
      refine wpList_store_row rfl 80 (.tmp 2) (.tmp 17) rfl w.heap.size (rwc zs) rfl rfl 80 (rwc z16) (unhide hZ).1 (by rw [rwc_size, hl]; exact size16) (by rw [rwc_size, rwc_size, hl]; rfl) (rwc_one _) ?_
      have hres : (wr.setRow w.heap.size (rwc zs)).heap[w.heap.size]? = some (.cells (rwc zs) 80 (0, 0)) := setRow_heap wr _ _ _ _ _ (unhide hZ).1
      replace hres := hide hres
      have hb2 := hide (below_setRow (unhide hbel) (Nat.le_refl _) (rwc zs))
      clear hdn hZ hbel
      go_wp2_with fail
      refine bodyPost_ret (v := .agg (rwc zs)) (results_cell_row rfl _ _ w.heap.size 80 (rwc zs) (0, 0) _ rfl (unhide hres) Tryd.underlying80 rfl (by rw [rwc_size, hl]; exact size16)) rfl ⟨rfl, Upd.of_below (unhide hb2) 0 0⟩
set_option maxRecDepth 1000000 in
theorem idx_sbrow (f : Nat → Int) (k : Nat) (hk : k < 4) (W : World) : (Instr.index 80 (.agg (rwc (tabN 16 f))) (.int .i64 (k : Int))).run Tryd.prog W = .ok (.agg #[.int .i64 (f (4 * k)), .int .i64 (f (4 * k + 1)), .int .i64 (f (4 * k + 2)), .int .i64 (f (4 * k + 3))]) W := by
  rcases (show k = 0 ∨ k = 1 ∨ k = 2 ∨ k = 3 by omega) with e | e | e | e <;> subst e <;> kernel_rfl
theorem take_sbrows (f : Nat → Int) (k : Nat) (hk : k < 4) : (tabN 16 f).take (4 * (k + 1)) = (tabN 16 f).take (4 * k) ++ [f (4 * k), f (4 * k + 1), f (4 * k + 2), f (4 * k + 3)] := by
  rcases (show k = 0 ∨ k = 1 ∨ k = 2 ∨ k = 3 by omega) with e | e | e | e <;> subst e <;> rfl
set_option maxHeartbeats 16000000 in
set_option maxRecDepth 1000000 in
theorem implSmList (f : Nat → Int) (w : World) : Calls Tryd.prog 72 #[.agg (rwc (tabN 16 f))] w fun e w' => ∃ v, e = .returned v ∧ OwnI w' w.heap.size w'.heap.size v (tabN 16 f) ∧ Upd 0 0 w w' := by
  obtain ⟨i0, hi, hz0, hz1, hz2⟩ := info_parts infoI
  have hS : Hid (RAt 80 16 (w.alloc (.cells (rwc (tabN 16 f)) 80)) w.heap.size (tabN 16 f)) := hide (rAt_new _ 16 w _ (by simp))
  have hB0 : Hid (Below w.heap.size w (w.alloc (.cells (rwc (tabN 16 f)) 80))) := hide ((Below.refl _ w).alloc (Nat.le_refl _) _)
  have hT : Hid (∀ k, k < 4 → (tabN 16 f).take (4 * (k + 1)) = (tabN 16 f).take (4 * k) ++ [f (4 * k), f (4 * k + 1), f (4 * k + 2), f (4 * k + 3)]) := hide (fun k hk => take_sbrows f k hk)
  go_enter Tryd.func72, Tryd.ntmps72
  go_upto_region 1 with fail
  generalize w.alloc (.cells (rwc (tabN 16 f)) 80) = w0 at hS hB0 ⊢
  refine wp_region_lit ?_
  refine wpList_make_own _ rfl _ _ 23 rfl w0.heap.size 3 i0 (.int .i64 0) 1 Tryd.underlying23 hi hz0 hz1 .i64 .i64 _ 16 rfl rfl (by omega) (by rw [hz2]; omega) (by unfold maxLen; omega) (Nat.le_refl _) ?_
  intro w1 hown hgrow
  have hb01 := (Below.refl w0.heap.size w0).grown hgrow (Nat.le_refl _) (by simp)
  have hS1 : RAt 80 16 w1 w.heap.size (tabN 16 f) := (unhide hS).keep (Upd.of_below hb01 0 0)
  replace hB0 := hide ((unhide hB0).trans (hb01.mono (unhide hB0).size))
  obtain ⟨g, hg⟩ : ∃ g, w0.heap.size = g := ⟨_, rfl⟩
  have hgw : w.heap.size < g := by rw [← hg]; exact (unhide hS).lt
  rw [hg] at hown ⊢
  clear hg hgrow hb01 hS
  go_upto_region 2 with fail
  refine wp_region_lit ?_
  refine wpList_load_row rfl 80 (.tmp 1) rfl w.heap.size rfl 80 (rwc (tabN 16 f)) (0, 0) _ hS1.1 Tryd.underlying80 rfl (by rw [rwc_size, tabN_length]; exact size16) ?_
  clear hS1
  have hrow0 : Hid (w1.ownsRow g 3 1 (.slice (some ⟨g, 0, none⟩) (4 * 0) 16) (4 * 0) (ints ((tabN 16 f).take (4 * 0)))) := hide hown
  clear hown
  have hI := fun k hk => idx_sbrow f k hk
  replace hI := hide hI
  go_wp2_with fail
  go_loopw [3, 8] (fun s i wr => ∃ k : Nat, k ≤ 4 ∧ s = .slice (some ⟨g, 0, none⟩) (4 * k) 16 ∧ i = .int .i64 (k : Int) ∧ Hid (wr.ownsRow g 3 1 (.slice (some ⟨g, 0, none⟩) (4 * k) 16) (4 * k) (ints ((tabN 16 f).take (4 * k)))) ∧ Hid (Below w.heap.size w wr)) (fun _ i _ => 4 - (intOf i).toNat)
  case atStart => exact ⟨0, by omega, rfl, rfl, hrow0, hB0⟩
  case round =>
    clear hrow0 hB0
    obtain ⟨k, hk, rfl, rfl, hrow, hB0⟩ := hrel
    by_cases hlt : k < 4
    · have hkI := fun W => unhide hI k hlt W
      have hTk := hide (unhide hT k hlt)
      clear hT hI
      have hu5 := Upd.of_below ((Below.refl wr.heap.size wr).alloc (Nat.le_refl _) (.cells #[.int .i64 (f (4 * k)), .int .i64 (f (4 * k + 1)), .int .i64 (f (4 * k + 2)), .int .i64 (f (4 * k + 3))] 78)) 0 0
      have hrow5 := hide ((Own.of (unhide hrow)).keep hu5).1
      have hb5 := hide (below_upd (unhide hB0) hu5 (Nat.le_refl _) (.inr (Nat.zero_le _)))
      have hnk := hide (heldF_new wr [.int .i64 (f (4 * k)), .int .i64 (f (4 * k + 1)), .int .i64 (f (4 * k + 2)), .int .i64 (f (4 * k + 3))] 78)
      have hgr : g < wr.heap.size + 1 := by
        have := (unhide hrow).lt g rfl
        omega
      clear hrow hB0 hu5
      go_wp2_with (at_builtin; go_loud (refine wpList_append_fits _ rfl (.tmp 11) (.tmp 12) 23 rfl g 3 i0 1 Tryd.underlying23 hi hz1 g (4 * k) 16 (ints ((tabN 16 f).take (4 * k))) rfl (unhide hrow5) ⟨wr.heap.size, 0, none⟩ 4 4 (ints [f (4 * k), f (4 * k + 1), f (4 * k + 2), f (4 * k + 3)]) rfl rfl (fun j u hj => by rw [add_cell, Nat.zero_add]; exact (unhide hnk).1.2 j u hj) (ints_one _) (by omega) ?_; intro w6 ho6 hg6; have hb6 := hide ((unhide hb5).grown hg6 (unhide hb5).size (fun j e => by cases e; exact Nat.le_of_lt hgw)); have ho7 : Hid (w6.ownsRow g 3 1 (.slice (some ⟨g, 0, none⟩) (4 * (k + 1)) 16) (4 * (k + 1)) (ints ((tabN 16 f).take (4 * (k + 1))))) := hide (by rw [unhide hTk, ints_append]; exact ho6); clear ho6 hg6))
      go_roundw
      case rel => exact ⟨k + 1, by omega, rfl, by go_num, ho7, hb6⟩
      case measure => simp [intOf]; omega
    · have hk4 : k = 4 := by omega
      subst hk4
      have ht : (tabN 16 f).take (4 * 4) = tabN 16 f := List.take_of_length_le (by simp)
      have ho : Hid (OwnI wr g wr.heap.size (.slice (some ⟨g, 0, none⟩) 16 16) (tabN 16 f)) := hide (by
        have h := unhide hrow
        rw [ht] at h
        unfold OwnI
        rw [tabN_length]
        exact Own.of h)
      have ho2 := hide (own_mono (unhide ho) (Nat.le_of_lt hgw) (Nat.le_refl _))
      clear hrow ht ho
      go_wp2_with fail
      go_ret
      exact ⟨_, rfl, unhide ho2, Upd.of_below (unhide hB0) 0 0⟩
end Go.Proofs.YtpofmcepjmbmcaaDoor

/- Which lists are blocks, which are scales: the walks of both sides. -/
namespace Go.Proofs.YtpofmcepjmbmcaaDoor
open Go.RowKit

set_option maxHeartbeats 4000000 in
theorem implWithin (ad : Option Addr) (cap : Nat) (zs : List Int) (lo hi : Int) (w : World) (hn : zs.length ≤ 1048576) (hA : ArgI w ad zs) :
    Calls Tryd.prog 102 #[.slice ad zs.length cap, .int .i64 lo, .int .i64 hi] w fun e w' => e = .returned (.bool (inRB lo hi zs)) ∧ Upd 0 0 w w' := by
  replace hA := hide hA
  have hNo : Hid (∀ k, k < zs.length → ¬ (lo ≤ zs.getD k 0 ∧ zs.getD k 0 ≤ hi) → inRB lo hi zs = false) := hide (fun k hk h => inRB_no (fun h' => h (h' k hk)))
  have hYes : Hid ((∀ j, j < zs.length → (lo ≤ zs.getD j 0 ∧ zs.getD j 0 ≤ hi)) → inRB lo hi zs = true) := hide (fun h => inRB_yes h)
  go_enter Tryd.func102, Tryd.ntmps102
  go_wp2
  go_loop [11] (fun i => ∃ k : Nat, k ≤ zs.length ∧ i = .int .i64 k ∧ Hid (∀ j, j < k → (lo ≤ zs.getD j 0 ∧ zs.getD j 0 ≤ hi))) (fun i => zs.length - (intOf i).toNat)
  case atStart => exact ⟨0, Nat.zero_le _, rfl, fun j hj => by omega⟩
  case round =>
    obtain ⟨k, hk', rfl, hok⟩ := hrel
    by_cases hlt : k < zs.length
    · obtain ⟨bb, off, rfl, hbl, hcl⟩ := (unhide hA) (ne_of_lt_length hlt)
      have hck := hcl k hlt
      have hbad := hide (unhide hNo k hlt)
      have hOk : Hid ((lo ≤ zs.getD k 0 ∧ zs.getD k 0 ≤ hi) → ∀ j, j < k + 1 → (lo ≤ zs.getD j 0 ∧ zs.getD j 0 ≤ hi)) := hide (fun h j hj => by
        rcases Nat.lt_or_eq_of_le (Nat.le_of_lt_succ hj) with h' | h'
        · exact unhide hok j h'
        · subst h'; exact h)
      clear hcl hbl
      generalize zs.getD k 0 = x at hck hbad hOk
      by_cases h1 : x < lo
      · have hB := hide (unhide hbad (fun h => by have := h.1; omega))
        clear hbad hOk
        go_wp2
        go_ret
        exact ⟨by rw [unhide hB]; rfl, Upd.refl 0 0 _⟩
      · by_cases h2 : hi < x
        · have hB := hide (unhide hbad (fun h => by have := h.2; omega))
          clear hbad hOk
          go_wp2
          go_ret
          exact ⟨by rw [unhide hB]; rfl, Upd.refl 0 0 _⟩
        · have hok2 := hide (unhide hOk ⟨by omega, by omega⟩)
          clear hbad hOk
          go_wp2
          all_goals
            go_round
            case rel => exact ⟨k + 1, by omega, by go_num, unhide hok2⟩
            case measure => simp [intOf]; omega
    · have hkl : k = zs.length := by omega
      subst hkl
      have hs := hide (unhide hYes (unhide hok))
      go_wp2
      go_ret
      exact ⟨by rw [unhide hs]; rfl, Upd.refl 0 0 _⟩
end Go.Proofs.YtpofmcepjmbmcaaDoor

/- Which small blocks are good, and their sums: the program's walks. -/
namespace Go.Proofs.YtpofmcepjmbmcaaDoor
open Go.RowKit

theorem implGoodSmall (ad : Option Addr) (cap : Nat) (zs : List Int) (w : World) (hn : zs.length ≤ 1048576) (hA : ArgI w ad zs) :
    Calls Tryd.prog 68 #[.slice ad zs.length cap] w fun e w' => e = .returned (.bool (smB zs)) ∧ Upd 0 0 w w' := by
  have hW := hide (fun W (h : ArgI W ad zs) => implWithin ad cap zs (-65536) 65535 W hn h)
  replace hA := hide hA
  by_cases hl : zs.length = 16
  case neg =>
    rw [smB_no (fun h => hl h.1)]
    have hb : ((zs.length : Int) == 16) = false := by simp; omega
    clear hW hA hl
    go_enter Tryd.func68, Tryd.ntmps68
    go_wp2
    go_ret
    exact ⟨rfl, Upd.refl 0 0 _⟩
  have hE : smB zs = inRB (-65536) 65535 zs := by
    by_cases h : InR (-65536) 65535 zs
    · rw [smB_yes ⟨hl, h⟩, inRB_yes h]
    · rw [smB_no (fun h' => h h'.2), inRB_no h]
  rw [hE]
  have hb : ((zs.length : Int) == 16) = true := by simp; omega
  clear hE
  replace hl := hide hl
  go_enter Tryd.func68, Tryd.ntmps68
  go_wp2_with fail
  refine (unhide hW _ (unhide hA)).mono ?_
  rintro e w1 ⟨rfl, hu⟩
  go_wp2
  go_ret
  exact ⟨rfl, hu⟩
theorem smFwd_yes {zs : List Int} (h : SmOk zs) : smFwd zs = turn4 sumS (turn4 sumS zs) := by unfold smFwd; rw [if_pos (smB_yes h)]
theorem smFwd_no {zs : List Int} (h : ¬ SmOk zs) : smFwd zs = [] := by unfold smFwd; rw [if_neg (by rw [smB_no h]; decide)]
theorem smInv_yes {zs : List Int} (h : SmOk zs) : smInv zs = tab16 (smInvZ zs) := by unfold smInv; rw [if_pos (smB_yes h)]
theorem smInv_no {zs : List Int} (h : ¬ SmOk zs) : smInv zs = [] := by unfold smInv; rw [if_neg (by rw [smB_no h]; decide)]
theorem inR_wide {lo hi lo' hi' : Int} {xs : List Int} (h : InR lo hi xs) (hl : lo' ≤ lo) (hh : hi ≤ hi') : InR lo' hi' xs := fun j hj => by have := h j hj; omega
set_option maxHeartbeats 4000000 in
theorem implSmallForward (v : Value) (zs : List Int) (w : World) (hTb : Held w 1 (ints smW)) (hn : zs.length ≤ 1048576) (_hR : InI zs) (hv : RdC w v zs) :
    Calls Tryd.prog 26 #[v] w fun e w' => ∃ u, e = .returned u ∧ OwnI w' w.heap.size w'.heap.size u (smFwd zs) ∧ Upd 0 0 w w' := by
  obtain ⟨ad, cap, rfl, hc, hc2, hA⟩ := hv
  have hB := hide (implGoodSmall ad cap zs w hn hA)
  by_cases h1 : SmOk zs
  case neg =>
    rw [smB_no h1] at hB
    rw [smFwd_no h1]
    clear h1 hTb
    go_enter Tryd.func26, Tryd.ntmps26
    go_wp2_with fail
    refine (unhide hB).mono ?_
    rintro e w1 ⟨rfl, hu⟩
    replace hu := hide hu
    clear hB
    go_wp2
    go_ret
    exact ⟨_, rfl, own_nilI _ _ _, unhide hu⟩
  rw [smB_yes h1] at hB
  have hE := hide (smFwd_yes h1)
  have hl := h1.1
  have hz := hide (smOk_inR h1)
  have hz2 := hide (sum_inR hl (smOk_inR h1))
  rw [hl] at hB hc ⊢
  clear h1
  go_enter Tryd.func26, Tryd.ntmps26
  go_wp2_with fail
  refine (unhide hB).mono ?_
  rintro e w1 ⟨rfl, hu⟩
  clear hB
  have hC := hide (implSmallBlockOf ad cap zs w1 hl hc hc2 (hA.below hu.none))
  replace hl := hide hl
  replace hu := hide hu
  replace hA := hide hA
  replace hTb := hide hTb
  clear hc hc2
  go_wp2_with fail
  refine (unhide hC).mono ?_
  rintro e w2 ⟨rfl, hu2⟩
  replace hu := hide ((unhide hu).trans hu2)
  clear hC hu2
  have hC := hide (implTurnedSums zs w2 (unhide hl) (inR_wide (unhide hz) (by omega) (by omega)) ((unhide hTb).keep (unhide hu)))
  go_wp2_with fail
  refine (unhide hC).mono ?_
  rintro e w3 ⟨rfl, hu2⟩
  replace hu := hide ((unhide hu).trans hu2)
  clear hC hu2
  have hC := hide (implTurnedSums (turn4 sumS zs) w3 (turn4_length _ _) (inR_wide (unhide hz2) (by omega) (by omega)) ((unhide hTb).keep (unhide hu)))
  go_wp2_with fail
  refine (unhide hC).mono ?_
  rintro e w4 ⟨rfl, hu2⟩
  replace hu := hide ((unhide hu).trans hu2)
  clear hC hu2
  have hC := hide (implSmList (turnZ sumS (turn4 sumS zs)) w4)
  go_wp2_with fail
  refine (unhide hC).mono ?_
  rintro e w5 ⟨u, rfl, ho, hu2⟩
  have hsz := (unhide hu).size
  replace hu := hide ((unhide hu).trans hu2)
  have ho' := hide (own_mono ho hsz (Nat.le_refl _))
  clear hC hu2 ho hsz
  obtain ⟨a, c, rfl, _⟩ := readK_of_own (unhide ho')
  go_wp2
  go_ret
  exact ⟨_, rfl, by rw [unhide hE]; exact unhide ho', unhide hu⟩
end Go.Proofs.YtpofmcepjmbmcaaDoor

/- Plain: colours of three numbers. -/
namespace Go.Proofs.YtpofmcepjmbmcaaDoor
open Go.RowKit

def clipF (n : Int) : Int := if n < 0 then 0 else if 255 < n then 255 else n
theorem clipF_bd (n : Int) : 0 ≤ clipF n ∧ clipF n ≤ 255 := by unfold clipF; split <;> (try split) <;> omega
theorem clipF_low {n : Int} (h : n < 0) : clipF n = 0 := by unfold clipF; rw [if_pos h]
theorem clipF_high {n : Int} (h : 255 < n) : clipF n = 255 := by unfold clipF; rw [if_neg (by omega), if_pos h]
theorem clipF_in {n : Int} (h0 : ¬ n < 0) (h : ¬ 255 < n) : clipF n = n := by unfold clipF; rw [if_neg h0, if_neg h]
def yOf (r g b : Int) : Int := clipF ((77 * r + 150 * g + 29 * b + 128) / 256)
def cbOf (r g b : Int) : Int := clipF ((-43 * r - 85 * g + 128 * b + 128) / 256 + 128)
def crOf (r g b : Int) : Int := clipF ((128 * r - 107 * g - 21 * b + 128) / 256 + 128)
def brightF (d : Int × Int × Int) : Int × Int × Int := (yOf (clipF d.1) (clipF d.2.1) (clipF d.2.2), cbOf (clipF d.1) (clipF d.2.1) (clipF d.2.2), crOf (clipF d.1) (clipF d.2.1) (clipF d.2.2))
def rOf (y _u v : Int) : Int := clipF (y + (359 * v + 128) / 256)
def gOf (y u v : Int) : Int := clipF (y - (88 * u + 183 * v + 128) / 256)
def bOf (y u _v : Int) : Int := clipF (y + (454 * u + 128) / 256)
def unbrightF (d : Int × Int × Int) : Int × Int × Int := (rOf (clipF d.1) (clipF d.2.1 - 128) (clipF d.2.2 - 128), gOf (clipF d.1) (clipF d.2.1 - 128) (clipF d.2.2 - 128), bOf (clipF d.1) (clipF d.2.1 - 128) (clipF d.2.2 - 128))
def Near (m : Int) (d : Int × Int × Int) : Prop := (-m ≤ d.1 ∧ d.1 ≤ m) ∧ (-m ≤ d.2.1 ∧ d.2.1 ≤ m) ∧ (-m ≤ d.2.2 ∧ d.2.2 ≤ m)
instance (m : Int) (d : Int × Int × Int) : Decidable (Near m d) := by unfold Near; infer_instance
def liftF (d : Int × Int × Int) : Int × Int × Int := if Near 1000000 d then ((d.1 + 2 * d.2.1 + d.2.2) / 4, d.2.2 - d.2.1, d.1 - d.2.1) else (0, 0, 0)
def unliftG (d : Int × Int × Int) : Int := d.1 - (d.2.1 + d.2.2) / 4
def unliftF (d : Int × Int × Int) : Int × Int × Int := if Near 4000000 d ∧ Near 1000000 (d.2.2 + unliftG d, unliftG d, d.2.1 + unliftG d) then (d.2.2 + unliftG d, unliftG d, d.2.1 + unliftG d) else (0, 0, 0)
theorem unlift_lift {d : Int × Int × Int} (h : Near 1000000 d) : unliftF (liftF d) = d := by
  obtain ⟨r, g, b⟩ := d
  unfold liftF
  rw [if_pos h]
  obtain ⟨⟨h1, h2⟩, ⟨h3, h4⟩, h5, h6⟩ := h
  simp only at h1 h2 h3 h4 h5 h6
  have e : unliftG ((r + 2 * g + b) / 4, b - g, r - g) = g := by unfold unliftG; simp only; omega
  unfold unliftF
  rw [e, if_pos]
  · simp only [Prod.mk.injEq]; exact ⟨by omega, trivial, by omega⟩
  · unfold Near; simp only; omega
theorem yOf_bd (r g b : Int) (hr : 0 ≤ r ∧ r ≤ 255) (hg : 0 ≤ g ∧ g ≤ 255) (hb : 0 ≤ b ∧ b ≤ 255) : yOf r g b = (77 * r + 150 * g + 29 * b + 128) / 256 := by
  unfold yOf; rw [clipF_in (by omega) (by omega)]
theorem red_near (r g b : Int) (hr : 0 ≤ r ∧ r ≤ 255) (hg : 0 ≤ g ∧ g ≤ 255) (hb : 0 ≤ b ∧ b ≤ 255) : -2 ≤ r - rOf (yOf r g b) (cbOf r g b - 128) (crOf r g b - 128) ∧ r - rOf (yOf r g b) (cbOf r g b - 128) (crOf r g b - 128) ≤ 2 := by
  rw [yOf_bd r g b hr hg hb]
  unfold rOf crOf clipF
  split <;> (try split) <;> (try split) <;> (try split) <;> omega
theorem green_near (r g b : Int) (hr : 0 ≤ r ∧ r ≤ 255) (hg : 0 ≤ g ∧ g ≤ 255) (hb : 0 ≤ b ∧ b ≤ 255) : -2 ≤ g - gOf (yOf r g b) (cbOf r g b - 128) (crOf r g b - 128) ∧ g - gOf (yOf r g b) (cbOf r g b - 128) (crOf r g b - 128) ≤ 2 := by
  rw [yOf_bd r g b hr hg hb]
  unfold gOf cbOf crOf clipF
  split <;> (try split) <;> (try split) <;> (try split) <;> (try split) <;> (try split) <;> omega
theorem blue_near (r g b : Int) (hr : 0 ≤ r ∧ r ≤ 255) (hg : 0 ≤ g ∧ g ≤ 255) (hb : 0 ≤ b ∧ b ≤ 255) : -2 ≤ b - bOf (yOf r g b) (cbOf r g b - 128) (crOf r g b - 128) ∧ b - bOf (yOf r g b) (cbOf r g b - 128) (crOf r g b - 128) ≤ 2 := by
  rw [yOf_bd r g b hr hg hb]
  unfold bOf cbOf clipF
  split <;> (try split) <;> (try split) <;> (try split) <;> omega
theorem grey_bright (g : Int) (hg : 0 ≤ g ∧ g ≤ 255) : brightF (g, g, g) = (g, 128, 128) := by
  unfold brightF
  simp only
  rw [clipF_in (by omega) (by omega)]
  unfold yOf cbOf crOf
  simp only [Prod.mk.injEq]
  refine ⟨?_, ?_, ?_⟩
  · rw [clipF_in (by omega) (by omega)]; omega
  · rw [clipF_in (by omega) (by omega)]; omega
  · rw [clipF_in (by omega) (by omega)]; omega
end Go.Proofs.YtpofmcepjmbmcaaDoor

/- The program's colours: clipping. -/
namespace Go.Proofs.YtpofmcepjmbmcaaDoor
open Go.RowKit

theorem implClipInt (n a b : Int) (w : World) : Calls Tryd.prog 106 #[.int .i64 n, .int .i64 a, .int .i64 b] w fun e w' => e = .returned (.int .i64 (max a (min b n))) ∧ w' = w := by
  go_enter Tryd.func106, Tryd.ntmps106
  go_wp2
  all_goals
    go_ret
    exact ⟨ret_int (by omega), rfl⟩
set_option maxHeartbeats 4000000 in
set_option maxRecDepth 100000 in
theorem implClipSample (n : Int) (w : World) : Calls Tryd.prog 116 #[.int .i64 n] w fun e w' => e = .returned (.int .i64 (clipF n)) ∧ w' = w := by
  have hC := hide (fun W => implClipInt n 0 255 W)
  have e : max 0 (min 255 n) = clipF n := by unfold clipF; split <;> (try split) <;> omega
  rw [e] at hC
  clear e
  go_enter Tryd.func116, Tryd.ntmps116
  go_wp2_with fail
  refine (unhide hC _).mono ?_
  rintro e w1 ⟨rfl, rfl⟩
  go_wp2
  go_ret
  exact ⟨rfl, rfl⟩
set_option maxHeartbeats 4000000 in
set_option maxRecDepth 100000 in
theorem implRound8 (n : Int) (w : World) (h0 : -1152921504606846976 ≤ n) (h1 : n ≤ 1152921504606846976) : Calls Tryd.prog 77 #[.int .i64 n, .int .i64 8] w fun e w' => e = .returned (.int .i64 ((n + 128) / 256)) ∧ w' = w := by
  go_enter Tryd.func77, Tryd.ntmps77
  go_wp2
  go_ret
  exact ⟨rfl, rfl⟩
theorem implRound4 (n : Int) (w : World) (h0 : -1152921504606846976 ≤ n) (h1 : n ≤ 1152921504606846976) : Calls Tryd.prog 77 #[.int .i64 n, .int .i64 4] w fun e w' => e = .returned (.int .i64 ((n + 8) / 16)) ∧ w' = w := by
  go_enter Tryd.func77, Tryd.ntmps77
  go_wp2
  go_ret
  exact ⟨rfl, rfl⟩
theorem implRound16 (n : Int) (w : World) (h0 : -1152921504606846976 ≤ n) (h1 : n ≤ 1152921504606846976) : Calls Tryd.prog 77 #[.int .i64 n, .int .i64 16] w fun e w' => e = .returned (.int .i64 ((n + 32768) / 65536)) ∧ w' = w := by
  go_enter Tryd.func77, Tryd.ntmps77
  go_wp2
  go_ret
  exact ⟨rfl, rfl⟩
end Go.Proofs.YtpofmcepjmbmcaaDoor

/- Coarse and fine numbers of small blocks: the program's walks. -/
namespace Go.Proofs.YtpofmcepjmbmcaaDoor
open Go.RowKit

def coT : List Int := [13107, 5243, 8066, 11916, 4660, 7490, 10082, 4194, 6554, 9362, 3647, 5825, 8192, 3355, 5243, 7282, 2893, 4559]
def fiT : List Int := [10, 16, 13, 11, 18, 14, 13, 20, 16, 14, 23, 18, 16, 25, 20, 18, 29, 23]
theorem implPlaceClass (i : Nat) (w : World) (hi : i < 16) : Calls Tryd.prog 101 #[.int .i64 (i : Int)] w fun e w' => e = .returned (.int .i64 (smClass i : Int)) ∧ w' = w := by
  rcases (show i = 0 ∨ i = 1 ∨ i = 2 ∨ i = 3 ∨ i = 4 ∨ i = 5 ∨ i = 6 ∨ i = 7 ∨ i = 8 ∨ i = 9 ∨ i = 10 ∨ i = 11 ∨ i = 12 ∨ i = 13 ∨ i = 14 ∨ i = 15 by omega) with e | e | e | e | e | e | e | e | e | e | e | e | e | e | e | e <;> subst e <;>
  · go_enter Tryd.func101, Tryd.ntmps101
    go_wp2
    go_ret
    exact ⟨rfl, rfl⟩
theorem implDistW (a : Int) (w : World) (h0 : -1000000 ≤ a) (h1 : a ≤ 1000000) : Calls Tryd.prog 96 #[.int .i64 a, .int .i64 0] w fun e w' => e = .returned (.int .i64 (absI a)) ∧ w' = w := by
  by_cases h : a < 0
  · have hE := hide (show absI a = -a from if_pos h)
    have e1 : ¬ a > 0 - a := by omega
    go_enter Tryd.func96, Tryd.ntmps96
    go_wp2
    all_goals
      go_ret
      exact ⟨ret_int (by have := unhide hE; omega), rfl⟩
  · have hE := hide (show absI a = a from if_neg h)
    go_enter Tryd.func96, Tryd.ntmps96
    go_wp2
    all_goals
      go_ret
      exact ⟨ret_int (by have := unhide hE; omega), rfl⟩
theorem implRndQ (P : Int) (q : Nat) (w : World) (hq : q ≤ 6) (h0 : 0 ≤ P) (h1 : P ≤ 860000000) : Calls Tryd.prog 77 #[.int .i64 P, .int .i64 (15 + (q : Int))] w fun e w' => e = .returned (.int .i64 ((P + 2 ^ (14 + q)) / 2 ^ (15 + q))) ∧ w' = w := by
  rcases (show q = 0 ∨ q = 1 ∨ q = 2 ∨ q = 3 ∨ q = 4 ∨ q = 5 ∨ q = 6 by omega) with e | e | e | e | e | e | e <;> subst e <;>
  · go_enter Tryd.func77, Tryd.ntmps77
    go_wp2
    go_ret
    exact ⟨rfl, rfl⟩
theorem cells18 (w : World) (g : Nat) (L : List Int) (hL : L.length = 18) (h : Held w g (ints L)) (j : Nat) (hj : j < 18) : w.cell? ⟨g, j, none⟩ = some (.int .i64 (L.getD j 0)) := by
  refine h.2 j _ ?_
  unfold ints
  rw [List.getElem?_map, List.getD_eq_getElem?_getD, List.getElem?_eq_getElem (by omega)]
  rfl
theorem pow_fB (q : Nat) (h : q ≤ 6) : (1 : Int) ≤ 2 ^ q ∧ (2 : Int) ^ q ≤ 64 := by
  rcases (show q = 0 ∨ q = 1 ∨ q = 2 ∨ q = 3 ∨ q = 4 ∨ q = 5 ∨ q = 6 by omega) with e | e | e | e | e | e | e <;> subst e <;> decide
theorem fi_bdB (P A : Int) (h : -1900544 ≤ P ∧ P ≤ 1900544) (hA : 1 ≤ A ∧ A ≤ 64) : -121634816 ≤ P * A ∧ P * A ≤ 121634816 := by
  have := mul_both P A 1900544 64 h ⟨by omega, hA.2⟩
  omega
set_option maxHeartbeats 4000000 in
set_option maxRecDepth 100000 in
theorem implSmallCoarseZ (x : Int) (p : Nat) (s : Int) (w : World) (hx : -65536 ≤ x ∧ x ≤ 65536) (hp : p < 16) (hs : 0 ≤ s ∧ s ≤ 40) (hTb : Held w 0 (ints coT)) :
    Calls Tryd.prog 67 #[.int .i64 x, .int .i64 (p : Int), .int .i64 s] w fun e w' => e = .returned (.int .i64 (smCo x p s.toNat)) ∧ Upd 0 0 w w' := by
  obtain ⟨q, r, hq, hr, q6, r6, e1, e2⟩ := step_parts s hs.1 hs.2
  obtain ⟨c, hc⟩ : ∃ c, smClass p = c := ⟨_, rfl⟩
  have hc3 : c < 3 := by rw [← hc]; exact smClass_lt p
  have hCl := hide (fun W => implPlaceClass p W hp)
  have hV : smCo x p s.toNat = coZ x (smM r c) q := by rw [smCo_eq, hq, hr, hc]
  rw [hc] at hCl
  have hm := smM_bd r c r6 hc3
  have hcm := cells18 w _ coT rfl hTb (r * 3 + c) (by omega)
  rw [show coT.getD (r * 3 + c) 0 = smM r c by unfold smM coT; rw [Nat.mul_comm 3 r]] at hcm
  rw [hV]
  clear hV hc hTb hq hr
  generalize smM r c = m at hcm hm ⊢
  obtain ⟨m0, m1⟩ := hm
  obtain ⟨x0, x1⟩ := hx
  obtain ⟨s0, s1⟩ := hs
  have r0 : (0 : Int) ≤ (r : Int) := by omega
  have r1 : (r : Int) < 6 := by omega
  have c0 : (0 : Int) ≤ (c : Int) := by omega
  have c1 : (c : Int) < 3 := by omega
  have hu := hide (show Upd 0 0 w w.drew from (Upd.drewB _))
  have hD := hide (fun W => implDistW x W (by omega) (by omega))
  have hmi := mul_in (absI x) m 65536 13107 (absI_bd x 65536 ⟨by omega, by omega⟩) ⟨by omega, m1⟩
  have hab := absI_bd x 65536 ⟨by omega, by omega⟩
  obtain ⟨P, hP⟩ : ∃ P, absI x * m = P := ⟨_, rfl⟩
  rw [hP] at hmi
  obtain ⟨P0, P1⟩ := hmi
  have hR := hide (fun W => implRndQ P q W q6 P0 (by omega))
  obtain ⟨w1, w2, w3⟩ := sh_wraps P (2 ^ (14 + q)) (2 ^ (15 + q)) P0 (by omega) (pow_q q q6).1 (pow_q q q6).2
  have hQ0 : 0 ≤ (P + 2 ^ (14 + q)) / 2 ^ (15 + q) := Int.ediv_nonneg (Int.add_nonneg P0 (pow_q q q6).1.1) (Int.le_of_lt (pow_q q q6).2)
  have hN : Hid (x < 0 → coZ x m q = -((P + 2 ^ (14 + q)) / 2 ^ (15 + q))) := hide (fun h => by unfold coZ; rw [if_pos h, ← hP, show absI x = -x from if_pos h])
  have hY : Hid (¬ x < 0 → coZ x m q = (P + 2 ^ (14 + q)) / 2 ^ (15 + q)) := hide (fun h => by unfold coZ; rw [if_neg h, ← hP, show absI x = x from if_neg h])
  generalize coZ x m q = y at hN hY ⊢
  generalize (P + 2 ^ (14 + q)) / 2 ^ (15 + q) = Q at hN hY hR w3 hQ0
  clear w1 w2
  by_cases hneg : x < 0
  · have hE := hide (unhide hN hneg)
    clear hN hY
    go_enter Tryd.func67, Tryd.ntmps67
    go_wp2_with fail
    refine wp_region_still_lit (by kernel_rfl) (by kernel_rfl) ?_
    iterate 3 still_step
    still_call (unhide hCl _)
    iterate 4 still_step
    refine wpStill_nil ?_
    go_wp2_with (first | (go_at_call 96; refine (unhide hD _).mono ?_; rintro e wz ⟨rfl, hwz⟩; subst wz) | (go_at_call 77; refine (unhide hR _).mono ?_; rintro e wz ⟨rfl, hwz⟩; subst wz))
    go_ret
    exact ⟨ret_int (by rw [w3]; exact (unhide hE).symm), unhide hu⟩
  · have hE := hide (unhide hY hneg)
    clear hN hY
    go_enter Tryd.func67, Tryd.ntmps67
    go_wp2_with fail
    refine wp_region_still_lit (by kernel_rfl) (by kernel_rfl) ?_
    iterate 3 still_step
    still_call (unhide hCl _)
    iterate 4 still_step
    refine wpStill_nil ?_
    go_wp2_with (first | (go_at_call 96; refine (unhide hD _).mono ?_; rintro e wz ⟨rfl, hwz⟩; subst wz) | (go_at_call 77; refine (unhide hR _).mono ?_; rintro e wz ⟨rfl, hwz⟩; subst wz))
    go_ret
    exact ⟨ret_int (unhide hE).symm, unhide hu⟩
set_option maxHeartbeats 4000000 in
set_option maxRecDepth 100000 in
theorem implSmallFineZ (x : Int) (p : Nat) (s : Int) (w : World) (hx : -65536 ≤ x ∧ x ≤ 65536) (hp : p < 16) (hs : 0 ≤ s ∧ s ≤ 40) (hTb : Held w 2 (ints fiT)) :
    Calls Tryd.prog 78 #[.int .i64 x, .int .i64 (p : Int), .int .i64 s] w fun e w' => e = .returned (.int .i64 (smFi x p s.toNat)) ∧ Upd 0 0 w w' := by
  obtain ⟨q, r, hq, hr, q6, r6, e1, e2⟩ := step_parts s hs.1 hs.2
  obtain ⟨c, hc⟩ : ∃ c, smClass p = c := ⟨_, rfl⟩
  have hc3 : c < 3 := by rw [← hc]; exact smClass_lt p
  have hCl := hide (fun W => implPlaceClass p W hp)
  have hV : smFi x p s.toNat = cutZ (-65536) 65535 (x * smV r c * 2 ^ q) := by unfold smFi; rw [hq, hr, hc, ← Int.mul_assoc]
  rw [hc] at hCl
  have hm := smV_bd r c r6 hc3
  have hcm := cells18 w _ fiT rfl hTb (r * 3 + c) (by omega)
  rw [show fiT.getD (r * 3 + c) 0 = smV r c by unfold smV fiT; rw [Nat.mul_comm 3 r]] at hcm
  rw [hV]
  clear hV hc hTb hq hr
  generalize smV r c = m at hcm hm ⊢
  obtain ⟨m0, m1⟩ := hm
  obtain ⟨x0, x1⟩ := hx
  obtain ⟨s0, s1⟩ := hs
  have r0 : (0 : Int) ≤ (r : Int) := by omega
  have r1 : (r : Int) < 6 := by omega
  have c0 : (0 : Int) ≤ (c : Int) := by omega
  have c1 : (c : Int) < 3 := by omega
  have hu := hide (show Upd 0 0 w w.drew from (Upd.drewB _))
  have hmi := mul_both x m 65536 29 ⟨x0, by omega⟩ ⟨by omega, m1⟩
  have hA := pow_fB q q6
  have hYb := fi_bdB (x * m) (2 ^ q) ⟨by omega, by omega⟩ hA
  have e3 : x * (m * 2 ^ q) = x * m * 2 ^ q := (Int.mul_assoc _ _ _).symm
  have hF2 := mul_in m (2 ^ q) 29 64 ⟨by omega, m1⟩ ⟨by omega, hA.2⟩
  obtain ⟨F, hF⟩ : ∃ F, m * 2 ^ q = F := ⟨_, rfl⟩
  rw [hF] at e3 hF2
  obtain ⟨Y, hY⟩ : ∃ Y, x * F = Y := ⟨_, rfl⟩
  rw [← e3, hY] at hYb ⊢
  obtain ⟨Y0, Y1⟩ := hYb
  obtain ⟨F0, F1⟩ := hF2
  have wF : wrap64 F = F := by unfold wrap64; omega
  have wY : wrap64 Y = Y := by unfold wrap64; omega
  have hC := hide (fun W => implClipInt Y (-65536) 65535 W)
  have hE := hide (cutZ_max (-65536) 65535 Y (by omega))
  rw [← unhide hE]
  generalize max (-65536) (min 65535 Y) = y at hC ⊢
  have wq : IntKind.i64.wrap (q : Int) = (q : Int) := wrapB (by omega)
  have q0 : (0 : Int) ≤ (q : Int) := by omega
  have q1 : (q : Int) ≤ 6 := by omega
  clear e3 hE hA hmi
  go_enter Tryd.func78, Tryd.ntmps78
  go_wp2_with fail
  refine wp_region_still_lit (by kernel_rfl) (by kernel_rfl) ?_
  iterate 3 still_step
  still_call (unhide hCl _)
  iterate 7 still_step
  refine wpStill_nil ?_
  go_wp2_with (go_at_call 106; refine (unhide hC _).mono ?_; rintro e wz ⟨rfl, hwz⟩; subst wz)
  go_ret
  exact ⟨rfl, unhide hu⟩
end Go.Proofs.YtpofmcepjmbmcaaDoor

/- Coarse and fine small blocks: both sides. -/
namespace Go.Proofs.YtpofmcepjmbmcaaDoor
open Go.RowKit

/-- The program's answer under way. -/
structure ScSt (W wr : World) (ys : List Int) : Prop where
  out : RowI wr W.heap.size 16 (ints ys)
  bel : Below W.heap.size W wr
theorem ScSt.upd {W wr wx : World} {ys : List Int} (h : ScSt W wr ys) (u : Upd 0 0 wr wx) : ScSt W wx ys :=
  ⟨h.out.keep u, below_upd h.bel u (Nat.le_refl _) (.inr (Nat.zero_le _))⟩
theorem ScSt.put {W wr : World} {ys : List Int} (h : ScSt W wr ys) (k : Nat) (x : Int) : ScSt W (wr.setCell ⟨W.heap.size, k, none⟩ (.int .i64 x)) (ys.set k x) :=
  ⟨by have := h.out.set k (.int .i64 x); rw [show (ints ys).set k (.int .i64 x) = ints (ys.set k x) by unfold ints; rw [List.map_set]] at this; exact this, h.bel.setCell (p := ⟨W.heap.size, k, none⟩) (Nat.le_refl _) _⟩
theorem implGoodStep (s : Int) (w : World) : Calls Tryd.prog 100 #[.int .i64 s] w fun e w' => e = .returned (.bool (stB s)) ∧ w' = w := by
  by_cases h0 : 0 ≤ s
  · by_cases h1 : s ≤ 40
    · have hE : Hid (stB s = true) := hide (stB_iff.2 ⟨h0, h1⟩)
      go_enter Tryd.func100, Tryd.ntmps100
      go_wp2
      go_ret
      exact ⟨by rw [unhide hE]; rfl, rfl⟩
    · have hE : Hid (stB s = false) := hide (Bool.eq_false_iff.2 (fun h => h1 (stB_iff.1 h).2))
      go_enter Tryd.func100, Tryd.ntmps100
      go_wp2
      go_ret
      exact ⟨by rw [unhide hE]; rfl, rfl⟩
  · have hE : Hid (stB s = false) := hide (Bool.eq_false_iff.2 (fun h => h0 (stB_iff.1 h).1))
    go_enter Tryd.func100, Tryd.ntmps100
    go_wp2
    go_ret
    exact ⟨by rw [unhide hE]; rfl, rfl⟩
set_option maxHeartbeats 16000000 in
set_option maxRecDepth 100000 in
theorem implSmallScaledCoarse (ad : Option Addr) (cap : Nat) (zs : List Int) (s : Int) (w : World) (hn : zs.length ≤ 1048576) (hA : ArgI w ad zs) (hTb : Held w 0 (ints coT)) :
    Calls Tryd.prog 66 #[.slice ad zs.length cap, .int .i64 s, .func (.func 67) #[] #[]] w fun e w' => ∃ v, e = .returned v ∧ OwnI w' w.heap.size w'.heap.size v (smScaled smCo zs s) ∧ Upd 0 0 w w' := by
  have hB := hide (implGoodSmall ad cap zs w hn hA)
  have hS := hide (fun X => implGoodStep s X)
  by_cases h1 : SmOk zs
  case neg =>
    rw [smB_no h1] at hB
    rw [smScaled_no (fun h => h1 h.1)]
    clear hS h1
    go_enter Tryd.func66, Tryd.ntmps66
    go_wp2_with fail
    refine (unhide hB).mono ?_
    rintro e w1 ⟨rfl, hu⟩
    replace hu := hide hu
    clear hB
    go_wp2
    go_ret
    exact ⟨_, rfl, own_nilI _ _ _, unhide hu⟩
  rw [smB_yes h1] at hB
  by_cases h2 : 0 ≤ s ∧ s ≤ 40
  case neg =>
    rw [show stB s = false from Bool.eq_false_iff.2 (fun h => h2 (stB_iff.1 h))] at hS
    rw [smScaled_no (fun h => h2 h.2)]
    clear h1 h2
    go_enter Tryd.func66, Tryd.ntmps66
    go_wp2_with fail
    refine (unhide hB).mono ?_
    rintro e w1 ⟨rfl, hu⟩
    replace hu := hide hu
    clear hB
    go_wp2_with (go_at_call 100; refine (unhide hS _).mono ?_; rintro e wz ⟨rfl, hwz⟩; subst wz)
    go_ret
    exact ⟨_, rfl, own_nilI _ _ _, unhide hu⟩
  rw [stB_iff.2 h2] at hS
  obtain ⟨o16, hmk⟩ := mkRowI 16 (by omega)
  have hmk1 : ∀ X : World, (Instr.makeSlice 23 (.int .i64 16) (.int .i64 16)).run Tryd.prog X = .ok (.slice (some ⟨X.heap.size, 0, none⟩) 16 16) (X.alloc o16) := fun X => (hmk X).1
  have hE := hide (smScaled_yes (g := smCo) h1 h2)
  have hl := h1.1
  have hz := hide (smOk_inR h1)
  have hZ := hide (fun (x : Int) (p : Nat) (X : World) (hx : -65536 ≤ x ∧ x ≤ 65536) (hp : p < 16) (h : Held X 0 (ints coT)) => implSmallCoarseZ x p s X hx hp h2 h)
  rw [hl] at hB ⊢
  clear h1 h2 hn
  replace hl := hide hl
  replace hA := hide hA
  replace hTb := hide hTb
  go_enter Tryd.func66, Tryd.ntmps66
  go_wp2_with fail
  refine (unhide hB).mono ?_
  rintro e w1 ⟨rfl, hu⟩
  clear hB
  have hA1 := hide ((unhide hA).below hu.none)
  have hTb1 := hide ((unhide hTb).keep hu)
  replace hu := hide hu
  have hN0 : Hid (ScSt w1 (w1.alloc o16) (tab16 (prt (fun p => smCo (zs.getD p 0) p s.toNat) id 0 0))) := hide ⟨by rw [prt_zero]; exact (hmk w1).2, (Below.refl _ w1).alloc (Nat.le_refl _) _⟩
  clear hmk hA hTb
  go_wp2_with (go_at_call 100; refine (unhide hS _).mono ?_; rintro e wz ⟨rfl, hwz⟩; subst wz)
  generalize w1.alloc o16 = w2 at hN0 ⊢
  clear hmk1
  generalize hf : (fun p => smCo (zs.getD p 0) p s.toNat) = f at hN0 hE
  have hF : Hid (∀ p, f p = smCo (zs.getD p 0) p s.toNat) := hide (fun p => by rw [← hf])
  clear hf
  go_loopw [21] (fun i wr => ∃ k : Nat, k ≤ 16 ∧ i = .int .i64 (k : Int) ∧ Hid (ScSt w1 wr (tab16 (prt f id k 0)))) (fun i _ => 16 - (intOf i).toNat)
  case atStart => exact ⟨0, by omega, rfl, hN0⟩
  case round =>
    clear hN0
    obtain ⟨k, hk, rfl, hN⟩ := hrel
    by_cases hklt : k < 16
    · have hkb : decide ((k : Int) < 16) = true := decide_eq_true (by omega)
      obtain ⟨bb, off, hse, hbl, hcl⟩ := (unhide hA1) (ne_of_lt_length (k := 0) (by have := unhide hl; omega))
      have hck : wr.cell? ⟨bb, off + k, none⟩ = some (.int .i64 (zs.getD k 0)) := ((unhide hN).bel.cell (by simpa using hbl)).trans (hcl k (by have := unhide hl; omega))
      subst hse
      have hx := unhide hz k (by have := unhide hl; omega)
      have hFk := unhide hF k
      have hC := hide (unhide hZ (zs.getD k 0) k wr hx hklt ((unhide hTb1).keep (Upd.of_below (unhide hN).bel 0 0)))
      generalize smCo (zs.getD k 0) k s.toNat = y at hFk hC
      generalize zs.getD k 0 = x at hck hC hx
      have k0 : (0 : Int) ≤ (k : Int) := by omega
      have k1 : (k : Int) < 16 := by omega
      have hset := prt_set f id k 0 y k hklt rfl (fun _ _ e => e)
      have hnext := prt_next f id k y (fun i _ e => by have e2 : i = k := e; rw [e2]; exact hFk)
      clear hcl hbl hFk hx
      go_wp2_with fail
      refine (unhide hC).mono ?_
      rintro e w3 ⟨rfl, hu3⟩
      have hN3 := (unhide hN).upd hu3
      have hput := hide (hN3.put k y)
      rw [hset, hnext] at hput
      obtain ⟨old, hdst⟩ := hN3.out.has k hklt
      have hfz := hN3.out.frozen k
      clear hN hN3 hC hu3 hset hnext
      go_wp2_with fail
      go_roundw
      case rel => exact ⟨k + 1, by omega, by go_num, hput⟩
      case measure => simp [intOf]; omega
    · obtain rfl : k = 16 := by omega
      have hN2 := unhide hN
      rw [prt_done f id (fun k hk => hk)] at hN2
      have hlt := hN2.out.lt
      have hO2 : Hid (OwnI wr w.heap.size wr.heap.size (.slice (some ⟨w1.heap.size, 0, none⟩) 16 16) (tab16 f)) := hide (by
        have h := own_mono hN2.out.own (unhide hu).size (Nat.succ_le_of_lt hlt)
        unfold OwnI
        rw [tab16_length]
        exact h)
      have hU := hide ((unhide hu).trans (Upd.of_below hN2.bel 0 0))
      clear hN2 hN hlt
      go_wp2
      go_ret
      exact ⟨_, rfl, by rw [unhide hE]; exact unhide hO2, unhide hU⟩
theorem implSmallCoarse (v0 : Value) (zs : List Int) (s : Int) (w : World) (hTb : Held w 0 (ints coT)) (hn : zs.length ≤ 1048576) (_hR : InI zs) (hv : RdI w v0 zs) (_hl : -9223372036854775808 ≤ s) (_hh : s ≤ 9223372036854775807) :
    Calls Tryd.prog 25 #[v0, .int .i64 s] w fun e w' => ∃ v, e = .returned v ∧ OwnI w' w.heap.size w'.heap.size v (smScaled smCo zs s) ∧ Upd 0 0 w w' := by
  obtain ⟨ad, cap, rfl, hA⟩ := hv
  have hS := hide (implSmallScaledCoarse ad cap zs s w hn hA hTb)
  clear hA hTb
  go_enter Tryd.func25, Tryd.ntmps25
  go_wp2_with fail
  refine (unhide hS).mono ?_
  rintro e w3 ⟨v, rfl, ho, hu⟩
  clear hS
  obtain ⟨a, c, rfl, _⟩ := readK_of_own ho
  replace ho := hide ho
  replace hu := hide hu
  go_wp2
  go_ret
  exact ⟨_, rfl, unhide ho, unhide hu⟩
theorem specSmallCoarse (v0 : Value) (zs : List Int) (s : Int) (w : World) (hn : zs.length ≤ 1048576) (_hR : InI zs) (hv : RdI w v0 zs) (_hl : -9223372036854775808 ≤ s) (_hh : s ≤ 9223372036854775807) :
    Calls Tryd.prog 27 #[v0, .int .i64 s] w fun e w' => ∃ v, e = .returned v ∧ OwnI w' w.heap.size w'.heap.size v (smScaled smCo zs s) ∧ Upd 0 0 w w' := by
  obtain ⟨ad, cap, rfl, hA⟩ := hv
  have hB := hide (specL13Small ad cap zs w hn hA)
  by_cases h1 : SmOk zs
  case neg =>
    rw [smB_no h1] at hB
    rw [smScaled_no (fun h => h1 h.1)]
    clear h1
    go_enter Tryd.func27, Tryd.ntmps27
    go_wp2_with fail
    refine (unhide hB).mono ?_
    rintro e w1 ⟨rfl, hw⟩
    subst hw
    clear hB
    go_wp2
    go_ret
    exact ⟨_, rfl, own_nilI _ _ _, Upd.refl 0 0 _⟩
  rw [smB_yes h1] at hB
  by_cases h2 : 0 ≤ s ∧ s ≤ 40
  case neg =>
    rw [smScaled_no (fun h => h2 h.2)]
    clear h1
    by_cases h3 : s < 0
    · go_enter Tryd.func27, Tryd.ntmps27
      go_wp2_with fail
      refine (unhide hB).mono ?_
      rintro e w1 ⟨rfl, hw⟩
      subst hw
      clear hB
      go_wp2
      go_ret
      exact ⟨_, rfl, own_nilI _ _ _, Upd.refl 0 0 _⟩
    · have h4 : 40 < s := by omega
      replace h2 := hide h2
      go_enter Tryd.func27, Tryd.ntmps27
      go_wp2_with fail
      refine (unhide hB).mono ?_
      rintro e w1 ⟨rfl, hw⟩
      subst hw
      clear hB
      go_wp2
      go_ret
      exact ⟨_, rfl, own_nilI _ _ _, Upd.refl 0 0 _⟩
  have hE := hide (smScaled_yes (g := smCo) h1 h2)
  have hC := hide (specL13Coarse ad cap zs s w h1.1 (smOk_inR h1) h2 hA)
  rw [h1.1] at hB ⊢
  obtain ⟨s0, s1⟩ := h2
  clear h1
  go_enter Tryd.func27, Tryd.ntmps27
  go_wp2_with fail
  refine (unhide hB).mono ?_
  rintro e w1 ⟨rfl, hw⟩
  subst hw
  clear hB
  go_wp2_with fail
  refine (unhide hC).mono ?_
  rintro e w3 ⟨u, rfl, ho, hu3⟩
  replace hu := hide hu3
  replace ho := hide ho
  clear hC
  obtain ⟨a, c, rfl, _⟩ := readK_of_own (unhide ho)
  go_wp2
  go_ret
  exact ⟨_, rfl, by rw [unhide hE]; exact unhide ho, unhide hu⟩
set_option maxHeartbeats 16000000 in
set_option maxRecDepth 100000 in
theorem implSmallScaledFine (ad : Option Addr) (cap : Nat) (zs : List Int) (s : Int) (w : World) (hn : zs.length ≤ 1048576) (hA : ArgI w ad zs) (hTb : Held w 2 (ints fiT)) :
    Calls Tryd.prog 66 #[.slice ad zs.length cap, .int .i64 s, .func (.func 78) #[] #[]] w fun e w' => ∃ v, e = .returned v ∧ OwnI w' w.heap.size w'.heap.size v (smScaled smFi zs s) ∧ Upd 0 0 w w' := by
  have hB := hide (implGoodSmall ad cap zs w hn hA)
  have hS := hide (fun X => implGoodStep s X)
  by_cases h1 : SmOk zs
  case neg =>
    rw [smB_no h1] at hB
    rw [smScaled_no (fun h => h1 h.1)]
    clear hS h1
    go_enter Tryd.func66, Tryd.ntmps66
    go_wp2_with fail
    refine (unhide hB).mono ?_
    rintro e w1 ⟨rfl, hu⟩
    replace hu := hide hu
    clear hB
    go_wp2
    go_ret
    exact ⟨_, rfl, own_nilI _ _ _, unhide hu⟩
  rw [smB_yes h1] at hB
  by_cases h2 : 0 ≤ s ∧ s ≤ 40
  case neg =>
    rw [show stB s = false from Bool.eq_false_iff.2 (fun h => h2 (stB_iff.1 h))] at hS
    rw [smScaled_no (fun h => h2 h.2)]
    clear h1 h2
    go_enter Tryd.func66, Tryd.ntmps66
    go_wp2_with fail
    refine (unhide hB).mono ?_
    rintro e w1 ⟨rfl, hu⟩
    replace hu := hide hu
    clear hB
    go_wp2_with (go_at_call 100; refine (unhide hS _).mono ?_; rintro e wz ⟨rfl, hwz⟩; subst wz)
    go_ret
    exact ⟨_, rfl, own_nilI _ _ _, unhide hu⟩
  rw [stB_iff.2 h2] at hS
  obtain ⟨o16, hmk⟩ := mkRowI 16 (by omega)
  have hmk1 : ∀ X : World, (Instr.makeSlice 23 (.int .i64 16) (.int .i64 16)).run Tryd.prog X = .ok (.slice (some ⟨X.heap.size, 0, none⟩) 16 16) (X.alloc o16) := fun X => (hmk X).1
  have hE := hide (smScaled_yes (g := smFi) h1 h2)
  have hl := h1.1
  have hz := hide (smOk_inR h1)
  have hZ := hide (fun (x : Int) (p : Nat) (X : World) (hx : -65536 ≤ x ∧ x ≤ 65536) (hp : p < 16) (h : Held X 2 (ints fiT)) => implSmallFineZ x p s X hx hp h2 h)
  rw [hl] at hB ⊢
  clear h1 h2 hn
  replace hl := hide hl
  replace hA := hide hA
  replace hTb := hide hTb
  go_enter Tryd.func66, Tryd.ntmps66
  go_wp2_with fail
  refine (unhide hB).mono ?_
  rintro e w1 ⟨rfl, hu⟩
  clear hB
  have hA1 := hide ((unhide hA).below hu.none)
  have hTb1 := hide ((unhide hTb).keep hu)
  replace hu := hide hu
  have hN0 : Hid (ScSt w1 (w1.alloc o16) (tab16 (prt (fun p => smFi (zs.getD p 0) p s.toNat) id 0 0))) := hide ⟨by rw [prt_zero]; exact (hmk w1).2, (Below.refl _ w1).alloc (Nat.le_refl _) _⟩
  clear hmk hA hTb
  go_wp2_with (go_at_call 100; refine (unhide hS _).mono ?_; rintro e wz ⟨rfl, hwz⟩; subst wz)
  generalize w1.alloc o16 = w2 at hN0 ⊢
  clear hmk1
  generalize hf : (fun p => smFi (zs.getD p 0) p s.toNat) = f at hN0 hE
  have hF : Hid (∀ p, f p = smFi (zs.getD p 0) p s.toNat) := hide (fun p => by rw [← hf])
  clear hf
  go_loopw [21] (fun i wr => ∃ k : Nat, k ≤ 16 ∧ i = .int .i64 (k : Int) ∧ Hid (ScSt w1 wr (tab16 (prt f id k 0)))) (fun i _ => 16 - (intOf i).toNat)
  case atStart => exact ⟨0, by omega, rfl, hN0⟩
  case round =>
    clear hN0
    obtain ⟨k, hk, rfl, hN⟩ := hrel
    by_cases hklt : k < 16
    · have hkb : decide ((k : Int) < 16) = true := decide_eq_true (by omega)
      obtain ⟨bb, off, hse, hbl, hcl⟩ := (unhide hA1) (ne_of_lt_length (k := 0) (by have := unhide hl; omega))
      have hck : wr.cell? ⟨bb, off + k, none⟩ = some (.int .i64 (zs.getD k 0)) := ((unhide hN).bel.cell (by simpa using hbl)).trans (hcl k (by have := unhide hl; omega))
      subst hse
      have hx := unhide hz k (by have := unhide hl; omega)
      have hFk := unhide hF k
      have hC := hide (unhide hZ (zs.getD k 0) k wr hx hklt ((unhide hTb1).keep (Upd.of_below (unhide hN).bel 0 0)))
      generalize smFi (zs.getD k 0) k s.toNat = y at hFk hC
      generalize zs.getD k 0 = x at hck hC hx
      have k0 : (0 : Int) ≤ (k : Int) := by omega
      have k1 : (k : Int) < 16 := by omega
      have hset := prt_set f id k 0 y k hklt rfl (fun _ _ e => e)
      have hnext := prt_next f id k y (fun i _ e => by have e2 : i = k := e; rw [e2]; exact hFk)
      clear hcl hbl hFk hx
      go_wp2_with fail
      refine (unhide hC).mono ?_
      rintro e w3 ⟨rfl, hu3⟩
      have hN3 := (unhide hN).upd hu3
      have hput := hide (hN3.put k y)
      rw [hset, hnext] at hput
      obtain ⟨old, hdst⟩ := hN3.out.has k hklt
      have hfz := hN3.out.frozen k
      clear hN hN3 hC hu3 hset hnext
      go_wp2_with fail
      go_roundw
      case rel => exact ⟨k + 1, by omega, by go_num, hput⟩
      case measure => simp [intOf]; omega
    · obtain rfl : k = 16 := by omega
      have hN2 := unhide hN
      rw [prt_done f id (fun k hk => hk)] at hN2
      have hlt := hN2.out.lt
      have hO2 : Hid (OwnI wr w.heap.size wr.heap.size (.slice (some ⟨w1.heap.size, 0, none⟩) 16 16) (tab16 f)) := hide (by
        have h := own_mono hN2.out.own (unhide hu).size (Nat.succ_le_of_lt hlt)
        unfold OwnI
        rw [tab16_length]
        exact h)
      have hU := hide ((unhide hu).trans (Upd.of_below hN2.bel 0 0))
      clear hN2 hN hlt
      go_wp2
      go_ret
      exact ⟨_, rfl, by rw [unhide hE]; exact unhide hO2, unhide hU⟩
theorem implSmallFine (v0 : Value) (zs : List Int) (s : Int) (w : World) (hTb : Held w 2 (ints fiT)) (hn : zs.length ≤ 1048576) (_hR : InI zs) (hv : RdI w v0 zs) (_hl : -9223372036854775808 ≤ s) (_hh : s ≤ 9223372036854775807) :
    Calls Tryd.prog 30 #[v0, .int .i64 s] w fun e w' => ∃ v, e = .returned v ∧ OwnI w' w.heap.size w'.heap.size v (smScaled smFi zs s) ∧ Upd 0 0 w w' := by
  obtain ⟨ad, cap, rfl, hA⟩ := hv
  have hS := hide (implSmallScaledFine ad cap zs s w hn hA hTb)
  clear hA hTb
  go_enter Tryd.func30, Tryd.ntmps30
  go_wp2_with fail
  refine (unhide hS).mono ?_
  rintro e w3 ⟨v, rfl, ho, hu⟩
  clear hS
  obtain ⟨a, c, rfl, _⟩ := readK_of_own ho
  replace ho := hide ho
  replace hu := hide hu
  go_wp2
  go_ret
  exact ⟨_, rfl, unhide ho, unhide hu⟩
theorem specSmallFine (v0 : Value) (zs : List Int) (s : Int) (w : World) (hn : zs.length ≤ 1048576) (_hR : InI zs) (hv : RdI w v0 zs) (_hl : -9223372036854775808 ≤ s) (_hh : s ≤ 9223372036854775807) :
    Calls Tryd.prog 41 #[v0, .int .i64 s] w fun e w' => ∃ v, e = .returned v ∧ OwnI w' w.heap.size w'.heap.size v (smScaled smFi zs s) ∧ Upd 0 0 w w' := by
  obtain ⟨ad, cap, rfl, hA⟩ := hv
  have hB := hide (specL13Small ad cap zs w hn hA)
  by_cases h1 : SmOk zs
  case neg =>
    rw [smB_no h1] at hB
    rw [smScaled_no (fun h => h1 h.1)]
    clear h1
    go_enter Tryd.func41, Tryd.ntmps41
    go_wp2_with fail
    refine (unhide hB).mono ?_
    rintro e w1 ⟨rfl, hw⟩
    subst hw
    clear hB
    go_wp2
    go_ret
    exact ⟨_, rfl, own_nilI _ _ _, Upd.refl 0 0 _⟩
  rw [smB_yes h1] at hB
  by_cases h2 : 0 ≤ s ∧ s ≤ 40
  case neg =>
    rw [smScaled_no (fun h => h2 h.2)]
    clear h1
    by_cases h3 : s < 0
    · go_enter Tryd.func41, Tryd.ntmps41
      go_wp2_with fail
      refine (unhide hB).mono ?_
      rintro e w1 ⟨rfl, hw⟩
      subst hw
      clear hB
      go_wp2
      go_ret
      exact ⟨_, rfl, own_nilI _ _ _, Upd.refl 0 0 _⟩
    · have h4 : 40 < s := by omega
      replace h2 := hide h2
      go_enter Tryd.func41, Tryd.ntmps41
      go_wp2_with fail
      refine (unhide hB).mono ?_
      rintro e w1 ⟨rfl, hw⟩
      subst hw
      clear hB
      go_wp2
      go_ret
      exact ⟨_, rfl, own_nilI _ _ _, Upd.refl 0 0 _⟩
  have hE := hide (smScaled_yes (g := smFi) h1 h2)
  have hC := hide (specL13Fine ad cap zs s w h1.1 (smOk_inR h1) h2 hA)
  rw [h1.1] at hB ⊢
  obtain ⟨s0, s1⟩ := h2
  clear h1
  go_enter Tryd.func41, Tryd.ntmps41
  go_wp2_with fail
  refine (unhide hB).mono ?_
  rintro e w1 ⟨rfl, hw⟩
  subst hw
  clear hB
  go_wp2_with fail
  refine (unhide hC).mono ?_
  rintro e w3 ⟨u, rfl, ho, hu3⟩
  replace hu := hide hu3
  replace ho := hide ho
  clear hC
  obtain ⟨a, c, rfl, _⟩ := readK_of_own (unhide ho)
  go_wp2
  go_ret
  exact ⟨_, rfl, by rw [unhide hE]; exact unhide ho, unhide hu⟩
end Go.Proofs.YtpofmcepjmbmcaaDoor

/- A region that draws its order: a head of operations that are quiet in a class of worlds (loads, arithmetic, calls that lay new blocks alone), and a tail that waits for all of them: the head is walked once, in the text's order; the tail behind it. -/
namespace Go.Proofs.YtpofmcepjmbmcaaDoor
open Go.RowKit

section
variable {P : Program} {ops : Array Oper} {md : Region.Mode} {C : World → Prop}
/-- Whatever order is picked among the first n, with 'L' to be shown behind them. -/
def wpHeadQ (P : Program) (md : Region.Mode) (ops : Array Oper) (C : World → Prop) (n : Nat) (L : Array Bool → Act → Prop) : Nat → Array Bool → Act → Prop
  | 0, b, a => L b a
  | f + 1, b, a => Region.ready md ops b ≠ [] ∧ ∀ i ∈ Region.ready md ops b, i < n ∧ qOp P ops C i (wpHeadQ P md ops C n L f (b.setIfInBounds i true)) a
theorem wpAny_of_headQ {n g : Nat} {L : Array Bool → Act → Prop} {Q' : Exit → Act → World → Prop} (hL : ∀ b a w, C w → L b a → wpAny P md ops Q' g b a w) (f : Nat) :
    ∀ (b : Array Bool) (a : Act) (w : World), C w → wpHeadQ P md ops C n L f b a → wpAny P md ops Q' (f + g) b a w := by
  induction f with
  | zero => intro b a w hC h; rw [Nat.zero_add]; exact hL _ _ _ hC h
  | succ f ih =>
    intro b a w hC h
    rw [show f + 1 + g = (f + g) + 1 by omega]
    exact ⟨fun h0 => absurd h0 h.1, fun i hi => wpOp_of_qOp hC (fun a' w' hC' h' => ih _ a' w' hC' h') (h.2 i hi).2⟩
theorem wpHeadQ_first {n i : Nat} {oi : Oper} {v : Value} {L : Array Bool → Act → Prop} (hi : ops[i]? = some oi) (hsel : ∀ (j : Nat) (o : Oper) cs b, ops[j]? = some o → o.op ≠ .select cs b)
    (hs : Region.sinkB md ops n = true) (hc : Region.chainB md ops n = true) (hn : n < ops.size) (hin : i < n) (hdone : ∀ b a, L b a → ∀ j ∈ Region.ready md ops b, n ≤ j) (f : Nat) :
    ∀ (b : Array Bool) (a : Act), HeadInv md ops n b →
      (∀ j oj, ops[j]? = some oj → j ≠ i → b.getD j true = false → (∀ e ∈ oj.after, Region.binds md e = true → e.on ≠ i) → oi.apart ops oj = true) →
      i ∈ Region.ready md ops b → YieldsIn P ops C oi v a →
      wpHeadQ P md ops C n L f (b.setIfInBounds i true) (a.put oi.dst v) → wpHeadQ P md ops C n L (f + 1) b a := by
  induction f with
  | zero =>
    intro b a inv _ hr hy H
    refine ⟨fun h => (by rw [h] at hr; cases hr), fun j hj => ?_⟩
    have hjn : j < n := Nat.lt_of_not_le fun h => tail_waits hs hc hn inv _ i rfl hin (mem_ready.1 hr).1 j h hj
    refine ⟨hjn, ?_⟩
    by_cases hji : j = i
    · subst hji; exact hy.qOp hi H
    · exact absurd (hdone _ _ H j (ready_mono hj hji)) (by omega)
  | succ f ih =>
    intro b a inv hfree hr hy H
    refine ⟨fun h => (by rw [h] at hr; cases hr), fun j hj => ?_⟩
    have hun := (mem_ready.1 hr).1
    have hjn : j < n := Nat.lt_of_not_le fun h => tail_waits hs hc hn inv _ i rfl hin hun j h hj
    refine ⟨hjn, ?_⟩
    by_cases hji : j = i
    · subst hji; exact hy.qOp hi H
    · obtain ⟨hjun, oj, hoj, hall⟩ := mem_ready.1 hj
      have hnot : ∀ e ∈ oj.after, Region.binds md e = true → e.on ≠ i := fun e he hb heq => by
        have h1 := hall e he hb
        rw [heq, getD_both hun] at h1
        cases h1
      have h2 := qOp_put hoj (hfree j oj hoj hji hjun hnot) (fun cs b => hsel i oi cs b hi) (fun cs b => hsel j oj cs b hoj) hy (H.2 j (ready_mono hj hji)).2
      refine qOp_mono (fun a' h3 => ih (b.setIfInBounds j true) a' (inv.set hj hjn) (fun k ok hk hki hun' hno => hfree k ok hk hki ?_ hno) (ready_mono hr (Ne.symm hji)) h3.1 ?_) h2
      · by_cases hjk : j = k
        · subst hjk; exact hjun
        · rw [getD_set_ne true hjk] at hun'; exact hun'
      · rw [Array.setIfInBounds_comm _ _ hji]
        exact h3.2
theorem wpHeadQ_lex {n g : Nat} {Lq : Act → Prop} (hsel : Region.noSelect ops = true) (hs : Region.sinkB md ops n = true) (hc : Region.chainB md ops n = true) (hn : n < ops.size) (l : List Oper) :
    ∀ (k : Nat) (b : Array Bool) (a : Act), (∀ j, j < l.length → l[j]? = ops[k + j]?) → k + l.length = n → HeadInv md ops n b →
    Region.lexHead md ops g l.length k b = true → wpQuiet P ops C Lq l a → wpHeadQ P md ops C n (fun b' a' => Region.seqB md ops g n b' = true ∧ Lq a') l.length b a := by
  induction l with
  | nil =>
    intro k b a hl hk inv hB h
    have hkn : k = n := by simpa using hk
    subst hkn
    exact ⟨by simpa [Region.lexHead] using hB, h⟩
  | cons o l ih =>
    intro k b a hl hk inv hB h
    have h0 : ops[k]? = some o := by simpa using (hl 0 (by simp)).symm
    simp only [List.length_cons, Region.lexHead, Bool.and_eq_true] at hB
    obtain ⟨⟨hr, hf⟩, hB'⟩ := hB
    have hkn : k < n := by simp only [List.length_cons] at hk; omega
    have hr' : k ∈ Region.ready md ops b := by simpa using hr
    have hst : qOp P ops C k (wpQuiet P ops C Lq l) a := by unfold qOp; simp only [h0]; exact h
    obtain ⟨v, hy, hK⟩ := yieldsIn_of_qOp h0 hst
    exact wpHeadQ_first h0 (Region.noSelect_spec hsel) hs hc hn hkn (fun b' a' hL => seqB_ready hL.1) l.length b a inv (Region.free_spec h0 hf) hr' hy
      (ih (k + 1) _ _ (fun j hj => by have := hl (j + 1) (by simp; omega); simpa [Nat.add_assoc, Nat.add_comm 1 j] using this) (by simp only [List.length_cons] at hk; omega) (inv.set hr' hkn) hB' hK)
theorem wp_region_quiet_tail {id : Nat} {Q : Exit → Act → World → Prop} {a : Act} {w : World} {l : List Oper} (n : Nat) (hm : P.follows .mixedOrders = true) (hB : Region.lexTailB .any l.toArray n = true) (hC : C { w with drawn := w.drawn + 1 })
    (h : wpQuiet P l.toArray C (fun a' => ∀ w', C w' → wpList P l.toArray Q (l.drop n) a' w') (l.take n) a) : (Code.region id l.toArray true).wp P Q a w := by
  simp only [Region.lexTailB, Bool.and_eq_true, decide_eq_true_eq] at hB
  obtain ⟨⟨⟨⟨hsel, hn⟩, hs⟩, hc⟩, hlex⟩ := hB
  have hn' : n < l.length := by simpa using hn
  have htl : (l.take n).length = n := by simp; omega
  have hdl : (l.drop n).length = l.toArray.size - n := by simp
  have inv0 : HeadInv .any l.toArray n (Array.replicate l.toArray.size false) :=
    ⟨by simp, fun j oj _ hl => (by rw [getD_replicate_false] at hl; cases hl), fun t _ ht => getD_in (by simpa using ht) (getD_replicate_false _ _)⟩
  have H := wpHeadQ_lex (md := .any) (g := l.toArray.size - n) hsel hs hc hn (l.take n) 0 _ a (fun j hj => by
    have hj' : j < n := by rw [htl] at hj; exact hj
    simp [hj']) (by simpa using htl) inv0 (by rw [htl]; exact hlex) h
  refine wp_region_any hm ?_
  have := wpAny_of_headQ (Q' := Q) (g := l.toArray.size - n) (fun b a' w' hC' hL => by
    have := wpAny_of_seq (md := .any) (Q' := Q) (l.drop n) n b a' w' (fun j => by simp [List.getElem?_drop]) (by rw [hdl]; exact hL.1) (hL.2 w' hC')
    rwa [hdl] at this) _ _ _ _ hC H
  rw [htl, show n + (l.toArray.size - n) = l.toArray.size by omega] at this
  exact this
end
/-- .. at the class 'all that was there is as it was', behind the wrapper. -/
theorem wq_region_tail {P : Program} {id : Nat} {Q : Exit → Act → World → Prop} {a : Act} {w : World} {l : List Oper} (n : Nat) (hm : P.follows .mixedOrders = true) (hB : Region.lexTailB .any l.toArray n = true)
    (h : WQ P l.toArray (fun w' => ∃ x : UpdT w, w' = x.to) (fun a' => ∀ w', (∃ x : UpdT w, w' = x.to) → wpList P l.toArray Q (l.drop n) a' w') (l.take n) a) : (Code.region id l.toArray true).wp P Q a w :=
  wp_region_quiet_tail (C := fun w' => ∃ x : UpdT w, w' = x.to) n hm hB ⟨⟨{ w with drawn := w.drawn + 1 }, ⟨rfl, rfl, rfl, Nat.le_refl _, fun _ _ _ => rfl⟩⟩, rfl⟩ h.h
end Go.Proofs.YtpofmcepjmbmcaaDoor

/- Small blocks: the specification's sums forward. -/
namespace Go.Proofs.YtpofmcepjmbmcaaDoor
open Go.RowKit

def outZ (zs : List Int) (p : Nat) : Int := sumS (colZ (tab16 (midZ zs)) (p % 4)) (p / 4)
theorem fwd_out (zs : List Int) : turn4 sumS (turn4 sumS zs) = tab16 (outZ zs) := turn_twice sumS zs
theorem ints_tab16 (f : Nat → Int) (p : Nat) (hp : p < 16) : (ints (tab16 f))[p]? = some (.int .i64 (f p)) := by
  unfold ints tab16
  rw [List.getElem?_map, List.getElem?_map, List.getElem?_range hp]
  rfl
/-- The specification's two rows under way. -/
structure FwSt (w wr : World) (xs ys : List Int) : Prop where
  mid : RowI wr w.heap.size 16 (ints xs)
  out : RowI wr (w.heap.size + 1) 16 (ints ys)
  bel : Below w.heap.size w wr
theorem FwSt.upd {w wr wx : World} {xs ys : List Int} (h : FwSt w wr xs ys) (u : Upd 0 0 wr wx) : FwSt w wx xs ys :=
  ⟨h.mid.keep u, h.out.keep u, below_upd h.bel u (Nat.le_refl _) (.inr (Nat.zero_le _))⟩
theorem ints_setS (xs : List Int) (k : Nat) (x : Int) : (ints xs).set k (.int .i64 x) = ints (xs.set k x) := by unfold ints; rw [List.map_set]
theorem FwSt.put {w wr : World} {xs ys : List Int} (h : FwSt w wr xs ys) (k : Nat) (x : Int) : FwSt w (wr.setCell ⟨w.heap.size, k, none⟩ (.int .i64 x)) (xs.set k x) ys :=
  ⟨by have := h.mid.set k (.int .i64 x); rw [ints_setS] at this; exact this, h.out.other (by omega) k _, h.bel.setCell (p := ⟨w.heap.size, k, none⟩) (Nat.le_refl _) _⟩
theorem FwSt.putO {w wr : World} {xs ys : List Int} (h : FwSt w wr xs ys) (k : Nat) (x : Int) : FwSt w (wr.setCell ⟨w.heap.size + 1, k, none⟩ (.int .i64 x)) xs (ys.set k x) :=
  ⟨h.mid.other (by omega) k _, by have := h.out.set k (.int .i64 x); rw [ints_setS] at this; exact this, h.bel.setCell (p := ⟨w.heap.size + 1, k, none⟩) (by simp) _⟩
set_option maxHeartbeats 64000000 in
set_option maxRecDepth 100000 in
theorem specL13Forward (ad : Option Addr) (cap : Nat) (zs : List Int) (w : World) (hl : zs.length = 16) (hz : InR (-65536) 65536 zs) (hA : ArgI w ad zs) :
    Calls Tryd.prog 75 #[.slice ad 16 cap] w fun e w' => ∃ v, e = .returned v ∧ OwnI w' w.heap.size w'.heap.size v (turn4 sumS (turn4 sumS zs)) ∧ Upd 0 0 w w' := by
  have hRow : ∀ a, a < 4 → ∀ j, j < 4 → -65536 ≤ (rowZ zs a).getD j 0 ∧ (rowZ zs a).getD j 0 ≤ 65536 := rowZ_bd hl hz
  have hMid : Hid (∀ a, a < 4 → ∀ j, j < 4 → -393216 ≤ (colZ (tab16 (midZ zs)) a).getD j 0 ∧ (colZ (tab16 (midZ zs)) a).getD j 0 ≤ 393216) := hide (fun a ha j hj => by
    rw [colZ_getD _ a j hj, tab16_getD _ _ (by omega)]
    exact sumS_bd (K := 65536) _ (by omega) (hRow _ (by omega)))
  replace hRow := hRow
  obtain ⟨o16, hmk⟩ := mkRowI 16 (by omega)
  have hmk1 : ∀ X : World, (Instr.makeSlice 23 (.int .i64 16) (.int .i64 16)).run Tryd.prog X = .ok (.slice (some ⟨X.heap.size, 0, none⟩) 16 16) (X.alloc o16) := fun X => (hmk X).1
  have hN0 : Hid (FwSt w ((w.alloc o16).alloc o16) (tab16 (prt (midZ zs) id (4 * 0) 0)) (List.replicate 16 0)) := hide (by
    have e : ints (List.replicate 16 0) = List.replicate 16 (.int .i64 0) := rfl
    refine ⟨?_, ?_, ?_⟩
    · rw [prt_zero, e]; exact (hmk w).2.alloc _
    · have h := (hmk (w.alloc o16)).2
      rw [show (w.alloc o16).heap.size = w.heap.size + 1 by simp] at h
      rw [e]; exact h
    · exact ((Below.refl _ w).alloc (Nat.le_refl _) _).alloc (by simp) _)
  replace hl := hide hl
  replace hA := hide hA
  clear hmk hz
  go_enter Tryd.func75, Tryd.ntmps75
  go_wp2_with fail
  generalize (w.alloc o16).alloc o16 = w0 at hN0 ⊢
  go_loopw [5] (fun i wr => ∃ a : Nat, a ≤ 4 ∧ i = .int .i64 (a : Int) ∧ Hid (FwSt w wr (tab16 (prt (midZ zs) id (4 * a) 0)) (List.replicate 16 0))) (fun i _ => 4 - (intOf i).toNat)
  case atStart => exact ⟨0, by omega, rfl, hN0⟩
  case round =>
    clear hN0
    obtain ⟨a, ha, rfl, hN⟩ := hrel
    by_cases halt : a < 4
    · have hab : decide ((a : Int) < 4) = true := decide_eq_true (by omega)
      go_wp2_with fail
      go_loopw [6] (fun i wr => ∃ b : Nat, b ≤ 4 ∧ i = .int .i64 (b : Int) ∧ Hid (FwSt w wr (tab16 (prt (midZ zs) id (4 * a + b) 0)) (List.replicate 16 0))) (fun i _ => 4 - (intOf i).toNat)
      case atStart => exact ⟨0, by omega, rfl, hN⟩
      case round =>
        clear hN
        obtain ⟨b, hb, rfl, hN⟩ := hrel
        by_cases hblt : b < 4
        · have hbb : decide ((b : Int) < 4) = true := decide_eq_true (by omega)
          obtain ⟨p, hp⟩ : ∃ p, 4 * a + b = p := ⟨_, rfl⟩
          have hp16 : p < 16 := by omega
          have hS0 : Hid ((0 : Int) = sumT (rowZ zs a) b 0) := hide rfl
          go_wp2_with fail
          go_loopw [7] (fun i wr => ∃ (c : Nat) (S : Int), c ≤ 4 ∧ i = .int .i64 (c : Int) ∧ Hid (S = sumT (rowZ zs a) b c) ∧ Hid (FwSt w wr (tab16 (prt (midZ zs) id (4 * a + b) S)) (List.replicate 16 0))) (fun i _ => 4 - (intOf i).toNat)
          case atStart => exact ⟨0, 0, by omega, rfl, hS0, hN⟩
          case round =>
            clear hN hS0
            obtain ⟨c, S, hc, rfl, hS, hN⟩ := hrel
            by_cases hclt : c < 4
            · have hSb := sumT_bd b (hRow a halt) c (by omega)
              rw [← unhide hS] at hSb
              have hSb2 : -4000000 ≤ S ∧ S ≤ 4000000 := by
                have h9 : 2 * (65536 : Int) * (c : Int) ≤ 2 * 65536 * 4 := Int.mul_le_mul_of_nonneg_left (by omega) (by omega)
                omega
              clear hSb
              obtain ⟨S0, S1⟩ := hSb2
              have hnx : Hid (sumT (rowZ zs a) b (c + 1) = S + smT b c * (rowZ zs a).getD c 0) := hide (by rw [unhide hS]; rfl)
              obtain ⟨bb, off, hse, hbl, hcl⟩ := (unhide hA) (ne_of_lt_length (k := 0) (by have := unhide hl; omega))
              have hck : wr.cell? ⟨bb, off + (4 * a + c), none⟩ = some (.int .i64 (zs.getD (4 * a + c) 0)) := ((unhide hN).bel.cell (by simpa using hbl)).trans (hcl _ (by have := unhide hl; omega))
              have hbw : bb < wr.heap.size := Nat.lt_of_lt_of_le hbl (unhide hN).bel.size
              subst hse
              have hx := hRow a halt c hclt
              rw [rowZ_getD zs a c hclt] at hnx hx
              obtain ⟨q, hq⟩ : ∃ q, 4 * a + c = q := ⟨_, rfl⟩
              have q1 : 4 * (a : Int) + (c : Int) = (q : Int) := by omega
              have d1 : 4 * (a : Int) + (b : Int) = (p : Int) := by omega
              rw [hq] at hck hnx hx
              generalize zs.getD q 0 = x at hck hnx hx
              have q2 : q < 16 := by omega
              have hT := hide (fun X => specL13T b c X hblt hclt)
              have hPb := smT_mul b c x 65536 hx
              generalize smT b c = m at hT hnx hPb
              obtain ⟨P, hP⟩ : ∃ P, m * x = P := ⟨_, rfl⟩
              rw [hP] at hnx hPb
              obtain ⟨P0, P1⟩ := hPb
              have hset := prt_set (midZ zs) id (4 * a + b) S (S + P) p hp16 (by show p = _; omega) (fun k hk e => by have e2 : k = 4 * a + b := e; omega)
              have hdst0 : wr.cell? ⟨w.heap.size, p, none⟩ = some (.int .i64 S) := by rw [(unhide hN).mid.cell _ hp16, ints_tab16 _ _ hp16, prt_at _ _ _ _ _ (by show p = _; omega)]
              have hdw : w.heap.size < wr.heap.size := (unhide hN).mid.lt
              have hcX := fun X : UpdT wr => cell_updS hck (by simpa using hbw) X
              have hdX := fun X : UpdT wr => cell_updS hdst0 (by simpa using hdw) X
              have w1 : IntKind.i64.wrap (4 * (a : Int)) = 4 * (a : Int) := wrapS (by omega)
              
              have w2 : IntKind.i64.wrap (q : Int) = (q : Int) := wrapS (by omega)
              have w3 : IntKind.i64.wrap (p : Int) = (p : Int) := wrapS (by omega)
              have w4 : IntKind.i64.wrap P = P := wrapS (by omega)
              have w5 : IntKind.i64.wrap (S + P) = S + P := wrapS (by omega)
              have i1 : (0 : Int) ≤ (q : Int) := by omega
              have i2 : (q : Int) < 16 := by omega
              have i3 : (0 : Int) ≤ (p : Int) := by omega
              have i4 : (p : Int) < 16 := by omega
              have i5 : (q : Int).toNat = q := by omega
              have i6 : (p : Int).toNat = p := by omega
              clear hck hdst0 hx hS hq
              go_wp2_with fail
              refine wq_region_tail 20 (by kernel_rfl) (by kernel_rfl) ?_
              simp only [List.take_succ_cons, List.take_zero, List.drop_succ_cons, List.drop_zero]
              refine WQ.step (fun K hK => ?_)
              go_simp
              refine hK _ ?_
              clear hK K
              refine WQ.step (fun K hK => ?_)
              go_simp
              refine hK _ ?_
              clear hK K
              refine WQ.step (fun K hK => ?_)
              go_simp
              refine hK _ ?_
              clear hK K
              refine WQ.step (fun K hK => ?_)
              go_simp
              refine hK _ ?_
              clear hK K
              refine WQ.step (fun K hK => ?_)
              go_simp
              refine hK _ ?_
              clear hK K
              refine WQ.step (fun K hK => ?_)
              go_simp
              refine hK _ ?_
              clear hK K
              refine WQ.step (fun K hK => ?_)
              go_simp
              refine hK _ ?_
              clear hK K
              refine WQ.step (fun K hK => ?_)
              go_simp
              refine hK _ ?_
              clear hK K
              refine WQ.step (fun K hK => ?_)
              go_simp
              refine hK _ ?_
              clear hK K
              refine WQ.step (fun K hK => ?_)
              go_simp
              refine ⟨_, fun X => Calls.updT X (unhide hT X.to), hK _ ?_⟩
              clear hK K
              refine WQ.step (fun K hK => ?_)
              go_simp
              refine hK _ ?_
              clear hK K
              refine WQ.step (fun K hK => ?_)
              go_simp
              refine hK _ ?_
              clear hK K
              refine WQ.step (fun K hK => ?_)
              go_simp
              refine hK _ ?_
              clear hK K
              refine WQ.step (fun K hK => ?_)
              go_simp
              refine hK _ ?_
              clear hK K
              refine WQ.step (fun K hK => ?_)
              go_simp
              refine hK _ ?_
              clear hK K
              refine WQ.step (fun K hK => ?_)
              go_simp
              refine hK _ ?_
              clear hK K
              refine WQ.step (fun K hK => ?_)
              go_simp
              refine hK _ ?_
              clear hK K
              refine WQ.step (fun K hK => ?_)
              go_simp
              refine hK _ ?_
              clear hK K
              refine WQ.step (fun K hK => ?_)
              go_simp
              refine hK _ ?_
              clear hK K
              refine WQ.step (fun K hK => ?_)
              go_simp
              refine hK _ ?_
              clear hK K
              refine WQ.nil ?_
              rintro _ ⟨X, rfl⟩
              clear hcX hdX hT
              have hX := X.upd
              generalize X.to = wt at hX ⊢
              have hN2 := (unhide hN).upd hX
              have hput := hide (hN2.put p (S + P))
              rw [hset] at hput
              have hdst := hN2.mid.has p hp16
              obtain ⟨old, hdst⟩ := hdst
              have hfz := hN2.mid.frozen p
              clear hN hN2 hX hset
              go_wp2_with fail
              go_roundw
              case rel => exact ⟨c + 1, S + P, by omega, by go_num, hide (unhide hnx).symm, hput⟩
              case measure => simp [intOf]; omega
            · obtain rfl : c = 4 := by omega
              have hN2 : Hid (FwSt w wr (tab16 (prt (midZ zs) id (4 * a + (b + 1)) 0)) (List.replicate 16 0)) := hide (by
                have h := unhide hN
                rw [prt_next (midZ zs) id (4 * a + b) S (fun k hk e => by
                  have e2 : k = 4 * a + b := e
                  rw [unhide hS]
                  unfold midZ sumS; rw [show k / 4 = a by omega, show k % 4 = b by omega])] at h
                exact h)
              clear hN
              go_wp2_with fail
              go_roundw
              case rel => exact ⟨b + 1, by omega, by go_num, hN2⟩
              case measure => simp [intOf]; omega
        · obtain rfl : b = 4 := by omega
          have hN2 : Hid (FwSt w wr (tab16 (prt (midZ zs) id (4 * (a + 1)) 0)) (List.replicate 16 0)) := hide (by have h := unhide hN; rw [show 4 * (a + 1) = 4 * a + 4 by omega]; exact h)
          clear hN
          go_wp2_with fail
          go_roundw
          case rel => exact ⟨a + 1, by omega, by go_num, hN2⟩
          case measure => simp [intOf]; omega
    · have ha4 : a = 4 := by omega
      have hN0 : Hid (FwSt w wr (tab16 (midZ zs)) (tab16 (prt (outZ zs) rkS (4 * 0) 0))) := hide (by
        have h := unhide hN
        rw [ha4] at h
        rw [show 4 * 4 = 16 from rfl, prt_done (midZ zs) id (fun k hk => hk)] at h
        rw [show 4 * 0 = 0 from rfl, prt_zero]
        exact h)
      clear hN hRow
      have hRow := unhide hMid
      clear hMid hA hl
      have hab : decide ((a : Int) < 4) = false := decide_eq_false (by omega)
      replace ha4 := hide ha4
      clear halt ha
      go_wp2_with fail
      go_loopw [8] (fun i wr => ∃ a : Nat, a ≤ 4 ∧ i = .int .i64 (a : Int) ∧ Hid (FwSt w wr (tab16 (midZ zs)) (tab16 (prt (outZ zs) rkS (4 * a) 0)))) (fun i _ => 4 - (intOf i).toNat)
      case atStart => exact ⟨0, by omega, rfl, hN0⟩
      case round =>
        clear hN0
        obtain ⟨a, ha, rfl, hN⟩ := hrel
        by_cases halt : a < 4
        · have hab : decide ((a : Int) < 4) = true := decide_eq_true (by omega)
          go_wp2_with fail
          go_loopw [9] (fun i wr => ∃ b : Nat, b ≤ 4 ∧ i = .int .i64 (b : Int) ∧ Hid (FwSt w wr (tab16 (midZ zs)) (tab16 (prt (outZ zs) rkS (4 * a + b) 0)))) (fun i _ => 4 - (intOf i).toNat)
          case atStart => exact ⟨0, by omega, rfl, hN⟩
          case round =>
            clear hN
            obtain ⟨b, hb, rfl, hN⟩ := hrel
            by_cases hblt : b < 4
            · have hbb : decide ((b : Int) < 4) = true := decide_eq_true (by omega)
              obtain ⟨p, hp⟩ : ∃ p, 4 * b + a = p := ⟨_, rfl⟩
              have hp16 : p < 16 := by omega
              have hS0 : Hid ((0 : Int) = sumT (colZ (tab16 (midZ zs)) a) b 0) := hide rfl
              go_wp2_with fail
              go_loopw [10] (fun i wr => ∃ (c : Nat) (S : Int), c ≤ 4 ∧ i = .int .i64 (c : Int) ∧ Hid (S = sumT (colZ (tab16 (midZ zs)) a) b c) ∧ Hid (FwSt w wr (tab16 (midZ zs)) (tab16 (prt (outZ zs) rkS (4 * a + b) S)))) (fun i _ => 4 - (intOf i).toNat)
              case atStart => exact ⟨0, 0, by omega, rfl, hS0, hN⟩
              case round =>
                clear hN hS0
                obtain ⟨c, S, hc, rfl, hS, hN⟩ := hrel
                by_cases hclt : c < 4
                · have hSb := sumT_bd b (hRow a halt) c (by omega)
                  rw [← unhide hS] at hSb
                  have hSb2 : -4000000 ≤ S ∧ S ≤ 4000000 := by
                    have h9 : 2 * (393216 : Int) * (c : Int) ≤ 2 * 393216 * 4 := Int.mul_le_mul_of_nonneg_left (by omega) (by omega)
                    omega
                  clear hSb
                  obtain ⟨S0, S1⟩ := hSb2
                  have hnx : Hid (sumT (colZ (tab16 (midZ zs)) a) b (c + 1) = S + smT b c * (colZ (tab16 (midZ zs)) a).getD c 0) := hide (by rw [unhide hS]; rfl)
                  have hck : wr.cell? ⟨w.heap.size, 4 * c + a, none⟩ = some (.int .i64 (midZ zs (4 * c + a))) := by rw [(unhide hN).mid.cell _ (by omega), ints_tab16 _ _ (by omega)]
                  have hbw : w.heap.size < wr.heap.size := (unhide hN).mid.lt
                  have hx := hRow a halt c hclt
                  rw [colZ_getD _ a c hclt, tab16_getD _ _ (by omega)] at hnx hx
                  obtain ⟨q, hq⟩ : ∃ q, 4 * c + a = q := ⟨_, rfl⟩
                  have q1 : 4 * (c : Int) + (a : Int) = (q : Int) := by omega
                  have d1 : 4 * (b : Int) + (a : Int) = (p : Int) := by omega
                  rw [hq] at hck hnx hx
                  generalize midZ zs q = x at hck hnx hx
                  have q2 : q < 16 := by omega
                  have hT := hide (fun X => specL13T b c X hblt hclt)
                  have hPb := smT_mul b c x 393216 hx
                  generalize smT b c = m at hT hnx hPb
                  obtain ⟨P, hP⟩ : ∃ P, m * x = P := ⟨_, rfl⟩
                  rw [hP] at hnx hPb
                  obtain ⟨P0, P1⟩ := hPb
                  have hset := prt_set (outZ zs) rkS (4 * a + b) S (S + P) p hp16 (by unfold rkS; omega) (fun k hk e => by unfold rkS at e; omega)
                  have hdst0 : wr.cell? ⟨w.heap.size + 1, p, none⟩ = some (.int .i64 S) := by rw [(unhide hN).out.cell _ hp16, ints_tab16 _ _ hp16, prt_at _ _ _ _ _ (by unfold rkS; omega)]
                  have hdw : w.heap.size + 1 < wr.heap.size := (unhide hN).out.lt
                  have hcX := fun X : UpdT wr => cell_updS hck (by simpa using hbw) X
                  have hdX := fun X : UpdT wr => cell_updS hdst0 (by simpa using hdw) X
                  have w1 : IntKind.i64.wrap (4 * (b : Int)) = 4 * (b : Int) := wrapS (by omega)
                  have w1b : IntKind.i64.wrap (4 * (c : Int)) = 4 * (c : Int) := wrapS (by omega)
                  have w2 : IntKind.i64.wrap (q : Int) = (q : Int) := wrapS (by omega)
                  have w3 : IntKind.i64.wrap (p : Int) = (p : Int) := wrapS (by omega)
                  have w4 : IntKind.i64.wrap P = P := wrapS (by omega)
                  have w5 : IntKind.i64.wrap (S + P) = S + P := wrapS (by omega)
                  have i1 : (0 : Int) ≤ (q : Int) := by omega
                  have i2 : (q : Int) < 16 := by omega
                  have i3 : (0 : Int) ≤ (p : Int) := by omega
                  have i4 : (p : Int) < 16 := by omega
                  have i5 : (q : Int).toNat = q := by omega
                  have i6 : (p : Int).toNat = p := by omega
                  clear hck hdst0 hx hS hq
                  go_wp2_with fail
                  refine wq_region_tail 20 (by kernel_rfl) (by kernel_rfl) ?_
                  simp only [List.take_succ_cons, List.take_zero, List.drop_succ_cons, List.drop_zero]
                  refine WQ.step (fun K hK => ?_)
                  go_simp
                  refine hK _ ?_
                  clear hK K
                  refine WQ.step (fun K hK => ?_)
                  go_simp
                  refine hK _ ?_
                  clear hK K
                  refine WQ.step (fun K hK => ?_)
                  go_simp
                  refine hK _ ?_
                  clear hK K
                  refine WQ.step (fun K hK => ?_)
                  go_simp
                  refine hK _ ?_
                  clear hK K
                  refine WQ.step (fun K hK => ?_)
                  go_simp
                  refine hK _ ?_
                  clear hK K
                  refine WQ.step (fun K hK => ?_)
                  go_simp
                  refine hK _ ?_
                  clear hK K
                  refine WQ.step (fun K hK => ?_)
                  go_simp
                  refine hK _ ?_
                  clear hK K
                  refine WQ.step (fun K hK => ?_)
                  go_simp
                  refine hK _ ?_
                  clear hK K
                  refine WQ.step (fun K hK => ?_)
                  go_simp
                  refine hK _ ?_
                  clear hK K
                  refine WQ.step (fun K hK => ?_)
                  go_simp
                  refine ⟨_, fun X => Calls.updT X (unhide hT X.to), hK _ ?_⟩
                  clear hK K
                  refine WQ.step (fun K hK => ?_)
                  go_simp
                  refine hK _ ?_
                  clear hK K
                  refine WQ.step (fun K hK => ?_)
                  go_simp
                  refine hK _ ?_
                  clear hK K
                  refine WQ.step (fun K hK => ?_)
                  go_simp
                  refine hK _ ?_
                  clear hK K
                  refine WQ.step (fun K hK => ?_)
                  go_simp
                  refine hK _ ?_
                  clear hK K
                  refine WQ.step (fun K hK => ?_)
                  go_simp
                  refine hK _ ?_
                  clear hK K
                  refine WQ.step (fun K hK => ?_)
                  go_simp
                  refine hK _ ?_
                  clear hK K
                  refine WQ.step (fun K hK => ?_)
                  go_simp
                  refine hK _ ?_
                  clear hK K
                  refine WQ.step (fun K hK => ?_)
                  go_simp
                  refine hK _ ?_
                  clear hK K
                  refine WQ.step (fun K hK => ?_)
                  go_simp
                  refine hK _ ?_
                  clear hK K
                  refine WQ.step (fun K hK => ?_)
                  go_simp
                  refine hK _ ?_
                  clear hK K
                  refine WQ.nil ?_
                  rintro _ ⟨X, rfl⟩
                  clear hcX hdX hT
                  have hX := X.upd
                  generalize X.to = wt at hX ⊢
                  have hN2 := (unhide hN).upd hX
                  have hput := hide (hN2.putO p (S + P))
                  rw [hset] at hput
                  have hdst := hN2.out.has p hp16
                  obtain ⟨old, hdst⟩ := hdst
                  have hfz := hN2.out.frozen p
                  clear hN hN2 hX hset
                  go_wp2_with fail
                  go_roundw
                  case rel => exact ⟨c + 1, S + P, by omega, by go_num, hide (unhide hnx).symm, hput⟩
                  case measure => simp [intOf]; omega
                · obtain rfl : c = 4 := by omega
                  have hN2 : Hid (FwSt w wr (tab16 (midZ zs)) (tab16 (prt (outZ zs) rkS (4 * a + (b + 1)) 0))) := hide (by
                    have h := unhide hN
                    rw [prt_next (outZ zs) rkS (4 * a + b) S (fun k hk e => by
                      unfold rkS at e
                      rw [unhide hS]
                      unfold outZ sumS; rw [show k / 4 = b by omega, show k % 4 = a by omega])] at h
                    exact h)
                  clear hN
                  go_wp2_with fail
                  go_roundw
                  case rel => exact ⟨b + 1, by omega, by go_num, hN2⟩
                  case measure => simp [intOf]; omega
            · obtain rfl : b = 4 := by omega
              have hN2 : Hid (FwSt w wr (tab16 (midZ zs)) (tab16 (prt (outZ zs) rkS (4 * (a + 1)) 0))) := hide (by have h := unhide hN; rw [show 4 * (a + 1) = 4 * a + 4 by omega]; exact h)
              clear hN
              go_wp2_with fail
              go_roundw
              case rel => exact ⟨a + 1, by omega, by go_num, hN2⟩
              case measure => simp [intOf]; omega
        · have ha4 : a = 4 := by omega
          have hN2 : Hid (FwSt w wr (tab16 (midZ zs)) (tab16 (outZ zs))) := hide (by
            have h := unhide hN
            rw [ha4] at h
            rw [show 4 * 4 = 16 from rfl, prt_done (outZ zs) rkS rkS_lt] at h
            exact h)
          have hab : decide ((a : Int) < 4) = false := decide_eq_false (by omega)
          clear hN hRow
          go_wp2_with fail
          have hO := (unhide hN2).out.own
          have hlt := (unhide hN2).out.lt
          have hO2 : OwnI wr w.heap.size wr.heap.size (.slice (some ⟨w.heap.size + 1, 0, none⟩) 16 16) (turn4 sumS (turn4 sumS zs)) := by
            rw [fwd_out]
            have h := own_mono hO (Nat.le_succ _) (Nat.succ_le_of_lt hlt)
            unfold OwnI
            rw [tab16_length]
            exact h
          have hU := Upd.of_below (unhide hN2).bel 0 0
          go_ret
          exact ⟨_, rfl, hO2, hU⟩
end Go.Proofs.YtpofmcepjmbmcaaDoor

/- Small blocks forward: the specification. -/
namespace Go.Proofs.YtpofmcepjmbmcaaDoor
open Go.RowKit

set_option maxHeartbeats 4000000 in
theorem specSmallForward (v : Value) (zs : List Int) (w : World) (hn : zs.length ≤ 1048576) (_hR : InI zs) (hv : RdC w v zs) :
    Calls Tryd.prog 28 #[v] w fun e w' => ∃ u, e = .returned u ∧ OwnI w' w.heap.size w'.heap.size u (smFwd zs) ∧ Upd 0 0 w w' := by
  obtain ⟨ad, cap, rfl, _, _, hA⟩ := hv
  have hB := hide (specL13Small ad cap zs w hn hA)
  by_cases h1 : SmOk zs
  case neg =>
    rw [smB_no h1] at hB
    rw [smFwd_no h1]
    clear h1
    go_enter Tryd.func28, Tryd.ntmps28
    go_wp2_with fail
    refine (unhide hB).mono ?_
    rintro e w1 ⟨rfl, hw⟩
    subst hw
    clear hB
    go_wp2
    go_ret
    exact ⟨_, rfl, own_nilI _ _ _, Upd.refl 0 0 _⟩
  rw [smB_yes h1] at hB
  have hE := hide (smFwd_yes h1)
  have hC := hide (specL13Forward ad cap zs w h1.1 (smOk_inR h1) hA)
  rw [h1.1] at hB ⊢
  clear h1
  go_enter Tryd.func28, Tryd.ntmps28
  go_wp2_with fail
  refine (unhide hB).mono ?_
  rintro e w1 ⟨rfl, hw⟩
  subst hw
  clear hB
  go_wp2_with fail
  refine (unhide hC).mono ?_
  rintro e w3 ⟨u, rfl, ho, hu3⟩
  replace hu := hide hu3
  replace ho := hide ho
  clear hC
  obtain ⟨a, c, rfl, _⟩ := readK_of_own (unhide ho)
  go_wp2
  go_ret
  exact ⟨_, rfl, by rw [unhide hE]; exact unhide ho, unhide hu⟩
end Go.Proofs.YtpofmcepjmbmcaaDoor
