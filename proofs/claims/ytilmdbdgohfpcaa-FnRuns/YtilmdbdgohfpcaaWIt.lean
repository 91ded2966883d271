import Derived.RangeFuncNested
import Derived.RangeFuncLeaves
namespace Go.Proofs.Ytilmdbdgohfpcaa
open Go Go.RowKit

/-! An iterator that lays blocks of its own, turns them, and may range over another: its contract names the set Z of its blocks. -/

/-- What an iterator's step may do: the blocks of Z may turn, new ones may be laid. -/
structure Turns (Z : Nat → Prop) (W W' : World) : Prop where
  os : W'.os = W.os
  tape : W'.tape = W.tape
  output : W'.output = W.output
  size : W.heap.size ≤ W'.heap.size
  block : ∀ k, k < W.heap.size → ¬ Z k → W'.heap[k]? = W.heap[k]?

theorem Turns.refl (Z : Nat → Prop) (W : World) : Turns Z W W := ⟨rfl, rfl, rfl, Nat.le_refl _, fun _ _ _ => rfl⟩
theorem Turns.wide {Z Z' : Nat → Prop} {W W' : World} (h : Turns Z W W') (hz : ∀ k, Z k → Z' k) : Turns Z' W W' :=
  ⟨h.os, h.tape, h.output, h.size, fun k hk hn => h.block k hk (fun e => hn (hz k e))⟩
theorem Turns.of_grownBy {Z : Nat → Prop} {W W' : World} {row : Option Nat} (h : W.grownBy W' row) (hz : ∀ k, row = some k → Z k) : Turns Z W W' :=
  ⟨h.os, h.tape, h.output, h.size, fun k hk hn => h.block k hk (fun e => hn (hz k e.symm))⟩
theorem Turns.alloc (Z : Nat → Prop) (W : World) (o : Obj) : Turns Z W (W.alloc o) := .of_grownBy (World.grownBy_alloc W o none) (fun _ e => by cases e)
theorem Turns.putObj {Z : Nat → Prop} {l : Nat} (W : World) (o : Obj) (hz : Z l) : Turns Z W (W.putObj l o) :=
  .of_grownBy (grownBy_putObj' W l o) (fun _ e => by cases e; exact hz)

/-- Z' holds no more than Z and what has been laid from W to W'. -/
def Laid (Z Z' : Nat → Prop) (W W' : World) : Prop := ∀ k, Z' k → Z k ∨ (W.heap.size ≤ k ∧ k < W'.heap.size)
theorem Laid.same (Z : Nat → Prop) (W W' : World) : Laid Z Z W W' := fun _ h => .inl h

/-- A caller's invariant that minds no step of an iterator's. -/
def Abid {β : Type} (J : (Nat → Prop) → β → World → Prop) : Prop :=
  ∀ Z Z' s W W', J Z s W → Turns Z W W' → Laid Z Z' W W' → J Z' s W'

/-- What a round keeps. -/
structure Keeps (M : Nat → Prop) (W W' : World) : Prop where
  size : W.heap.size ≤ W'.heap.size
  block : ∀ k, M k → W'.heap[k]? = W.heap[k]?

theorem Keeps.refl (M : Nat → Prop) (W : World) : Keeps M W W := ⟨Nat.le_refl _, fun _ _ => rfl⟩
theorem Keeps.trans {M : Nat → Prop} {A B C : World} (h : Keeps M A B) (k : Keeps M B C) : Keeps M A C :=
  ⟨Nat.le_trans h.size k.size, fun i hi => (k.block i hi).trans (h.block i hi)⟩
theorem Keeps.less {M M' : Nat → Prop} {A B : World} (h : Keeps M A B) (hm : ∀ k, M' k → M k) : Keeps M' A B := ⟨h.size, fun k hk => h.block k (hm k hk)⟩

variable {F : Fence} {n : Nat} {P : Program}

/-- An iterator's contract: M: the blocks that it has been handed; Z: those that it lays. -/
def SeqZ {α : Type} (F : Fence) (n : Nat) (P : Program) (g : Nat) (lb : Array Value) (encs : α → Array Value) (M : Nat → Prop) (S Sp : List α → Prop) (w : World) : Prop :=
  ∀ (l : Nat) (J Jx : (Nat → Prop) → List α → World → Prop) (W : World), Below w.heap.size w W → Abid J → Abid Jx →
    (∀ Z pre x W1, (∀ k, Z k → k < W1.heap.size) → J Z pre W1 → Sp (pre ++ [x]) → YieldAt F (n - 1) P l (encs x) W1 fun e W' =>
      Keeps (fun k => M k ∨ Z k) W1 W' ∧ ((e = .returned (.bool true) ∧ J Z (pre ++ [x]) W') ∨ (e = .returned (.bool false) ∧ Jx Z (pre ++ [x]) W'))) →
    J (fun _ => False) [] W →
    CallsIn F n P g (#[.func (.yield l) #[] #[]] ++ lb) W fun e W' => (∃ v, e = .returned v) ∧
      ((∃ Z xs, S xs ∧ (∀ k, Z k → k < W'.heap.size) ∧ J Z xs W') ∨ (∃ Z pre, Sp pre ∧ (∀ k, Z k → k < W'.heap.size) ∧ Jx Z pre W'))

/-- How the body of a round may be left. -/
def postZ {α : Type} (M Z : Nat → Prop) (I : (Nat → Prop) → List α → World → Prop) (Ix : Code → (Nat → Prop) → List α → World → Prop) (xs : List α) (W : World) : Exit → Act → World → Prop
  | .normal, _, W' => Keeps (fun k => M k ∨ Z k) W W' ∧ I Z xs W'
  | .ret, _, W' => Keeps (fun k => M k ∨ Z k) W W' ∧ Ix .ret Z xs W'
  | .exit id, _, W' => Keeps (fun k => M k ∨ Z k) W W' ∧ Ix (.exit id) Z xs W'
  | .goto t, _, W' => Keeps (fun k => M k ∨ Z k) W W' ∧ Ix (.goto t) Z xs W'
  | .panic _, _, _ => False
  | .outgrown, _, _ => False

theorem wpIn_rangeZ {α : Type} {g : Operand} {ps : Array Tmp} {assign body : Code} {Q : Exit → Act → World → Prop} {a : Act} {w : World}
    (hro : F.round = none) (h1 : 1 ≤ n) {gf : Nat} {lb : Array Value} (hg : a.eval g = .func (.func gf) #[] lb) (hFg : F.fn gf) (eg : ∀ args w, (callFunc gf args).run P w = .ok (.enter gf args) w)
    {encs : α → Array Value} {M : Nat → Prop} {S Sp : List α → Prop} {w0 : World} (hseq : SeqZ F (n - 1) P gf lb encs M S Sp w0)
    (hM : ∀ k, M k → k < w.heap.size) (hb0 : Below w0.heap.size w0 w) (hps : ∀ x, (encs x).size = ps.size)
    (I : (Nat → Prop) → List α → World → Prop) (Ix : Code → (Nat → Prop) → List α → World → Prop) (hI : Abid I) (hIx : ∀ c, Abid (Ix c)) (h0 : I (fun _ => False) [] w) (a₁ : α → Act)
    (hassign : ∀ (l : Nat) (x : α) (W : World) (K : Act → World → Prop), K (a₁ x) W →
      assign.wpIn (F.inRound l) (n - 1 - 1) P (Exit.then K (fun _ _ _ => False)) { tmps := (ps.zip (encs x)).foldl (fun t (p, v) => t.setIfInBounds p v) a.tmps, defers := [] } W)
    (hbody : ∀ (l : Nat) (Z : Nat → Prop) (pre : List α) (x : α) (W : World), (∀ k, Z k → w.heap.size ≤ k ∧ k < W.heap.size) → I Z pre W → Sp (pre ++ [x]) →
      body.wpIn (F.inRound l) (n - 1 - 1) P (postZ M Z I Ix (pre ++ [x]) W) (a₁ x) W)
    (hdone : ∀ (D : Nat) (Z : Nat → Prop) (xs : List α) (W : World), (∀ k, Z k → w.heap.size ≤ k ∧ k < W.heap.size) → Z D → S xs → I Z xs W → W.heap[D]? = some (.deferred (some [])) →
      Q .normal { a with defers := { target := .collected D, args := #[] } :: a.defers } W)
    (hstop : ∀ (D : Nat) (Z : Nat → Prop) (c : Code) (pre : List α) (W : World), (∀ k, Z k → w.heap.size ≤ k ∧ k < W.heap.size) → Z D → Sp pre → Ix c Z pre W → W.heap[D]? = some (.deferred (some [])) →
      c.wpIn F n P Q { a with defers := { target := .collected D, args := #[] } :: a.defers } W) :
    (Code.rangeFunc g ps assign body).wpIn F n P Q a w := by
  refine wpIn_rangeFunc fun fn hfn => ?_
  rw [hro]
  -- the two blocks that the loop lays: the block for deferred calls, and the loop's record
  obtain ⟨B, hB⟩ : ∃ B, w.heap.size = B := ⟨_, rfl⟩
  obtain ⟨rec, hrec⟩ : ∃ rec : LoopState → Option Code → Loop, rec = fun st pe => { state := st, pending := pe, fn, tmps := a.tmps, params := ps, assign, body, defers := B } := ⟨_, rfl⟩
  have hrun := run_enterLoop_outer (P := P) (w := w) fn a.tmps ps assign body
  obtain ⟨W1, hW1⟩ : ∃ W1, (w.alloc (.deferred (some []))).alloc (.loop (rec .ready none)) = W1 := ⟨_, rfl⟩
  have hrecB : (w.alloc (.deferred (some []))).alloc (.loop { state := .ready, pending := none, fn, tmps := a.tmps, params := ps, assign, body, defers := w.heap.size }) = W1 := by
    rw [← hW1, hrec, hB]
  have hT1 : Turns (fun _ => False) w W1 := by
    rw [← hW1]
    exact ⟨rfl, rfl, rfl, by simp; omega, fun k hk _ => (Below.heap_alloc _ _ _ (by simp; omega)).trans (Below.heap_alloc _ _ _ hk)⟩
  have hs1 : W1.heap.size = B + 2 := by rw [← hW1]; simp; omega
  have hl1 : W1.heap[B + 1]? = some (.loop (rec .ready none)) := by
    rw [← hW1, ← hB]; have := World.alloc_heap_new (w.alloc (.deferred (some []))) (.loop (rec .ready none)); rwa [World.size_alloc] at this
  have hk1 : W1.heap[B]? = some (.deferred (some [])) := by
    rw [← hW1, ← hB]; exact (Below.heap_alloc _ _ _ (by simp)).trans (World.alloc_heap_new w _)
  have hb1 : Below w0.heap.size w0 W1 :=
    ⟨hT1.os.trans hb0.os, hT1.tape.trans hb0.tape, hT1.output.trans hb0.output, Nat.le_trans hb0.size hT1.size,
      fun k hk => (hT1.block k (Nat.lt_of_lt_of_le hk hb0.size) (fun e => e)).trans (hb0.block k hk)⟩
  refine ⟨B + 1, [{ target := .collected B, args := #[] }], W1, { target := .fn (.func gf) lb, args := #[.func (.yield (B + 1)) #[] #[]] }, W1, gf,
    #[.func (.yield (B + 1)) #[] #[]] ++ lb, W1, ?_, ?_, ?_, ?_, fun _ => h1, ?_⟩
  · rw [← hrecB, ← hB]; exact hrun
  · simp only [resolve, hg]
    simp [go_sem]
  · intro f' hf'; simp [Target.leads] at hf'; subst hf'; exact hFg
  · simp [invoke, go_sem, eg]
  -- the caller's invariant with the loop's two blocks laid to the iterator's
  have hup : ∀ {Z Z' : Nat → Prop} {A A' : World}, Laid Z Z' A A' → Laid (fun k => Z k ∨ k = B ∨ k = B + 1) (fun k => Z' k ∨ k = B ∨ k = B + 1) A A' := by
    intro Z Z' A A' h k hk
    rcases hk with hk | hk
    · exact (h k hk).imp .inl id
    · exact .inl (.inr hk)
  have step : ∀ {Z Z' : Nat → Prop} {A A' : World} {o o' : Obj}, Turns Z A A' → Laid Z Z' A A' → (∀ k, Z k → B + 1 < k) → A.heap[B + 1]? = some o → A.heap[B]? = some o' →
      (∀ k, Z' k → B + 1 < k) ∧ A'.heap[B + 1]? = some o ∧ A'.heap[B]? = some o' := by
    intro Z Z' A A' o o' ht hz hZ h1 h2
    have hlt := (Array.getElem?_eq_some_iff.1 h1).1
    refine ⟨fun k hk => ?_, (ht.block _ hlt (fun e => by have := hZ _ e; omega)).trans h1, (ht.block _ (by omega) (fun e => by have := hZ _ e; omega)).trans h2⟩
    rcases hz k hk with h | h
    · exact hZ k h
    · omega
  refine (hseq (B + 1)
    (fun Z pre W => I (fun k => Z k ∨ k = B ∨ k = B + 1) pre W ∧ (∀ k, Z k → B + 1 < k) ∧ W.heap[B + 1]? = some (.loop (rec .ready none)) ∧ W.heap[B]? = some (.deferred (some [])))
    (fun Z pre W => ∃ c, Ix c (fun k => Z k ∨ k = B ∨ k = B + 1) pre W ∧ (∀ k, Z k → B + 1 < k) ∧ W.heap[B + 1]? = some (.loop (rec .done (some c))) ∧ W.heap[B]? = some (.deferred (some [])))
    W1 hb1
    (fun Z Z' s A A' hs ht hz => ⟨hI _ _ _ _ _ hs.1 (ht.wide fun _ h => .inl h) (hup hz), step ht hz hs.2.1 hs.2.2.1 hs.2.2.2⟩)
    (fun Z Z' s A A' hs ht hz => by
      obtain ⟨c, hc, h2, h3, h4⟩ := hs
      exact ⟨c, hIx c _ _ _ _ _ hc (ht.wide fun _ h => .inl h) (hup hz), step ht hz h2 h3 h4⟩)
    ?_ ⟨?_, fun _ h => h.elim, hl1, hk1⟩).mono ?_
  · -- one round
    rintro Z pre x W hZ ⟨hi, hZl, hl, hk⟩ hlen
    have hlt : B + 1 < W.heap.size := (Array.getElem?_eq_some_iff.1 hl).1
    have hy := run_yield (P := P) (args := encs x) hl (by rw [hrec]; exact hps x)
    rw [hrec] at hy
    refine ⟨fn, _, assign, body, hy, roundIn_of_wpIn hfn (hassign _ x W _ ⟨_, run_beginRound hl (by rw [hrec]), ?_⟩)⟩
    obtain ⟨W2, hW2⟩ : ∃ W2, W.putObj (B + 1) (.loop { rec .ready none with state := .busy }) = W2 := ⟨_, rfl⟩
    have hl2 : W2.heap[B + 1]? = some (.loop { rec .ready none with state := .busy }) := by rw [← hW2]; exact World.putObj_heap_same hlt
    have ho2 : ∀ k, k ≠ B + 1 → W2.heap[k]? = W.heap[k]? := fun k hk => by rw [← hW2]; exact World.putObj_heap_other hk
    have hs2 : W2.heap.size = W.heap.size := by rw [← hW2]; simp
    have hi2 : I (fun k => Z k ∨ k = B ∨ k = B + 1) pre W2 := hI _ _ _ _ _ hi (by rw [← hW2]; exact Turns.putObj _ _ (.inr (.inr rfl))) (Laid.same _ _ _)
    rw [hW2]
    refine wpIn_mono (hbody _ _ pre x W2 (fun k hk => ?_) hi2 hlen) ?_
    · rcases hk with hk | hk
      · have a1 := hZ k hk
        have a2 := hZl k hk
        omega
      · omega
    -- what is left when the round is over
    have fin : ∀ (jump : Option Code) (W3 : World), Keeps (fun k => M k ∨ Z k ∨ k = B ∨ k = B + 1) W2 W3 →
        (Instr.endRound (B + 1) jump).run P W3 = .ok (.bool jump.isNone) (W3.putObj (B + 1) (.loop (rec (if jump.isNone then .ready else .done) jump))) ∧
        Keeps (fun k => M k ∨ Z k) W (W3.putObj (B + 1) (.loop (rec (if jump.isNone then .ready else .done) jump))) ∧
        (∀ k, Z k → B + 1 < k) ∧
        (W3.putObj (B + 1) (.loop (rec (if jump.isNone then .ready else .done) jump))).heap[B + 1]? = some (.loop (rec (if jump.isNone then .ready else .done) jump)) ∧
        (W3.putObj (B + 1) (.loop (rec (if jump.isNone then .ready else .done) jump))).heap[B]? = some (.deferred (some [])) := fun jump W3 hk3 => by
      have hl3 := (hk3.block (B + 1) (.inr (.inr (.inr rfl)))).trans hl2
      have hk4 := (hk3.block B (.inr (.inr (.inl rfl)))).trans ((ho2 B (by omega)).trans hk)
      have := run_endRound (P := P) jump hl3
      rw [hrec] at this ⊢
      refine ⟨this, ⟨by have := hk3.size; simp; omega, fun k hk => ?_⟩, hZl, World.putObj_heap_same (Array.getElem?_eq_some_iff.1 hl3).1, (World.putObj_heap_other (by omega)).trans hk4⟩
      have hne : k ≠ B + 1 := by
        rcases hk with hk | hk
        · have := hM k hk; omega
        · have := hZl k hk; omega
      exact (World.putObj_heap_other hne).trans ((hk3.block k (hk.imp id .inl)).trans (ho2 k hne))
    have turn : ∀ (o : Obj) (W3 : World), Turns (fun k => Z k ∨ k = B ∨ k = B + 1) W3 (W3.putObj (B + 1) o) := fun o W3 => Turns.putObj _ _ (.inr (.inr rfl))
    rintro e a3 W3 hp
    cases e with
    | normal =>
      obtain ⟨hr, hkp, h⟩ := fin none W3 hp.1
      exact ⟨_, _, hr, hkp, .inl ⟨rfl, hI _ _ _ _ _ hp.2 (turn _ _) (Laid.same _ _ _), h⟩⟩
    | ret =>
      obtain ⟨hr, hkp, h⟩ := fin (some .ret) W3 hp.1
      exact ⟨_, _, hr, hkp, .inr ⟨rfl, .ret, hIx _ _ _ _ _ _ hp.2 (turn _ _) (Laid.same _ _ _), h⟩⟩
    | exit id =>
      obtain ⟨hr, hkp, h⟩ := fin (some (.exit id)) W3 hp.1
      exact ⟨_, _, hr, hkp, .inr ⟨rfl, .exit id, hIx _ _ _ _ _ _ hp.2 (turn _ _) (Laid.same _ _ _), h⟩⟩
    | goto t =>
      obtain ⟨hr, hkp, h⟩ := fin (some (.goto t)) W3 hp.1
      exact ⟨_, _, hr, hkp, .inr ⟨rfl, .goto t, hIx _ _ _ _ _ _ hp.2 (turn _ _) (Laid.same _ _ _), h⟩⟩
    | panic ch => exact hp.elim
    | outgrown => exact hp.elim
  · exact hI _ _ _ _ _ h0 hT1 (fun k hk => by
      rcases hk with hk | hk
      · exact hk.elim
      · exact .inr (by omega))
  · -- behind the iterator
    have bnd : ∀ {Z : Nat → Prop} {W2 : World} (o : Obj), (∀ k, Z k → k < W2.heap.size) → (∀ k, Z k → B + 1 < k) → B + 1 < W2.heap.size →
        ∀ k, (Z k ∨ k = B ∨ k = B + 1) → w.heap.size ≤ k ∧ k < (W2.putObj (B + 1) o).heap.size := fun o h1 h2 h3 k hk => by
      rcases hk with hk | hk
      · have a1 := h1 k hk
        have a2 := h2 k hk
        simp; omega
      · simp; omega
    rintro e W2 ⟨⟨v, rfl⟩, (⟨Z, xs, hS, hzs, hi, hZ, hl, hk⟩ | ⟨Z, pre, hSp, hzs, c, hi, hZ, hl, hk⟩)⟩
    · have hlt : B + 1 < W2.heap.size := (Array.getElem?_eq_some_iff.1 hl).1
      have he := run_endLoop (P := P) hl (by rw [hrec]; simp)
      rw [hrec] at he
      exact ⟨none, _, he, hdone B _ xs _ (bnd _ hzs hZ hlt) (.inr (.inl rfl)) hS (hI _ _ _ _ _ hi (Turns.putObj _ _ (.inr (.inr rfl))) (Laid.same _ _ _)) ((World.putObj_heap_other (by omega)).trans hk)⟩
    · have hlt : B + 1 < W2.heap.size := (Array.getElem?_eq_some_iff.1 hl).1
      have he := run_endLoop (P := P) hl (by rw [hrec]; simp)
      rw [hrec] at he
      exact ⟨some c, _, he, hstop B _ c pre _ (bnd _ hzs hZ hlt) (.inr (.inl rfl)) hSp (hIx c _ _ _ _ _ hi (Turns.putObj _ _ (.inr (.inr rfl))) (Laid.same _ _ _)) ((World.putObj_heap_other (by omega)).trans hk)⟩
end Go.Proofs.Ytilmdbdgohfpcaa
