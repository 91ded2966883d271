/- Marks of loops over iterators among a function's deferred calls; a yield within a round. -/
import Derived.Test.YtilmdbdgohfpcaaWIt
namespace Go.Proofs.Ytilmdbdgohfpcaa
open Go Go.RowKit

/-- The marks of the loops that have run: each names a block of Z that holds no call. -/
def MarkL (Z : Nat → Prop) : List Deferred → World → Prop
  | [], _ => True
  | d :: ds, w => (∃ D, d = { target := .collected D, args := #[] } ∧ Z D ∧ w.heap[D]? = some (.deferred (some [])) ∧ ∀ e ∈ ds, e ≠ d) ∧ MarkL Z ds w

theorem MarkL.kept {Z Z' : Nat → Prop} : ∀ {ds : List Deferred} {w w' : World}, MarkL Z ds w → (∀ k, Z k → w'.heap[k]? = w.heap[k]?) → (∀ k, Z k → Z' k) → MarkL Z' ds w'
  | [], _, _, _, _, _ => trivial
  | _ :: _, _, _, ⟨⟨D, h1, h2, h3, h4⟩, h5⟩, hk, hz => ⟨⟨D, h1, hz D h2, (hk D h2).trans h3, h4⟩, MarkL.kept h5 hk hz⟩

theorem MarkL.mem {Z : Nat → Prop} {e : Deferred} : ∀ {ds : List Deferred} {w : World}, MarkL Z ds w → e ∈ ds → ∃ D, e = { target := .collected D, args := #[] } ∧ Z D
  | [], _, _, h => by cases h
  | d :: ds, w, ⟨⟨D, h1, h2, _, _⟩, h5⟩, h => by
    rcases List.mem_cons.1 h with h | h
    · exact ⟨D, h.trans h1, h2⟩
    · exact MarkL.mem h5 h
theorem MarkL.push {Z Z' : Nat → Prop} {ds : List Deferred} {w w' : World} {D : Nat} (h : MarkL Z ds w) (hk : ∀ k, Z k → w'.heap[k]? = w.heap[k]?) (hz : ∀ k, Z k → Z' k) (hn : ¬ Z D) (hz' : Z' D)
    (hd : w'.heap[D]? = some (.deferred (some []))) : MarkL Z' ({ target := .collected D, args := #[] } :: ds) w' :=
  ⟨⟨D, rfl, hz', hd, fun e he hc => by
    obtain ⟨E, h1, h2⟩ := h.mem he
    rw [h1] at hc
    injection hc with hc
    injection hc with hc
    subst hc
    exact hn h2⟩, h.kept hk hz⟩

theorem MarkL.other {Z : Nat → Prop} {D : Nat} {o : Obj} : ∀ {ds : List Deferred} {w : World}, MarkL Z ds w → (∀ e ∈ ds, e ≠ { target := .collected D, args := #[] }) → MarkL Z ds (w.putObj D o)
  | [], _, _, _ => trivial
  | d :: ds, w, ⟨⟨E, h1, h2, h3, h4⟩, h5⟩, hne => by
    refine ⟨⟨E, h1, h2, (World.putObj_heap_other (fun e => ?_)).trans h3, h4⟩, MarkL.other h5 (fun e he => hne e (List.mem_cons_of_mem _ he))⟩
    subst e
    exact hne d (List.mem_cons_self) h1

theorem leaves_marks {F : Fence} {n : Nat} {P : Program} {fn : Func} {tmps : Array Value} {R : Ending → World → Prop} {Z : Nat → Prop} : ∀ (ds : List Deferred) (w : World), MarkL Z ds w →
    (∀ w', Turns Z w w' → w'.heap.size = w.heap.size → ∃ v, (results fn tmps).run P w' = .ok v w' ∧ R (.returned v) w') → LeavesInM F n P fn tmps R ds .returning w
  | [], w, _, h => h w (Turns.refl _ _) rfl
  | d :: ds, w, ⟨⟨D, h1, h2, h3, h4⟩, h5⟩, h => by
    subst h1
    refine ⟨by simp, .inl ⟨_, _, rfl, run_takeDeferred h3, leaves_marks ds _ (MarkL.other h5 h4) fun w' ht hs => ?_⟩⟩
    have hp : Turns Z w (w.putObj D (.deferred none)) := Turns.putObj _ _ h2
    refine h w' ⟨ht.os.trans hp.os, ht.tape.trans hp.tape, ht.output.trans hp.output, Nat.le_trans hp.size ht.size, fun k hk hn => ?_⟩ (by rw [hs]; simp)
    exact (ht.block k (by simpa using hk) hn).trans (hp.block k hk hn)

theorem YieldAt.wide {m m' l l1 : Nat} {P : Program} {args : Array Value} {W : World} {R : Ending → World → Prop} (h : YieldAt Fence.wide m P l args W R) : YieldAt (Fence.wide.inRound l1) m' P l args W R := by
  obtain ⟨fn, tmps, assign, body, hy, h1, h2⟩ := h
  exact ⟨fn, tmps, assign, body, hy, h1, fun c cs _ => h2 c cs (fun d h => by cases h)⟩
theorem YieldAt.anyD {m m' l : Nat} {P : Program} {args : Array Value} {W : World} {R : Ending → World → Prop} (h : YieldAt Fence.wide m P l args W R) : YieldAt Fence.wide m' P l args W R := by
  obtain ⟨fn, tmps, assign, body, hy, h1, h2⟩ := h
  exact ⟨fn, tmps, assign, body, hy, h1, fun c cs _ => h2 c cs (fun d h => by cases h)⟩

theorem Turns.trans {Z Z' : Nat → Prop} {A B C : World} (h : Turns Z A B) (k : Turns Z' B C) (hz : ∀ i, Z' i → i < A.heap.size → Z i) : Turns Z A C :=
  ⟨k.os.trans h.os, k.tape.trans h.tape, k.output.trans h.output, Nat.le_trans h.size k.size, fun i hi hn =>
    (k.block i (Nat.lt_of_lt_of_le hi h.size) (fun e => hn (hz i e hi))).trans (h.block i hi hn)⟩
theorem Turns.of_below {Z : Nat → Prop} {A B : World} (h : Below A.heap.size A B) : Turns Z A B := ⟨h.os, h.tape, h.output, h.size, fun k hk _ => h.block k hk⟩
/-- What lay is as it lay where the steps' own blocks are none of it. -/
theorem Turns.keeps {Z M : Nat → Prop} {A B : World} (h : Turns Z A B) (hm : ∀ k, M k → k < A.heap.size) (hz : ∀ k, M k → ¬ Z k) : Keeps M A B := ⟨h.size, fun k hk => h.block k (hm k hk) (hz k hk)⟩
/-- An iterator over another: the caller's invariant with the outer one's own blocks Z0, as they lay in W0. -/
theorem abid_over {β γ : Type} {J : (Nat → Prop) → γ → World → Prop} (hJ : Abid J) {Z0 : Nat → Prop} {W0 : World} (hz0 : ∀ i, Z0 i → i < W0.heap.size) (f : β → γ) :
    Abid (fun Z (s : β) V => J (fun i => Z i ∨ Z0 i) (f s) V ∧ Keeps Z0 W0 V ∧ (∀ i, Z i → W0.heap.size ≤ i ∧ i < V.heap.size)) := by
  rintro Z Z' s V V' ⟨h1, h2, h3⟩ ht hz
  refine ⟨hJ _ _ _ _ _ h1 (ht.wide fun _ h => .inl h) (fun i hi => hi.elim (fun a => (hz i a).imp .inl id) (fun b => .inl (.inr b))),
    h2.trans (ht.keeps (fun i hi => Nat.lt_of_lt_of_le (hz0 i hi) h2.size) (fun i hi hn => ?_)), fun i hi => ?_⟩
  · have a1 := hz0 i hi
    have a2 := h3 i hn
    omega
  · have a1 := h2.size
    have a2 := ht.size
    rcases hz i hi with h | h
    · have a3 := h3 i h; omega
    · omega
end Go.Proofs.Ytilmdbdgohfpcaa
