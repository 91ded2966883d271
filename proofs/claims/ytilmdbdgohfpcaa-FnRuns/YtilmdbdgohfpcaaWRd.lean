/- A region that draws its order, within a round of a range over a function: what is shown of it outside serves inside, if it has no defer statement. -/
import Derived.Test.YtilmdbdgohfpcaaWIt
import Derived.Test.YtilmdbdgohfpcaaWQM
import Derived.OrdersIn
namespace Go.Proofs.Ytilmdbdgohfpcaa
open Go Go.RowKit

/-- No operation is a defer statement. -/
def noDeferB (l : List Oper) : Bool := l.all fun o => match o.op with
  | .defer _ => false
  | _ => true
theorem noDeferB_spec {l : List Oper} (h : noDeferB l = true) {i : Nat} {o : Oper} (hi : l.toArray[i]? = some o) : ∀ c, o.op ≠ .defer c := by
  intro c hc
  have hi' : l[i]? = some o := by simpa using hi
  have := List.all_eq_true.1 h o (List.mem_of_getElem? hi')
  rw [hc] at this
  cases this

theorem rowsIn_round {l n : Nat} {P : Program} {row : String} {args : Array Value} {w : World} {R : Value → World → Prop} (h : Rows P row args w R) : RowsIn (Fence.wide.inRound l) n P row args w R :=
  fun c cs _ => let ⟨v, w', r, s⟩ := h c cs; ⟨v, w', r, stepsIn_wide.2 s⟩

theorem callsIn_round {l n : Nat} {P : Program} {f : FuncId} {args : Array Value} {w : World} {R : Ending → World → Prop} (h : Calls P f args w R) : CallsIn (Fence.wide.inRound l) n P f args w R :=
  (callsIn_wide (n := n)).2 h

theorem Oper.wpIn_round {l n : Nat} {P : Program} {o : Oper} {a : Act} {w : World} {K : Act → World → Prop} {Q : Exit → Act → World → Prop} (hd : ∀ c, o.op ≠ .defer c) (h : o.wp P a w K Q) :
    o.wpIn (Fence.wide.inRound l) n P a w K Q := by
  refine ⟨fun _ _ => trivial, ?_⟩
  rw [Fence.inRound_round, Oper.semAt_some l _ _ hd]
  unfold Oper.wp at h
  generalize (execOp a.eval o).run P w = r at *
  have hdp : (Fence.wide.inRound l).depth.isSome = true → 1 ≤ n := fun h => by simp [Fence.wide] at h
  cases r with
  | ok x w' =>
    cases x <;> simp only [Oper.upon, Oper.uponIn] at h ⊢ <;>
      first
        | exact h
        | exact ⟨hdp, callsIn_round h⟩
        | exact ⟨hdp, rowsIn_round h⟩
  | halt x w' => cases x <;> simp only [Oper.upon, Oper.uponIn] at h ⊢ <;> exact h

theorem wpAnyIn_round {l0 n : Nat} {P : Program} {md : Region.Mode} {l : List Oper} {Q : Exit → Act → World → Prop} (hd : noDeferB l = true) (hno : ¬ LetsOut Q) (f : Nat) :
    ∀ (b : Array Bool) (a : Act) (w : World), wpAny P md l.toArray Q f b a w → wpAnyIn (Fence.wide.inRound l0) n P md l.toArray Q f b a w := by
  induction f with
  | zero => exact fun b a w h => h
  | succ f ih =>
    refine fun b a w h => ⟨h.1, fun i hi => ?_⟩
    have h2 := h.2 i hi
    unfold wpOp at h2
    unfold wpOpIn
    split
    · rename_i hn; simp only [hn] at h2; exact ih _ _ _ h2
    · rename_i o ho
      simp only [ho] at h2
      split
      · rename_i hw
        simp only [hw, if_true] at h2
        exact Oper.wpIn_mono (fun a w h => ih _ a w h) (Oper.wpIn_round (noDeferB_spec hd ho) (h2.resolve_right fun h => hno h.2))
      · rename_i hw
        simp only [hw] at h2
        exact ⟨fun _ _ => trivial, ih _ _ _ h2⟩

/-- By its end alone. -/
abbrev onlyN (Q : Exit → Act → World → Prop) : Exit → Act → World → Prop := fun e a w => e = .normal ∧ Q .normal a w
theorem onlyN_no {Q : Exit → Act → World → Prop} : ¬ LetsOut (onlyN Q) := fun ⟨_, _, h, _⟩ => by cases h
theorem wpIn_region_any_round {id l0 n : Nat} {P : Program} {l : List Oper} {Q : Exit → Act → World → Prop} {a : Act} {w : World} (hm : P.follows .mixedOrders = true) (hd : noDeferB l = true)
    (h : wpAny P .any l.toArray (onlyN Q) l.toArray.size (Array.replicate l.toArray.size false) a { w with drawn := w.drawn + 1 }) : (Code.region id l.toArray true).wpIn (Fence.wide.inRound l0) n P Q a w :=
  wpIn_mono (wpIn_region_any hm (wpAnyIn_round hd onlyN_no _ _ _ _ h)) fun e a w h => by
    obtain ⟨rfl, h⟩ := h
    exact h
end Go.Proofs.Ytilmdbdgohfpcaa
