/- The texts behind FnExactResize, part 1: what each of them says stands at its head. -/
import Derived.Test.YtkeplngifceegaaGResize0
import Derived.Maps.AppendAt
import Derived.Laws.AppendOwnNone
import Derived.Deep.DeepCutAuto
import Derived.Deep.RegionHeld3
import Derived.StillTailTactics
import Derived.Deep.Cut
import Derived.Deep.RegionWith
/- A region that draws its order: quiet operations (loads, arithmetic, calls that lay new blocks alone), ONE variable that is made somewhere among them, and a tail that waits for all: the quiet ones are walked once, in the text's order; the variable's block is then any new one. -/
namespace Go.Proofs.Ytkeplngifceegaa
open Go.RowKit

section
variable {P : Program} {ops : Array Oper} {md : Region.Mode} {W : World} {m : Nat}
/-- One value, in every world in which all that was there is as it was; a call may lay new blocks. -/
def oneUpon (P : Program) (w : World) (v : Value) : Result Next → Prop
  | .ok (.value u) w' => w' = w ∧ u = v
  | .ok .skip w' => w' = w ∧ v = undef
  | .ok (.enter f args) w' => w' = w ∧ Calls P f args w (fun e w'' => e = .returned v ∧ Upd 0 0 w w'')
  | _ => False
def oneAt (P : Program) (o : Oper) (a : Act) (W : World) (v : Value) : Prop := ∀ x : UpdT W, oneUpon P x.to v ((execOp a.eval o).run P x.to)
def oneK (P : Program) (ops : Array Oper) (W : World) (o : Oper) (K : Act → Prop) (a : Act) : Prop :=
  if Region.wanted o (yielded ops a.tmps) then ∃ v, oneAt P o a W v ∧ K (a.put o.dst v) else K (a.put o.dst undef)
def wpOne (P : Program) (ops : Array Oper) (W : World) (Q : Act → Prop) : List Oper → Act → Prop
  | [], a => Q a
  | o :: rest, a => oneK P ops W o (wpOne P ops W Q rest) a
structure WG (P : Program) (ops : Array Oper) (W : World) (Q : Act → Prop) (l : List Oper) (a : Act) : Prop where
  h : wpOne P ops W Q l a
theorem WG.nil {Q : Act → Prop} {a : Act} (h : Q a) : WG P ops W Q [] a := ⟨h⟩
def gOp (P : Program) (ops : Array Oper) (W : World) (m i : Nat) (K : Act → Prop) (a : Act) : Prop :=
  if i = m then K a else match ops[i]? with
  | none => K a
  | some o => oneK P ops W o K a
theorem oneK_mono {o : Oper} {a : Act} {K K' : Act → Prop} (h : ∀ a, K a → K' a) (hh : oneK P ops W o K a) : oneK P ops W o K' a := by
  unfold oneK at *
  split
  · rename_i hw; simp only [hw, if_true] at hh; obtain ⟨v, h1, h2⟩ := hh; exact ⟨v, h1, h _ h2⟩
  · rename_i hw; simp only [hw] at hh; exact h _ hh
theorem WG.step {Q : Act → Prop} {a : Act} {o : Oper} {rest : List Oper}
    (h : ∀ K : Act → Prop, (∀ a, WG P ops W Q rest a → K a) → if Region.wanted o (yielded ops a.tmps) then ∃ v, oneAt P o a W v ∧ K (a.put o.dst v) else K (a.put o.dst undef)) : WG P ops W Q (o :: rest) a :=
  ⟨h _ (fun _ h => h.h)⟩
theorem gOp_self {K : Act → Prop} {a : Act} : gOp P ops W m m K a = K a := by unfold gOp; rw [if_pos rfl]
theorem gOp_of {i : Nat} {K : Act → Prop} {a : Act} {o : Oper} (hne : i ≠ m) (ho : ops[i]? = some o) : gOp P ops W m i K a = oneK P ops W o K a := by
  unfold gOp; rw [if_neg hne]; simp only [ho]
theorem gOp_mono {i : Nat} {a : Act} {K K' : Act → Prop} (h : ∀ a, K a → K' a) (hh : gOp P ops W m i K a) : gOp P ops W m i K' a := by
  by_cases hi : i = m
  · subst hi; rw [gOp_self] at *; exact h _ hh
  · cases ho : ops[i]? with
    | none => unfold gOp at *; rw [if_neg hi] at *; simp only [ho] at *; exact h _ hh
    | some o => rw [gOp_of hi ho] at *; exact oneK_mono h hh
/-- What one operation yields in this state. -/
def OneIs (P : Program) (ops : Array Oper) (W : World) (o : Oper) (v : Value) (a : Act) : Prop :=
  (Region.wanted o (yielded ops a.tmps) = true ∧ oneAt P o a W v) ∨ (Region.wanted o (yielded ops a.tmps) = false ∧ v = undef)
theorem OneIs.oneK {o : Oper} {v : Value} {a : Act} (hy : OneIs P ops W o v a) {K : Act → Prop} (h : K (a.put o.dst v)) : oneK P ops W o K a := by
  unfold Go.Proofs.Ytkeplngifceegaa.oneK
  rcases hy with ⟨hw, hv⟩ | ⟨hw, rfl⟩
  · simp only [hw, if_true]; exact ⟨v, hv, h⟩
  · simp only [hw, Bool.false_eq_true, if_false]; exact h
theorem OneIs.of_oneK {o : Oper} {a : Act} {K : Act → Prop} (h : Go.Proofs.Ytkeplngifceegaa.oneK P ops W o K a) : ∃ v, OneIs P ops W o v a ∧ K (a.put o.dst v) := by
  unfold Go.Proofs.Ytkeplngifceegaa.oneK at h
  by_cases hw : Region.wanted o (yielded ops a.tmps) = true
  · simp only [hw, if_true] at h; obtain ⟨v, h1, h2⟩ := h; exact ⟨v, .inl ⟨hw, h1⟩, h2⟩
  · simp only [hw] at h; exact ⟨undef, .inr ⟨by simpa using hw, rfl⟩, h⟩
theorem OneIs.same {o : Oper} {v : Value} {a a' : Act} (hy : OneIs P ops W o v a) (he : execOp a'.eval o = execOp a.eval o) (hw : Region.wanted o (yielded ops a'.tmps) = Region.wanted o (yielded ops a.tmps)) : OneIs P ops W o v a' := by
  unfold OneIs oneAt at *; rw [he, hw]; exact hy
theorem oneK_put {oi oj : Oper} {v : Value} (hap : oi.apart ops oj = true) (hsi : ∀ cs b, oi.op ≠ .select cs b) (hsj : ∀ cs b, oj.op ≠ .select cs b) {K : Act → Prop} {a : Act}
    (hy : OneIs P ops W oi v a) (h : oneK P ops W oj K (a.put oi.dst v)) : oneK P ops W oj (fun a' => OneIs P ops W oi v a' ∧ K (a'.put oi.dst v)) a := by
  obtain ⟨h1, h2, h3⟩ := Oper.apart_spec hap
  have keep : ∀ u, OneIs P ops W oi v (a.put oj.dst u) := fun u => hy.same (execOp_put oi hsi a oj.dst u h3) (wanted_put oi a oj.dst u h3)
  unfold oneK oneAt at *
  rw [wanted_put oj a oi.dst v h1, execOp_put oj hsj a oi.dst v h1] at h
  split
  · rename_i hw; simp only [hw, if_true] at h
    obtain ⟨u, hu, hn⟩ := h
    exact ⟨u, hu, keep u, by rw [← Act.put_comm a v u h2]; exact hn⟩
  · rename_i hw; simp only [hw] at h
    exact ⟨keep _, by rw [← Act.put_comm a v undef h2]; exact h⟩
/-- Whatever order is picked among the first n, with 'L' to be shown behind them. -/
def wpHeadG (P : Program) (md : Region.Mode) (ops : Array Oper) (W : World) (m n : Nat) (L : Array Bool → Act → Prop) : Nat → Array Bool → Act → Prop
  | 0, b, a => L b a
  | f + 1, b, a => Region.ready md ops b ≠ [] ∧ ∀ i ∈ Region.ready md ops b, i < n ∧ gOp P ops W m i (wpHeadG P md ops W m n L f (b.setIfInBounds i true)) a
theorem wpHeadG_first {n i : Nat} {oi : Oper} {v : Value} {L : Array Bool → Act → Prop} (hi : ops[i]? = some oi) (him : i ≠ m) (hsel : ∀ (j : Nat) (o : Oper) cs b, ops[j]? = some o → o.op ≠ .select cs b)
    (hs : Region.sinkB md ops n = true) (hc : Region.chainB md ops n = true) (hn : n < ops.size) (hin : i < n) (hdone : ∀ b a, L b a → ∀ j ∈ Region.ready md ops b, n ≤ j) (f : Nat) :
    ∀ (b : Array Bool) (a : Act), HeadInv md ops n b →
      (∀ j oj, ops[j]? = some oj → j ≠ i → b.getD j true = false → (∀ e ∈ oj.after, Region.binds md e = true → e.on ≠ i) → oi.apart ops oj = true) →
      i ∈ Region.ready md ops b → OneIs P ops W oi v a →
      wpHeadG P md ops W m n L f (b.setIfInBounds i true) (a.put oi.dst v) → wpHeadG P md ops W m n L (f + 1) b a := by
  have hself : ∀ (K : Act → Prop) a, OneIs P ops W oi v a → K (a.put oi.dst v) → gOp P ops W m i K a := fun K a hy h => by rw [gOp_of him hi]; exact hy.oneK h
  induction f with
  | zero =>
    intro b a inv _ hr hy H
    refine ⟨fun h => (by rw [h] at hr; cases hr), fun j hj => ?_⟩
    have hjn : j < n := Nat.lt_of_not_le fun h => tail_waits hs hc hn inv _ i rfl hin (mem_ready.1 hr).1 j h hj
    refine ⟨hjn, ?_⟩
    by_cases hji : j = i
    · subst hji; exact hself _ _ hy H
    · exact absurd (hdone _ _ H j (ready_mono hj hji)) (by omega)
  | succ f ih =>
    intro b a inv hfree hr hy H
    refine ⟨fun h => (by rw [h] at hr; cases hr), fun j hj => ?_⟩
    have hun := (mem_ready.1 hr).1
    have hjn : j < n := Nat.lt_of_not_le fun h => tail_waits hs hc hn inv _ i rfl hin hun j h hj
    refine ⟨hjn, ?_⟩
    by_cases hji : j = i
    · subst hji; exact hself _ _ hy H
    · obtain ⟨hjun, oj, hoj, hall⟩ := mem_ready.1 hj
      have hnot : ∀ e ∈ oj.after, Region.binds md e = true → e.on ≠ i := fun e he hb heq => by
        have h1 := hall e he hb
        rw [heq, getD_both hun] at h1
        cases h1
      have hfree' : ∀ k ok, ops[k]? = some ok → k ≠ i → (b.setIfInBounds j true).getD k true = false → (∀ e ∈ ok.after, Region.binds md e = true → e.on ≠ i) → oi.apart ops ok = true := fun k ok hk hki hun' hno => by
        refine hfree k ok hk hki ?_ hno
        by_cases hjk : j = k
        · subst hjk; exact hjun
        · rw [getD_set_ne true hjk] at hun'; exact hun'
      have hgo : ∀ a', OneIs P ops W oi v a' → wpHeadG P md ops W m n L f ((b.setIfInBounds i true).setIfInBounds j true) (a'.put oi.dst v) → wpHeadG P md ops W m n L (f + 1) (b.setIfInBounds j true) a' := fun a' hy' H' =>
        ih (b.setIfInBounds j true) a' (inv.set hj hjn) hfree' (ready_mono hr (Ne.symm hji)) hy' (by rw [Array.setIfInBounds_comm _ _ hji]; exact H')
      have H2 := (H.2 j (ready_mono hj hji)).2
      by_cases hjm : j = m
      · subst hjm
        rw [gOp_self] at H2 ⊢
        exact hgo a hy H2
      · rw [gOp_of hjm hoj] at H2 ⊢
        exact oneK_mono (fun a' h3 => hgo a' h3.1 h3.2) (oneK_put (hfree j oj hoj hji hjun hnot) (fun cs b => hsel i oi cs b hi) (fun cs b => hsel j oj cs b hoj) hy H2)
/-- The variable may be made first. -/
theorem wpHeadG_made {n : Nat} {L : Array Bool → Act → Prop}
    (hs : Region.sinkB md ops n = true) (hc : Region.chainB md ops n = true) (hn : n < ops.size) (hin : m < n) (hdone : ∀ b a, L b a → ∀ j ∈ Region.ready md ops b, n ≤ j) (f : Nat) :
    ∀ (b : Array Bool) (a : Act), HeadInv md ops n b → m ∈ Region.ready md ops b →
      wpHeadG P md ops W m n L f (b.setIfInBounds m true) a → wpHeadG P md ops W m n L (f + 1) b a := by
  induction f with
  | zero =>
    intro b a inv hr H
    refine ⟨fun h => (by rw [h] at hr; cases hr), fun j hj => ?_⟩
    have hjn : j < n := Nat.lt_of_not_le fun h => tail_waits hs hc hn inv _ m rfl hin (mem_ready.1 hr).1 j h hj
    refine ⟨hjn, ?_⟩
    by_cases hji : j = m
    · subst hji; rw [gOp_self]; exact H
    · exact absurd (hdone _ _ H j (ready_mono hj hji)) (by omega)
  | succ f ih =>
    intro b a inv hr H
    refine ⟨fun h => (by rw [h] at hr; cases hr), fun j hj => ?_⟩
    have hjn : j < n := Nat.lt_of_not_le fun h => tail_waits hs hc hn inv _ m rfl hin (mem_ready.1 hr).1 j h hj
    refine ⟨hjn, ?_⟩
    by_cases hji : j = m
    · subst hji; rw [gOp_self]; exact H
    · refine gOp_mono (fun a' h3 => ih (b.setIfInBounds j true) a' (inv.set hj hjn) (ready_mono hr (Ne.symm hji)) ?_) (H.2 j (ready_mono hj hji)).2
      rw [Array.setIfInBounds_comm _ _ hji]
      exact h3
/-- The walk by numbers. -/
def wpNum (P : Program) (ops : Array Oper) (W : World) (m : Nat) (Q : Act → Prop) : Nat → Nat → Act → Prop
  | 0, _, a => Q a
  | r + 1, k, a => gOp P ops W m k (wpNum P ops W m Q r (k + 1)) a
theorem wpNum_of_list {Q : Act → Prop} (s : List Oper) : ∀ (k r : Nat) (a : Act), (∀ j, j < s.length → s[j]? = ops[k + j]? ∧ k + j ≠ m) → wpOne P ops W (wpNum P ops W m Q r (k + s.length)) s a → wpNum P ops W m Q (s.length + r) k a := by
  induction s with
  | nil => intro k r a _ h; simpa [wpOne] using h
  | cons o s ih =>
    intro k r a hl h
    have h0 : ops[k]? = some o ∧ k ≠ m := by have := hl 0 (by simp); simpa [eq_comm] using this
    rw [show (o :: s).length + r = (s.length + r) + 1 by simp; omega]
    show gOp P ops W m k _ a
    rw [gOp_of h0.2 h0.1]
    refine oneK_mono (fun a' h' => ih (k + 1) r a' (fun j hj => ?_) ?_) h
    · have := hl (j + 1) (by simp; omega)
      simpa [Nat.add_assoc, Nat.add_comm 1 j] using this
    · rw [show k + 1 + s.length = k + (o :: s).length by simp; omega]; exact h'
theorem wpHeadG_lex {n g : Nat} {Lq : Act → Prop} (hsel : Region.noSelect ops = true) (hs : Region.sinkB md ops n = true) (hc : Region.chainB md ops n = true) (hn : n < ops.size) (hmn : m < n) (r : Nat) :
    ∀ (k : Nat) (b : Array Bool) (a : Act), k + r = n → HeadInv md ops n b → (m < k → b.getD m false = true) →
    Region.lexHead md ops g r k b = true → wpNum P ops W m Lq r k a → wpHeadG P md ops W m n (fun b' a' => Region.seqB md ops g n b' = true ∧ b'.getD m false = true ∧ Lq a') r b a := by
  induction r with
  | zero =>
    intro k b a hk inv hb hB h
    have hkn : k = n := by omega
    subst hkn
    exact ⟨by simpa [Region.lexHead] using hB, hb hmn, h⟩
  | succ r ih =>
    intro k b a hk inv hb hB h
    simp only [Region.lexHead, Bool.and_eq_true] at hB
    obtain ⟨⟨hr, hf⟩, hB'⟩ := hB
    have hkn : k < n := by omega
    have hr' : k ∈ Region.ready md ops b := by simpa using hr
    have hks : k < b.size := by rw [inv.size]; omega
    have hb' : m < k + 1 → (b.setIfInBounds k true).getD m false = true := fun h => by
      by_cases hkm : k = m
      · subst hkm; simp [hks]
      · rw [getD_set_ne false hkm]; exact hb (by omega)
    by_cases hkm : k = m
    · subst hkm
      have h' : wpNum P ops W k Lq r (k + 1) a := by
        have := h; unfold wpNum at this; rw [gOp_self] at this; exact this
      exact wpHeadG_made hs hc hn hkn (fun b' a' hL => seqB_ready hL.1) r b a inv hr' (ih (k + 1) _ a (by omega) (inv.set hr' hkn) hb' hB' h')
    · obtain ⟨_, o, h0, _⟩ := mem_ready.1 hr'
      have h' : oneK P ops W o (wpNum P ops W m Lq r (k + 1)) a := by
        have := h; unfold wpNum at this; rw [gOp_of hkm h0] at this; exact this
      obtain ⟨v, hy, hK⟩ := OneIs.of_oneK h'
      exact wpHeadG_first h0 hkm (Region.noSelect_spec hsel) hs hc hn hkn (fun b' a' hL => seqB_ready hL.1) r b a inv (Region.free_spec h0 hf) hr' hy
        (ih (k + 1) _ _ (by omega) (inv.set hr' hkn) hb' hB' hK)
theorem oneUpon_upon {w : World} {v : Value} {r : Result Next} {o : Oper} {a : Act} {K' : Act → World → Prop} {Q' : Exit → Act → World → Prop} (h : oneUpon P w v r) (hK : ∀ w', Upd 0 0 w w' → K' (a.put o.dst v) w') : o.upon P a K' Q' r := by
  cases r with
  | ok n w' =>
    cases n <;> simp only [oneUpon] at h <;> simp only [Oper.upon]
    case value u => obtain ⟨rfl, rfl⟩ := h; exact hK _ (Upd.refl _ _ _)
    case skip => obtain ⟨rfl, rfl⟩ := h; exact hK _ (Upd.refl _ _ _)
    case enter f args =>
      obtain ⟨rfl, hc⟩ := h
      exact hc.mono fun e w'' ⟨he, hu⟩ => by subst he; exact hK _ hu
  | halt x w' => simp only [oneUpon] at h
/-- From the walk to the run. -/
theorem wpAny_of_headG {n g : Nat} {L : Array Bool → Act → Prop} {Q' : Exit → Act → World → Prop} {om : Oper} {zs : List Value} {t : TypeId} (hom : ops[m]? = some om) (hg : om.guard = none)
    (hsel : ∀ (j : Nat) (o : Oper) cs b, ops[j]? = some o → o.op ≠ .select cs b)
    (hap : ∀ (j : Nat) o, j < n → j ≠ m → ops[j]? = some o → om.apart ops o = true)
    (hA : ∀ (a : Act) (w : World), (execOp a.eval om).run P w = .ok (.value (.pointer (some ⟨w.heap.size, 0, none⟩))) (w.alloc (.cells zs.toArray t)))
    (hL : ∀ b a w c, Upd 0 0 W w → W.heap.size ≤ c → c < w.heap.size → HeldF w c zs → L b a → wpAny P md ops Q' g b (a.put om.dst (.pointer (some ⟨c, 0, none⟩))) w)
    (hLm : ∀ b a, L b a → b.getD m false = true) (f : Nat) :
    ∀ (b : Array Bool) (a : Act) (w : World), b.size = ops.size → Upd 0 0 W w → wpHeadG P md ops W m n L f b a →
      (b.getD m true = false → wpAny P md ops Q' (f + g) b a w) ∧
      (∀ c, b.getD m false = true → W.heap.size ≤ c → c < w.heap.size → HeldF w c zs → wpAny P md ops Q' (f + g) b (a.put om.dst (.pointer (some ⟨c, 0, none⟩))) w) := by
  have hwm : ∀ y, Region.wanted om y = true := fun y => by unfold Region.wanted; rw [hg]
  induction f with
  | zero =>
    intro b a w hbs hw h
    rw [Nat.zero_add]
    refine ⟨fun hb => ?_, fun c _ h1 h2 h3 => hL b a w c hw h1 h2 h3 h⟩
    have := hLm b a h
    rw [getD_both hb] at this
    cases this
  | succ f ih =>
    intro b a w hbs hw h
    rw [show f + 1 + g = (f + g) + 1 by omega]
    refine ⟨fun hb => ⟨fun h0 => absurd h0 h.1, fun i hi => ?_⟩, fun c hb h1 h2 h3 => ⟨fun h0 => absurd h0 h.1, fun i hi => ?_⟩⟩
    · by_cases him : i = m
      · subst him
        have h' := (h.2 i hi).2
        rw [gOp_self] at h'
        have hms : i < b.size := by rw [hbs]; exact (Array.getElem?_eq_some_iff.1 hom).1
        unfold wpOp
        simp only [hom, hwm, if_true]
        refine .inl ?_
        unfold Oper.wp
        rw [hA]
        simp only [Oper.upon]
        have hu : Upd 0 0 w (w.alloc (.cells zs.toArray t)) := Upd.of_below ((Below.refl _ _).alloc (Nat.le_refl _) _) 0 0
        exact (ih (b.setIfInBounds i true) a _ (by simpa using hbs) (hw.trans hu) h').2 w.heap.size (by simp [hms]) hw.size (by simp) (heldF_new w zs t)
      · obtain ⟨_, o, ho, _⟩ := mem_ready.1 hi
        have hin := (h.2 i hi).1
        have h' := (h.2 i hi).2
        rw [gOp_of him ho] at h'
        have hb' : (b.setIfInBounds i true).getD m true = false := by rw [getD_set_ne true him]; exact hb
        unfold oneK at h'
        unfold wpOp
        simp only [ho]
        split
        · rename_i hwt
          simp only [hwt, if_true] at h'
          obtain ⟨v, hv, hn⟩ := h'
          refine .inl ?_
          have hv' : oneUpon P w v ((execOp a.eval o).run P w) := hv ⟨w, hw⟩
          exact oneUpon_upon hv' (fun w' hu => (ih _ _ w' (by simpa using hbs) (hw.trans hu) hn).1 hb')
        · rename_i hwt
          simp only [hwt] at h'
          exact (ih _ _ w (by simpa using hbs) hw h').1 hb'
    · have him : i ≠ m := fun h' => by
        have := (mem_ready.1 hi).1
        rw [h', ] at this
        have hms : m < b.size := by rw [hbs]; exact (Array.getElem?_eq_some_iff.1 hom).1
        simp [hms] at this hb
        rw [hb] at this
        cases this
      obtain ⟨_, o, ho, _⟩ := mem_ready.1 hi
      have hin := (h.2 i hi).1
      have h' := (h.2 i hi).2
      rw [gOp_of him ho] at h'
      obtain ⟨p1, p2, p3⟩ := Oper.apart_spec (hap i o hin him ho)
      have hb' : (b.setIfInBounds i true).getD m false = true := by rw [getD_set_ne false him]; exact hb
      unfold oneK at h'
      unfold wpOp
      simp only [ho]
      rw [wanted_put o a om.dst _ p1]
      split
      · rename_i hwt
        simp only [hwt, if_true] at h'
        obtain ⟨v, hv, hn⟩ := h'
        refine .inl ?_
        have hv' : oneUpon P w v ((execOp a.eval o).run P w) := hv ⟨w, hw⟩
        unfold Oper.wp
        rw [execOp_put o (hsel i o · · ho) a om.dst _ p1]
        refine oneUpon_upon hv' (fun w' hu => ?_)
        rw [Act.put_comm a _ v p2]
        exact (ih _ _ w' (by simpa using hbs) (hw.trans hu) hn).2 c hb' h1 (by have := hu.size; omega) (h3.keep hu)
      · rename_i hwt
        simp only [hwt] at h'
        rw [Act.put_comm a _ undef p2]
        exact (ih _ _ w (by simpa using hbs) hw h').2 c hb' h1 h2 h3
/-- All of the first n but number m are apart from what makes the variable. -/
def apartB (ops : Array Oper) (m n : Nat) : Bool := match ops[m]? with
  | none => false
  | some om => decide (om.guard = none) && decide (m < n) && (List.range n).all fun j => j == m || match ops[j]? with
    | none => true
    | some o => om.apart ops o
theorem wp_region_float {id : Nat} {Q : Exit → Act → World → Prop} {a : Act} {w : World} {l : List Oper} {zs : List Value} {t : TypeId} {om : Oper} (m n : Nat) (hm : P.follows .mixedOrders = true) (hB : Region.lexTailB .any l.toArray n = true)
    (hp : apartB l.toArray m n = true) (hom : l[m]? = some om)
    (hA : ∀ (a : Act) (w : World), (execOp a.eval om).run P w = .ok (.value (.pointer (some ⟨w.heap.size, 0, none⟩))) (w.alloc (.cells zs.toArray t)))
    (h : WG P l.toArray w (fun a' => ∀ w' c, Upd 0 0 w w' → w.heap.size ≤ c → c < w'.heap.size → HeldF w' c zs → wpList P l.toArray Q (l.drop n) (a'.put om.dst (.pointer (some ⟨c, 0, none⟩))) w') (l.take m ++ (l.take n).drop (m + 1)) a) :
    (Code.region id l.toArray true).wp P Q a w := by
  have hom' : l.toArray[m]? = some om := by simpa using hom
  unfold apartB at hp
  rw [hom'] at hp
  simp only [Bool.and_eq_true, decide_eq_true_eq, List.all_eq_true, List.mem_range, Bool.or_eq_true, beq_iff_eq] at hp
  obtain ⟨⟨hg, hmn⟩, hp⟩ := hp
  simp only [Region.lexTailB, Bool.and_eq_true, decide_eq_true_eq] at hB
  obtain ⟨⟨⟨⟨hsel, hn⟩, hs⟩, hc⟩, hlex⟩ := hB
  have hn' : n < l.length := by simpa using hn
  have hdl : (l.drop n).length = l.toArray.size - n := by simp
  have inv0 : HeadInv .any l.toArray n (Array.replicate l.toArray.size false) :=
    ⟨by simp, fun j oj _ hl => (by rw [getD_replicate_false] at hl; cases hl), fun u _ ht => getD_in (by simpa using ht) (getD_replicate_false _ _)⟩
  have hW : wpNum P l.toArray w m (fun a' => ∀ w' c, Upd 0 0 w w' → w.heap.size ≤ c → c < w'.heap.size → HeldF w' c zs → wpList P l.toArray Q (l.drop n) (a'.put om.dst (.pointer (some ⟨c, 0, none⟩))) w') n 0 a := by
    have hlen : (l.take m).length = m := by simp; omega
    have hlen2 : ((l.take n).drop (m + 1)).length = n - (m + 1) := by simp; omega
    have split : ∀ (Q : Act → Prop) (s u : List Oper) (a : Act), wpOne P l.toArray w Q (s ++ u) a → wpOne P l.toArray w (wpOne P l.toArray w Q u) s a := by
      intro Q s u
      induction s with
      | nil => intro a h; exact h
      | cons o s ih => intro a h; exact oneK_mono (fun a' h' => ih a' h') h
    have h1 := split _ _ _ _ h.h
    have hb := wpNum_of_list (P := P) (W := w) (m := m) (ops := l.toArray) (l.take m) 0 (n - m) a (fun j hj => by
      rw [hlen] at hj
      exact ⟨by simp [hj], by omega⟩) (Q := (fun a' => ∀ w' c, Upd 0 0 w w' → w.heap.size ≤ c → c < w'.heap.size → HeldF w' c zs → wpList P l.toArray Q (l.drop n) (a'.put om.dst (.pointer (some ⟨c, 0, none⟩))) w'))
    rw [hlen, show m + (n - m) = n by omega] at hb
    refine hb ?_
    have mono : ∀ (Q Q' : Act → Prop) (s : List Oper) (a : Act), (∀ a, Q a → Q' a) → wpOne P l.toArray w Q s a → wpOne P l.toArray w Q' s a := by
      intro Q Q' s
      induction s with
      | nil => intro a hq h; exact hq _ h
      | cons o s ih => intro a hq h; exact oneK_mono (fun a' h' => ih a' hq h') h
    refine mono _ _ _ _ (fun a' h' => ?_) h1
    rw [show n - m = (n - (m + 1)) + 1 by omega]
    show gOp P l.toArray w m (0 + m) _ a'
    rw [show 0 + m = m by omega, gOp_self]
    have hb2 := wpNum_of_list (P := P) (W := w) (m := m) (ops := l.toArray) ((l.take n).drop (m + 1)) (m + 1) 0 a' (fun j hj => by
      rw [hlen2] at hj
      exact ⟨by rw [List.getElem?_drop, List.getElem?_take, if_pos (by omega)]; simp, by omega⟩) (Q := (fun a' => ∀ w' c, Upd 0 0 w w' → w.heap.size ≤ c → c < w'.heap.size → HeldF w' c zs → wpList P l.toArray Q (l.drop n) (a'.put om.dst (.pointer (some ⟨c, 0, none⟩))) w'))
    rw [hlen2] at hb2
    exact hb2 h'
  have H := wpHeadG_lex (md := .any) (g := l.toArray.size - n) hsel hs hc hn hmn n 0 (Array.replicate l.toArray.size false) a (by omega) inv0 (fun h => by omega) hlex hW
  refine wp_region_any hm ?_
  have R := wpAny_of_headG (W := w) (Q' := Q) (g := l.toArray.size - n) (zs := zs) (t := t) hom' hg (Region.noSelect_spec hsel)
    (fun j o hj hjm ho => by have := hp j hj; rw [ho] at this; simpa [hjm] using this) hA
    (fun b a' w' c hu h1 h2 h3 hL => by
      have := wpAny_of_seq (md := .any) (Q' := Q) (l.drop n) n b (a'.put om.dst (.pointer (some ⟨c, 0, none⟩))) w' (fun j => by simp [List.getElem?_drop]) (by rw [hdl]; exact hL.1) (hL.2.2 w' c hu h1 h2 h3)
      rwa [hdl] at this) (fun b a' hL => hL.2.1) n (Array.replicate l.toArray.size false) a { w with drawn := w.drawn + 1 } (by simp) ⟨rfl, rfl, rfl, Nat.le_refl _, fun _ _ _ => rfl⟩ H
  have := R.1 (by
    have hms : m < l.length := by omega
    simp [hms])
  rwa [show n + (l.toArray.size - n) = l.toArray.size by omega] at this
end
end Go.Proofs.Ytkeplngifceegaa

/- A region that draws its order: quiet operations, ONE among them that makes a block out of what others gave (a slice's literal, a variable), and a tail that waits for all: the walk of the text's order serves. -/
namespace Go.Proofs.Ytkeplngifceegaa
open Go.RowKit

section
variable {P : Program} {ops : Array Oper} {md : Region.Mode} {W : World} {m : Nat}
/-- In every such world number m makes a block of these cells. -/
def makesAt (P : Program) (W : World) (om : Oper) (mk : Nat → Value) (zs : List Value) (t : TypeId) (a : Act) : Prop :=
  ∀ x : UpdT W, (execOp a.eval om).run P x.to = .ok (.value (mk x.to.heap.size)) (x.to.alloc (.cells zs.toArray t))
structure WM (P : Program) (ops : Array Oper) (W : World) (Q : Act → Prop) (m : Nat) (om : Oper) (mk : Nat → Value) (zs : List Value) (t : TypeId) (l1 l2 : List Oper) (a : Act) : Prop where
  h : wpOne P ops W (fun a' => makesAt P W om mk zs t a' ∧ wpOne P ops W Q l2 a') l1 a
variable {om : Oper} {mk : Nat → Value} {zs : List Value} {t : TypeId}
def mOp (P : Program) (ops : Array Oper) (W : World) (om : Oper) (mk : Nat → Value) (zs : List Value) (t : TypeId) (m i : Nat) (K : Act → Prop) (a : Act) : Prop :=
  if i = m then makesAt P W om mk zs t a ∧ K a else match ops[i]? with
  | none => K a
  | some o => oneK P ops W o K a
theorem mOp_self {K : Act → Prop} {a : Act} : mOp P ops W om mk zs t m m K a = (makesAt P W om mk zs t a ∧ K a) := by unfold mOp; rw [if_pos rfl]
theorem mOp_of {i : Nat} {K : Act → Prop} {a : Act} {o : Oper} (hne : i ≠ m) (ho : ops[i]? = some o) : mOp P ops W om mk zs t m i K a = oneK P ops W o K a := by
  unfold mOp; rw [if_neg hne]; simp only [ho]
theorem mOp_mono {i : Nat} {a : Act} {K K' : Act → Prop} (h : ∀ a, K a → K' a) (hh : mOp P ops W om mk zs t m i K a) : mOp P ops W om mk zs t m i K' a := by
  by_cases hi : i = m
  · subst hi; rw [mOp_self] at *; exact ⟨hh.1, h _ hh.2⟩
  · cases ho : ops[i]? with
    | none => unfold mOp at *; rw [if_neg hi] at *; simp only [ho] at *; exact h _ hh
    | some o => rw [mOp_of hi ho] at *; exact oneK_mono h hh
/-- Whatever order is picked among the first n, with 'L' to be shown behind them. -/
def wpHeadM (P : Program) (md : Region.Mode) (ops : Array Oper) (W : World) (om : Oper) (mk : Nat → Value) (zs : List Value) (t : TypeId) (m n : Nat) (L : Array Bool → Act → Prop) : Nat → Array Bool → Act → Prop
  | 0, b, a => L b a
  | f + 1, b, a => Region.ready md ops b ≠ [] ∧ ∀ i ∈ Region.ready md ops b, i < n ∧ mOp P ops W om mk zs t m i (wpHeadM P md ops W om mk zs t m n L f (b.setIfInBounds i true)) a
theorem wpHeadM_first {n i : Nat} {oi : Oper} {v : Value} {L : Array Bool → Act → Prop} (hom : ops[m]? = some om) (hi : ops[i]? = some oi) (him : i ≠ m) (hsel : ∀ (j : Nat) (o : Oper) cs b, ops[j]? = some o → o.op ≠ .select cs b)
    (hs : Region.sinkB md ops n = true) (hc : Region.chainB md ops n = true) (hn : n < ops.size) (hin : i < n) (hdone : ∀ b a, L b a → ∀ j ∈ Region.ready md ops b, n ≤ j) (f : Nat) :
    ∀ (b : Array Bool) (a : Act), HeadInv md ops n b →
      (∀ j oj, ops[j]? = some oj → j ≠ i → b.getD j true = false → (∀ e ∈ oj.after, Region.binds md e = true → e.on ≠ i) → oi.apart ops oj = true) →
      i ∈ Region.ready md ops b → OneIs P ops W oi v a →
      wpHeadM P md ops W om mk zs t m n L f (b.setIfInBounds i true) (a.put oi.dst v) → wpHeadM P md ops W om mk zs t m n L (f + 1) b a := by
  have hself : ∀ (K : Act → Prop) a, OneIs P ops W oi v a → K (a.put oi.dst v) → mOp P ops W om mk zs t m i K a := fun K a hy h => by rw [mOp_of him hi]; exact hy.oneK h
  induction f with
  | zero =>
    intro b a inv _ hr hy H
    refine ⟨fun h => (by rw [h] at hr; cases hr), fun j hj => ?_⟩
    have hjn : j < n := Nat.lt_of_not_le fun h => tail_waits hs hc hn inv _ i rfl hin (mem_ready.1 hr).1 j h hj
    refine ⟨hjn, ?_⟩
    by_cases hji : j = i
    · subst hji; exact hself _ _ hy H
    · exact absurd (hdone _ _ H j (ready_mono hj hji)) (by omega)
  | succ f ih =>
    intro b a inv hfree hr hy H
    refine ⟨fun h => (by rw [h] at hr; cases hr), fun j hj => ?_⟩
    have hun := (mem_ready.1 hr).1
    have hjn : j < n := Nat.lt_of_not_le fun h => tail_waits hs hc hn inv _ i rfl hin hun j h hj
    refine ⟨hjn, ?_⟩
    by_cases hji : j = i
    · subst hji; exact hself _ _ hy H
    · obtain ⟨hjun, oj, hoj, hall⟩ := mem_ready.1 hj
      have hnot : ∀ e ∈ oj.after, Region.binds md e = true → e.on ≠ i := fun e he hb heq => by
        have h1 := hall e he hb
        rw [heq, getD_both hun] at h1
        cases h1
      have hfree' : ∀ k ok, ops[k]? = some ok → k ≠ i → (b.setIfInBounds j true).getD k true = false → (∀ e ∈ ok.after, Region.binds md e = true → e.on ≠ i) → oi.apart ops ok = true := fun k ok hk hki hun' hno => by
        refine hfree k ok hk hki ?_ hno
        by_cases hjk : j = k
        · subst hjk; exact hjun
        · rw [getD_set_ne true hjk] at hun'; exact hun'
      have hgo : ∀ a', OneIs P ops W oi v a' → wpHeadM P md ops W om mk zs t m n L f ((b.setIfInBounds i true).setIfInBounds j true) (a'.put oi.dst v) → wpHeadM P md ops W om mk zs t m n L (f + 1) (b.setIfInBounds j true) a' := fun a' hy' H' =>
        ih (b.setIfInBounds j true) a' (inv.set hj hjn) hfree' (ready_mono hr (Ne.symm hji)) hy' (by rw [Array.setIfInBounds_comm _ _ hji]; exact H')
      have H2 := (H.2 j (ready_mono hj hji)).2
      by_cases hjm : j = m
      · subst hjm
        have hoe : oj = om := Option.some.inj (hoj.symm.trans hom)
        subst hoe
        rw [mOp_self] at H2 ⊢
        refine ⟨fun x => ?_, hgo a hy H2.2⟩
        have := H2.1 x
        rwa [execOp_put oj (fun cs b => hsel j oj cs b hoj) a oi.dst v (Oper.apart_spec (hfree j oj hoj hji hjun hnot)).1] at this
      · rw [mOp_of hjm hoj] at H2 ⊢
        exact oneK_mono (fun a' h3 => hgo a' h3.1 h3.2) (oneK_put (hfree j oj hoj hji hjun hnot) (fun cs b => hsel i oi cs b hi) (fun cs b => hsel j oj cs b hoj) hy H2)
theorem oneK_makes {o : Oper} (hap : om.apart ops o = true) (hsm : ∀ cs b, om.op ≠ .select cs b) {K : Act → Prop} {a : Act} (hm : makesAt P W om mk zs t a) (h : oneK P ops W o K a) : oneK P ops W o (fun a' => makesAt P W om mk zs t a' ∧ K a') a := by
  obtain ⟨_, _, h3⟩ := Oper.apart_spec hap
  have keep : ∀ u, makesAt P W om mk zs t (a.put o.dst u) := fun u x => by rw [execOp_put om hsm a o.dst u h3]; exact hm x
  unfold oneK at *
  split
  · rename_i hw; simp only [hw, if_true] at h; obtain ⟨u, hu, hn⟩ := h; exact ⟨u, hu, keep u, hn⟩
  · rename_i hw; simp only [hw] at h; exact ⟨keep _, h⟩
/-- The block may be made first. -/
theorem wpHeadM_made {n : Nat} {L : Array Bool → Act → Prop} (hom : ops[m]? = some om) (hsel : ∀ (j : Nat) (o : Oper) cs b, ops[j]? = some o → o.op ≠ .select cs b)
    (hs : Region.sinkB md ops n = true) (hc : Region.chainB md ops n = true) (hn : n < ops.size) (hin : m < n) (hdone : ∀ b a, L b a → ∀ j ∈ Region.ready md ops b, n ≤ j) (f : Nat) :
    ∀ (b : Array Bool) (a : Act), HeadInv md ops n b →
      (∀ j oj, ops[j]? = some oj → j ≠ m → b.getD j true = false → (∀ e ∈ oj.after, Region.binds md e = true → e.on ≠ m) → om.apart ops oj = true) →
      m ∈ Region.ready md ops b → makesAt P W om mk zs t a →
      wpHeadM P md ops W om mk zs t m n L f (b.setIfInBounds m true) a → wpHeadM P md ops W om mk zs t m n L (f + 1) b a := by
  induction f with
  | zero =>
    intro b a inv _ hr hmk H
    refine ⟨fun h => (by rw [h] at hr; cases hr), fun j hj => ?_⟩
    have hjn : j < n := Nat.lt_of_not_le fun h => tail_waits hs hc hn inv _ m rfl hin (mem_ready.1 hr).1 j h hj
    refine ⟨hjn, ?_⟩
    by_cases hji : j = m
    · subst hji; rw [mOp_self]; exact ⟨hmk, H⟩
    · exact absurd (hdone _ _ H j (ready_mono hj hji)) (by omega)
  | succ f ih =>
    intro b a inv hfree hr hmk H
    refine ⟨fun h => (by rw [h] at hr; cases hr), fun j hj => ?_⟩
    have hun := (mem_ready.1 hr).1
    have hjn : j < n := Nat.lt_of_not_le fun h => tail_waits hs hc hn inv _ m rfl hin hun j h hj
    refine ⟨hjn, ?_⟩
    by_cases hji : j = m
    · subst hji; rw [mOp_self]; exact ⟨hmk, H⟩
    · obtain ⟨hjun, oj, hoj, hall⟩ := mem_ready.1 hj
      have hnot : ∀ e ∈ oj.after, Region.binds md e = true → e.on ≠ m := fun e he hb heq => by
        have h1 := hall e he hb
        rw [heq, getD_both hun] at h1
        cases h1
      have hfree' : ∀ k ok, ops[k]? = some ok → k ≠ m → (b.setIfInBounds j true).getD k true = false → (∀ e ∈ ok.after, Region.binds md e = true → e.on ≠ m) → om.apart ops ok = true := fun k ok hk hki hun' hno => by
        refine hfree k ok hk hki ?_ hno
        by_cases hjk : j = k
        · subst hjk; exact hjun
        · rw [getD_set_ne true hjk] at hun'; exact hun'
      have H2 := (H.2 j (ready_mono hj hji)).2
      rw [mOp_of hji hoj] at H2 ⊢
      refine oneK_mono (fun a' h3 => ih (b.setIfInBounds j true) a' (inv.set hj hjn) hfree' (ready_mono hr (Ne.symm hji)) h3.1 ?_) (oneK_makes (hfree j oj hoj hji hjun hnot) (fun cs b => hsel m om cs b hom) hmk H2)
      rw [Array.setIfInBounds_comm _ _ hji]
      exact h3.2
/-- The walk by numbers. -/
def wpNumM (P : Program) (ops : Array Oper) (W : World) (om : Oper) (mk : Nat → Value) (zs : List Value) (t : TypeId) (m : Nat) (Q : Act → Prop) : Nat → Nat → Act → Prop
  | 0, _, a => Q a
  | r + 1, k, a => mOp P ops W om mk zs t m k (wpNumM P ops W om mk zs t m Q r (k + 1)) a
theorem wpNumM_of_list {Q : Act → Prop} (s : List Oper) : ∀ (k r : Nat) (a : Act), (∀ j, j < s.length → s[j]? = ops[k + j]? ∧ k + j ≠ m) → wpOne P ops W (wpNumM P ops W om mk zs t m Q r (k + s.length)) s a → wpNumM P ops W om mk zs t m Q (s.length + r) k a := by
  induction s with
  | nil => intro k r a _ h; simpa [wpOne] using h
  | cons o s ih =>
    intro k r a hl h
    have h0 : ops[k]? = some o ∧ k ≠ m := by have := hl 0 (by simp); simpa [eq_comm] using this
    rw [show (o :: s).length + r = (s.length + r) + 1 by simp; omega]
    show mOp P ops W om mk zs t m k _ a
    rw [mOp_of h0.2 h0.1]
    refine oneK_mono (fun a' h' => ih (k + 1) r a' (fun j hj => ?_) ?_) h
    · have := hl (j + 1) (by simp; omega)
      simpa [Nat.add_assoc, Nat.add_comm 1 j] using this
    · rw [show k + 1 + s.length = k + (o :: s).length by simp; omega]; exact h'
theorem wpHeadM_lex {n g : Nat} {Lq : Act → Prop} (hom : ops[m]? = some om) (hsel : Region.noSelect ops = true) (hs : Region.sinkB md ops n = true) (hc : Region.chainB md ops n = true) (hn : n < ops.size) (hmn : m < n) (r : Nat) :
    ∀ (k : Nat) (b : Array Bool) (a : Act), k + r = n → HeadInv md ops n b → (m < k → b.getD m false = true) →
    Region.lexHead md ops g r k b = true → wpNumM P ops W om mk zs t m Lq r k a → wpHeadM P md ops W om mk zs t m n (fun b' a' => Region.seqB md ops g n b' = true ∧ b'.getD m false = true ∧ Lq a') r b a := by
  induction r with
  | zero =>
    intro k b a hk inv hb hB h
    have hkn : k = n := by omega
    subst hkn
    exact ⟨by simpa [Region.lexHead] using hB, hb hmn, h⟩
  | succ r ih =>
    intro k b a hk inv hb hB h
    simp only [Region.lexHead, Bool.and_eq_true] at hB
    obtain ⟨⟨hr, hf⟩, hB'⟩ := hB
    have hkn : k < n := by omega
    have hr' : k ∈ Region.ready md ops b := by simpa using hr
    have hks : k < b.size := by rw [inv.size]; omega
    have hb' : m < k + 1 → (b.setIfInBounds k true).getD m false = true := fun h => by
      by_cases hkm : k = m
      · subst hkm; simp [hks]
      · rw [getD_set_ne false hkm]; exact hb (by omega)
    by_cases hkm : k = m
    · subst hkm
      have h' : makesAt P W om mk zs t a ∧ wpNumM P ops W om mk zs t k Lq r (k + 1) a := by
        have := h; unfold wpNumM at this; rw [mOp_self] at this; exact this
      exact wpHeadM_made hom (Region.noSelect_spec hsel) hs hc hn hkn (fun b' a' hL => seqB_ready hL.1) r b a inv (Region.free_spec hom hf) hr' h'.1 (ih (k + 1) _ a (by omega) (inv.set hr' hkn) hb' hB' h'.2)
    · obtain ⟨_, o, h0, _⟩ := mem_ready.1 hr'
      have h' : oneK P ops W o (wpNumM P ops W om mk zs t m Lq r (k + 1)) a := by
        have := h; unfold wpNumM at this; rw [mOp_of hkm h0] at this; exact this
      obtain ⟨v, hy, hK⟩ := OneIs.of_oneK h'
      exact wpHeadM_first hom h0 hkm (Region.noSelect_spec hsel) hs hc hn hkn (fun b' a' hL => seqB_ready hL.1) r b a inv (Region.free_spec h0 hf) hr' hy
        (ih (k + 1) _ _ (by omega) (inv.set hr' hkn) hb' hB' hK)
/-- From the walk to the run. -/
theorem wpAny_of_headM {n g : Nat} {L : Array Bool → Act → Prop} {Q' : Exit → Act → World → Prop} (hom : ops[m]? = some om) (hg : om.guard = none)
    (hsel : ∀ (j : Nat) (o : Oper) cs b, ops[j]? = some o → o.op ≠ .select cs b)
    (hap : ∀ (j : Nat) o, j < n → j ≠ m → ops[j]? = some o → (∀ d, om.dst = some d → d ∉ o.looksAt ops) ∧ (∀ d, om.dst = some d → o.dst ≠ some d))
    (hL : ∀ b a w c, Upd 0 0 W w → W.heap.size ≤ c → c < w.heap.size → HeldF w c zs → L b a → wpAny P md ops Q' g b (a.put om.dst (mk c)) w)
    (hLm : ∀ b a, L b a → b.getD m false = true) (f : Nat) :
    ∀ (b : Array Bool) (a : Act) (w : World), b.size = ops.size → Upd 0 0 W w → wpHeadM P md ops W om mk zs t m n L f b a →
      (b.getD m true = false → wpAny P md ops Q' (f + g) b a w) ∧
      (∀ c, b.getD m false = true → W.heap.size ≤ c → c < w.heap.size → HeldF w c zs → wpAny P md ops Q' (f + g) b (a.put om.dst (mk c)) w) := by
  have hwm : ∀ y, Region.wanted om y = true := fun y => by unfold Region.wanted; rw [hg]
  induction f with
  | zero =>
    intro b a w hbs hw h
    rw [Nat.zero_add]
    refine ⟨fun hb => ?_, fun c _ h1 h2 h3 => hL b a w c hw h1 h2 h3 h⟩
    have := hLm b a h
    rw [getD_both hb] at this
    cases this
  | succ f ih =>
    intro b a w hbs hw h
    rw [show f + 1 + g = (f + g) + 1 by omega]
    refine ⟨fun hb => ⟨fun h0 => absurd h0 h.1, fun i hi => ?_⟩, fun c hb h1 h2 h3 => ⟨fun h0 => absurd h0 h.1, fun i hi => ?_⟩⟩
    · by_cases him : i = m
      · subst him
        have h' := (h.2 i hi).2
        rw [mOp_self] at h'
        have hms : i < b.size := by rw [hbs]; exact (Array.getElem?_eq_some_iff.1 hom).1
        unfold wpOp
        simp only [hom, hwm, if_true]
        refine .inl ?_
        unfold Oper.wp
        rw [show (execOp a.eval om).run P w = .ok (.value (mk w.heap.size)) (w.alloc (.cells zs.toArray t)) from h'.1 ⟨w, hw⟩]
        simp only [Oper.upon]
        have hu : Upd 0 0 w (w.alloc (.cells zs.toArray t)) := Upd.of_below ((Below.refl _ _).alloc (Nat.le_refl _) _) 0 0
        exact (ih (b.setIfInBounds i true) a _ (by simpa using hbs) (hw.trans hu) h'.2).2 w.heap.size (by simp [hms]) hw.size (by simp) (heldF_new w zs t)
      · obtain ⟨_, o, ho, _⟩ := mem_ready.1 hi
        have hin := (h.2 i hi).1
        have h' := (h.2 i hi).2
        rw [mOp_of him ho] at h'
        have hb' : (b.setIfInBounds i true).getD m true = false := by rw [getD_set_ne true him]; exact hb
        unfold oneK at h'
        unfold wpOp
        simp only [ho]
        split
        · rename_i hwt
          simp only [hwt, if_true] at h'
          obtain ⟨v, hv, hn⟩ := h'
          refine .inl ?_
          have hv' : oneUpon P w v ((execOp a.eval o).run P w) := hv ⟨w, hw⟩
          exact oneUpon_upon hv' (fun w' hu => (ih _ _ w' (by simpa using hbs) (hw.trans hu) hn).1 hb')
        · rename_i hwt
          simp only [hwt] at h'
          exact (ih _ _ w (by simpa using hbs) hw h').1 hb'
    · have him : i ≠ m := fun h' => by
        have := (mem_ready.1 hi).1
        rw [h', ] at this
        have hms : m < b.size := by rw [hbs]; exact (Array.getElem?_eq_some_iff.1 hom).1
        simp [hms] at this hb
        rw [hb] at this
        cases this
      obtain ⟨_, o, ho, _⟩ := mem_ready.1 hi
      have hin := (h.2 i hi).1
      have h' := (h.2 i hi).2
      rw [mOp_of him ho] at h'
      obtain ⟨p1, p2⟩ := hap i o hin him ho
      have hb' : (b.setIfInBounds i true).getD m false = true := by rw [getD_set_ne false him]; exact hb
      unfold oneK at h'
      unfold wpOp
      simp only [ho]
      rw [wanted_put o a om.dst _ p1]
      split
      · rename_i hwt
        simp only [hwt, if_true] at h'
        obtain ⟨v, hv, hn⟩ := h'
        refine .inl ?_
        have hv' : oneUpon P w v ((execOp a.eval o).run P w) := hv ⟨w, hw⟩
        unfold Oper.wp
        rw [execOp_put o (hsel i o · · ho) a om.dst _ p1]
        refine oneUpon_upon hv' (fun w' hu => ?_)
        rw [Act.put_comm a _ v p2]
        exact (ih _ _ w' (by simpa using hbs) (hw.trans hu) hn).2 c hb' h1 (by have := hu.size; omega) (h3.keep hu)
      · rename_i hwt
        simp only [hwt] at h'
        rw [Act.put_comm a _ undef p2]
        exact (ih _ _ w (by simpa using hbs) hw h').2 c hb' h1 h2 h3
/-- None of the first n but number m looks at what is made or puts its own there. -/
def unseenB (ops : Array Oper) (m n : Nat) : Bool := match ops[m]? with
  | none => false
  | some om => decide (om.guard = none) && decide (m < n) && (List.range n).all fun j => j == m || match ops[j]? with
    | none => true
    | some o => match om.dst with
      | none => true
      | some d => !(o.looksAt ops).contains d && decide (o.dst ≠ some d)
theorem wp_region_make {id : Nat} {Q : Exit → Act → World → Prop} {a : Act} {w : World} {l : List Oper} (m n : Nat) (mk : Nat → Value) (zs : List Value) (t : TypeId) {om : Oper} (hm : P.follows .mixedOrders = true) (hB : Region.lexTailB .any l.toArray n = true)
    (hp : unseenB l.toArray m n = true) (hom : l[m]? = some om)
    (h : WM P l.toArray w (fun a' => ∀ w' c, Upd 0 0 w w' → w.heap.size ≤ c → c < w'.heap.size → HeldF w' c zs → wpList P l.toArray Q (l.drop n) (a'.put om.dst (mk c)) w') m om mk zs t (l.take m) ((l.take n).drop (m + 1)) a) :
    (Code.region id l.toArray true).wp P Q a w := by
  have hom' : l.toArray[m]? = some om := by simpa using hom
  unfold unseenB at hp
  rw [hom'] at hp
  simp only [Bool.and_eq_true, decide_eq_true_eq, List.all_eq_true, List.mem_range, Bool.or_eq_true, beq_iff_eq] at hp
  obtain ⟨⟨hg, hmn⟩, hp⟩ := hp
  simp only [Region.lexTailB, Bool.and_eq_true, decide_eq_true_eq] at hB
  obtain ⟨⟨⟨⟨hsel, hn⟩, hs⟩, hc⟩, hlex⟩ := hB
  have hn' : n < l.length := by simpa using hn
  have hdl : (l.drop n).length = l.toArray.size - n := by simp
  have inv0 : HeadInv .any l.toArray n (Array.replicate l.toArray.size false) :=
    ⟨by simp, fun j oj _ hl => (by rw [getD_replicate_false] at hl; cases hl), fun u _ ht => getD_in (by simpa using ht) (getD_replicate_false _ _)⟩
  have hW : wpNumM P l.toArray w om mk zs t m (fun a' => ∀ w' c, Upd 0 0 w w' → w.heap.size ≤ c → c < w'.heap.size → HeldF w' c zs → wpList P l.toArray Q (l.drop n) (a'.put om.dst (mk c)) w') n 0 a := by
    have hlen : (l.take m).length = m := by simp; omega
    have hlen2 : ((l.take n).drop (m + 1)).length = n - (m + 1) := by simp; omega
    have hb := wpNumM_of_list (P := P) (W := w) (m := m) (om := om) (mk := mk) (zs := zs) (t := t) (ops := l.toArray) (l.take m) 0 (n - m) a (fun j hj => by
      rw [hlen] at hj
      exact ⟨by simp [hj], by omega⟩) (Q := (fun a' => ∀ w' c, Upd 0 0 w w' → w.heap.size ≤ c → c < w'.heap.size → HeldF w' c zs → wpList P l.toArray Q (l.drop n) (a'.put om.dst (mk c)) w'))
    rw [hlen, show m + (n - m) = n by omega] at hb
    refine hb ?_
    have mono : ∀ (Q Q' : Act → Prop) (s : List Oper) (a : Act), (∀ a, Q a → Q' a) → wpOne P l.toArray w Q s a → wpOne P l.toArray w Q' s a := by
      intro Q Q' s
      induction s with
      | nil => intro a hq h; exact hq _ h
      | cons o s ih => intro a hq h; exact oneK_mono (fun a' h' => ih a' hq h') h
    refine mono _ _ _ _ (fun a' h' => ?_) h.h
    rw [show n - m = (n - (m + 1)) + 1 by omega]
    show mOp P l.toArray w om mk zs t m (0 + m) _ a'
    rw [show 0 + m = m by omega, mOp_self]
    refine ⟨h'.1, ?_⟩
    have hb2 := wpNumM_of_list (P := P) (W := w) (m := m) (om := om) (mk := mk) (zs := zs) (t := t) (ops := l.toArray) ((l.take n).drop (m + 1)) (m + 1) 0 a' (fun j hj => by
      rw [hlen2] at hj
      exact ⟨by rw [List.getElem?_drop, List.getElem?_take, if_pos (by omega)]; simp, by omega⟩) (Q := (fun a' => ∀ w' c, Upd 0 0 w w' → w.heap.size ≤ c → c < w'.heap.size → HeldF w' c zs → wpList P l.toArray Q (l.drop n) (a'.put om.dst (mk c)) w'))
    rw [hlen2] at hb2
    exact hb2 h'.2
  have H := wpHeadM_lex (md := .any) (g := l.toArray.size - n) hom' hsel hs hc hn hmn n 0 (Array.replicate l.toArray.size false) a (by omega) inv0 (fun h => by omega) hlex hW
  refine wp_region_any hm ?_
  have R := wpAny_of_headM (W := w) (Q' := Q) (g := l.toArray.size - n) (zs := zs) (t := t) (mk := mk) hom' hg (Region.noSelect_spec hsel)
    (fun j o hj hjm ho => by
      have := hp j hj
      rw [ho] at this
      simp only [hjm, false_or] at this
      cases hd : om.dst with
      | none => exact ⟨fun d h' => (by cases h'), fun d h' => (by cases h')⟩
      | some d0 =>
        rw [hd] at this
        simp only [Bool.and_eq_true, Bool.not_eq_true', decide_eq_true_eq, List.contains_eq_mem, decide_eq_false_iff_not] at this
        exact ⟨fun d h' => (by cases h'; exact this.1), fun d h' => (by cases h'; exact this.2)⟩)
    (fun b a' w' c hu h1 h2 h3 hL => by
      have := wpAny_of_seq (md := .any) (Q' := Q) (l.drop n) n b (a'.put om.dst (mk c)) w' (fun j => by simp [List.getElem?_drop]) (by rw [hdl]; exact hL.1) (hL.2.2 w' c hu h1 h2 h3)
      rwa [hdl] at this) (fun b a' hL => hL.2.1) n (Array.replicate l.toArray.size false) a { w with drawn := w.drawn + 1 } (by simp) ⟨rfl, rfl, rfl, Nat.le_refl _, fun _ _ _ => rfl⟩ H
  have := R.1 (by
    have hms : m < l.length := by omega
    simp [hms])
  rwa [show n + (l.toArray.size - n) = l.toArray.size by omega] at this
theorem wpOne_mono {Q Q' : Act → Prop} (hq : ∀ a, Q a → Q' a) (s : List Oper) : ∀ a, wpOne P ops W Q s a → wpOne P ops W Q' s a := by
  induction s with
  | nil => intro a h; exact hq _ h
  | cons o s ih => intro a h; exact oneK_mono (fun a' h' => ih a' h') h
/-- The two halves of the walk, each behind the wrapper. -/
theorem WM.of {Q : Act → Prop} {l1 l2 : List Oper} {a : Act} (h : WG P ops W (fun a' => makesAt P W om mk zs t a' ∧ WG P ops W Q l2 a') l1 a) : WM P ops W Q m om mk zs t l1 l2 a :=
  ⟨wpOne_mono (fun _ h' => ⟨h'.1, h'.2.h⟩) l1 a h.h⟩
end
end Go.Proofs.Ytkeplngifceegaa

/- Appending ints to a row of the call's own, whatever slice they come in. -/
namespace Go.Proofs.Ytkeplngifceegaa
open Go.RowKit

theorem ints_lengthA (zs : List Int) : (ints zs).length = zs.length := by simp [ints]
theorem ints_append (a b : List Int) : ints (a ++ b) = ints a ++ ints b := by simp [ints]
theorem ints_one (zs : List Int) : ∀ u ∈ ints zs, u.oneCell' = true := by
  intro u hu
  simp only [ints, List.mem_map] at hu
  obtain ⟨b, _, rfl⟩ := hu
  rfl
theorem ints_cells {w : World} {b off : Nat} {ys : List Int} (h : KindAt .i64 w b off ys) : ∀ j u, (ints ys)[j]? = some u → w.cell? ((⟨b, off, none⟩ : Addr).add j) = some u := by
  intro j u hu
  rw [add_cellAI]
  have hj : j < ys.length := by
    rcases Nat.lt_or_ge j ys.length with h' | h'
    · exact h'
    · rw [List.getElem?_eq_none (by rw [ints_lengthA]; exact h')] at hu; cases hu
  have := getD_map_int ys .i64 j hj
  unfold ints at hu
  rw [this] at hu
  cases hu
  exact h j hj
where
  add_cellAI {g o j : Nat} : (⟨g, o, none⟩ : Addr).add j = ⟨g, o + j, none⟩ := by unfold Addr.add; split <;> simp_all

/-- Ints that can be read: nil, or in the cells of a block. -/
def RdJ (w : World) (u : Value) (ys : List Int) : Prop := (u = .slice none 0 0 ∧ ys = []) ∨ ∃ b off cap, u = .slice (some ⟨b, off, none⟩) ys.length cap ∧ b < w.heap.size ∧ KindAt .i64 w b off ys
theorem RdJ.below {w w' : World} {u : Value} {ys : List Int} (h : RdJ w u ys) (hb : Below w.heap.size w w') : RdJ w' u ys := by
  rcases h with h | ⟨b, off, cap, e, hl, hc⟩
  · exact .inl h
  · exact .inr ⟨b, off, cap, e, Nat.lt_of_lt_of_le hl hb.size, fun j hj => (hb.cell (by simpa using hl)).trans (hc j hj)⟩
theorem RdJ.form {w : World} {u : Value} {ys : List Int} (h : RdJ w u ys) : ∃ ad cap, u = .slice ad ys.length cap := by
  rcases h with ⟨rfl, rfl⟩ | ⟨b, off, cap, rfl, _⟩
  · exact ⟨_, _, rfl⟩
  · exact ⟨_, _, rfl⟩
theorem rdJ_of_owns {w : World} {base : Nat} {v : Value} {zs : List Int} (h : w.ownsRow base 3 1 v zs.length (ints zs)) : RdJ w v zs := by
  rcases h.2 with ⟨rfl, hn⟩ | ⟨g, cap, cur, rfl, h1, h2, h3⟩
  · exact .inl ⟨rfl, List.length_eq_zero_iff.1 hn⟩
  · refine .inr ⟨g, 0, cap, rfl, (h.lt g rfl).2, fun j hj => ?_⟩
    rw [Nat.zero_add, h.cellAt j (by omega)]
    exact getD_map_int zs .i64 j hj
theorem rdJ_of_own {w : World} {a b : Nat} {v : Value} {zs : List Int} (h : OwnI w a b v zs) : RdJ w v zs := rdJ_of_owns h.1

theorem wpList_appI {ops : Array Oper} {rest : List Oper} {o : Oper} {a : Act} {Q : Exit → Act → World → Prop} {w : World} (hgd : o.guard = none) (s x : Operand)
    (ho : o.op = .call { callee := .builtin .append, args := #[s, x], argTypes := #[27, 27] }) (base : Nat) (v : Value) (zs : List Int) (hs : a.eval s = v)
    (hown : w.ownsRow base 3 1 v zs.length (ints zs)) (u : Value) (ys : List Int) (hx : a.eval x = u) (hr : RdJ w u ys) (h63 : zs.length + ys.length ≤ 1099511627776) (hbase : base ≤ w.heap.size)
    (h : ∀ v' w', w'.ownsRow base 3 1 v' (zs ++ ys).length (ints (zs ++ ys)) → w.grownBy w' v.ownBlock → (v'.ownBlock = v.ownBlock ∨ v'.ownBlock = some w.heap.size) → wpList Try.prog ops Q rest (a.put o.dst v') w') :
    wpList Try.prog ops Q (o :: rest) a w := by
  obtain ⟨i0, hi0, hz0, hz1, hz2⟩ := info_parts infoI
  rcases hr with ⟨rfl, rfl⟩ | ⟨b, off, cap, rfl, hl, hc⟩
  · refine wpList_append_own_none hgd s x 27 ho base 3 i0 1 Try.underlying27 hi0 v _ _ hs hown hx ?_
    refine h v w ?_ ⟨rfl, rfl, rfl, Nat.le_refl _, fun _ _ _ => rfl⟩ (.inl rfl)
    rw [List.append_nil]; exact hown
  · refine wpList_append_own_at _ hgd s x 27 ho base 3 i0 (.int .i64 0) 1 8 Try.underlying27 hi0 hz0 hz1 hz2 rfl (by decide) v zs.length (ints zs) hs hown ⟨b, off, none⟩ ys.length cap (ints ys) hx (by rw [ints_lengthA]; omega) (ints_cells hc) (ints_one ys) (by unfold maxLen; omega) (by omega) hbase ?_
    intro v' w' h1 h2 _ h4
    refine h v' w' ?_ h2 h4
    rw [List.length_append, ints_append]; exact h1

theorem own_nilI (w : World) (a b : Nat) : OwnI w a b (.slice none 0 0) [] := ⟨World.ownsRow_nil _ _ _ _, fun k hk => by simp [Value.ownBlock] at hk⟩
theorem upd_of_grownI {w w' : World} {a : Nat} {e : TypeId} {s : Nat} {v : Value} {n : Nat} {xs : List Value} (hg : w.grownBy w' v.ownBlock) (ho : w.ownsRow a e s v n xs) : Upd a w.heap.size w w' :=
  ⟨hg.os, hg.tape, hg.output, hg.size, fun k hk hn => hg.block k hk (fun e => by have := ho.lt k e.symm; omega)⟩
end Go.Proofs.Ytkeplngifceegaa

/- The specification's Shrink: the walk of l7Shrink. -/
namespace Go.Proofs.Ytkeplngifceegaa
open Go.RowKit
attribute [local go_sem] oneAt oneUpon

/-- What the loops of the specification keep: a plane in block c that grows, the argument's box, the answer's. -/
structure AccSt (w wr : World) (c : Nat) (W H sw sh : Int) (ad : Option Addr) (n cap : Nat) (L : List Int) (ad2 : Option Addr) (cp : Nat) : Prop where
  o : HeldF wr c [.int .i64 sw, .int .i64 sh, .slice ad2 L.length cp]
  r : wr.ownsRow (c + 1) 3 1 (.slice ad2 L.length cp) L.length (ints L)
  b : HeldF wr w.heap.size [.int .i64 W, .int .i64 H, .slice ad n cap]
  z : HeldF wr (w.heap.size + 1) [.int .i64 0, .int .i64 0, .slice none 0 0]
  k : Below w.heap.size w wr
theorem mod_row {y sw x : Nat} (h : x < sw) : (y * sw + x) % sw = x ∧ (y * sw + x) / sw = y := by
  constructor
  · rw [Nat.add_comm, Nat.add_mul_mod_self_right, Nat.mod_eq_of_lt h]
  · rw [Nat.add_comm, Nat.add_mul_div_right _ _ (by omega), Nat.div_eq_of_lt h, Nat.zero_add]
set_option maxHeartbeats 8000000 in
set_option maxRecDepth 100000 in
theorem specL7Shrink (W H b : Nat) (ad : Option Addr) (cap : Nat) (zs : List Int) (w : World) (hp : PlOk W H zs) (hb : b = 2 ∨ b = 4) (hA : ArgI w ad zs) :
    Calls Try.prog 60 #[.agg #[.int .i64 (W : Int), .int .i64 (H : Int), .slice ad zs.length cap], .int .i64 (b : Int)] w fun e w' => ∃ u, e = .returned u ∧ OwnPl w' w.heap.size w'.heap.size u (((stepsF W b : Nat) : Int), ((stepsF H b : Nat) : Int), shrinkL zs W H b (stepsF W b * stepsF H b)) ∧ Upd 0 0 w w' := by
  have hB0 := (((Below.refl w.heap.size w).alloc (Nat.le_refl _) (.cells #[.int .i64 (W : Int), .int .i64 (H : Int), .slice ad zs.length cap] 31)).alloc (by simp) (.cells #[.int .i64 0, .int .i64 0, .slice none 0 0] 31))
  have hs0 : ((w.alloc (.cells #[.int .i64 (W : Int), .int .i64 (H : Int), .slice ad zs.length cap] 31)).alloc (.cells #[.int .i64 0, .int .i64 0, .slice none 0 0] 31)).heap.size = w.heap.size + 2 := by simp
  have hbx := (heldF_new w [.int .i64 (W : Int), .int .i64 (H : Int), .slice ad zs.length cap] 31).keep (Upd.of_below ((Below.refl _ _).alloc (Nat.le_refl _) (.cells #[.int .i64 0, .int .i64 0, .slice none 0 0] 31)) 0 0)
  have hrs := heldF_new (w.alloc (.cells #[.int .i64 (W : Int), .int .i64 (H : Int), .slice ad zs.length cap] 31)) [.int .i64 0, .int .i64 0, .slice none 0 0] 31
  have e1 : (w.alloc (.cells #[.int .i64 (W : Int), .int .i64 (H : Int), .slice ad zs.length cap] 31)).heap.size = w.heap.size + 1 := by simp
  rw [e1] at hrs
  clear e1
  obtain ⟨W1, W2⟩ := hp.w
  obtain ⟨H1, H2⟩ := hp.h
  obtain ⟨sw1, sw2⟩ := stepsF_bd hb W1
  obtain ⟨sh1, sh2⟩ := stepsF_bd hb H1
  have hlt1 := hide (fun i (h : i < stepsF W b) => stepsF_lt hb h)
  have hlt2 := hide (fun i (h : i < stepsF H b) => stepsF_lt hb h)
  have hL : Hid (∀ k, shrinkL zs W H b (k + 1) = shrinkL zs W H b k ++ [meanF zs W H b (k % stepsF W b * b) (k / stepsF W b * b)]) := hide (fun k => shrinkL_succ zs W H b k)
  have eW : ((W : Int) + (b : Int) - 1).tdiv (b : Int) = ((stepsF W b : Nat) : Int) := by
    rw [Int.tdiv_eq_ediv_of_nonneg (by omega)]; unfold stepsF; rcases hb with rfl | rfl <;> omega
  have eH : ((H : Int) + (b : Int) - 1).tdiv (b : Int) = ((stepsF H b : Nat) : Int) := by
    rw [Int.tdiv_eq_ediv_of_nonneg (by omega)]; unfold stepsF; rcases hb with rfl | rfl <;> omega
  generalize stepsF W b = sw at *
  generalize stepsF H b = sh at *
  have hb0 : ¬ b = 0 := by omega
  have hb4 : b ≤ 4 := by omega
  have hb1 : 1 ≤ b := by omega
  replace hb := hide hb
  replace hB0 := hide hB0
  replace hbx := hide hbx
  replace hrs := hide hrs
  replace hA := hide hA
  have r1 : IntKind.i64.wrap ((W : Int) + (b : Int)) = (W : Int) + (b : Int) := by simp [IntKind.wrap, IntKind.bits, IntKind.signed]; omega
  have r2 : IntKind.i64.wrap ((H : Int) + (b : Int)) = (H : Int) + (b : Int) := by simp [IntKind.wrap, IntKind.bits, IntKind.signed]; omega
  have r3 : IntKind.i64.wrap ((W : Int) + (b : Int) - 1) = (W : Int) + (b : Int) - 1 := by simp [IntKind.wrap, IntKind.bits, IntKind.signed]; omega
  have r4 : IntKind.i64.wrap ((H : Int) + (b : Int) - 1) = (H : Int) + (b : Int) - 1 := by simp [IntKind.wrap, IntKind.bits, IntKind.signed]; omega
  have r5 : IntKind.i64.wrap (sw : Int) = (sw : Int) := by simp [IntKind.wrap, IntKind.bits, IntKind.signed]; omega
  have r6 : IntKind.i64.wrap (sh : Int) = (sh : Int) := by simp [IntKind.wrap, IntKind.bits, IntKind.signed]; omega
  go_enter Try.func60, Try.ntmps60
  go_wp2_with fail
  generalize (w.alloc (.cells #[.int .i64 (W : Int), .int .i64 (H : Int), .slice ad zs.length cap] 31)).alloc (.cells #[.int .i64 0, .int .i64 0, .slice none 0 0] 31) = w0 at hB0 hs0 hbx hrs ⊢
  have c0 := fun X : UpdT w0 => (((unhide hbx).1.updT X).2 0 _ rfl)
  have c1 := fun X : UpdT w0 => (((unhide hbx).1.updT X).2 1 _ rfl)
  refine wp_region_float (zs := [.int .i64 0, .int .i64 0, .slice none 0 0]) (t := 31) 15 16 (by kernel_rfl) (by kernel_rfl) (by kernel_rfl) (by rfl) (by intro a w; go_simp) ?_
  simp only [List.take_succ_cons, List.take_zero, List.drop_succ_cons, List.drop_zero, List.cons_append, List.nil_append, List.drop_nil]
  iterate 15
    refine WG.step (fun K hK => ?_)
    go_simp
    refine hK _ ?_
    clear hK K
  refine WG.nil ?_
  clear c0 c1 r1 r2 r3 r4 r5 r6 eW eH
  intro w1 c hw h1 h2 hot
  have hc : w.heap.size + 2 ≤ c := by omega
  replace hbx := hide ((unhide hbx).keep hw)
  replace hrs := hide ((unhide hrs).keep hw)
  replace hB0 := hide (below_upd (unhide hB0) hw (Nat.le_refl _) (.inr (Nat.le_refl _)))
  clear hw h1 hs0
  have x0 := hot.1.2 0 _ rfl
  have x1 := hot.1.2 1 _ rfl
  have x2 := hot.1.2 2 _ rfl
  have y0 := hot.2 0
  have y1 := hot.2 1
  have y2 := hot.2 2
  replace hot := hide hot
  go_upto_region 2 with fail
  have hot2 := (((unhide hot).set 0 (.int .i64 (sw : Int)) (by simp)).set 1 (.int .i64 (sh : Int)) (by simp)).set 2 (.slice none 0 0) (by simp)
  simp only [List.set_cons_zero, List.set_cons_succ] at hot2
  have hbx2 := (((unhide hbx).other (g' := c) (by omega) 0 (.int .i64 (sw : Int))).other (g' := c) (by omega) 1 (.int .i64 (sh : Int))).other (g' := c) (by omega) 2 (.slice none 0 0)
  have hrs2 := (((unhide hrs).other (g' := c) (by omega) 0 (.int .i64 (sw : Int))).other (g' := c) (by omega) 1 (.int .i64 (sh : Int))).other (g' := c) (by omega) 2 (.slice none 0 0)
  have hB2 := (((unhide hB0).setCell (p := ⟨c, 0, none⟩) (show w.heap.size ≤ c by omega) (.int .i64 (sw : Int))).setCell (p := ⟨c, 1, none⟩) (show w.heap.size ≤ c by omega) (.int .i64 (sh : Int))).setCell (p := ⟨c, 2, none⟩) (show w.heap.size ≤ c by omega) (.slice none 0 0)
  clear x0 x1 x2 y0 y1 y2 hot hbx hrs hB0 h2
  generalize ((w1.setCell ⟨c, 0, none⟩ (.int .i64 (sw : Int))).setCell ⟨c, 1, none⟩ (.int .i64 (sh : Int))).setCell ⟨c, 2, none⟩ (.slice none 0 0) = w2 at hot2 hbx2 hrs2 hB2 ⊢
  have hSt : Hid (AccSt w w2 c W H sw sh ad zs.length cap (shrinkL zs W H b 0) none 0) := hide ⟨hot2, World.ownsRow_nil _ _ _ _, hbx2, hrs2, hB2⟩
  clear hot2 hbx2 hrs2 hB2
  have hlen : zs.length ≤ 4096 := by have := hp.m; have := hp.l; omega
  have hNN : Hid (∀ y x, y < sh → x < sw → y * sw + x < sh * sw) := hide (fun y x hy hx => by
    have h1 : (y + 1) * sw ≤ sh * sw := Nat.mul_le_mul hy (Nat.le_refl _)
    rw [Nat.add_mul, Nat.one_mul] at h1
    omega)
  have hNN4 : sh * sw ≤ 4096 := by
    have := Nat.mul_le_mul sh2 sw2
    have h2 := hp.m
    rw [Nat.mul_comm W H] at h2
    omega
  have hgo_round_y : True := trivial
  go_wp2_with fail
  go_loopw [6] (fun s wr => ∃ (y m : Nat) (ad2 : Option Addr) (cp : Nat), s = .int .i64 (y : Int) ∧ y ≤ sh ∧ Hid (m = y * sw) ∧ Hid (AccSt w wr c W H sw sh ad zs.length cap (shrinkL zs W H b m) ad2 cp)) (fun s _ => sh - (intOf s).toNat)
  case atStart => exact ⟨0, 0, none, 0, rfl, Nat.zero_le _, hide (by simp), hSt⟩
  case round =>
    clear hSt
    obtain ⟨y, m, ad2, cp, rfl, hy, hm, hSt⟩ := hrel
    have d1 := (unhide hSt).o.1.2 1 _ rfl
    by_cases hyl : y < sh
    · go_wp2_with fail
      clear d1
      go_loopw [7] (fun s wr => ∃ (x : Nat) (ad2 : Option Addr) (cp : Nat), s = .int .i64 (x : Int) ∧ x ≤ sw ∧ Hid (AccSt w wr c W H sw sh ad zs.length cap (shrinkL zs W H b (m + x)) ad2 cp)) (fun s _ => sw - (intOf s).toNat)
      case atStart => exact ⟨0, ad2, cp, rfl, Nat.zero_le _, hSt⟩
      case round =>
        clear hSt
        obtain ⟨x, ad2, cp, rfl, hx, hSt⟩ := hrel
        have d0 := (unhide hSt).o.1.2 0 _ rfl
        by_cases hxl : x < sw
        · have hx0 := unhide hlt1 _ hxl
          have hy0 := unhide hlt2 _ hyl
          obtain ⟨X0, hX0⟩ : ∃ k, x * b = k := ⟨_, rfl⟩
          obtain ⟨Y0, hY0⟩ : ∃ k, y * b = k := ⟨_, rfl⟩
          have e1 : (x : Int) * (b : Int) = (X0 : Int) := by rw [← hX0]; simp
          have e2 : (y : Int) * (b : Int) = (Y0 : Int) := by rw [← hY0]; simp
          have hnew : Hid (shrinkL zs W H b (m + (x + 1)) = shrinkL zs W H b (m + x) ++ [meanF zs W H b X0 Y0]) := hide (by
            have := unhide hL (m + x)
            rw [unhide hm, (mod_row hxl).1, (mod_row hxl).2, hX0, hY0] at this
            rw [unhide hm]; exact this)
          have hml : m + x < 4096 := by have := unhide hNN y x hyl hxl; rw [← unhide hm] at this; omega
          rw [hX0] at hx0
          rw [hY0] at hy0
          replace hX0 := hide hX0
          replace hY0 := hide hY0
          obtain ⟨nx1, nx2, nx3, nx4⟩ := manyF_bd (b := b) hx0 hb1
          obtain ⟨ny1, ny2, ny3, ny4⟩ := manyF_bd (b := b) hy0 hb1
          have hM : Hid (meanF zs W H b X0 Y0 = (boxSum zs W X0 (manyF W b X0) Y0 (manyF H b Y0) + ((manyF W b X0 * manyF H b Y0 / 2 : Nat) : Int)) / ((manyF W b X0 * manyF H b Y0 : Nat) : Int)) := hide rfl
          generalize meanF zs W H b X0 Y0 = M at hM hnew
          generalize manyF W b X0 = nx at nx1 nx2 nx3 nx4 hM
          generalize manyF H b Y0 = ny at ny1 ny2 ny3 ny4 hM
          obtain ⟨R, hR⟩ : ∃ R, R = X0 + nx := ⟨_, rfl⟩
          obtain ⟨T, hT⟩ : ∃ T, T = Y0 + ny := ⟨_, rfl⟩
          have hR2 : R = min (X0 + b) W := by omega
          have hT2 : T = min (Y0 + b) H := by omega
          have hnx4 : nx ≤ 4 := by omega
          have hny4 : ny ≤ 4 := by omega
          have hS0 := hide (fun m => boxSum_bd hp.s W X0 nx Y0 m hnx4)
          have hS1 := hide (fun j n => rowSum_bd hp.s W j X0 n)
          have hsm := hide (smp_bd hp.s)
          have hRW : R ≤ W := by omega
          have hTH : T ≤ H := by omega
          have hX0R : X0 ≤ R := by omega
          have hY0T : Y0 ≤ T := by omega
          have hRX4 : R ≤ X0 + 4 := by omega
          have hTY4 : T ≤ Y0 + 4 := by omega
          replace hR := hide hR
          replace hT := hide hT
          replace hR2 := hide hR2
          replace hT2 := hide hT2
          clear nx4 ny4
          have a0 := (unhide hSt).b.1.2 0 _ rfl
          have a1 := (unhide hSt).b.1.2 1 _ rfl
          have a2 := (unhide hSt).b.1.2 2 _ rfl
          have hAr := hide ((unhide hA).below (unhide hSt).k)
          go_wp2_with fail
          go_loop [8, 9, 10] (fun s n j => ∃ (Sv : Int) (nv jv : Nat), s = .int .i64 Sv ∧ n = .int .i64 (nv : Int) ∧ j = .int .i64 (jv : Int) ∧ Y0 ≤ jv ∧ jv ≤ T ∧ Hid (Sv = boxSum zs W X0 nx Y0 (jv - Y0)) ∧ Hid (nv = nx * (jv - Y0)) ∧ nv ≤ 16) (fun _ _ j => T - (intOf j).toNat)
          case atStart => exact ⟨0, 0, Y0, rfl, rfl, rfl, Nat.le_refl _, hY0T, hide (by rw [Nat.sub_self]; rfl), hide (by rw [Nat.sub_self]; rfl), by omega⟩
          case round =>
            obtain ⟨Sv, nv, jv, rfl, rfl, rfl, hj0, hj1, hSv, hnv, hnv2⟩ := hrel
            have hSb : 0 ≤ Sv ∧ Sv ≤ 4080 := by
              have h1 := unhide hS0 (jv - Y0)
              have h2 := unhide hSv
              generalize boxSum zs W X0 nx Y0 (jv - Y0) = q at h1 h2
              omega
            obtain ⟨s0, s1⟩ := hSb
            by_cases hjT : jv < T
            · have hstep : Hid (boxSum zs W X0 nx Y0 (jv + 1 - Y0) = boxSum zs W X0 nx Y0 (jv - Y0) + rowSum zs W jv X0 nx) := hide (by
                rw [show jv + 1 - Y0 = (jv - Y0) + 1 by omega]
                show boxSum zs W X0 nx Y0 (jv - Y0) + rowSum zs W (Y0 + (jv - Y0)) X0 nx = _
                rw [show Y0 + (jv - Y0) = jv by omega])
              have hnst : Hid (nx * (jv + 1 - Y0) = nv + nx) := hide (by rw [unhide hnv, show jv + 1 - Y0 = (jv - Y0) + 1 by omega, Nat.mul_add, Nat.mul_one])
              have hnv3 : nv + nx ≤ 16 := by rw [← unhide hnst]; exact Nat.mul_le_mul hnx4 (show jv + 1 - Y0 ≤ 4 by omega)
              have t1 : (jv : Int) < (Y0 : Int) + (b : Int) := by have := unhide hT2; omega
              have t2 : (jv : Int) < (H : Int) := by omega
              obtain ⟨m2, hm2⟩ : ∃ k, jv * W = k := ⟨_, rfl⟩
              have e3 : (jv : Int) * (W : Int) = (m2 : Int) := by rw [← hm2]; simp
              have hm2l : m2 + W ≤ zs.length := by
                have h1 : (jv + 1) * W ≤ H * W := Nat.mul_le_mul (by omega) (Nat.le_refl _)
                rw [Nat.add_mul, Nat.one_mul, hm2, Nat.mul_comm H W, ← hp.l] at h1
                exact h1
              replace hm2 := hide hm2
              go_wp2_with fail
              clear t1 t2
              go_loop [8, 9, 11] (fun s n i => ∃ (Sw : Int) (nw iv : Nat), s = .int .i64 Sw ∧ n = .int .i64 (nw : Int) ∧ i = .int .i64 (iv : Int) ∧ X0 ≤ iv ∧ iv ≤ R ∧ Hid (Sw = Sv + rowSum zs W jv X0 (iv - X0)) ∧ nw = nv + (iv - X0)) (fun _ _ i => R - (intOf i).toNat)
              case atStart => exact ⟨Sv, nv, X0, rfl, rfl, rfl, Nat.le_refl _, hX0R, hide (by rw [Nat.sub_self]; unfold rowSum; omega), by omega⟩
              case round =>
                obtain ⟨Sw, nw, iv, rfl, rfl, rfl, hi0, hi1, hSw, hnw⟩ := hrel
                have hSb : 0 ≤ Sw ∧ Sw ≤ 6000 := by
                  have h1 := unhide hS1 jv (iv - X0)
                  have h2 := unhide hSw
                  generalize rowSum zs W jv X0 (iv - X0) = q at h1 h2
                  omega
                obtain ⟨v0, v1⟩ := hSb
                have hnw2 : nw ≤ 20 := by omega
                replace hnw := hide hnw
                by_cases hiR : iv < R
                · have hst2 : Hid (rowSum zs W jv X0 (iv + 1 - X0) = rowSum zs W jv X0 (iv - X0) + zs.getD (m2 + iv) 0) := hide (by
                    rw [show iv + 1 - X0 = (iv - X0) + 1 by omega]
                    show rowSum zs W jv X0 (iv - X0) + zs.getD (jv * W + (X0 + (iv - X0))) 0 = _
                    rw [show X0 + (iv - X0) = iv by omega, unhide hm2])
                  have hil : m2 + iv < zs.length := by omega
                  have t1 : (iv : Int) < (X0 : Int) + (b : Int) := by have := unhide hR2; omega
                  have t2 : (iv : Int) < (W : Int) := by omega
                  obtain ⟨bb, off, hade, hbl, hcl⟩ := (unhide hAr) (ne_of_lt_length hil)
                  have hck := hcl (m2 + iv) hil
                  have hv := unhide hsm (m2 + iv)
                  generalize zs.getD (m2 + iv) 0 = v at hst2 hck hv
                  obtain ⟨hv0, hv1⟩ := hv
                  have k1 : (0 : Int) ≤ (m2 : Int) + (iv : Int) := by omega
                  have k2 : (m2 : Int) + (iv : Int) < (zs.length : Int) := by omega
                  have k3 : ((m2 : Int) + (iv : Int)).toNat = m2 + iv := by omega
                  clear hcl hbl
                  rw [hade] at a2
                  go_wp2
                  go_round
                  case rel => exact ⟨Sw + v, nw + 1, iv + 1, rfl, by go_num, by go_num, by omega, by omega, hide (by rw [unhide hst2, unhide hSw]; omega), by have := unhide hnw; omega⟩
                  case measure => simp [intOf]; omega
                · have hie : iv = R := by omega
                  have hen : Hid (Sw = boxSum zs W X0 nx Y0 (jv + 1 - Y0)) := hide (by
                    rw [unhide hstep, unhide hSw, unhide hSv, show iv - X0 = nx by have := unhide hR; omega])
                  have hnn : nw = nv + nx := by have := unhide hR; have := unhide hnw; omega
                  have hex : ¬ ((iv : Int) < (X0 : Int) + (b : Int)) ∨ ((iv : Int) < (X0 : Int) + (b : Int)) ∧ ¬ ((iv : Int) < (W : Int)) := by
                    have := unhide hR2; omega
                  replace hie := hide hie
                  replace hnn := hide hnn
                  clear hiR
                  rcases hex with t1 | ⟨t1, t2⟩
                  · go_wp2
                    go_round
                    case rel => exact ⟨Sw, nw, jv + 1, rfl, rfl, by go_num, by omega, by omega, hen, hide (by rw [unhide hnst, unhide hnn]), by rw [unhide hnn]; exact hnv3⟩
                    case measure => simp [intOf]; omega
                  · go_wp2
                    go_round
                    case rel => exact ⟨Sw, nw, jv + 1, rfl, rfl, by go_num, by omega, by omega, hen, hide (by rw [unhide hnst, unhide hnn]), by rw [unhide hnn]; exact hnv3⟩
                    case measure => simp [intOf]; omega
            · have hje : jv = T := by omega
              have hex : ¬ ((jv : Int) < (Y0 : Int) + (b : Int)) ∨ ((jv : Int) < (Y0 : Int) + (b : Int)) ∧ ¬ ((jv : Int) < (H : Int)) := by
                have := unhide hT2; omega
              have hny : jv - Y0 = ny := by have := unhide hT; omega
              have hN1 : 1 ≤ nv := by rw [unhide hnv, hny]; exact Nat.mul_le_mul nx1 ny1
              have hen : Hid ((Sv + ((nv / 2 : Nat) : Int)) / (nv : Int) = M) := hide (by
                rw [unhide hM, unhide hSv, unhide hnv, hny])
              obtain ⟨n2, hn2⟩ : ∃ k, nv / 2 = k := ⟨_, rfl⟩
              rw [hn2] at hen
              have f1 : (nv : Int).tdiv 2 = (n2 : Int) := by rw [Int.tdiv_eq_ediv_of_nonneg (by omega)]; omega
              have f2 : (Sv + (n2 : Int)).tdiv (nv : Int) = M := by rw [Int.tdiv_eq_ediv_of_nonneg (by omega)]; exact unhide hen
              have hM0 : 0 ≤ M := by rw [← unhide hen]; exact Int.ediv_nonneg (by omega) (by omega)
              have hM1 : M ≤ 5000 := by
                rw [← unhide hen]
                exact Int.le_trans (Int.ediv_le_self _ (by omega)) (by omega)
              have g1 : IntKind.i64.wrap (n2 : Int) = (n2 : Int) := by simp [IntKind.wrap, IntKind.bits, IntKind.signed]; omega
              have g2 : IntKind.i64.wrap (Sv + (n2 : Int)) = Sv + (n2 : Int) := by simp [IntKind.wrap, IntKind.bits, IntKind.signed]; omega
              have g3 : IntKind.i64.wrap M = M := by simp [IntKind.wrap, IntKind.bits, IntKind.signed]; omega
              have g4 : ¬ nv = 0 := by omega
              replace hn2 := hide hn2
              replace hje := hide hje
              replace hny := hide hny
              clear hjT hen
              go_upto_region 11 with fail
              go_cut [54] (fun s54 wx => s54 = .bool false ∧ wx = wr)
              case first =>
                clear f1 f2 g1 g2 g3 g4
                rcases hex with t1 | ⟨t1, t2⟩
                · go_wp2
                  go_meet
                  exact ⟨rfl, rfl⟩
                · go_wp2
                  go_meet
                  exact ⟨rfl, rfl⟩
              case rest =>
                obtain ⟨rfl, rfl⟩ := hcut
                clear hex
                obtain ⟨C, hCe⟩ : ∃ C, shrinkL zs W H b (m + x) = C := ⟨_, rfl⟩
                have hCl : C.length = m + x := by rw [← hCe, shrinkL_length]
                rw [hCe] at hSt hnew
                replace hCe := hide hCe
                have hCb : C.length ≤ 5000 := by omega
                replace hCl := hide hCl
                obtain ⟨ho, hr, hbb, hz, hk⟩ := unhide hSt
                have p4 := ho.1.2 2 _ rfl
                have hOd := hide hr
                have pBd := hide ho
                have bBd := hide hbb
                have zBd := hide hz
                have kBd := hide hk
                have hsX : c < wc.heap.size := ho.1.1
                obtain ⟨iI, hI, hI0, hI1, hI2⟩ := info_parts infoI
                have q2 := fun X : UpdT wc => (((unhide pBd).1.updT X).2 2 _ rfl)
                clear hSt ho hr hbb hz hk a0 a1 a2 hAr d0 p4
                go_wp2_with fail
                refine wp_region_make 8 9 (fun k => .slice (some ⟨k, 0, none⟩) 1 1) [.int .i64 M] 3 (by kernel_rfl) (by kernel_rfl) (by kernel_rfl) (by rfl) (WM.of ?_)
                simp only [List.take_succ_cons, List.take_zero, List.drop_succ_cons, List.drop_zero, List.drop_nil]
                iterate 8
                  refine WG.step (fun K hK => ?_)
                  go_simp
                  refine hK _ ?_
                  clear hK K
                refine WG.nil ⟨fun X => ?_, ?_⟩
                · go_simp
                refine WG.nil ?_
                clear q2 f1 f2 g1 g2 g3 g4
                intro w5 k hw h1 h2 hnk
                have pB5 := hide ((unhide pBd).keep hw)
                have bB5 := hide ((unhide bBd).keep hw)
                have zB5 := hide ((unhide zBd).keep hw)
                have kB5 := hide (below_upd (unhide kBd) hw (Nat.le_refl _) (.inr (Nat.le_refl _)))
                have hO5 := hide ((Own.of (unhide hOd)).keep hw).1
                have hs5 : c < w5.heap.size := by have := hw.size; omega
                have hrn : Hid (RdJ w5 (.slice (some ⟨k, 0, none⟩) 1 1) [M]) := hide (.inr ⟨k, 0, 1, rfl, h2, fun j hj => by
                  have hj0 : j = 0 := by simp at hj; omega
                  subst hj0
                  exact hnk.1.2 0 _ rfl⟩)
                clear hw h1 h2 hnk pBd bBd zBd kBd hOd
                refine wpList_appI rfl (.tmp 90) (.tmp 97) rfl (c + 1) (.slice ad2 C.length cp) C rfl (unhide hO5) _ [M] rfl (unhide hrn) (by simp; omega) (by omega) ?_
                (intro v6 w6 ho6 hg6 _; have hu6 := upd_of_grownI hg6 (unhide hO5); have pB6 := hide ((unhide pB5).upd hu6 (.inl (Nat.le_refl _))); have bB6 := hide ((unhide bB5).upd hu6 (.inl (by omega))); have zB6 := hide ((unhide zB5).upd hu6 (.inl (by omega))); have kB6 := hide (below_upd (unhide kB5) hu6 (Nat.le_refl _) (.inl (by omega))); obtain ⟨ad6, cp6, rfl, _⟩ := OwnI.rd (Own.of ho6); have p60 := (unhide pB6).1.2 2 _ rfl; have z60 := (unhide pB6).2 2; replace ho6 := hide ho6; clear hg6 hu6)
                go_wp2
                have hst := (unhide pB6).set 2 (.slice ad6 (C.length + 1) cp6) (by simp)
                simp only [List.set_cons_zero, List.set_cons_succ] at hst
                have hac := ownsRow_setCell_below (a := ⟨c, 2, none⟩) (unhide ho6) (show c < c + 1 by omega) (.slice ad6 (C.length + 1) cp6)
                have hbb6 := (unhide bB6).other (g' := c) (by omega) 2 (.slice ad6 (C.length + 1) cp6)
                have hzz6 := (unhide zB6).other (g' := c) (by omega) 2 (.slice ad6 (C.length + 1) cp6)
                have hkk6 := (unhide kB6).setCell (p := ⟨c, 2, none⟩) (show w.heap.size ≤ c by omega) (.slice ad6 (C.length + 1) cp6)
                have hle : (C ++ [M]).length = C.length + 1 := by simp
                have hfin : Hid (AccSt w (w6.setCell ⟨c, 2, none⟩ (.slice ad6 (C.length + 1) cp6)) c W H sw sh ad zs.length cap (shrinkL zs W H b (m + (x + 1))) ad6 cp6) := hide ⟨by rw [unhide hnew, hle]; exact hst, by rw [unhide hnew]; exact hac, hbb6, hzz6, hkk6⟩
                clear hst hac hbb6 hzz6 hkk6 pB6 bB6 zB6 kB6 ho6 p60 z60
                go_roundw
                case rel => exact ⟨x + 1, ad6, cp6, by go_num, by omega, hfin⟩
                case measure => simp [intOf]; omega
        · have hxe : x = sw := by omega
          subst hxe
          have hmn : Hid (m + x = (y + 1) * x) := hide (by rw [unhide hm, Nat.add_mul, Nat.one_mul])
          go_wp2
          clear d0
          go_roundw
          case rel => exact ⟨y + 1, m + x, ad2, cp, by go_num, by omega, hmn, hSt⟩
          case measure => simp [intOf]; omega
    · have hye : y = sh := by omega
      subst hye
      obtain ⟨ho, hr, hbb, hz, hk⟩ := unhide hSt
      have hmn : Hid (m = sw * y) := hide (by rw [unhide hm, Nat.mul_comm])
      have a0 := ho.1.2 0 _ rfl
      have a2 := ho.1.2 2 _ rfl
      have z0 := hz.1.2 0 _ rfl
      have z1 := hz.1.2 1 _ rfl
      have z2 := hz.1.2 2 _ rfl
      have f0 := hz.2 0
      have f1 := hz.2 1
      have f2 := hz.2 2
      replace hr := hide hr
      replace hk := hide hk
      clear hSt ho hbb hz
      go_wp2
      refine bodyPost_ret (v := .agg #[.int .i64 (sw : Int), .int .i64 (y : Int), .slice ad2 (shrinkL zs W H b m).length cp]) (by simp [results, Try.results60, go_sem, z0, z1, z2]) rfl ⟨_, rfl, ?_, Upd.of_below ((((unhide hk).setCell (by simp) _).setCell (by simp) _).setCell (by simp) _) 0 0⟩
      rw [← unhide hmn]
      refine ⟨_, rfl, ?_⟩
      have ho := Own.of (unhide hr)
      refine own_mono (a := c + 1) (b := wr.heap.size) ⟨?_, ho.2⟩ (by omega) (by simp)
      exact ownsRow_setCell_below (ownsRow_setCell_below (ownsRow_setCell_below ho.1 (show w.heap.size + 1 < c + 1 by omega) _) (show w.heap.size + 1 < c + 1 by omega) _) (show w.heap.size + 1 < c + 1 by omega) _
end Go.Proofs.Ytkeplngifceegaa

/- The walk of the specification's test of sides. -/
namespace Go.Proofs.Ytkeplngifceegaa
open Go.RowKit

set_option maxHeartbeats 1000000 in
theorem specL4Sides (a b : Int) (w : World) : Calls Try.prog 78 #[.int .i64 a, .int .i64 b] w fun e w' => e = .returned (.bool (sidesB a b)) ∧ w' = w := by
  by_cases ha : 1 ≤ a ∧ a ≤ 512
  · have hE : sidesB a b = sideB b := by unfold sidesB; rw [sideB_yes ha]; rfl
    rw [hE]
    obtain ⟨a1, a2⟩ := ha
    by_cases hb : 1 ≤ b ∧ b ≤ 512
    · rw [sideB_yes hb]
      obtain ⟨b1, b2⟩ := hb
      clear hE
      go_enter Try.func78, Try.ntmps78
      go_wp2
      go_ret
      exact ⟨rfl, rfl⟩
    · rw [sideB_no hb]
      clear hE
      by_cases h1 : b < 1
      · have q1 : decide (1 ≤ b) = false := by simp; omega
        clear hb
        go_enter Try.func78, Try.ntmps78
        go_wp2
        go_ret
        exact ⟨rfl, rfl⟩
      · have q1 : decide (1 ≤ b) = true := by simp; omega
        have q2 : decide (b ≤ 512) = false := by simp; omega
        clear hb
        go_enter Try.func78, Try.ntmps78
        go_wp2
        go_ret
        exact ⟨rfl, rfl⟩
  · have hE : sidesB a b = false := by unfold sidesB; rw [sideB_no ha]; rfl
    rw [hE]
    clear hE
    by_cases h1 : a < 1
    · have q1 : decide (1 ≤ a) = false := by simp; omega
      clear ha
      go_enter Try.func78, Try.ntmps78
      go_wp2
      go_ret
      exact ⟨rfl, rfl⟩
    · have q1 : decide (1 ≤ a) = true := by simp; omega
      have q2 : decide (a ≤ 512) = false := by simp; omega
      clear ha
      go_enter Try.func78, Try.ntmps78
      go_wp2
      go_ret
      exact ⟨rfl, rfl⟩

end Go.Proofs.Ytkeplngifceegaa

/- The walks of GoodPlane: the specification's. -/
namespace Go.Proofs.Ytkeplngifceegaa
open Go.RowKit

set_option maxHeartbeats 4000000 in
theorem specL7Sides (a b : Int) (w : World) : Calls Try.prog 51 #[.int .i64 a, .int .i64 b] w fun e w' => e = .returned (.bool (decide (SidesOk a b))) ∧ w' = w := by
  have hS := hide (fun W => specL4Sides a b W)
  by_cases h : (1 ≤ a ∧ a ≤ 512) ∧ (1 ≤ b ∧ b ≤ 512)
  case neg =>
    rw [decide_eq_false (fun h' => h ⟨h'.1, h'.2.1⟩)]
    rw [sidesB_no h] at hS
    clear h
    go_enter Try.func51, Try.ntmps51
    go_wp2_with fail
    refine (unhide hS _).mono ?_
    rintro e w1 ⟨rfl, rfl⟩
    go_wp2
    go_ret
    exact ⟨rfl, rfl⟩
  obtain ⟨ha, hb⟩ := h
  obtain ⟨P, hP, P1, P2⟩ := prod_side ha hb
  have hR : decide (SidesOk a b) = decide (P ≤ 4096) := by
    by_cases h : P ≤ 4096
    · rw [decide_eq_true h]; exact decide_eq_true ⟨ha, hb, by omega⟩
    · rw [decide_eq_false h]; exact decide_eq_false (fun h' => h (by have := h'.2.2; omega))
  rw [hR]
  rw [sidesB_yes ha hb] at hS
  clear ha hb hR
  go_enter Try.func51, Try.ntmps51
  go_wp2_with fail
  refine (unhide hS _).mono ?_
  rintro e w1 ⟨rfl, rfl⟩
  go_wp2
  go_ret
  exact ⟨rfl, rfl⟩
set_option maxHeartbeats 8000000 in
set_option maxRecDepth 100000 in
theorem specGoodPlane (v : Value) (d : Pl) (w : World) (hn : d.2.2.length ≤ 1048576) (_hR : InPl d) (hv : RdPl w v d) :
    Calls Try.prog 23 #[v] w fun e w' => e = .returned (.bool (goodPlB d)) ∧ Upd 0 0 w w' := by
  obtain ⟨vl, rfl, h⟩ := hv
  obtain ⟨ad, cap, rfl, hA⟩ := h
  obtain ⟨a, b, zs⟩ := d
  simp only [Plv, Pls] at hn hA ⊢
  have hB := (Below.refl w.heap.size w).alloc (Nat.le_refl _) (.cells #[.int .i64 a, .int .i64 b, .slice ad zs.length cap] 31)
  have hU := hide (Upd.of_below hB 0 0)
  have hS := hide (fun W => specL7Sides a b W)
  by_cases hs : SidesOk a b
  case neg =>
    rw [goodPlB_no (fun h => hs h.1)]
    rw [decide_eq_false hs] at hS
    clear hs hB hA
    go_enter Try.func23, Try.ntmps23
    go_wp2_with fail
    refine (unhide hS _).mono ?_
    rintro e w1 ⟨rfl, rfl⟩
    go_wp2
    go_ret
    exact ⟨rfl, unhide hU⟩
  rw [decide_eq_true hs] at hS
  obtain ⟨P, hP, P1, P2⟩ := prod_side hs.1 hs.2.1
  by_cases hl : (zs.length : Int) = P
  case neg =>
    rw [goodPlB_no (fun h => hl (by have := h.2.1; simp only at this; omega))]
    have r3 : ((zs.length : Int) != P) = true := bne_iff_ne.2 hl
    clear hs hB hA hl
    go_enter Try.func23, Try.ntmps23
    go_wp2_with fail
    refine (unhide hS _).mono ?_
    rintro e w1 ⟨rfl, rfl⟩
    go_wp2
    go_ret
    exact ⟨rfl, unhide hU⟩
  have r3 : ((zs.length : Int) != P) = false := by simp [hl]
  have hG2 : Hid ((∀ k, k < zs.length → (0 ≤ zs.getD k 0 ∧ zs.getD k 0 ≤ 255)) → goodPlB (a, b, zs) = true) := hide (fun h => goodPlB_yes ⟨hs, by show (zs.length : Int) = a * b; rw [hP, hl], fun j hj => ⟨(h j hj).1, by have := (h j hj).2; show zs.getD j 0 < 2 ^ 8; omega⟩⟩)
  have hB2 : Hid (∀ k, k < zs.length → ¬ (0 ≤ zs.getD k 0 ∧ zs.getD k 0 ≤ 255) → goodPlB (a, b, zs) = false) := hide (fun k hk h => goodPlB_no (fun h' => h (by have := h'.2.2 k hk; simp only at this; have h2 : zs.getD k 0 < 2 ^ 8 := this.2; exact ⟨this.1, by omega⟩)))
  replace hA := hide (hA.below hB)
  replace hl := hide hl
  clear hB hs
  have hW3 : (w.alloc (.cells #[.int .i64 a, .int .i64 b, .slice ad zs.length cap] 31)).cell? ⟨w.heap.size, 2, none⟩ = some (.slice ad zs.length cap) := by rw [World.cell?_alloc_at _ _ _ _ rfl]; rfl
  go_enter Try.func23, Try.ntmps23
  go_wp2_with fail
  refine (unhide hS _).mono ?_
  rintro e w1 ⟨rfl, rfl⟩
  go_wp2_with fail
  generalize w.alloc (.cells #[.int .i64 a, .int .i64 b, .slice ad zs.length cap] 31) = W1 at hU hA hW3 ⊢
  go_loop [25] (fun i => ∃ k : Nat, k ≤ zs.length ∧ i = .int .i64 k ∧ Hid (∀ j, j < k → (0 ≤ zs.getD j 0 ∧ zs.getD j 0 ≤ 255))) (fun i => zs.length - (intOf i).toNat)
  case atStart => exact ⟨0, Nat.zero_le _, rfl, fun j hj => by omega⟩
  case round =>
    obtain ⟨k, hk', rfl, hok⟩ := hrel
    by_cases hlt : k < zs.length
    · obtain ⟨bb, off, rfl, hbl, hcl⟩ := (unhide hA) (ne_of_lt_length hlt)
      have hck := hcl k hlt
      have hbad := hide (unhide hB2 k hlt)
      have hOk : Hid ((0 ≤ zs.getD k 0 ∧ zs.getD k 0 ≤ 255) → ∀ j, j < k + 1 → (0 ≤ zs.getD j 0 ∧ zs.getD j 0 ≤ 255)) := hide (fun h j hj => by
        rcases Nat.lt_or_eq_of_le (Nat.le_of_lt_succ hj) with h' | h'
        · exact unhide hok j h'
        · subst h'; exact h)
      clear hcl hbl
      generalize zs.getD k 0 = x at hck hbad hOk
      by_cases h1 : x < 0
      · have hB := hide (unhide hbad (fun h => by have := h.1; omega))
        clear hbad hOk
        go_wp2
        go_ret
        exact ⟨by rw [unhide hB]; rfl, unhide hU⟩
      · by_cases h2 : 255 < x
        · have hB := hide (unhide hbad (fun h => by have := h.2; omega))
          clear hbad hOk
          go_wp2
          go_ret
          exact ⟨by rw [unhide hB]; rfl, unhide hU⟩
        · have hok2 := hide (unhide hOk ⟨by omega, by omega⟩)
          clear hbad hOk
          go_wp2
          all_goals
            go_round
            case rel => exact ⟨k + 1, by omega, by go_num, unhide hok2⟩
            case measure => simp [intOf]; omega
    · have hkl : k = zs.length := by omega
      subst hkl
      have hs := hide (unhide hG2 (unhide hok))
      go_wp2
      go_ret
      exact ⟨by rw [unhide hs]; rfl, unhide hU⟩
end Go.Proofs.Ytkeplngifceegaa

/- The specification's Resize. -/
namespace Go.Proofs.Ytkeplngifceegaa
open Go.RowKit

theorem AccSt.keep {w wr w' : World} {c : Nat} {W H sw sh : Int} {ad : Option Addr} {n cap : Nat} {L : List Int} {ad2 : Option Addr} {cp : Nat} (h : AccSt w wr c W H sw sh ad n cap L ad2 cp) (hu : Upd 0 0 wr w') : AccSt w w' c W H sw sh ad n cap L ad2 cp :=
  ⟨h.o.keep hu, ((Own.of h.r).keep hu).1, h.b.keep hu, h.z.keep hu, below_upd h.k hu (Nat.le_refl _) (.inr (Nat.le_refl _))⟩
set_option maxHeartbeats 8000000 in
set_option maxRecDepth 100000 in
theorem specResize (v : Value) (d : Pl) (wi he : Int) (w : World) (hn : d.2.2.length ≤ 1048576) (hR : InPl d) (hv : RdPl w v d) (_hl1 : -9223372036854775808 ≤ wi) (_hh1 : wi ≤ 9223372036854775807) (_hl2 : -9223372036854775808 ≤ he) (_hh2 : he ≤ 9223372036854775807) :
    Calls Try.prog 29 #[v, .int .i64 wi, .int .i64 he] w fun e w' => ∃ u, e = .returned u ∧ OwnPl w' w.heap.size w'.heap.size u (resizeF d wi he) ∧ Upd 0 0 w w' := by
  obtain ⟨vl, rfl, h⟩ := hv
  obtain ⟨ad, cap, rfl, hA⟩ := h
  obtain ⟨a1, b1, zs⟩ := d
  simp only [Plv, Pls] at hn hA ⊢
  have hG := hide (fun (W : World) (h : ArgI W ad zs) => specGoodPlane _ (a1, b1, zs) W hn hR ⟨_, rfl, ad, cap, rfl, h⟩)
  have hSd := hide (fun (W : World) => specL7Sides wi he W)
  have hB0 := (((Below.refl w.heap.size w).alloc (Nat.le_refl _) (.cells #[.int .i64 a1, .int .i64 b1, .slice ad zs.length cap] 31)).alloc (by simp) (.cells #[.int .i64 0, .int .i64 0, .slice none 0 0] 31))
  have hs0 : ((w.alloc (.cells #[.int .i64 a1, .int .i64 b1, .slice ad zs.length cap] 31)).alloc (.cells #[.int .i64 0, .int .i64 0, .slice none 0 0] 31)).heap.size = w.heap.size + 2 := by simp
  have hbx := (heldF_new w [.int .i64 a1, .int .i64 b1, .slice ad zs.length cap] 31).keep (Upd.of_below ((Below.refl _ _).alloc (Nat.le_refl _) (.cells #[.int .i64 0, .int .i64 0, .slice none 0 0] 31)) 0 0)
  have hrs := heldF_new (w.alloc (.cells #[.int .i64 a1, .int .i64 b1, .slice ad zs.length cap] 31)) [.int .i64 0, .int .i64 0, .slice none 0 0] 31
  have e1 : (w.alloc (.cells #[.int .i64 a1, .int .i64 b1, .slice ad zs.length cap] 31)).heap.size = w.heap.size + 1 := by simp
  rw [e1] at hrs
  clear e1
  have hA0 := hide (hA.below hB0)
  have hAw := hide hA
  replace hB0 := hide hB0
  replace hbx := hide hbx
  replace hrs := hide hrs
  clear hA
  go_enter Try.func29, Try.ntmps29
  go_upto_region 1 with fail
  generalize (w.alloc (.cells #[.int .i64 a1, .int .i64 b1, .slice ad zs.length cap] 31)).alloc (.cells #[.int .i64 0, .int .i64 0, .slice none 0 0] 31) = w0 at hB0 hs0 hbx hrs hA0 ⊢
  obtain ⟨okB, hok⟩ : ∃ okB, okB = (goodPlB (a1, b1, zs) && decide (SidesOk wi he)) := ⟨_, rfl⟩
  replace hok := hide hok
  go_cut [26] (fun s26 wx => s26 = .bool (!okB) ∧ Hid (Upd 0 0 w0 wx))
  case first =>
    have c0 := (unhide hbx).1.2 0 _ rfl
    have c1 := (unhide hbx).1.2 1 _ rfl
    have c2 := (unhide hbx).1.2 2 _ rfl
    go_wp2_with fail
    refine (unhide hG w0 (unhide hA0)).mono ?_
    rintro e w1 ⟨rfl, hu⟩
    clear c0 c1 c2
    cases hgb : goodPlB (a1, b1, zs)
    · have e : okB = false := by rw [unhide hok, hgb]; rfl
      subst e
      replace hu := hide hu
      clear hok hgb
      go_wp2
      go_meet
      exact ⟨rfl, hu⟩
    · have e : okB = decide (SidesOk wi he) := by rw [unhide hok, hgb]; rfl
      replace hu := hide hu
      clear hok hgb
      go_wp2_with fail
      refine (unhide hSd _).mono ?_
      rintro e w2 ⟨rfl, rfl⟩
      rw [← e]
      clear e
      go_wp2
      go_meet
      exact ⟨rfl, hu⟩
  case rest =>
  obtain ⟨rfl, hu0⟩ := hcut
  replace hbx := hide ((unhide hbx).keep (unhide hu0))
  replace hrs := hide ((unhide hrs).keep (unhide hu0))
  replace hA0 := hide ((unhide hA0).below ((unhide hu0).below (Nat.le_refl _) (.inr (Nat.zero_le _))))
  replace hB0 := hide (below_upd (unhide hB0) (unhide hu0) (Nat.le_refl _) (.inr (Nat.le_refl _)))
  have hs1 : w.heap.size + 2 ≤ wc.heap.size := by have := (unhide hu0).size; omega
  clear hG hu0 hs0 hSd
  by_cases hg : GoodPl (a1, b1, zs) ∧ SidesOk wi he
  case neg =>
    have hF := hide (resizeF_no hg)
    have e : okB = false := by
      rw [unhide hok]
      by_cases hg1 : GoodPl (a1, b1, zs)
      · rw [goodPlB_yes hg1, decide_eq_false (fun h => hg ⟨hg1, h⟩)]; rfl
      · rw [goodPlB_no hg1]; rfl
    subst e
    have z0 := (unhide hrs).1.2 0 _ rfl
    have z1 := (unhide hrs).1.2 1 _ rfl
    have z2 := (unhide hrs).1.2 2 _ rfl
    have f0 := (unhide hrs).2 0
    have f1 := (unhide hrs).2 1
    have f2 := (unhide hrs).2 2
    clear hbx hA0 hR hok hg
    go_wp2
    refine bodyPost_ret (v := .agg #[.int .i64 0, .int .i64 0, .slice none 0 0]) (by simp [results, Try.results29, go_sem, z0, z1, z2]) rfl ⟨_, rfl, ?_, Upd.of_below ((((unhide hB0).setCell (by simp) _).setCell (by simp) _).setCell (by simp) _) 0 0⟩
    rw [unhide hF]
    exact ⟨_, rfl, World.ownsRow_nil _ _ _ _, fun k hk => by simp [Value.ownBlock] at hk⟩
  obtain ⟨hg1, hsd⟩ := hg
  have e : okB = true := by rw [unhide hok, goodPlB_yes hg1, decide_eq_true hsd]; rfl
  subst e
  clear hok
  have hF := hide (resizeF_yes hg1 hsd)
  obtain ⟨W, H, rfl, rfl, hp⟩ := hg1.nat
  obtain ⟨⟨s1, s2⟩, ⟨s3, s4⟩, s5⟩ := hsd
  obtain ⟨sw, rfl⟩ := Int.eq_ofNat_of_zero_le (show 0 ≤ wi by omega)
  obtain ⟨sh, rfl⟩ := Int.eq_ofNat_of_zero_le (show 0 ≤ he by omega)
  simp only [Int.toNat_natCast] at hF
  have sw1 : 1 ≤ sw := by omega
  have sw2 : sw ≤ 512 := by omega
  have sh1 : 1 ≤ sh := by omega
  have sh2 : sh ≤ 512 := by omega
  have hNN4 : sw * sh ≤ 4096 := by
    have e : (sw : Int) * (sh : Int) = ((sw * sh : Nat) : Int) := by simp
    omega
  obtain ⟨W1, W2⟩ := hp.w
  obtain ⟨H1, H2⟩ := hp.h
  have hNN : Hid (∀ y x, y < sh → x < sw → y * sw + x < 4096) := hide (fun y x hy hx => by
    have h1 : (y + 1) * sw ≤ sh * sw := Nat.mul_le_mul hy (Nat.le_refl _)
    rw [Nat.add_mul, Nat.one_mul, Nat.mul_comm sh sw] at h1
    omega)
  have hFx := hide (fun (x : Nat) (X : World) (h : x < sw) => specL7From x W sw X h ⟨W1, W2⟩ sw2)
  have hFy := hide (fun (x : Nat) (X : World) (h : x < sh) => specL7From x H sh X h ⟨H1, H2⟩ sh2)
  have hAt := hide (fun (x y : Nat) (X : World) (h1 : x ≤ 1000000) (h2 : y ≤ 1000000) (h : ArgI X ad zs) => specL7At W H x y ad cap zs X hp h1 h2 h)
  have hL : Hid (∀ k, resizeL zs W H sw sh (k + 1) = resizeL zs W H sw sh k ++ [blendF zs W H (fromF (k % sw) W sw) (fromF (k / sw) H sh)]) := hide (fun k => resizeL_succ zs W H sw sh k)
  have hsm := hide hp.s
  clear hg1 hR hp _hl1 _hh1 _hl2 _hh2 s1 s2 s3 s4 s5
  go_upto_region 4 with fail
  obtain ⟨c, hc⟩ : ∃ c, wc.heap.size = c := ⟨_, rfl⟩
  have hu2 := Upd.of_below ((Below.refl wc.heap.size wc).alloc (Nat.le_refl _) (.cells #[.int .i64 (sw : Int), .int .i64 (sh : Int), .slice none 0 0] 31)) 0 0
  have hot2 := heldF_new wc [.int .i64 (sw : Int), .int .i64 (sh : Int), .slice none 0 0] 31
  have hbx2 := (unhide hbx).keep hu2
  have hrs2 := (unhide hrs).keep hu2
  have hB2 := below_upd (unhide hB0) hu2 (Nat.le_refl _) (.inr (Nat.le_refl _))
  rw [hc] at hs1 hot2 ⊢
  clear hu2 hbx hrs hB0 hA0 hc
  generalize wc.alloc (.cells #[.int .i64 (sw : Int), .int .i64 (sh : Int), .slice none 0 0] 31) = w2 at hot2 hbx2 hrs2 hB2 ⊢
  have hSt : Hid (AccSt w w2 c W H sw sh ad zs.length cap (resizeL zs W H sw sh 0) none 0) := hide ⟨hot2, World.ownsRow_nil _ _ _ _, hbx2, hrs2, hB2⟩
  clear hot2 hbx2 hrs2 hB2
  go_wp2_with fail
  go_loopw [8] (fun s wr => ∃ (y m : Nat) (ad2 : Option Addr) (cp : Nat), s = .int .i64 (y : Int) ∧ y ≤ sh ∧ Hid (m = y * sw) ∧ Hid (AccSt w wr c W H sw sh ad zs.length cap (resizeL zs W H sw sh m) ad2 cp)) (fun s _ => sh - (intOf s).toNat)
  case atStart => exact ⟨0, 0, none, 0, rfl, Nat.zero_le _, hide (by simp), hSt⟩
  case round =>
    clear hSt
    obtain ⟨y, m, ad2, cp, rfl, hy, hm, hSt⟩ := hrel
    by_cases hyl : y < sh
    · have a1 := (unhide hSt).b.1.2 1 _ rfl
      have htb := fromF_bd hyl H2
      obtain ⟨tt, htt⟩ : ∃ k, fromF y H sh = k := ⟨_, rfl⟩
      have hFy2 := unhide hFy y wr hyl
      rw [htt] at hFy2 htb
      replace hFy2 := hide hFy2
      replace htt := hide htt
      go_wp2_with fail
      refine (unhide hFy2).mono ?_
      rintro e wv ⟨rfl, rfl⟩
      clear a1 hFy2
      go_wp2_with fail
      go_loopw [10] (fun s wr => ∃ (x : Nat) (ad2 : Option Addr) (cp : Nat), s = .int .i64 (x : Int) ∧ x ≤ sw ∧ Hid (AccSt w wr c W H sw sh ad zs.length cap (resizeL zs W H sw sh (m + x)) ad2 cp)) (fun s _ => sw - (intOf s).toNat)
      case atStart => exact ⟨0, ad2, cp, rfl, Nat.zero_le _, hSt⟩
      case round =>
        clear hSt
        obtain ⟨x, ad2, cp, rfl, hx, hSt⟩ := hrel
        by_cases hxl : x < sw
        · have a0 := (unhide hSt).b.1.2 0 _ rfl
          have hsb := fromF_bd hxl W2
          obtain ⟨ss, hss⟩ : ∃ k, fromF x W sw = k := ⟨_, rfl⟩
          have hFx2 := unhide hFx x wr hxl
          rw [hss] at hFx2 hsb
          have hnew : Hid (resizeL zs W H sw sh (m + (x + 1)) = resizeL zs W H sw sh (m + x) ++ [blendF zs W H ss tt]) := hide (by
            have := unhide hL (m + x)
            rw [unhide hm, (mod_row hxl).1, (mod_row hxl).2, hss, unhide htt] at this
            rw [unhide hm]; exact this)
          have hml : m + x < 4096 := by have := unhide hNN y x hyl hxl; rw [← unhide hm] at this; omega
          replace hFx2 := hide hFx2
          replace hss := hide hss
          go_wp2_with fail
          refine (unhide hFx2).mono ?_
          rintro e wv ⟨rfl, rfl⟩
          clear a0 hFx2
          have eA := i64_and_255 ss
          have eB := i64_and_255 tt
          have hBl : Hid (blendF zs W H ss tt = ((256 - ((tt % 256 : Nat) : Int)) * topF zs W H ss (tt / 256) + ((tt % 256 : Nat) : Int) * topF zs W H ss (tt / 256 + 1) + 32768) / 65536) := hide rfl
          have hT1 : Hid (topF zs W H ss (tt / 256) = (256 - ((ss % 256 : Nat) : Int)) * nearF zs W H (ss / 256) (tt / 256) + ((ss % 256 : Nat) : Int) * nearF zs W H (ss / 256 + 1) (tt / 256)) := hide rfl
          have hT2 : Hid (topF zs W H ss (tt / 256 + 1) = (256 - ((ss % 256 : Nat) : Int)) * nearF zs W H (ss / 256) (tt / 256 + 1) + ((ss % 256 : Nat) : Int) * nearF zs W H (ss / 256 + 1) (tt / 256 + 1)) := hide rfl
          have bT1 := topF_bd (unhide hsm) W H ss (tt / 256)
          have bT2 := topF_bd (unhide hsm) W H ss (tt / 256 + 1)
          have b00 := nearF_bd (unhide hsm) W H (ss / 256) (tt / 256)
          have b10 := nearF_bd (unhide hsm) W H (ss / 256 + 1) (tt / 256)
          have b01 := nearF_bd (unhide hsm) W H (ss / 256) (tt / 256 + 1)
          have b11 := nearF_bd (unhide hsm) W H (ss / 256 + 1) (tt / 256 + 1)
          have hAr := hide ((unhide hAw).below (unhide hSt).k)
          have hf : ss % 256 < 256 := Nat.mod_lt _ (by omega)
          have hg : tt % 256 < 256 := Nat.mod_lt _ (by omega)
          have eI : (ss : Int) / 256 = ((ss / 256 : Nat) : Int) := by omega
          have eJ : (tt : Int) / 256 = ((tt / 256 : Nat) : Int) := by omega
          have hi : ss / 256 ≤ 512 := by omega
          have hj : tt / 256 ≤ 512 := by omega
          obtain ⟨f, hfe⟩ : ∃ k, ss % 256 = k := ⟨_, rfl⟩
          obtain ⟨g, hge⟩ : ∃ k, tt % 256 = k := ⟨_, rfl⟩
          obtain ⟨i, hie⟩ : ∃ k, ss / 256 = k := ⟨_, rfl⟩
          obtain ⟨j, hje⟩ : ∃ k, tt / 256 = k := ⟨_, rfl⟩
          rw [hfe] at eA hT1 hT2 hf
          rw [hge] at eB hBl hg
          rw [hie] at eI hT1 hT2 b00 b10 b01 b11 hi
          rw [hje] at eJ hBl hT1 hT2 bT1 bT2 b00 b10 b01 b11 hj
          replace hfe := hide hfe
          replace hge := hide hge
          replace hie := hide hie
          replace hje := hide hje
          have hN00 := hide (fun (X : World) h => unhide hAt i j X (by omega) (by omega) h)
          have hN10 := hide (fun (X : World) h => unhide hAt (i + 1) j X (by omega) (by omega) h)
          have hN01 := hide (fun (X : World) h => unhide hAt i (j + 1) X (by omega) (by omega) h)
          have hN11 := hide (fun (X : World) h => unhide hAt (i + 1) (j + 1) X (by omega) (by omega) h)
          have eU : ((i + 1 : Nat) : Int) = (i : Int) + 1 := by omega
          have eV : ((j + 1 : Nat) : Int) = (j : Int) + 1 := by omega
          rw [eU] at hN10 hN11
          rw [eV] at hN01 hN11
          clear eU eV
          generalize topF zs W H ss j = T1 at hBl hT1 bT1
          generalize topF zs W H ss (j + 1) = T2 at hBl hT2 bT2
          generalize blendF zs W H ss tt = BB at hBl hnew
          generalize nearF zs W H i j = v00 at hT1 b00 hN00
          generalize nearF zs W H (i + 1) j = v10 at hT1 b10 hN10
          generalize nearF zs W H i (j + 1) = v01 at hT2 b01 hN01
          generalize nearF zs W H (i + 1) (j + 1) = v11 at hT2 b11 hN11
          obtain ⟨F, hFF⟩ : ∃ F, 256 - (f : Int) = F := ⟨_, rfl⟩
          have F0 : 0 ≤ F := by omega
          have F1 : F ≤ 256 := by omega
          rw [hFF] at hT1 hT2
          have w1 : IntKind.i64.wrap (256 - (f : Int)) = F := by rw [hFF]; exact wrapI (by omega)
          obtain ⟨A, hA⟩ : ∃ A, F * v00 = A := ⟨_, rfl⟩
          obtain ⟨B, hB⟩ : ∃ B, (f : Int) * v10 = B := ⟨_, rfl⟩
          obtain ⟨C, hC⟩ : ∃ C, F * v01 = C := ⟨_, rfl⟩
          obtain ⟨D, hD⟩ : ∃ D, (f : Int) * v11 = D := ⟨_, rfl⟩
          have mA := mul_bd F0 F1 b00.1 b00.2
          have mB := mul_bd (show (0 : Int) ≤ f by omega) (show (f : Int) ≤ 256 by omega) b10.1 b10.2
          have mC := mul_bd F0 F1 b01.1 b01.2
          have mD := mul_bd (show (0 : Int) ≤ f by omega) (show (f : Int) ≤ 256 by omega) b11.1 b11.2
          rw [hA] at mA hT1
          rw [hB] at mB hT1
          rw [hC] at mC hT2
          rw [hD] at mD hT2
          have wA : IntKind.i64.wrap (F * v00) = A := by rw [hA]; exact wrapI (by omega)
          have wB : IntKind.i64.wrap ((f : Int) * v10) = B := by rw [hB]; exact wrapI (by omega)
          have wC : IntKind.i64.wrap (F * v01) = C := by rw [hC]; exact wrapI (by omega)
          have wD : IntKind.i64.wrap ((f : Int) * v11) = D := by rw [hD]; exact wrapI (by omega)
          have wT1 : IntKind.i64.wrap (A + B) = T1 := by rw [← unhide hT1]; exact wrapI (by omega)
          have wT2 : IntKind.i64.wrap (C + D) = T2 := by rw [← unhide hT2]; exact wrapI (by omega)
          have wi : IntKind.i64.wrap ((i : Int) + 1) = (i : Int) + 1 := wrapI (by omega)
          have wj : IntKind.i64.wrap ((j : Int) + 1) = (j : Int) + 1 := wrapI (by omega)
          clear hFF hA hB hC hD mA mB mC mD hT1 hT2 F0 F1
          go_upto_region 16 with fail
          clear eA eB eI eJ
          have b0 := fun X : UpdT wv => (((unhide hSt).b.1.updT X).2 0 _ rfl)
          have b1 := fun X : UpdT wv => (((unhide hSt).b.1.updT X).2 1 _ rfl)
          have b2 := fun X : UpdT wv => (((unhide hSt).b.1.updT X).2 2 _ rfl)
          refine wq_region_upd (by kernel_rfl) (by kernel_rfl) ?_
          refine WQ.step (fun K hK => ?_)
          go_simp
          refine hK _ ?_
          clear hK K
          refine WQ.step (fun K hK => ?_)
          go_simp
          refine hK _ ?_
          clear hK K
          refine WQ.step (fun K hK => ?_)
          go_simp
          refine hK _ ?_
          clear hK K
          refine WQ.step (fun K hK => ?_)
          go_simp
          refine hK _ ?_
          clear hK K
          refine WQ.step (fun K hK => ?_)
          go_simp
          refine hK _ ?_
          clear hK K
          refine WQ.step (fun K hK => ?_)
          go_simp
          refine ⟨_, fun X => Calls.updT X (unhide hN00 X.to ((unhide hAr).below (X.upd.below (Nat.le_refl _) (.inr (Nat.zero_le _))))), hK _ ?_⟩
          clear hK K
          refine WQ.step (fun K hK => ?_)
          go_simp
          refine hK _ ?_
          clear hK K
          refine WQ.step (fun K hK => ?_)
          go_simp
          refine hK _ ?_
          clear hK K
          refine WQ.step (fun K hK => ?_)
          go_simp
          refine hK _ ?_
          clear hK K
          refine WQ.step (fun K hK => ?_)
          go_simp
          refine hK _ ?_
          clear hK K
          refine WQ.step (fun K hK => ?_)
          go_simp
          refine hK _ ?_
          clear hK K
          refine WQ.step (fun K hK => ?_)
          go_simp
          refine hK _ ?_
          clear hK K
          refine WQ.step (fun K hK => ?_)
          go_simp
          refine ⟨_, fun X => Calls.updT X (unhide hN10 X.to ((unhide hAr).below (X.upd.below (Nat.le_refl _) (.inr (Nat.zero_le _))))), hK _ ?_⟩
          clear hK K
          refine WQ.step (fun K hK => ?_)
          go_simp
          refine hK _ ?_
          clear hK K
          refine WQ.step (fun K hK => ?_)
          go_simp
          refine hK _ ?_
          clear hK K
          refine WQ.step (fun K hK => ?_)
          go_simp
          refine hK _ ?_
          clear hK K
          refine WQ.nil ?_
          rintro _ ⟨X, rfl⟩
          clear b0 b1 b2
          have hX := X.upd
          generalize X.to = wu at hX ⊢
          replace hSt := hide ((unhide hSt).keep hX)
          replace hAr := hide ((unhide hAr).below (hX.below (Nat.le_refl _) (.inr (Nat.zero_le _))))
          clear hX
          go_upto_region 17 with fail
          have b0 := fun X : UpdT wu => (((unhide hSt).b.1.updT X).2 0 _ rfl)
          have b1 := fun X : UpdT wu => (((unhide hSt).b.1.updT X).2 1 _ rfl)
          have b2 := fun X : UpdT wu => (((unhide hSt).b.1.updT X).2 2 _ rfl)
          refine wq_region_upd (by kernel_rfl) (by kernel_rfl) ?_
          refine WQ.step (fun K hK => ?_)
          go_simp
          refine hK _ ?_
          clear hK K
          refine WQ.step (fun K hK => ?_)
          go_simp
          refine hK _ ?_
          clear hK K
          refine WQ.step (fun K hK => ?_)
          go_simp
          refine hK _ ?_
          clear hK K
          refine WQ.step (fun K hK => ?_)
          go_simp
          refine hK _ ?_
          clear hK K
          refine WQ.step (fun K hK => ?_)
          go_simp
          refine hK _ ?_
          clear hK K
          refine WQ.step (fun K hK => ?_)
          go_simp
          refine hK _ ?_
          clear hK K
          refine WQ.step (fun K hK => ?_)
          go_simp
          refine ⟨_, fun X => Calls.updT X (unhide hN01 X.to ((unhide hAr).below (X.upd.below (Nat.le_refl _) (.inr (Nat.zero_le _))))), hK _ ?_⟩
          clear hK K
          refine WQ.step (fun K hK => ?_)
          go_simp
          refine hK _ ?_
          clear hK K
          refine WQ.step (fun K hK => ?_)
          go_simp
          refine hK _ ?_
          clear hK K
          refine WQ.step (fun K hK => ?_)
          go_simp
          refine hK _ ?_
          clear hK K
          refine WQ.step (fun K hK => ?_)
          go_simp
          refine hK _ ?_
          clear hK K
          refine WQ.step (fun K hK => ?_)
          go_simp
          refine hK _ ?_
          clear hK K
          refine WQ.step (fun K hK => ?_)
          go_simp
          refine hK _ ?_
          clear hK K
          refine WQ.step (fun K hK => ?_)
          go_simp
          refine hK _ ?_
          clear hK K
          refine WQ.step (fun K hK => ?_)
          go_simp
          refine ⟨_, fun X => Calls.updT X (unhide hN11 X.to ((unhide hAr).below (X.upd.below (Nat.le_refl _) (.inr (Nat.zero_le _))))), hK _ ?_⟩
          clear hK K
          refine WQ.step (fun K hK => ?_)
          go_simp
          refine hK _ ?_
          clear hK K
          refine WQ.step (fun K hK => ?_)
          go_simp
          refine hK _ ?_
          clear hK K
          refine WQ.step (fun K hK => ?_)
          go_simp
          refine hK _ ?_
          clear hK K
          refine WQ.nil ?_
          rintro _ ⟨X, rfl⟩
          clear b0 b1 b2 w1 wA wB wC wD wT1 wT2 wi wj hN00 hN10 hN01 hN11
          have hX := X.upd
          generalize X.to = wx at hX ⊢
          replace hSt := hide ((unhide hSt).keep hX)
          clear hX hAr
          obtain ⟨G, hGG⟩ : ∃ G, 256 - (g : Int) = G := ⟨_, rfl⟩
          have G0 : 0 ≤ G := by omega
          have G1 : G ≤ 256 := by omega
          obtain ⟨P, hP⟩ : ∃ P, G * T1 = P := ⟨_, rfl⟩
          obtain ⟨Q, hQ⟩ : ∃ Q, (g : Int) * T2 = Q := ⟨_, rfl⟩
          have mP := mul_bd G0 G1 bT1.1 bT1.2
          have mQ := mul_bd (show (0 : Int) ≤ g by omega) (show (g : Int) ≤ 256 by omega) bT2.1 bT2.2
          rw [hP] at mP
          rw [hQ] at mQ
          rw [hGG, hP, hQ] at hBl
          obtain ⟨P0, P1⟩ := mP
          obtain ⟨Q0, Q1⟩ := mQ
          have hBl2 : (P + Q + 32768) / 65536 = BB := (unhide hBl).symm
          obtain ⟨L, hCe⟩ : ∃ L, resizeL zs W H sw sh (m + x) = L := ⟨_, rfl⟩
          have hCl : L.length = m + x := by rw [← hCe, resizeL_length]
          rw [hCe] at hSt hnew
          have hCb : L.length ≤ 5000 := by omega
          replace hCe := hide hCe
          replace hCl := hide hCl
          obtain ⟨ho, hr, hbb, hz, hk⟩ := unhide hSt
          have p4 := ho.1.2 2 _ rfl
          have hs5 : c < wx.heap.size := ho.1.1
          replace ho := hide ho
          replace hr := hide hr
          replace hbb := hide hbb
          replace hz := hide hz
          replace hk := hide hk
          clear hSt
          have hu5 := Upd.of_below ((Below.refl wx.heap.size wx).alloc (Nat.le_refl _) (.cells #[.int .i64 BB] 3)) 0 0
          have pB5 := hide ((unhide ho).keep hu5)
          have bB5 := hide ((unhide hbb).keep hu5)
          have zB5 := hide ((unhide hz).keep hu5)
          have kB5 := hide (below_upd (unhide hk) hu5 (Nat.le_refl _) (.inr (Nat.le_refl _)))
          have hO5 := hide ((Own.of (unhide hr)).keep hu5).1
          have hnk := heldF_new wx [.int .i64 BB] 3
          have hrn : Hid (RdJ (wx.alloc (.cells #[.int .i64 BB] 3)) (.slice (some ⟨wx.heap.size, 0, none⟩) 1 1) [BB]) := hide (.inr ⟨wx.heap.size, 0, 1, rfl, by simp, fun j hj => by
            have hj0 : j = 0 := by simp at hj; omega
            subst hj0
            exact hnk.1.2 0 _ rfl⟩)
          clear hu5 hnk ho hr hbb hz hk
          go_upto_region 18 with fail
          go_wp2_with (at_builtin; go_loud (refine wpList_appI rfl (.tmp 92) (.tmp 103) rfl (c + 1) (.slice ad2 L.length cp) L rfl (unhide hO5) _ [BB] rfl (unhide hrn) (by simp; omega) (by simp; omega) ?_; intro v6 w6 ho6 hg6 _; have hu6 := upd_of_grownI hg6 (unhide hO5); have pB6 := hide ((unhide pB5).upd hu6 (.inl (Nat.le_refl _))); have bB6 := hide ((unhide bB5).upd hu6 (.inl (by omega))); have zB6 := hide ((unhide zB5).upd hu6 (.inl (by omega))); have kB6 := hide (below_upd (unhide kB5) hu6 (Nat.le_refl _) (.inl (by omega))); obtain ⟨ad6, cp6, rfl, _⟩ := OwnI.rd (Own.of ho6); have p60 := (unhide pB6).1.2 2 _ rfl; have z60 := (unhide pB6).2 2; replace ho6 := hide ho6; clear hg6 hu6))
          have hst := (unhide pB6).set 2 (.slice ad6 (L.length + 1) cp6) (by simp)
          simp only [List.set_cons_zero, List.set_cons_succ] at hst
          have hac := ownsRow_setCell_below (a := ⟨c, 2, none⟩) (unhide ho6) (show c < c + 1 by omega) (.slice ad6 (L.length + 1) cp6)
          have hbb6 := (unhide bB6).other (g' := c) (by omega) 2 (.slice ad6 (L.length + 1) cp6)
          have hzz6 := (unhide zB6).other (g' := c) (by omega) 2 (.slice ad6 (L.length + 1) cp6)
          have hkk6 := (unhide kB6).setCell (p := ⟨c, 2, none⟩) (show w.heap.size ≤ c by omega) (.slice ad6 (L.length + 1) cp6)
          have hle : (L ++ [BB]).length = L.length + 1 := by simp
          have hfin : Hid (AccSt w (w6.setCell ⟨c, 2, none⟩ (.slice ad6 (L.length + 1) cp6)) c W H sw sh ad zs.length cap (resizeL zs W H sw sh (m + (x + 1))) ad6 cp6) := hide ⟨by rw [unhide hnew, hle]; exact hst, by rw [unhide hnew]; exact hac, hbb6, hzz6, hkk6⟩
          clear hst hac hbb6 hzz6 hkk6 pB6 bB6 zB6 kB6 ho6 p60 z60
          go_roundw
          case rel => exact ⟨x + 1, ad6, cp6, by go_num, by omega, hfin⟩
          case measure => simp [intOf]; omega
        · have hxe : x = sw := by omega
          subst hxe
          have hmn : Hid (m + x = (y + 1) * x) := hide (by rw [unhide hm, Nat.add_mul, Nat.one_mul])
          go_wp2_with fail
          refine ⟨?_, ?measure⟩
          · (repeat apply Exists.intro)
            refine ⟨?rel, rfl⟩
            case rel => exact ⟨y + 1, m + x, ad2, cp, by go_num, by omega, hmn, hSt⟩
          · simp [intOf]; omega
    · have hye : y = sh := by omega
      subst hye
      obtain ⟨ho, hr, hbb, hz, hk⟩ := unhide hSt
      have hmn : Hid (m = sw * y) := hide (by rw [unhide hm, Nat.mul_comm])
      have a0 := ho.1.2 0 _ rfl
      have a1 := ho.1.2 1 _ rfl
      have a2 := ho.1.2 2 _ rfl
      have z0 := hz.1.2 0 _ rfl
      have z1 := hz.1.2 1 _ rfl
      have z2 := hz.1.2 2 _ rfl
      have f0 := hz.2 0
      have f1 := hz.2 1
      have f2 := hz.2 2
      replace hr := hide hr
      replace hk := hide hk
      clear hSt ho hbb hz
      go_wp2
      refine bodyPost_ret (v := .agg #[.int .i64 (sw : Int), .int .i64 (y : Int), .slice ad2 (resizeL zs W H sw y m).length cp]) (by simp [results, Try.results29, go_sem, z0, z1, z2]) rfl ⟨_, rfl, ?_, Upd.of_below ((((unhide hk).setCell (by simp) _).setCell (by simp) _).setCell (by simp) _) 0 0⟩
      rw [unhide hF, ← unhide hmn]
      refine ⟨_, rfl, ?_⟩
      have ho := Own.of (unhide hr)
      refine own_mono (a := c + 1) (b := wr.heap.size) ⟨?_, ho.2⟩ (by omega) (by simp)
      exact ownsRow_setCell_below (ownsRow_setCell_below (ownsRow_setCell_below ho.1 (show w.heap.size + 1 < c + 1 by omega) _) (show w.heap.size + 1 < c + 1 by omega) _) (show w.heap.size + 1 < c + 1 by omega) _
end Go.Proofs.Ytkeplngifceegaa

/- Plain: colours of three numbers. -/
namespace Go.Proofs.Ytkeplngifceegaa
open Go.RowKit

def clipF (n : Int) : Int := if n < 0 then 0 else if 255 < n then 255 else n
theorem clipF_bd (n : Int) : 0 ≤ clipF n ∧ clipF n ≤ 255 := by unfold clipF; split <;> (try split) <;> omega
theorem clipF_low {n : Int} (h : n < 0) : clipF n = 0 := by unfold clipF; rw [if_pos h]
theorem clipF_high {n : Int} (h : 255 < n) : clipF n = 255 := by unfold clipF; rw [if_neg (by omega), if_pos h]
theorem clipF_in {n : Int} (h0 : ¬ n < 0) (h : ¬ 255 < n) : clipF n = n := by unfold clipF; rw [if_neg h0, if_neg h]
def yOf (r g b : Int) : Int := clipF ((77 * r + 150 * g + 29 * b + 128) / 256)
def cbOf (r g b : Int) : Int := clipF ((-43 * r - 85 * g + 128 * b + 128) / 256 + 128)
def crOf (r g b : Int) : Int := clipF ((128 * r - 107 * g - 21 * b + 128) / 256 + 128)
def brightF (d : Int × Int × Int) : Int × Int × Int := (yOf (clipF d.1) (clipF d.2.1) (clipF d.2.2), cbOf (clipF d.1) (clipF d.2.1) (clipF d.2.2), crOf (clipF d.1) (clipF d.2.1) (clipF d.2.2))
def rOf (y _u v : Int) : Int := clipF (y + (359 * v + 128) / 256)
def gOf (y u v : Int) : Int := clipF (y - (88 * u + 183 * v + 128) / 256)
def bOf (y u _v : Int) : Int := clipF (y + (454 * u + 128) / 256)
def unbrightF (d : Int × Int × Int) : Int × Int × Int := (rOf (clipF d.1) (clipF d.2.1 - 128) (clipF d.2.2 - 128), gOf (clipF d.1) (clipF d.2.1 - 128) (clipF d.2.2 - 128), bOf (clipF d.1) (clipF d.2.1 - 128) (clipF d.2.2 - 128))
def Near (m : Int) (d : Int × Int × Int) : Prop := (-m ≤ d.1 ∧ d.1 ≤ m) ∧ (-m ≤ d.2.1 ∧ d.2.1 ≤ m) ∧ (-m ≤ d.2.2 ∧ d.2.2 ≤ m)
instance (m : Int) (d : Int × Int × Int) : Decidable (Near m d) := by unfold Near; infer_instance
def liftF (d : Int × Int × Int) : Int × Int × Int := if Near 1000000 d then ((d.1 + 2 * d.2.1 + d.2.2) / 4, d.2.2 - d.2.1, d.1 - d.2.1) else (0, 0, 0)
def unliftG (d : Int × Int × Int) : Int := d.1 - (d.2.1 + d.2.2) / 4
def unliftF (d : Int × Int × Int) : Int × Int × Int := if Near 4000000 d ∧ Near 1000000 (d.2.2 + unliftG d, unliftG d, d.2.1 + unliftG d) then (d.2.2 + unliftG d, unliftG d, d.2.1 + unliftG d) else (0, 0, 0)
theorem unlift_lift {d : Int × Int × Int} (h : Near 1000000 d) : unliftF (liftF d) = d := by
  obtain ⟨r, g, b⟩ := d
  unfold liftF
  rw [if_pos h]
  obtain ⟨⟨h1, h2⟩, ⟨h3, h4⟩, h5, h6⟩ := h
  simp only at h1 h2 h3 h4 h5 h6
  have e : unliftG ((r + 2 * g + b) / 4, b - g, r - g) = g := by unfold unliftG; simp only; omega
  unfold unliftF
  rw [e, if_pos]
  · simp only [Prod.mk.injEq]; exact ⟨by omega, trivial, by omega⟩
  · unfold Near; simp only; omega
theorem yOf_bd (r g b : Int) (hr : 0 ≤ r ∧ r ≤ 255) (hg : 0 ≤ g ∧ g ≤ 255) (hb : 0 ≤ b ∧ b ≤ 255) : yOf r g b = (77 * r + 150 * g + 29 * b + 128) / 256 := by
  unfold yOf; rw [clipF_in (by omega) (by omega)]
theorem red_near (r g b : Int) (hr : 0 ≤ r ∧ r ≤ 255) (hg : 0 ≤ g ∧ g ≤ 255) (hb : 0 ≤ b ∧ b ≤ 255) : -2 ≤ r - rOf (yOf r g b) (cbOf r g b - 128) (crOf r g b - 128) ∧ r - rOf (yOf r g b) (cbOf r g b - 128) (crOf r g b - 128) ≤ 2 := by
  rw [yOf_bd r g b hr hg hb]
  unfold rOf crOf clipF
  split <;> (try split) <;> (try split) <;> (try split) <;> omega
theorem green_near (r g b : Int) (hr : 0 ≤ r ∧ r ≤ 255) (hg : 0 ≤ g ∧ g ≤ 255) (hb : 0 ≤ b ∧ b ≤ 255) : -2 ≤ g - gOf (yOf r g b) (cbOf r g b - 128) (crOf r g b - 128) ∧ g - gOf (yOf r g b) (cbOf r g b - 128) (crOf r g b - 128) ≤ 2 := by
  rw [yOf_bd r g b hr hg hb]
  unfold gOf cbOf crOf clipF
  split <;> (try split) <;> (try split) <;> (try split) <;> (try split) <;> (try split) <;> omega
theorem blue_near (r g b : Int) (hr : 0 ≤ r ∧ r ≤ 255) (hg : 0 ≤ g ∧ g ≤ 255) (hb : 0 ≤ b ∧ b ≤ 255) : -2 ≤ b - bOf (yOf r g b) (cbOf r g b - 128) (crOf r g b - 128) ∧ b - bOf (yOf r g b) (cbOf r g b - 128) (crOf r g b - 128) ≤ 2 := by
  rw [yOf_bd r g b hr hg hb]
  unfold bOf cbOf clipF
  split <;> (try split) <;> (try split) <;> (try split) <;> omega
theorem grey_bright (g : Int) (hg : 0 ≤ g ∧ g ≤ 255) : brightF (g, g, g) = (g, 128, 128) := by
  unfold brightF
  simp only
  rw [clipF_in (by omega) (by omega)]
  unfold yOf cbOf crOf
  simp only [Prod.mk.injEq]
  refine ⟨?_, ?_, ?_⟩
  · rw [clipF_in (by omega) (by omega)]; omega
  · rw [clipF_in (by omega) (by omega)]; omega
  · rw [clipF_in (by omega) (by omega)]; omega
end Go.Proofs.Ytkeplngifceegaa

/- Triples as arguments and answers; the walks of the laws' own helpers on them. -/
namespace Go.Proofs.Ytkeplngifceegaa
open Go.RowKit

abbrev Tr := Int × Int × Int
abbrev Trv (d : Tr) : Value := .agg #[.int .i64 d.1, .int .i64 d.2.1, .int .i64 d.2.2]
def RdTr (_w : World) (v : Value) (d : Tr) : Prop := v = Trv d 
def OwnTr (_w : World) (_a _b : Nat) (v : Value) (d : Tr) : Prop := v = Trv d
theorem OwnTr.rd {w : World} {a b : Nat} {v : Value} {d : Tr} (h : OwnTr w a b v d) : RdTr w v d := by
  exact h
theorem RdTr.below {w w' : World} {v : Value} {d : Tr} (h : RdTr w v d) (_hb : Below w.heap.size w w') : RdTr w' v d := by
  exact h
theorem OwnTr.upd {w w' : World} {a b c e : Nat} {v : Value} {d : Tr} (h : OwnTr w a b v d) (_u : Upd c e w w') (_hd : b ≤ c ∨ e ≤ a) : OwnTr w' a b v d := by
  exact h
theorem OwnTr.keep {w w' : World} {a b : Nat} {v : Value} {d : Tr} (h : OwnTr w a b v d) (u : Upd 0 0 w w') : OwnTr w' a b v d := h.upd u (.inr (Nat.zero_le _))
theorem OwnTr.form {w : World} {a b : Nat} {v : Value} {d : Tr} (h : OwnTr w a b v d) : v = Trv d := h
/-- All numbers fit. -/
def InTr (d : Tr) : Prop := (-9223372036854775808 ≤ d.1 ∧ d.1 ≤ 9223372036854775807) ∧ (-9223372036854775808 ≤ d.2.1 ∧ d.2.1 ≤ 9223372036854775807) ∧ (-9223372036854775808 ≤ d.2.2 ∧ d.2.2 ≤ 9223372036854775807)
def TrSize (_d : Tr) : Nat := 0
def TrCount (_d : Tr) : Nat := 0
def TrMarked (_k : Nat) (d : Tr) : Tr := d

set_option maxHeartbeats 8000000 in
set_option maxRecDepth 100000 in
theorem toTriple_own (v : Value) (d : Tr) (w : World) (_hn : TrSize d ≤ 1048576) (hv : RdTr w v d) :
    Calls Try.prog 32 #[v] w fun e w' => ∃ u, e = .returned u ∧ OwnTr w' w.heap.size w'.heap.size u d ∧ Upd 0 0 w w' := by
  subst hv
  obtain ⟨x0, x1, x2⟩ := d
  simp only [Trv]
  go_enter Try.func32, Try.ntmps32
  go_wp2
  refine bodyPost_ret (v := .agg #[.int .i64 x0, .int .i64 x1, .int .i64 x2]) (by simp [results, Try.results32, go_sem]) rfl ⟨_, rfl, rfl, Upd.of_below ?_ 0 0⟩
  repeat (first | exact Below.refl _ _ | refine Below.setCell ?_ (by simp) _ | refine Below.alloc ?_ (by first | exact Nat.le_refl _ | (simp; done) | (simp; omega)) _)

set_option maxHeartbeats 4000000 in
set_option maxRecDepth 100000 in
theorem eqTriple_rd (u v : Value) (d : Tr) (w : World) (_hn : TrSize d ≤ 1048576) (hu : RdTr w u d) (hv : RdTr w v d) :
    Calls Try.prog 33 #[u, v] w fun e w' => e = .returned (.bool true) ∧ Upd 0 0 w w' := by
  subst hu hv
  obtain ⟨x0, x1, x2⟩ := d
  simp only [Trv]
  go_enter Try.func33, Try.ntmps33
  go_wp2
  go_ret
  refine ⟨rfl, Upd.of_below ?_ 0 0⟩
  repeat (first | exact Below.refl _ _ | refine Below.alloc ?_ (by first | exact Nat.le_refl _ | (simp; done) | (simp; omega)) _)

end Go.Proofs.Ytkeplngifceegaa

/- The program's colours: clipping. -/
namespace Go.Proofs.Ytkeplngifceegaa
open Go.RowKit

theorem implClipInt (n a b : Int) (w : World) : Calls Try.prog 84 #[.int .i64 n, .int .i64 a, .int .i64 b] w fun e w' => e = .returned (.int .i64 (max a (min b n))) ∧ w' = w := by
  go_enter Try.func84, Try.ntmps84
  go_wp2
  all_goals
    go_ret
    exact ⟨ret_int (by omega), rfl⟩
set_option maxHeartbeats 4000000 in
set_option maxRecDepth 100000 in
theorem implClipSample (n : Int) (w : World) : Calls Try.prog 74 #[.int .i64 n] w fun e w' => e = .returned (.int .i64 (clipF n)) ∧ w' = w := by
  have hC := hide (fun W => implClipInt n 0 255 W)
  have e : max 0 (min 255 n) = clipF n := by unfold clipF; split <;> (try split) <;> omega
  rw [e] at hC
  clear e
  go_enter Try.func74, Try.ntmps74
  go_wp2_with fail
  refine (unhide hC _).mono ?_
  rintro e w1 ⟨rfl, rfl⟩
  go_wp2
  go_ret
  exact ⟨rfl, rfl⟩
set_option maxHeartbeats 4000000 in
set_option maxRecDepth 100000 in
theorem implClipped (d : Tr) (w : World) :
    Calls Try.prog 46 #[Trv d] w fun e w' => e = .returned (Trv (clipF d.1, clipF d.2.1, clipF d.2.2)) ∧ Upd 0 0 w w' := by
  obtain ⟨r, g, b⟩ := d
  simp only [Trv]
  have hC := hide (fun n W => implClipSample n W)
  have hu := Upd.of_below (((Below.refl w.heap.size w).alloc (Nat.le_refl _) (.cells #[.int .i64 r, .int .i64 g, .int .i64 b] 24)).alloc (by simp) (.cells #[.int .i64 0, .int .i64 0, .int .i64 0] 24)) 0 0
  have hs : ((w.alloc (.cells #[.int .i64 r, .int .i64 g, .int .i64 b] 24)).alloc (.cells #[.int .i64 0, .int .i64 0, .int .i64 0] 24)).heap.size = w.heap.size + 2 := by simp
  have hbx := (heldF_new w [.int .i64 r, .int .i64 g, .int .i64 b] 24).keep (Upd.of_below ((Below.refl _ _).alloc (Nat.le_refl _) (.cells #[.int .i64 0, .int .i64 0, .int .i64 0] 24)) 0 0)
  have hrs := heldF_new (w.alloc (.cells #[.int .i64 r, .int .i64 g, .int .i64 b] 24)) [.int .i64 0, .int .i64 0, .int .i64 0] 24
  have e1 : (w.alloc (.cells #[.int .i64 r, .int .i64 g, .int .i64 b] 24)).heap.size = w.heap.size + 1 := by simp
  rw [e1] at hrs
  clear e1
  replace hu := hide hu
  replace hbx := hide hbx
  replace hrs := hide hrs
  go_enter Try.func46, Try.ntmps46
  go_wp2_with fail
  generalize (w.alloc (.cells #[.int .i64 r, .int .i64 g, .int .i64 b] 24)).alloc (.cells #[.int .i64 0, .int .i64 0, .int .i64 0] 24) = w0 at hu hbx hrs hs ⊢
  have c0 := (unhide hbx).1.2 0 _ rfl
  have c1 := (unhide hbx).1.2 1 _ rfl
  have c2 := (unhide hbx).1.2 2 _ rfl
  have z0 := (unhide hrs).1.2 0 _ rfl
  have z1 := (unhide hrs).1.2 1 _ rfl
  have z2 := (unhide hrs).1.2 2 _ rfl
  have f0 := (unhide hrs).2 0
  have f1 := (unhide hrs).2 1
  have f2 := (unhide hrs).2 2
  have hB := hide (unhide hu).none
  clear hbx hrs hs hu
  refine wp_region_still_tail 10 (by kernel_rfl) (by kernel_rfl) ?_
  simp only [List.take_succ_cons, List.take_zero, List.drop_succ_cons, List.drop_zero]
  iterate 2 still_step
  still_call (unhide hC _ _)
  iterate 2 still_step
  still_call (unhide hC _ _)
  iterate 2 still_step
  still_call (unhide hC _ _)
  iterate 1 still_step
  refine wpStill_nil ?_
  go_wp2
  refine bodyPost_ret (v := .agg #[.int .i64 (clipF r), .int .i64 (clipF g), .int .i64 (clipF b)]) (by simp [results, Try.results46, go_sem, z0, z1, z2]) rfl ⟨rfl, Upd.of_below (below_drewN ((((unhide hB).setCell (by simp) _).setCell (by simp) _).setCell (by simp) _) 1) 0 0⟩
set_option maxHeartbeats 4000000 in
set_option maxRecDepth 100000 in
theorem implRound8 (n : Int) (w : World) (h0 : -1152921504606846976 ≤ n) (h1 : n ≤ 1152921504606846976) : Calls Try.prog 85 #[.int .i64 n, .int .i64 8] w fun e w' => e = .returned (.int .i64 ((n + 128) / 256)) ∧ w' = w := by
  go_enter Try.func85, Try.ntmps85
  go_wp2
  go_ret
  exact ⟨rfl, rfl⟩
theorem implRound4 (n : Int) (w : World) (h0 : -1152921504606846976 ≤ n) (h1 : n ≤ 1152921504606846976) : Calls Try.prog 85 #[.int .i64 n, .int .i64 4] w fun e w' => e = .returned (.int .i64 ((n + 8) / 16)) ∧ w' = w := by
  go_enter Try.func85, Try.ntmps85
  go_wp2
  go_ret
  exact ⟨rfl, rfl⟩
theorem implRound16 (n : Int) (w : World) (h0 : -1152921504606846976 ≤ n) (h1 : n ≤ 1152921504606846976) : Calls Try.prog 85 #[.int .i64 n, .int .i64 16] w fun e w' => e = .returned (.int .i64 ((n + 32768) / 65536)) ∧ w' = w := by
  go_enter Try.func85, Try.ntmps85
  go_wp2
  go_ret
  exact ⟨rfl, rfl⟩
set_option maxHeartbeats 4000000 in
set_option maxRecDepth 100000 in
theorem implWeighed (x y z a b c P Q R : Int) (w : World) (hP : x * a = P) (hQ : y * b = Q) (hR : z * c = R) (p0 : -1000000000 ≤ P) (p1 : P ≤ 1000000000) (q0 : -1000000000 ≤ Q) (q1 : Q ≤ 1000000000) (r0 : -1000000000 ≤ R) (r1 : R ≤ 1000000000) :
    Calls Try.prog 73 #[.agg #[.int .i64 x, .int .i64 y, .int .i64 z], .agg #[.int .i64 a, .int .i64 b, .int .i64 c]] w fun e w' => e = .returned (.int .i64 ((P + Q + R + 128) / 256)) ∧ Upd 0 0 w w' := by
  have hC := hide (fun W => implRound8 (P + Q + R) W (by omega) (by omega))
  have hu := hide (Upd.of_below (((Below.refl w.heap.size w).alloc (Nat.le_refl _) (.cells #[.int .i64 x, .int .i64 y, .int .i64 z] 57)).alloc (by simp) (.cells #[.int .i64 a, .int .i64 b, .int .i64 c] 24)) 0 0)
  go_enter Try.func73, Try.ntmps73
  go_wp2_with fail
  refine (unhide hC _).mono ?_
  rintro e w1 ⟨rfl, rfl⟩
  go_wp2
  go_ret
  exact ⟨rfl, unhide hu⟩
end Go.Proofs.Ytkeplngifceegaa

/- The program's weights, corners and blending. -/
namespace Go.Proofs.Ytkeplngifceegaa
open Go.RowKit

set_option maxHeartbeats 4000000 in
set_option maxRecDepth 100000 in
theorem implWeights8 (n1 f1 p n2 f2 q : Nat) (w : World) (hp : p ≤ 255) (hq : q ≤ 255) (A B C D : Int) (hA : (256 - (q : Int)) * (256 - (p : Int)) = A) (hB : (256 - (q : Int)) * (p : Int) = B) (hC : (q : Int) * (256 - (p : Int)) = C) (hD : (q : Int) * (p : Int) = D)
    (bA : 0 ≤ A ∧ A ≤ 65536) (bB : 0 ≤ B ∧ B ≤ 65536) (bC : 0 ≤ C ∧ C ≤ 65536) (bD : 0 ≤ D ∧ D ≤ 65536) :
    Calls Try.prog 83 #[.agg #[.int .i64 (n1 : Int), .int .i64 (f1 : Int), .int .i64 (p : Int)], .agg #[.int .i64 (n2 : Int), .int .i64 (f2 : Int), .int .i64 (q : Int)], .int .i64 8] w fun e w' => e = .returned (.agg #[.int .i64 A, .int .i64 B, .int .i64 C, .int .i64 D]) ∧ Upd 0 0 w w' := by
  have hB0 := hide ((((Below.refl w.heap.size w).alloc (Nat.le_refl _) (.cells #[.int .i64 (n1 : Int), .int .i64 (f1 : Int), .int .i64 (p : Int)] 85)).alloc (by simp) (.cells #[.int .i64 (n2 : Int), .int .i64 (f2 : Int), .int .i64 (q : Int)] 85)).alloc (by simp; omega) (.cells #[.int .i64 0, .int .i64 0, .int .i64 0, .int .i64 0] 89))
  have h1 := hide (((heldF_new w [.int .i64 (n1 : Int), .int .i64 (f1 : Int), .int .i64 (p : Int)] 85).keep (Upd.of_below ((Below.refl _ _).alloc (Nat.le_refl _) (.cells #[.int .i64 (n2 : Int), .int .i64 (f2 : Int), .int .i64 (q : Int)] 85)) 0 0)).keep (Upd.of_below ((Below.refl _ _).alloc (Nat.le_refl _) (.cells #[.int .i64 0, .int .i64 0, .int .i64 0, .int .i64 0] 89)) 0 0))
  have h2 := (heldF_new (w.alloc (.cells #[.int .i64 (n1 : Int), .int .i64 (f1 : Int), .int .i64 (p : Int)] 85)) [.int .i64 (n2 : Int), .int .i64 (f2 : Int), .int .i64 (q : Int)] 85).keep (Upd.of_below ((Below.refl _ _).alloc (Nat.le_refl _) (.cells #[.int .i64 0, .int .i64 0, .int .i64 0, .int .i64 0] 89)) 0 0)
  have h3 := heldF_new ((w.alloc (.cells #[.int .i64 (n1 : Int), .int .i64 (f1 : Int), .int .i64 (p : Int)] 85)).alloc (.cells #[.int .i64 (n2 : Int), .int .i64 (f2 : Int), .int .i64 (q : Int)] 85)) [.int .i64 0, .int .i64 0, .int .i64 0, .int .i64 0] 89
  have e1 : (w.alloc (.cells #[.int .i64 (n1 : Int), .int .i64 (f1 : Int), .int .i64 (p : Int)] 85)).heap.size = w.heap.size + 1 := by simp
  have e2 : ((w.alloc (.cells #[.int .i64 (n1 : Int), .int .i64 (f1 : Int), .int .i64 (p : Int)] 85)).alloc (.cells #[.int .i64 (n2 : Int), .int .i64 (f2 : Int), .int .i64 (q : Int)] 85)).heap.size = w.heap.size + 2 := by simp
  rw [e1] at h2
  rw [e2] at h3
  clear e1 e2
  replace h2 := hide h2
  replace h3 := hide h3
  have w1 : IntKind.i64.wrap (256 - (p : Int)) = 256 - (p : Int) := wrapI (by omega)
  have w2 : IntKind.i64.wrap (256 - (q : Int)) = 256 - (q : Int) := wrapI (by omega)
  obtain ⟨bA0, bA1⟩ := bA
  obtain ⟨bB0, bB1⟩ := bB
  obtain ⟨bC0, bC1⟩ := bC
  obtain ⟨bD0, bD1⟩ := bD
  go_enter Try.func83, Try.ntmps83
  go_wp2_with fail
  generalize ((w.alloc (.cells #[.int .i64 (n1 : Int), .int .i64 (f1 : Int), .int .i64 (p : Int)] 85)).alloc (.cells #[.int .i64 (n2 : Int), .int .i64 (f2 : Int), .int .i64 (q : Int)] 85)).alloc (.cells #[.int .i64 0, .int .i64 0, .int .i64 0, .int .i64 0] 89) = w0 at hB0 h1 h2 h3 ⊢
  have c0 := (unhide h1).1.2 2 _ rfl
  have c1 := (unhide h2).1.2 2 _ rfl
  refine wp_region_still_lit (by kernel_rfl) (by kernel_rfl) ?_
  iterate 12 still_step
  refine wpStill_nil ?_
  clear w1 w2
  have z0 := (unhide h3).1.2 0 _ rfl
  have z1 := (unhide h3).1.2 1 _ rfl
  have z2 := (unhide h3).1.2 2 _ rfl
  have z3 := (unhide h3).1.2 3 _ rfl
  have f0 := (unhide h3).2 0
  have f1' := (unhide h3).2 1
  have f2' := (unhide h3).2 2
  have f3 := (unhide h3).2 3
  clear h1 h2 h3
  go_wp2
  refine bodyPost_ret (v := .agg #[.int .i64 A, .int .i64 B, .int .i64 C, .int .i64 D]) (by simp [results, Try.results83, go_sem, z0, z1, z2, z3]) rfl ⟨rfl, Upd.of_below (((((below_drewN (unhide hB0) 1).setCell (by simp; omega) _).setCell (by simp; omega) _).setCell (by simp; omega) _).setCell (by simp; omega) _) 0 0⟩
set_option maxHeartbeats 4000000 in
set_option maxRecDepth 100000 in
theorem implCorners (W H n1 f1 n2 f2 : Nat) (p q : Int) (ad : Option Addr) (cap : Nat) (zs : List Int) (w : World) (hp : PlOk W H zs) (hA : ArgI w ad zs) (b1 : n1 < W) (b2 : f1 < W) (b3 : n2 < H) (b4 : f2 < H) :
    Calls Try.prog 82 #[.agg #[.int .i64 (W : Int), .int .i64 (H : Int), .slice ad zs.length cap], .agg #[.int .i64 (n1 : Int), .int .i64 (f1 : Int), .int .i64 p], .agg #[.int .i64 (n2 : Int), .int .i64 (f2 : Int), .int .i64 q]] w fun e w' => e = .returned (.agg #[.int .i64 (zs.getD (n2 * W + n1) 0), .int .i64 (zs.getD (n2 * W + f1) 0), .int .i64 (zs.getD (f2 * W + n1) 0), .int .i64 (zs.getD (f2 * W + f1) 0)]) ∧ Upd 0 0 w w' := by
  have hB0 := ((((Below.refl w.heap.size w).alloc (Nat.le_refl _) (.cells #[.int .i64 (W : Int), .int .i64 (H : Int), .slice ad zs.length cap] 31)).alloc (by simp) (.cells #[.int .i64 (n1 : Int), .int .i64 (f1 : Int), .int .i64 p] 85)).alloc (by simp; omega) (.cells #[.int .i64 (n2 : Int), .int .i64 (f2 : Int), .int .i64 q] 85)).alloc (by simp; omega) (.cells #[.int .i64 0, .int .i64 0, .int .i64 0, .int .i64 0] 89)
  have h0 := (((heldF_new w [.int .i64 (W : Int), .int .i64 (H : Int), .slice ad zs.length cap] 31).keep (Upd.of_below ((Below.refl _ _).alloc (Nat.le_refl _) (.cells #[.int .i64 (n1 : Int), .int .i64 (f1 : Int), .int .i64 p] 85)) 0 0)).keep (Upd.of_below ((Below.refl _ _).alloc (Nat.le_refl _) (.cells #[.int .i64 (n2 : Int), .int .i64 (f2 : Int), .int .i64 q] 85)) 0 0)).keep (Upd.of_below ((Below.refl _ _).alloc (Nat.le_refl _) (.cells #[.int .i64 0, .int .i64 0, .int .i64 0, .int .i64 0] 89)) 0 0)
  have h1 := ((heldF_new (w.alloc (.cells #[.int .i64 (W : Int), .int .i64 (H : Int), .slice ad zs.length cap] 31)) [.int .i64 (n1 : Int), .int .i64 (f1 : Int), .int .i64 p] 85).keep (Upd.of_below ((Below.refl _ _).alloc (Nat.le_refl _) (.cells #[.int .i64 (n2 : Int), .int .i64 (f2 : Int), .int .i64 q] 85)) 0 0)).keep (Upd.of_below ((Below.refl _ _).alloc (Nat.le_refl _) (.cells #[.int .i64 0, .int .i64 0, .int .i64 0, .int .i64 0] 89)) 0 0)
  have h2 := (heldF_new ((w.alloc (.cells #[.int .i64 (W : Int), .int .i64 (H : Int), .slice ad zs.length cap] 31)).alloc (.cells #[.int .i64 (n1 : Int), .int .i64 (f1 : Int), .int .i64 p] 85)) [.int .i64 (n2 : Int), .int .i64 (f2 : Int), .int .i64 q] 85).keep (Upd.of_below ((Below.refl _ _).alloc (Nat.le_refl _) (.cells #[.int .i64 0, .int .i64 0, .int .i64 0, .int .i64 0] 89)) 0 0)
  have h3 := heldF_new (((w.alloc (.cells #[.int .i64 (W : Int), .int .i64 (H : Int), .slice ad zs.length cap] 31)).alloc (.cells #[.int .i64 (n1 : Int), .int .i64 (f1 : Int), .int .i64 p] 85)).alloc (.cells #[.int .i64 (n2 : Int), .int .i64 (f2 : Int), .int .i64 q] 85)) [.int .i64 0, .int .i64 0, .int .i64 0, .int .i64 0] 89
  have e1 : (w.alloc (.cells #[.int .i64 (W : Int), .int .i64 (H : Int), .slice ad zs.length cap] 31)).heap.size = w.heap.size + 1 := by simp
  have e2 : ((w.alloc (.cells #[.int .i64 (W : Int), .int .i64 (H : Int), .slice ad zs.length cap] 31)).alloc (.cells #[.int .i64 (n1 : Int), .int .i64 (f1 : Int), .int .i64 p] 85)).heap.size = w.heap.size + 2 := by simp
  have e3 : (((w.alloc (.cells #[.int .i64 (W : Int), .int .i64 (H : Int), .slice ad zs.length cap] 31)).alloc (.cells #[.int .i64 (n1 : Int), .int .i64 (f1 : Int), .int .i64 p] 85)).alloc (.cells #[.int .i64 (n2 : Int), .int .i64 (f2 : Int), .int .i64 q] 85)).heap.size = w.heap.size + 3 := by simp
  rw [e1] at h1
  rw [e2] at h2
  rw [e3] at h3
  clear e1 e2 e3
  have hA0 := hide (hA.below hB0)
  replace hB0 := hide hB0
  replace h0 := hide h0
  replace h1 := hide h1
  replace h2 := hide h2
  replace h3 := hide h3
  have hP1 := hide (fun (X : World) (h : ArgI X ad zs) => implPlAt W H n1 n2 ad cap zs X hp b1 b3 h)
  have hP2 := hide (fun (X : World) (h : ArgI X ad zs) => implPlAt W H f1 n2 ad cap zs X hp b2 b3 h)
  have hP3 := hide (fun (X : World) (h : ArgI X ad zs) => implPlAt W H n1 f2 ad cap zs X hp b1 b4 h)
  have hP4 := hide (fun (X : World) (h : ArgI X ad zs) => implPlAt W H f1 f2 ad cap zs X hp b2 b4 h)
  generalize zs.getD (n2 * W + n1) 0 = v1 at hP1 ⊢
  generalize zs.getD (n2 * W + f1) 0 = v2 at hP2 ⊢
  generalize zs.getD (f2 * W + n1) 0 = v3 at hP3 ⊢
  generalize zs.getD (f2 * W + f1) 0 = v4 at hP4 ⊢
  clear hA hp b1 b2 b3 b4
  go_enter Try.func82, Try.ntmps82
  go_wp2_with fail
  generalize (((w.alloc (.cells #[.int .i64 (W : Int), .int .i64 (H : Int), .slice ad zs.length cap] 31)).alloc (.cells #[.int .i64 (n1 : Int), .int .i64 (f1 : Int), .int .i64 p] 85)).alloc (.cells #[.int .i64 (n2 : Int), .int .i64 (f2 : Int), .int .i64 q] 85)).alloc (.cells #[.int .i64 0, .int .i64 0, .int .i64 0, .int .i64 0] 89) = w0 at hB0 h0 h1 h2 h3 hA0 ⊢
  have c00 := fun X : UpdT w0 => (((unhide h0).1.updT X).2 0 _ rfl)
  have c01 := fun X : UpdT w0 => (((unhide h0).1.updT X).2 1 _ rfl)
  have c02 := fun X : UpdT w0 => (((unhide h0).1.updT X).2 2 _ rfl)
  have c10 := fun X : UpdT w0 => (((unhide h1).1.updT X).2 0 _ rfl)
  have c11 := fun X : UpdT w0 => (((unhide h1).1.updT X).2 1 _ rfl)
  have c20 := fun X : UpdT w0 => (((unhide h2).1.updT X).2 0 _ rfl)
  have c21 := fun X : UpdT w0 => (((unhide h2).1.updT X).2 1 _ rfl)
  refine wq_region_tail 27 (by kernel_rfl) (by kernel_rfl) ?_
  simp only [List.take_succ_cons, List.take_zero, List.drop_succ_cons, List.drop_zero]
  refine WQ.step (fun K hK => ?_)
  go_simp
  refine hK _ ?_
  clear hK K
  refine WQ.step (fun K hK => ?_)
  go_simp
  refine hK _ ?_
  clear hK K
  refine WQ.step (fun K hK => ?_)
  go_simp
  refine hK _ ?_
  clear hK K
  refine WQ.step (fun K hK => ?_)
  go_simp
  refine hK _ ?_
  clear hK K
  refine WQ.step (fun K hK => ?_)
  go_simp
  refine hK _ ?_
  clear hK K
  refine WQ.step (fun K hK => ?_)
  go_simp
  refine ⟨_, fun X => Calls.updT X (unhide hP1 X.to ((unhide hA0).below (X.upd.below (Nat.le_refl _) (.inr (Nat.zero_le _))))), hK _ ?_⟩
  clear hK K
  refine WQ.step (fun K hK => ?_)
  go_simp
  refine hK _ ?_
  clear hK K
  refine WQ.step (fun K hK => ?_)
  go_simp
  refine hK _ ?_
  clear hK K
  refine WQ.step (fun K hK => ?_)
  go_simp
  refine hK _ ?_
  clear hK K
  refine WQ.step (fun K hK => ?_)
  go_simp
  refine hK _ ?_
  clear hK K
  refine WQ.step (fun K hK => ?_)
  go_simp
  refine hK _ ?_
  clear hK K
  refine WQ.step (fun K hK => ?_)
  go_simp
  refine ⟨_, fun X => Calls.updT X (unhide hP2 X.to ((unhide hA0).below (X.upd.below (Nat.le_refl _) (.inr (Nat.zero_le _))))), hK _ ?_⟩
  clear hK K
  refine WQ.step (fun K hK => ?_)
  go_simp
  refine hK _ ?_
  clear hK K
  refine WQ.step (fun K hK => ?_)
  go_simp
  refine hK _ ?_
  clear hK K
  refine WQ.step (fun K hK => ?_)
  go_simp
  refine hK _ ?_
  clear hK K
  refine WQ.step (fun K hK => ?_)
  go_simp
  refine hK _ ?_
  clear hK K
  refine WQ.step (fun K hK => ?_)
  go_simp
  refine hK _ ?_
  clear hK K
  refine WQ.step (fun K hK => ?_)
  go_simp
  refine hK _ ?_
  clear hK K
  refine WQ.step (fun K hK => ?_)
  go_simp
  refine ⟨_, fun X => Calls.updT X (unhide hP3 X.to ((unhide hA0).below (X.upd.below (Nat.le_refl _) (.inr (Nat.zero_le _))))), hK _ ?_⟩
  clear hK K
  refine WQ.step (fun K hK => ?_)
  go_simp
  refine hK _ ?_
  clear hK K
  refine WQ.step (fun K hK => ?_)
  go_simp
  refine hK _ ?_
  clear hK K
  refine WQ.step (fun K hK => ?_)
  go_simp
  refine hK _ ?_
  clear hK K
  refine WQ.step (fun K hK => ?_)
  go_simp
  refine hK _ ?_
  clear hK K
  refine WQ.step (fun K hK => ?_)
  go_simp
  refine hK _ ?_
  clear hK K
  refine WQ.step (fun K hK => ?_)
  go_simp
  refine ⟨_, fun X => Calls.updT X (unhide hP4 X.to ((unhide hA0).below (X.upd.below (Nat.le_refl _) (.inr (Nat.zero_le _))))), hK _ ?_⟩
  clear hK K
  refine WQ.step (fun K hK => ?_)
  go_simp
  refine hK _ ?_
  clear hK K
  refine WQ.step (fun K hK => ?_)
  go_simp
  refine hK _ ?_
  clear hK K
  refine WQ.nil ?_
  rintro _ ⟨X, rfl⟩
  clear c00 c01 c02 c10 c11 c20 c21 hP1 hP2 hP3 hP4
  have hX := X.upd
  generalize X.to = w1 at hX ⊢
  replace h3 := hide ((unhide h3).keep hX)
  replace hB0 := hide (below_upd (unhide hB0) hX (Nat.le_refl _) (.inr (Nat.le_refl _)))
  have z0 := (unhide h3).1.2 0 _ rfl
  have z1 := (unhide h3).1.2 1 _ rfl
  have z2 := (unhide h3).1.2 2 _ rfl
  have z3 := (unhide h3).1.2 3 _ rfl
  have f0' := (unhide h3).2 0
  have f1' := (unhide h3).2 1
  have f2' := (unhide h3).2 2
  have f3' := (unhide h3).2 3
  clear h0 h1 h2 h3 hX hA0
  go_wp2
  refine bodyPost_ret (v := .agg #[.int .i64 v1, .int .i64 v2, .int .i64 v3, .int .i64 v4]) (by simp [results, Try.results82, go_sem, z0, z1, z2, z3]) rfl ⟨rfl, Upd.of_below (((((unhide hB0).setCell (by simp; omega) _).setCell (by simp; omega) _).setCell (by simp; omega) _).setCell (by simp; omega) _) 0 0⟩
end Go.Proofs.Ytkeplngifceegaa

/- The program's blending of four samples. -/
namespace Go.Proofs.Ytkeplngifceegaa
open Go.RowKit

theorem idx_c0 (s0 s1 s2 s3 : Int) (W : World) : (Instr.index 89 (.agg #[.int .i64 s0, .int .i64 s1, .int .i64 s2, .int .i64 s3]) (.int .i64 0)).run Try.prog W = .ok (.agg #[.int .i64 s0, .int .i64 s1]) W := by kernel_rfl
theorem idx_c1 (s0 s1 s2 s3 : Int) (W : World) : (Instr.index 89 (.agg #[.int .i64 s0, .int .i64 s1, .int .i64 s2, .int .i64 s3]) (.int .i64 1)).run Try.prog W = .ok (.agg #[.int .i64 s2, .int .i64 s3]) W := by kernel_rfl
theorem idx_p0 (s0 s1 : Int) (W : World) : (Instr.index 87 (.agg #[.int .i64 s0, .int .i64 s1]) (.int .i64 0)).run Try.prog W = .ok (.int .i64 s0) W := by kernel_rfl
theorem idx_p1 (s0 s1 : Int) (W : World) : (Instr.index 87 (.agg #[.int .i64 s0, .int .i64 s1]) (.int .i64 1)).run Try.prog W = .ok (.int .i64 s1) W := by kernel_rfl
set_option maxHeartbeats 8000000 in
set_option maxRecDepth 100000 in
theorem implBlended16 (s0 s1 s2 s3 a0 a1 a2 a3 P0 P1 P2 P3 : Int) (w : World) (e0 : a0 * s0 = P0) (e1 : a1 * s1 = P1) (e2 : a2 * s2 = P2) (e3 : a3 * s3 = P3)
    (p0 : 0 ≤ P0 ∧ P0 ≤ 33554432) (p1 : 0 ≤ P1 ∧ P1 ≤ 33554432) (p2 : 0 ≤ P2 ∧ P2 ≤ 33554432) (p3 : 0 ≤ P3 ∧ P3 ≤ 33554432) :
    Calls Try.prog 81 #[.agg #[.int .i64 s0, .int .i64 s1, .int .i64 s2, .int .i64 s3], .agg #[.int .i64 a0, .int .i64 a1, .int .i64 a2, .int .i64 a3], .int .i64 8] w fun e w' => e = .returned (.int .i64 ((P0 + P1 + P2 + P3 + 32768) / 65536)) ∧ Upd 0 0 w w' := by
  have hB0 := hide (((Below.refl w.heap.size w).alloc (Nat.le_refl _) (.cells #[.int .i64 s0, .int .i64 s1, .int .i64 s2, .int .i64 s3] 89)).alloc (by simp) (.cells #[.int .i64 a0, .int .i64 a1, .int .i64 a2, .int .i64 a3] 89))
  have h1 := hide ((heldF_new w [.int .i64 s0, .int .i64 s1, .int .i64 s2, .int .i64 s3] 89).keep (Upd.of_below ((Below.refl _ _).alloc (Nat.le_refl _) (.cells #[.int .i64 a0, .int .i64 a1, .int .i64 a2, .int .i64 a3] 89)) 0 0))
  have h2 := heldF_new (w.alloc (.cells #[.int .i64 s0, .int .i64 s1, .int .i64 s2, .int .i64 s3] 89)) [.int .i64 a0, .int .i64 a1, .int .i64 a2, .int .i64 a3] 89
  have ee : (w.alloc (.cells #[.int .i64 s0, .int .i64 s1, .int .i64 s2, .int .i64 s3] 89)).heap.size = w.heap.size + 1 := by simp
  rw [ee] at h2
  clear ee
  replace h2 := hide h2
  have hR := hide (fun X => implRound16 (P0 + P1 + P2 + P3) X (by omega) (by omega))
  obtain ⟨p00, p01⟩ := p0
  obtain ⟨p10, p11⟩ := p1
  obtain ⟨p20, p21⟩ := p2
  obtain ⟨p30, p31⟩ := p3
  have x0 := idx_c0 s0 s1 s2 s3
  have x1 := idx_c1 s0 s1 s2 s3
  have y0 := idx_p0
  have y1 := idx_p1
  go_enter Try.func81, Try.ntmps81
  go_wp2_with fail
  generalize (w.alloc (.cells #[.int .i64 s0, .int .i64 s1, .int .i64 s2, .int .i64 s3] 89)).alloc (.cells #[.int .i64 a0, .int .i64 a1, .int .i64 a2, .int .i64 a3] 89) = w0 at hB0 h1 h2 ⊢
  have c0 := (unhide h1).1.2 0 _ rfl
  have c1 := (unhide h1).1.2 1 _ rfl
  have c2 := (unhide h1).1.2 2 _ rfl
  have c3 := (unhide h1).1.2 3 _ rfl
  go_wp2_with fail
  clear c0 c1 c2 c3 h1
  go_loopw [7, 13] (fun s k wr => ((k = .int .i64 0 ∧ s = .int .i64 0) ∨ (k = .int .i64 1 ∧ s = .int .i64 (P0 + P1)) ∨ (k = .int .i64 2 ∧ s = .int .i64 (P0 + P1 + P2 + P3))) ∧ Hid (HeldF wr (w.heap.size + 1) [.int .i64 a0, .int .i64 a1, .int .i64 a2, .int .i64 a3]) ∧ Hid (Below w.heap.size w wr)) (fun _ k _ => 2 - (intOf k).toNat)
  case atStart => exact ⟨.inl ⟨rfl, rfl⟩, h2, hB0⟩
  case round =>
    clear h2 hB0
    obtain ⟨hrel, h2, hB0⟩ := hrel
    rcases hrel with ⟨rfl, rfl⟩ | ⟨rfl, rfl⟩ | ⟨rfl, rfl⟩
    ·
      have d0 := (unhide h2).1.2 0 _ rfl
      have d1 := (unhide h2).1.2 1 _ rfl
      have hu := Upd.of_below ((Below.refl wr.heap.size wr).alloc (Nat.le_refl _) (.cells #[.int .i64 s0, .int .i64 s1] 87)) 0 0
      have h22 := hide ((unhide h2).keep hu)
      have hB2 := hide (below_upd (unhide hB0) hu (Nat.le_refl _) (.inr (Nat.le_refl _)))
      clear hu
      go_upto_region 5 with fail
      clear d0 d1
      have k0 := (heldF_new wr [.int .i64 s0, .int .i64 s1] 87).1.2 0 _ rfl
      have k1 := (heldF_new wr [.int .i64 s0, .int .i64 s1] 87).1.2 1 _ rfl
      simp only [List.toArray] at k0 k1
      generalize wr.alloc (.cells #[.int .i64 s0, .int .i64 s1] 87) = wn at h22 hB2 k0 k1 ⊢
      have d0 := (unhide h22).1.2 0 _ rfl
      have d1 := (unhide h22).1.2 1 _ rfl
      go_wp2_with fail
      go_loop [7, 18] (fun s j => (j = .int .i64 0 ∧ s = .int .i64 (0)) ∨ (j = .int .i64 1 ∧ s = .int .i64 P0) ∨ (j = .int .i64 2 ∧ s = .int .i64 (P0 + P1))) (fun _ j => 2 - (intOf j).toNat)
      case atStart => exact .inl ⟨rfl, rfl⟩
      case round =>
        rcases hrel with ⟨rfl, rfl⟩ | ⟨rfl, rfl⟩ | ⟨rfl, rfl⟩
        · go_wp2
          go_round
          case rel => exact .inr (.inl ⟨rfl, rfl⟩)
          case measure => simp [intOf]
        · go_wp2
          go_round
          case rel => exact .inr (.inr ⟨rfl, rfl⟩)
          case measure => simp [intOf]
        · clear d0 d1 k0 k1
          go_wp2
          go_roundw
          case rel => exact ⟨.inr (.inl ⟨rfl, rfl⟩), h22, hB2⟩
          case measure => simp [intOf]
    ·
      have d0 := (unhide h2).1.2 2 _ rfl
      have d1 := (unhide h2).1.2 3 _ rfl
      have hu := Upd.of_below ((Below.refl wr.heap.size wr).alloc (Nat.le_refl _) (.cells #[.int .i64 s2, .int .i64 s3] 87)) 0 0
      have h22 := hide ((unhide h2).keep hu)
      have hB2 := hide (below_upd (unhide hB0) hu (Nat.le_refl _) (.inr (Nat.le_refl _)))
      clear hu
      go_upto_region 5 with fail
      clear d0 d1
      have k0 := (heldF_new wr [.int .i64 s2, .int .i64 s3] 87).1.2 0 _ rfl
      have k1 := (heldF_new wr [.int .i64 s2, .int .i64 s3] 87).1.2 1 _ rfl
      simp only [List.toArray] at k0 k1
      generalize wr.alloc (.cells #[.int .i64 s2, .int .i64 s3] 87) = wn at h22 hB2 k0 k1 ⊢
      have d0 := (unhide h22).1.2 2 _ rfl
      have d1 := (unhide h22).1.2 3 _ rfl
      go_wp2_with fail
      go_loop [7, 18] (fun s j => (j = .int .i64 0 ∧ s = .int .i64 (P0 + P1)) ∨ (j = .int .i64 1 ∧ s = .int .i64 (P0 + P1 + P2)) ∨ (j = .int .i64 2 ∧ s = .int .i64 (P0 + P1 + P2 + P3))) (fun _ j => 2 - (intOf j).toNat)
      case atStart => exact .inl ⟨rfl, rfl⟩
      case round =>
        rcases hrel with ⟨rfl, rfl⟩ | ⟨rfl, rfl⟩ | ⟨rfl, rfl⟩
        · go_wp2
          go_round
          case rel => exact .inr (.inl ⟨rfl, rfl⟩)
          case measure => simp [intOf]
        · go_wp2
          go_round
          case rel => exact .inr (.inr ⟨rfl, rfl⟩)
          case measure => simp [intOf]
        · clear d0 d1 k0 k1
          go_wp2
          go_roundw
          case rel => exact ⟨.inr (.inr ⟨rfl, rfl⟩), h22, hB2⟩
          case measure => simp [intOf]
    · go_wp2_with fail
      refine (unhide hR _).mono ?_
      rintro e wz ⟨rfl, rfl⟩
      go_wp2
      go_ret
      exact ⟨rfl, Upd.of_below (unhide hB0) 0 0⟩
end Go.Proofs.Ytkeplngifceegaa

/- Lists of Passs: 6 numbers each; the walks of the laws' own helpers on them. -/
namespace Go.Proofs.Ytkeplngifceegaa
open Go.RowKit

abbrev Ps := Int × Int × Int × Int × Int × Int
abbrev Ps0 : Ps := (0, 0, 0, 0, 0, 0)
def cellsPs (ps : List Ps) : List Value := ps.flatMap fun p => [.int .i64 p.1, .int .i64 p.2.1, .int .i64 p.2.2.1, .int .i64 p.2.2.2.1, .int .i64 p.2.2.2.2.1, .int .i64 p.2.2.2.2.2]
theorem cellsPs_length (ps : List Ps) : (cellsPs ps).length = ps.length * 6 := by
  induction ps with
  | nil => rfl
  | cons p ps ih => unfold cellsPs at ih ⊢; rw [List.flatMap_cons, List.length_append, ih]; simp; omega
theorem cellsPs_snoc (ps : List Ps) (p : Ps) : cellsPs (ps ++ [p]) = cellsPs ps ++ [.int .i64 p.1, .int .i64 p.2.1, .int .i64 p.2.2.1, .int .i64 p.2.2.2.1, .int .i64 p.2.2.2.2.1, .int .i64 p.2.2.2.2.2] := by unfold cellsPs; simp
def RowPs (ys : List Value) (ps : List Ps) (k : Nat) : Prop := ∀ j, j < k → ys[j * 6]? = some (.int .i64 (ps.getD j Ps0).1) ∧ ys[j * 6 + 1]? = some (.int .i64 (ps.getD j Ps0).2.1) ∧ ys[j * 6 + 2]? = some (.int .i64 (ps.getD j Ps0).2.2.1) ∧ ys[j * 6 + 3]? = some (.int .i64 (ps.getD j Ps0).2.2.2.1) ∧ ys[j * 6 + 4]? = some (.int .i64 (ps.getD j Ps0).2.2.2.2.1) ∧ ys[j * 6 + 5]? = some (.int .i64 (ps.getD j Ps0).2.2.2.2.2)
theorem cellsPs_at (ps : List Ps) : RowPs (cellsPs ps) ps ps.length := by
  induction ps with
  | nil => intro j hj; simp at hj
  | cons p ps ih =>
    intro j hj
    have e : cellsPs (p :: ps) = [.int .i64 p.1, .int .i64 p.2.1, .int .i64 p.2.2.1, .int .i64 p.2.2.2.1, .int .i64 p.2.2.2.2.1, .int .i64 p.2.2.2.2.2] ++ cellsPs ps := by unfold cellsPs; simp
    rw [e]
    cases j with
    | zero => exact ⟨rfl, rfl, rfl, rfl, rfl, rfl⟩
    | succ j =>
      have h := ih j (by simpa using hj)
      rw [List.getElem?_append_right (by simp; omega), List.getElem?_append_right (by simp; omega), List.getElem?_append_right (by simp; omega), List.getElem?_append_right (by simp; omega), List.getElem?_append_right (by simp; omega), List.getElem?_append_right (by simp; omega)]
      simp only [List.length_cons, List.length_nil, List.getD_cons_succ]
      rw [show (j + 1) * 6 - (0 + 1 + 1 + 1 + 1 + 1 + 1) = j * 6 by omega, show (j + 1) * 6 + 1 - (0 + 1 + 1 + 1 + 1 + 1 + 1) = j * 6 + 1 by omega, show (j + 1) * 6 + 2 - (0 + 1 + 1 + 1 + 1 + 1 + 1) = j * 6 + 2 by omega, show (j + 1) * 6 + 3 - (0 + 1 + 1 + 1 + 1 + 1 + 1) = j * 6 + 3 by omega, show (j + 1) * 6 + 4 - (0 + 1 + 1 + 1 + 1 + 1 + 1) = j * 6 + 4 by omega, show (j + 1) * 6 + 5 - (0 + 1 + 1 + 1 + 1 + 1 + 1) = j * 6 + 5 by omega]
      exact h
theorem cellsPs_of {ys : List Value} {ps : List Ps} (hl : ys.length = ps.length * 6) (h : RowPs ys ps ps.length) : ys = cellsPs ps := by
  apply List.ext_getElem?
  intro i
  by_cases hi : i < ps.length * 6
  · have h1 := h (i / 6) (by omega)
    have h2 := cellsPs_at ps (i / 6) (by omega)
    rcases (show i = i / 6 * 6 ∨ i = i / 6 * 6 + 1 ∨ i = i / 6 * 6 + 2 ∨ i = i / 6 * 6 + 3 ∨ i = i / 6 * 6 + 4 ∨ i = i / 6 * 6 + 5 by omega) with e | e | e | e | e | e
    · rw [e, h1.1, h2.1]
    · rw [e, h1.2.1, h2.2.1]
    · rw [e, h1.2.2.1, h2.2.2.1]
    · rw [e, h1.2.2.2.1, h2.2.2.2.1]
    · rw [e, h1.2.2.2.2.1, h2.2.2.2.2.1]
    · rw [e, h1.2.2.2.2.2, h2.2.2.2.2.2]
  · rw [List.getElem?_eq_none (by omega), List.getElem?_eq_none (by rw [cellsPs_length]; omega)]
def AtPs (w : World) (b off : Nat) (ps : List Ps) : Prop := ∀ j, j < ps.length → w.cell? ⟨b, off + j * 6, none⟩ = some (.int .i64 (ps.getD j Ps0).1) ∧ w.cell? ⟨b, off + j * 6 + 1, none⟩ = some (.int .i64 (ps.getD j Ps0).2.1) ∧ w.cell? ⟨b, off + j * 6 + 2, none⟩ = some (.int .i64 (ps.getD j Ps0).2.2.1) ∧ w.cell? ⟨b, off + j * 6 + 3, none⟩ = some (.int .i64 (ps.getD j Ps0).2.2.2.1) ∧ w.cell? ⟨b, off + j * 6 + 4, none⟩ = some (.int .i64 (ps.getD j Ps0).2.2.2.2.1) ∧ w.cell? ⟨b, off + j * 6 + 5, none⟩ = some (.int .i64 (ps.getD j Ps0).2.2.2.2.2)
def InPs (ps : List Ps) : Prop := ∀ j, (-9223372036854775808 ≤ (ps.getD j Ps0).1 ∧ (ps.getD j Ps0).1 ≤ 9223372036854775807) ∧ (-9223372036854775808 ≤ (ps.getD j Ps0).2.1 ∧ (ps.getD j Ps0).2.1 ≤ 9223372036854775807) ∧ (-9223372036854775808 ≤ (ps.getD j Ps0).2.2.1 ∧ (ps.getD j Ps0).2.2.1 ≤ 9223372036854775807) ∧ (-9223372036854775808 ≤ (ps.getD j Ps0).2.2.2.1 ∧ (ps.getD j Ps0).2.2.2.1 ≤ 9223372036854775807) ∧ (-9223372036854775808 ≤ (ps.getD j Ps0).2.2.2.2.1 ∧ (ps.getD j Ps0).2.2.2.2.1 ≤ 9223372036854775807) ∧ (-9223372036854775808 ≤ (ps.getD j Ps0).2.2.2.2.2 ∧ (ps.getD j Ps0).2.2.2.2.2 ≤ 9223372036854775807)
def ArgPs (w : World) (ad : Option Addr) (ps : List Ps) : Prop := ps ≠ [] → ∃ b off, ad = some ⟨b, off, none⟩ ∧ b < w.heap.size ∧ AtPs w b off ps
theorem ArgPs.below {w w' : World} {ad : Option Addr} {ps : List Ps} (h : ArgPs w ad ps) (hb : Below w.heap.size w w') : ArgPs w' ad ps := by
  intro hne
  obtain ⟨b, off, e, hl, hc⟩ := h hne
  exact ⟨b, off, e, Nat.lt_of_lt_of_le hl hb.size, fun j hj => ⟨(hb.cell (by simpa using hl)).trans (hc j hj).1, (hb.cell (by simpa using hl)).trans (hc j hj).2.1, (hb.cell (by simpa using hl)).trans (hc j hj).2.2.1, (hb.cell (by simpa using hl)).trans (hc j hj).2.2.2.1, (hb.cell (by simpa using hl)).trans (hc j hj).2.2.2.2.1, (hb.cell (by simpa using hl)).trans (hc j hj).2.2.2.2.2⟩⟩
def RdPs (w : World) (v : Value) (ps : List Ps) : Prop := ∃ ad cap, v = .slice ad ps.length cap ∧ ArgPs w ad ps
theorem RdPs.below {w w' : World} {v : Value} {ps : List Ps} (h : RdPs w v ps) (hb : Below w.heap.size w w') : RdPs w' v ps := by
  obtain ⟨ad, cap, e, h⟩ := h
  exact ⟨ad, cap, e, h.below hb⟩
def marksPs (k n : Nat) : List Ps := (List.range n).map fun j => (((k + 6 * j : Nat) : Int), ((k + 6 * j + 1 : Nat) : Int), ((k + 6 * j + 2 : Nat) : Int), ((k + 6 * j + 3 : Nat) : Int), ((k + 6 * j + 4 : Nat) : Int), ((k + 6 * j + 5 : Nat) : Int))
@[simp] theorem marksPs_length (k n : Nat) : (marksPs k n).length = n := by simp [marksPs]
theorem marksPs_at (k n j : Nat) (h : j < n) : (marksPs k n).getD j Ps0 = (((k + 6 * j : Nat) : Int), ((k + 6 * j + 1 : Nat) : Int), ((k + 6 * j + 2 : Nat) : Int), ((k + 6 * j + 3 : Nat) : Int), ((k + 6 * j + 4 : Nat) : Int), ((k + 6 * j + 5 : Nat) : Int)) := by
  unfold marksPs; rw [List.getD_eq_getElem?_getD, List.getElem?_map, List.getElem?_range h]; rfl
end Go.Proofs.Ytkeplngifceegaa

/- The program's mixes for another side. -/
namespace Go.Proofs.Ytkeplngifceegaa
open Go.RowKit

def RowMx (ys : List Value) (old side k : Nat) : Prop := ∀ j, j < k → ys[j * 3]? = some (.int .i64 ((min (fromF j old side / 256) (old - 1) : Nat) : Int)) ∧ ys[j * 3 + 1]? = some (.int .i64 ((min (fromF j old side / 256 + 1) (old - 1) : Nat) : Int)) ∧ ys[j * 3 + 2]? = some (.int .i64 ((fromF j old side % 256 : Nat) : Int))
theorem infoMx : (Try.prog.info? 85).map (fun i => (i.zero, i.size, i.bytes)) = some (some (.agg #[.int .i64 0, .int .i64 0, .int .i64 0]), 3, 24) := by kernel_rfl
theorem RowMx.snoc {ys : List Value} {old side k : Nat} (h : RowMx ys old side k) (hk : k * 3 + 2 < ys.length) :
    RowMx (((ys.set (k * 3) (.int .i64 ((min (fromF k old side / 256) (old - 1) : Nat) : Int))).set (k * 3 + 1) (.int .i64 ((min (fromF k old side / 256 + 1) (old - 1) : Nat) : Int))).set (k * 3 + 2) (.int .i64 ((fromF k old side % 256 : Nat) : Int))) old side (k + 1) := by
  intro j hj
  by_cases e : j = k
  · subst e
    refine ⟨?_, ?_, ?_⟩
    · rw [List.getElem?_set_ne (by omega), List.getElem?_set_ne (by omega), List.getElem?_set_self (by first | omega | (simp; omega))]
    · rw [List.getElem?_set_ne (by omega), List.getElem?_set_self (by first | omega | (simp; omega))]
    · rw [List.getElem?_set_self (by first | omega | (simp; omega))]
  · have := h j (by omega)
    refine ⟨?_, ?_, ?_⟩
    · rw [List.getElem?_set_ne (by omega), List.getElem?_set_ne (by omega), List.getElem?_set_ne (by omega)]; exact this.1
    · rw [List.getElem?_set_ne (by omega), List.getElem?_set_ne (by omega), List.getElem?_set_ne (by omega)]; exact this.2.1
    · rw [List.getElem?_set_ne (by omega), List.getElem?_set_ne (by omega), List.getElem?_set_ne (by omega)]; exact this.2.2
theorem clipU (n a b c : Int) (h : max a (min b n) = c) (W : World) : Calls Try.prog 84 #[.int .i64 n, .int .i64 a, .int .i64 b] W fun e w' => e = .returned (.int .i64 c) ∧ w' = W := by
  refine (implClipInt n a b W).mono ?_
  rintro e w' ⟨rfl, rfl⟩
  rw [h]
  exact ⟨rfl, rfl⟩
set_option maxHeartbeats 8000000 in
set_option maxRecDepth 100000 in
theorem implResizeMixes (old side : Nat) (w : World) (ho : 1 ≤ old ∧ old ≤ 512) (hs : 1 ≤ side ∧ side ≤ 512) :
    Calls Try.prog 57 #[.int .i64 (old : Int), .int .i64 (side : Int)] w fun e w' =>
      ∃ ys, e = .returned (.slice (some ⟨w.heap.size, 0, none⟩) side side) ∧ w'.ownsRow w.heap.size 85 3 (.slice (some ⟨w.heap.size, 0, none⟩) side side) side ys ∧ RowMx ys old side side ∧ Upd 0 0 w w' := by
  obtain ⟨i0, hi, hz0, hz1, hz2⟩ := info_parts infoMx
  obtain ⟨o1, o2⟩ := ho
  obtain ⟨s1, s2⟩ := hs
  have hC := hide clipU
  go_enter Try.func57, Try.ntmps57
  go_wp2_with (at_make; refine wpList_make_full _ rfl _ _ 71 rfl w.heap.size 85 i0 (.agg #[.int .i64 0, .int .i64 0, .int .i64 0]) 3 Try.underlying71 hi hz0 hz1 .i64 .i64 _ _ side rfl rfl (by omega) (by omega) (by rw [hz2]; omega) (by unfold maxLen; omega) (Nat.le_refl _) ?_; intro w1 hown hgrow)
  have hbel := (Below.refl w.heap.size w).grown hgrow (Nat.le_refl _) (by simp)
  generalize (madeCells (Value.cells (.agg #[.int .i64 0, .int .i64 0, .int .i64 0])) (side * 3)).toList = ys0 at hown
  clear hgrow
  go_loopw [13, 6, 7, 8] (fun i _ _ _ wr => ∃ k : Nat, ∃ ys, k ≤ side ∧ i = .int .i64 k ∧ wr.ownsRow w.heap.size 85 3 (.slice (some ⟨w.heap.size, 0, none⟩) side side) side ys ∧ Hid (RowMx ys old side k) ∧ Below w.heap.size w wr) (fun i _ _ _ _ => side - (intOf i).toNat)
  case atStart => exact ⟨0, ys0, Nat.zero_le _, rfl, hown, fun j hj => by omega, hbel⟩
  case round =>
    clear hown hbel
    obtain ⟨k, ys, hk, rfl, hown, hrow, hbel⟩ := hrel
    by_cases hlt : k < side
    · obtain ⟨P, hP⟩ : ∃ P, (2 * k + 1) * old = P := ⟨_, rfl⟩
      have eP : (2 * (k : Int) + 1) * (old : Int) = (P : Int) := by rw [← hP]; simp
      have hPb : P ≤ 1024 * 512 := by rw [← hP]; exact Nat.mul_le_mul (by omega) o2
      have hF : fromF k old side = P * 256 / (2 * side) - 128 := by unfold fromF; rw [hP]
      have eQ : ((P : Int) * 256).tdiv (2 * (side : Int)) = ((P * 256 / (2 * side) : Nat) : Int) := by
        rw [Int.tdiv_eq_ediv_of_nonneg (by omega)]; simp
      have eQ2 : ((P : Int) * 256) / (2 * (side : Int)) = ((P * 256 / (2 * side) : Nat) : Int) := by simp
      have hQb : P * 256 / (2 * side) ≤ 1024 * 512 * 256 := Nat.le_trans (Nat.div_le_self _ _) (Nat.mul_le_mul hPb (Nat.le_refl _))
      generalize P * 256 / (2 * side) = Q at hF eQ eQ2 hQb
      have hn0 : ¬ side = 0 := by omega
      have hl : ys.length = side * 3 := hown.1
      have hsn := hide (RowMx.snoc (unhide hrow) (by omega))
      generalize hS : fromF k old side = S at hF hsn
      replace hP := hide hP
      replace hS := hide hS
      replace hrow := hide hrow
      have hown' := hide hown
      have hbel' := hide hbel
      clear hown hbel hrow
      have dS : ((S : Int).tdiv 256) = ((S / 256 : Nat) : Int) := by rw [Int.tdiv_eq_ediv_of_nonneg (by omega)]; simp
      have mS : ((S : Int).tmod 256) = ((S % 256 : Nat) : Int) := by rw [Int.tmod_eq_emod_of_nonneg (by omega)]; simp
      have hSb : S ≤ 1024 * 512 * 256 := by omega
      have kI : (0 : Int) ≤ (k : Int) := by omega
      have kL : (k : Int) < (side : Int) := by omega
      have hC1 := hide (fun W => clipU ((S / 256 : Nat) : Int) 0 ((old : Int) - 1) ((min (S / 256) (old - 1) : Nat) : Int) (by omega) W)
      have hC2 := hide (fun W => clipU (((S / 256 : Nat) : Int) + 1) 0 ((old : Int) - 1) ((min (S / 256 + 1) (old - 1) : Nat) : Int) (by omega) W)
      generalize hv0 : ((min (S / 256) (old - 1) : Nat) : Int) = v0 at hC1 hsn
      generalize hv1 : ((min (S / 256 + 1) (old - 1) : Nat) : Int) = v1 at hC2 hsn
      clear hv0 hv1
      clear hC
      by_cases hq : Q ≤ 128
      · have e0 : S = 0 := by omega
        subst e0
        clear hF dS mS hSb
        simp only [Nat.zero_div, Nat.zero_mod, Int.natCast_zero] at hC1 hC2 hsn
        go_upto_region 7 with fail
        have hown := unhide hown'
        have d0 : ∃ a, wr.cell? ⟨w.heap.size, k * 3, none⟩ = some a := by rw [hown.cellAt _ (by omega)]; exact ⟨_, List.getElem?_eq_getElem (by omega)⟩
        have d1 : ∃ a, wr.cell? ⟨w.heap.size, k * 3 + 1, none⟩ = some a := by rw [hown.cellAt _ (by omega)]; exact ⟨_, List.getElem?_eq_getElem (by omega)⟩
        have d2 : ∃ a, wr.cell? ⟨w.heap.size, k * 3 + 2, none⟩ = some a := by rw [hown.cellAt _ (by omega)]; exact ⟨_, List.getElem?_eq_getElem (by omega)⟩
        obtain ⟨a0, d0⟩ := d0
        obtain ⟨a1, d1⟩ := d1
        obtain ⟨a2, d2⟩ := d2
        have f0 := hown.frozenAt (k * 3)
        have f1 := hown.frozenAt (k * 3 + 1)
        have f2 := hown.frozenAt (k * 3 + 2)
        have hst := hide ((((hown.stored (k * 3) (.int .i64 v0)).1.stored (k * 3 + 1) (.int .i64 v1)).1.stored (k * 3 + 2) (.int .i64 0)).1)
        have hB2 := hide ((((unhide hbel').setCell (p := ⟨w.heap.size, k * 3, none⟩) (Nat.le_refl _) (.int .i64 v0)).setCell (p := ⟨w.heap.size, k * 3 + 1, none⟩) (Nat.le_refl _) (.int .i64 v1)).setCell (p := ⟨w.heap.size, k * 3 + 2, none⟩) (Nat.le_refl _) (.int .i64 0))
        clear hown hown' hbel'
        go_wp2_with fail
        refine (unhide hC1 _).mono ?_
        rintro e w2 ⟨rfl, rfl⟩
        go_wp2_with fail
        refine (unhide hC2 _).mono ?_
        rintro e w2 ⟨rfl, rfl⟩
        go_wp2
        go_roundw
        case rel => exact ⟨k + 1, _, by omega, by go_num, unhide hst, hsn, unhide hB2⟩
        case measure => simp [intOf]; omega
      · obtain ⟨T, rfl⟩ : ∃ T, Q = T + 128 := ⟨Q - 128, by omega⟩
        obtain rfl : S = T := by omega
        clear hF
        go_upto_region 7 with fail
        have hown := unhide hown'
        have d0 : ∃ a, wr.cell? ⟨w.heap.size, k * 3, none⟩ = some a := by rw [hown.cellAt _ (by omega)]; exact ⟨_, List.getElem?_eq_getElem (by omega)⟩
        have d1 : ∃ a, wr.cell? ⟨w.heap.size, k * 3 + 1, none⟩ = some a := by rw [hown.cellAt _ (by omega)]; exact ⟨_, List.getElem?_eq_getElem (by omega)⟩
        have d2 : ∃ a, wr.cell? ⟨w.heap.size, k * 3 + 2, none⟩ = some a := by rw [hown.cellAt _ (by omega)]; exact ⟨_, List.getElem?_eq_getElem (by omega)⟩
        obtain ⟨a0, d0⟩ := d0
        obtain ⟨a1, d1⟩ := d1
        obtain ⟨a2, d2⟩ := d2
        have f0 := hown.frozenAt (k * 3)
        have f1 := hown.frozenAt (k * 3 + 1)
        have f2 := hown.frozenAt (k * 3 + 2)
        have hst := hide ((((hown.stored (k * 3) (.int .i64 v0)).1.stored (k * 3 + 1) (.int .i64 v1)).1.stored (k * 3 + 2) (.int .i64 ((S % 256 : Nat) : Int))).1)
        have hB2 := hide ((((unhide hbel').setCell (p := ⟨w.heap.size, k * 3, none⟩) (Nat.le_refl _) (.int .i64 v0)).setCell (p := ⟨w.heap.size, k * 3 + 1, none⟩) (Nat.le_refl _) (.int .i64 v1)).setCell (p := ⟨w.heap.size, k * 3 + 2, none⟩) (Nat.le_refl _) (.int .i64 ((S % 256 : Nat) : Int)))
        clear hown hown' hbel'
        go_wp2_with fail
        refine (unhide hC1 _).mono ?_
        rintro e w2 ⟨rfl, rfl⟩
        go_wp2_with fail
        refine (unhide hC2 _).mono ?_
        rintro e w2 ⟨rfl, rfl⟩
        go_wp2
        go_roundw
        case rel => exact ⟨k + 1, _, by omega, by go_num, unhide hst, hsn, unhide hB2⟩
        case measure => simp [intOf]; omega
    · have hkl : k = side := by omega
      subst hkl
      replace hown := hide hown
      replace hrow := hide hrow
      go_wp2
      go_ret
      exact ⟨ys, rfl, unhide hown, unhide (unhide hrow), Upd.of_below hbel 0 0⟩
end Go.Proofs.Ytkeplngifceegaa

/- The program's mixed. -/
namespace Go.Proofs.Ytkeplngifceegaa
open Go.RowKit

def MxAt (X : World) (b old side : Nat) : Prop := ∀ j, j < side → X.cell? ⟨b, j * 3, none⟩ = some (.int .i64 ((min (fromF j old side / 256) (old - 1) : Nat) : Int)) ∧ X.cell? ⟨b, j * 3 + 1, none⟩ = some (.int .i64 ((min (fromF j old side / 256 + 1) (old - 1) : Nat) : Int)) ∧ X.cell? ⟨b, j * 3 + 2, none⟩ = some (.int .i64 ((fromF j old side % 256 : Nat) : Int))
theorem MxAt.below {X Y : World} {b old side : Nat} (h : MxAt X b old side) (hb : b < X.heap.size) (u : Below X.heap.size X Y) : MxAt Y b old side := fun j hj =>
  ⟨(u.cell (by simpa using hb)).trans (h j hj).1, (u.cell (by simpa using hb)).trans (h j hj).2.1, (u.cell (by simpa using hb)).trans (h j hj).2.2⟩
theorem mxAt_of {X : World} {b base old side : Nat} {ys : List Value} (h : X.ownsRow base 85 3 (.slice (some ⟨b, 0, none⟩) side side) side ys) (hr : RowMx ys old side side) : MxAt X b old side := by
  intro j hj
  have hl : ys.length = side * 3 := h.1
  have h1 := hr j hj
  exact ⟨(h.cellAt _ (by omega)).trans h1.1, (h.cellAt _ (by omega)).trans h1.2.1, (h.cellAt _ (by omega)).trans h1.2.2⟩
theorem blend_sum (p q s0 s1 s2 s3 : Int) : (256 - q) * (256 - p) * s0 + (256 - q) * p * s1 + q * (256 - p) * s2 + q * p * s3 = (256 - q) * ((256 - p) * s0 + p * s1) + q * ((256 - p) * s2 + p * s3) := by
  rw [Int.mul_add, Int.mul_add, Int.mul_assoc, Int.mul_assoc, Int.mul_assoc, Int.mul_assoc]
  omega
theorem mixStep (W H S T : Nat) (ad : Option Addr) (cap : Nat) (zs : List Int) (hp : PlOk W H zs) : ∃ s0 s1 s2 s3 A B C D : Int,
    (∀ X, ArgI X ad zs → Calls Try.prog 82 #[.agg #[.int .i64 (W : Int), .int .i64 (H : Int), .slice ad zs.length cap], .agg #[.int .i64 ((min (S / 256) (W - 1) : Nat) : Int), .int .i64 ((min (S / 256 + 1) (W - 1) : Nat) : Int), .int .i64 ((S % 256 : Nat) : Int)], .agg #[.int .i64 ((min (T / 256) (H - 1) : Nat) : Int), .int .i64 ((min (T / 256 + 1) (H - 1) : Nat) : Int), .int .i64 ((T % 256 : Nat) : Int)]] X fun e w' => e = .returned (.agg #[.int .i64 s0, .int .i64 s1, .int .i64 s2, .int .i64 s3]) ∧ Upd 0 0 X w') ∧
    (∀ X, Calls Try.prog 83 #[.agg #[.int .i64 ((min (S / 256) (W - 1) : Nat) : Int), .int .i64 ((min (S / 256 + 1) (W - 1) : Nat) : Int), .int .i64 ((S % 256 : Nat) : Int)], .agg #[.int .i64 ((min (T / 256) (H - 1) : Nat) : Int), .int .i64 ((min (T / 256 + 1) (H - 1) : Nat) : Int), .int .i64 ((T % 256 : Nat) : Int)], .int .i64 8] X fun e w' => e = .returned (.agg #[.int .i64 A, .int .i64 B, .int .i64 C, .int .i64 D]) ∧ Upd 0 0 X w') ∧
    (∀ X, Calls Try.prog 81 #[.agg #[.int .i64 s0, .int .i64 s1, .int .i64 s2, .int .i64 s3], .agg #[.int .i64 A, .int .i64 B, .int .i64 C, .int .i64 D], .int .i64 8] X fun e w' => e = .returned (.int .i64 (blendF zs W H S T)) ∧ Upd 0 0 X w') := by
  have hW := hp.w
  have hH := hp.h
  have hb : ∀ x y, 0 ≤ nearF zs W H x y ∧ nearF zs W H x y ≤ 255 := fun x y => nearF_bd hp.s W H x y
  have hpl : S % 256 < 256 := Nat.mod_lt _ (by omega)
  have hql : T % 256 < 256 := Nat.mod_lt _ (by omega)
  have bA := mul_bd (a := 256 - ((T % 256 : Nat) : Int)) (b := 256 - ((S % 256 : Nat) : Int)) (m := 256) (n := 256) (by omega) (by omega) (by omega) (by omega)
  have bB := mul_bd (a := 256 - ((T % 256 : Nat) : Int)) (b := ((S % 256 : Nat) : Int)) (m := 256) (n := 256) (by omega) (by omega) (by omega) (by omega)
  have bC := mul_bd (a := ((T % 256 : Nat) : Int)) (b := 256 - ((S % 256 : Nat) : Int)) (m := 256) (n := 256) (by omega) (by omega) (by omega) (by omega)
  have bD := mul_bd (a := ((T % 256 : Nat) : Int)) (b := ((S % 256 : Nat) : Int)) (m := 256) (n := 256) (by omega) (by omega) (by omega) (by omega)
  refine ⟨nearF zs W H (S / 256) (T / 256), nearF zs W H (S / 256 + 1) (T / 256), nearF zs W H (S / 256) (T / 256 + 1), nearF zs W H (S / 256 + 1) (T / 256 + 1), _, _, _, _,
    fun X hX => implCorners W H (min (S / 256) (W - 1)) (min (S / 256 + 1) (W - 1)) (min (T / 256) (H - 1)) (min (T / 256 + 1) (H - 1)) _ _ ad cap zs X hp hX (by omega) (by omega) (by omega) (by omega),
    fun X => implWeights8 _ _ (S % 256) _ _ (T % 256) X (by omega) (by omega) _ _ _ _ rfl rfl rfl rfl (by omega) (by omega) (by omega) (by omega), fun X => ?_⟩
  have i0 := mul_bd bA.1 bA.2 (hb (S / 256) (T / 256)).1 (hb (S / 256) (T / 256)).2
  have i1 := mul_bd bB.1 bB.2 (hb (S / 256 + 1) (T / 256)).1 (hb (S / 256 + 1) (T / 256)).2
  have i2 := mul_bd bC.1 bC.2 (hb (S / 256) (T / 256 + 1)).1 (hb (S / 256) (T / 256 + 1)).2
  have i3 := mul_bd bD.1 bD.2 (hb (S / 256 + 1) (T / 256 + 1)).1 (hb (S / 256 + 1) (T / 256 + 1)).2
  refine (implBlended16 _ _ _ _ _ _ _ _ _ _ _ _ X rfl rfl rfl rfl (by omega) (by omega) (by omega) (by omega)).mono ?_
  rintro e w' ⟨rfl, hu⟩
  refine ⟨?_, hu⟩
  rw [blend_sum]
  rfl
end Go.Proofs.Ytkeplngifceegaa
