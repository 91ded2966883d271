/- A region that draws its order: quiet operations (loads, arithmetic, calls that lay new blocks alone), ONE variable that is made somewhere among them, and a tail that waits for all: the quiet ones are walked once, in the text's order; the variable's block is then any new one. -/
import Derived.Test.YtilmdbdgohfpcaaWQT
import Derived.Test.YtilmdbdgohfpcaaWHeld
namespace Go.Proofs.Ytilmdbdgohfpcaa
open Go.RowKit

section
variable {P : Program} {ops : Array Oper} {md : Region.Mode} {W : World} {m : Nat}
/-- One value, in every world in which all that was there is as it was; a call may lay new blocks. -/
def oneUpon (P : Program) (w : World) (v : Value) : Result Next → Prop
  | .ok (.value u) w' => w' = w ∧ u = v
  | .ok .skip w' => w' = w ∧ v = undef
  | .ok (.enter f args) w' => w' = w ∧ Calls P f args w (fun e w'' => e = .returned v ∧ Upd 0 0 w w'')
  | _ => False
def oneAt (P : Program) (o : Oper) (a : Act) (W : World) (v : Value) : Prop := ∀ x : UpdT W, oneUpon P x.to v ((execOp a.eval o).run P x.to)
def oneK (P : Program) (ops : Array Oper) (W : World) (o : Oper) (K : Act → Prop) (a : Act) : Prop :=
  if Region.wanted o (yielded ops a.tmps) then ∃ v, oneAt P o a W v ∧ K (a.put o.dst v) else K (a.put o.dst undef)
def wpOne (P : Program) (ops : Array Oper) (W : World) (Q : Act → Prop) : List Oper → Act → Prop
  | [], a => Q a
  | o :: rest, a => oneK P ops W o (wpOne P ops W Q rest) a
structure WG (P : Program) (ops : Array Oper) (W : World) (Q : Act → Prop) (l : List Oper) (a : Act) : Prop where
  h : wpOne P ops W Q l a
theorem WG.nil {Q : Act → Prop} {a : Act} (h : Q a) : WG P ops W Q [] a := ⟨h⟩
def gOp (P : Program) (ops : Array Oper) (W : World) (m i : Nat) (K : Act → Prop) (a : Act) : Prop :=
  if i = m then K a else match ops[i]? with
  | none => K a
  | some o => oneK P ops W o K a
theorem oneK_mono {o : Oper} {a : Act} {K K' : Act → Prop} (h : ∀ a, K a → K' a) (hh : oneK P ops W o K a) : oneK P ops W o K' a := by
  unfold oneK at *
  split
  · rename_i hw; simp only [hw, if_true] at hh; obtain ⟨v, h1, h2⟩ := hh; exact ⟨v, h1, h _ h2⟩
  · rename_i hw; simp only [hw] at hh; exact h _ hh
theorem WG.step {Q : Act → Prop} {a : Act} {o : Oper} {rest : List Oper}
    (h : ∀ K : Act → Prop, (∀ a, WG P ops W Q rest a → K a) → if Region.wanted o (yielded ops a.tmps) then ∃ v, oneAt P o a W v ∧ K (a.put o.dst v) else K (a.put o.dst undef)) : WG P ops W Q (o :: rest) a :=
  ⟨h _ (fun _ h => h.h)⟩
theorem gOp_self {K : Act → Prop} {a : Act} : gOp P ops W m m K a = K a := by unfold gOp; rw [if_pos rfl]
theorem gOp_of {i : Nat} {K : Act → Prop} {a : Act} {o : Oper} (hne : i ≠ m) (ho : ops[i]? = some o) : gOp P ops W m i K a = oneK P ops W o K a := by
  unfold gOp; rw [if_neg hne]; simp only [ho]
theorem gOp_mono {i : Nat} {a : Act} {K K' : Act → Prop} (h : ∀ a, K a → K' a) (hh : gOp P ops W m i K a) : gOp P ops W m i K' a := by
  by_cases hi : i = m
  · subst hi; rw [gOp_self] at *; exact h _ hh
  · cases ho : ops[i]? with
    | none => unfold gOp at *; rw [if_neg hi] at *; simp only [ho] at *; exact h _ hh
    | some o => rw [gOp_of hi ho] at *; exact oneK_mono h hh
/-- What one operation yields in this state. -/
def OneIs (P : Program) (ops : Array Oper) (W : World) (o : Oper) (v : Value) (a : Act) : Prop :=
  (Region.wanted o (yielded ops a.tmps) = true ∧ oneAt P o a W v) ∨ (Region.wanted o (yielded ops a.tmps) = false ∧ v = undef)
theorem OneIs.oneK {o : Oper} {v : Value} {a : Act} (hy : OneIs P ops W o v a) {K : Act → Prop} (h : K (a.put o.dst v)) : oneK P ops W o K a := by
  unfold Go.Proofs.Ytilmdbdgohfpcaa.oneK
  rcases hy with ⟨hw, hv⟩ | ⟨hw, rfl⟩
  · simp only [hw, if_true]; exact ⟨v, hv, h⟩
  · simp only [hw, Bool.false_eq_true, if_false]; exact h
theorem OneIs.of_oneK {o : Oper} {a : Act} {K : Act → Prop} (h : Go.Proofs.Ytilmdbdgohfpcaa.oneK P ops W o K a) : ∃ v, OneIs P ops W o v a ∧ K (a.put o.dst v) := by
  unfold Go.Proofs.Ytilmdbdgohfpcaa.oneK at h
  by_cases hw : Region.wanted o (yielded ops a.tmps) = true
  · simp only [hw, if_true] at h; obtain ⟨v, h1, h2⟩ := h; exact ⟨v, .inl ⟨hw, h1⟩, h2⟩
  · simp only [hw] at h; exact ⟨undef, .inr ⟨by simpa using hw, rfl⟩, h⟩
theorem OneIs.same {o : Oper} {v : Value} {a a' : Act} (hy : OneIs P ops W o v a) (he : execOp a'.eval o = execOp a.eval o) (hw : Region.wanted o (yielded ops a'.tmps) = Region.wanted o (yielded ops a.tmps)) : OneIs P ops W o v a' := by
  unfold OneIs oneAt at *; rw [he, hw]; exact hy
theorem oneK_put {oi oj : Oper} {v : Value} (hap : oi.apart ops oj = true) (hsi : ∀ cs b, oi.op ≠ .select cs b) (hsj : ∀ cs b, oj.op ≠ .select cs b) {K : Act → Prop} {a : Act}
    (hy : OneIs P ops W oi v a) (h : oneK P ops W oj K (a.put oi.dst v)) : oneK P ops W oj (fun a' => OneIs P ops W oi v a' ∧ K (a'.put oi.dst v)) a := by
  obtain ⟨h1, h2, h3⟩ := Oper.apart_spec hap
  have keep : ∀ u, OneIs P ops W oi v (a.put oj.dst u) := fun u => hy.same (execOp_put oi hsi a oj.dst u h3) (wanted_put oi a oj.dst u h3)
  unfold oneK oneAt at *
  rw [wanted_put oj a oi.dst v h1, execOp_put oj hsj a oi.dst v h1] at h
  split
  · rename_i hw; simp only [hw, if_true] at h
    obtain ⟨u, hu, hn⟩ := h
    exact ⟨u, hu, keep u, by rw [← Act.put_comm a v u h2]; exact hn⟩
  · rename_i hw; simp only [hw] at h
    exact ⟨keep _, by rw [← Act.put_comm a v undef h2]; exact h⟩
/-- Whatever order is picked among the first n, with 'L' to be shown behind them. -/
def wpHeadG (P : Program) (md : Region.Mode) (ops : Array Oper) (W : World) (m n : Nat) (L : Array Bool → Act → Prop) : Nat → Array Bool → Act → Prop
  | 0, b, a => L b a
  | f + 1, b, a => Region.ready md ops b ≠ [] ∧ ∀ i ∈ Region.ready md ops b, i < n ∧ gOp P ops W m i (wpHeadG P md ops W m n L f (b.setIfInBounds i true)) a
theorem wpHeadG_first {n i : Nat} {oi : Oper} {v : Value} {L : Array Bool → Act → Prop} (hi : ops[i]? = some oi) (him : i ≠ m) (hsel : ∀ (j : Nat) (o : Oper) cs b, ops[j]? = some o → o.op ≠ .select cs b)
    (hs : Region.sinkB md ops n = true) (hc : Region.chainB md ops n = true) (hn : n < ops.size) (hin : i < n) (hdone : ∀ b a, L b a → ∀ j ∈ Region.ready md ops b, n ≤ j) (f : Nat) :
    ∀ (b : Array Bool) (a : Act), HeadInv md ops n b →
      (∀ j oj, ops[j]? = some oj → j ≠ i → b.getD j true = false → (∀ e ∈ oj.after, Region.binds md e = true → e.on ≠ i) → oi.apart ops oj = true) →
      i ∈ Region.ready md ops b → OneIs P ops W oi v a →
      wpHeadG P md ops W m n L f (b.setIfInBounds i true) (a.put oi.dst v) → wpHeadG P md ops W m n L (f + 1) b a := by
  have hself : ∀ (K : Act → Prop) a, OneIs P ops W oi v a → K (a.put oi.dst v) → gOp P ops W m i K a := fun K a hy h => by rw [gOp_of him hi]; exact hy.oneK h
  induction f with
  | zero =>
    intro b a inv _ hr hy H
    refine ⟨fun h => (by rw [h] at hr; cases hr), fun j hj => ?_⟩
    have hjn : j < n := Nat.lt_of_not_le fun h => tail_waits hs hc hn inv _ i rfl hin (mem_ready.1 hr).1 j h hj
    refine ⟨hjn, ?_⟩
    by_cases hji : j = i
    · subst hji; exact hself _ _ hy H
    · exact absurd (hdone _ _ H j (ready_mono hj hji)) (by omega)
  | succ f ih =>
    intro b a inv hfree hr hy H
    refine ⟨fun h => (by rw [h] at hr; cases hr), fun j hj => ?_⟩
    have hun := (mem_ready.1 hr).1
    have hjn : j < n := Nat.lt_of_not_le fun h => tail_waits hs hc hn inv _ i rfl hin hun j h hj
    refine ⟨hjn, ?_⟩
    by_cases hji : j = i
    · subst hji; exact hself _ _ hy H
    · obtain ⟨hjun, oj, hoj, hall⟩ := mem_ready.1 hj
      have hnot : ∀ e ∈ oj.after, Region.binds md e = true → e.on ≠ i := fun e he hb heq => by
        have h1 := hall e he hb
        rw [heq, getD_both hun] at h1
        cases h1
      have hfree' : ∀ k ok, ops[k]? = some ok → k ≠ i → (b.setIfInBounds j true).getD k true = false → (∀ e ∈ ok.after, Region.binds md e = true → e.on ≠ i) → oi.apart ops ok = true := fun k ok hk hki hun' hno => by
        refine hfree k ok hk hki ?_ hno
        by_cases hjk : j = k
        · subst hjk; exact hjun
        · rw [getD_set_ne true hjk] at hun'; exact hun'
      have hgo : ∀ a', OneIs P ops W oi v a' → wpHeadG P md ops W m n L f ((b.setIfInBounds i true).setIfInBounds j true) (a'.put oi.dst v) → wpHeadG P md ops W m n L (f + 1) (b.setIfInBounds j true) a' := fun a' hy' H' =>
        ih (b.setIfInBounds j true) a' (inv.set hj hjn) hfree' (ready_mono hr (Ne.symm hji)) hy' (by rw [Array.setIfInBounds_comm _ _ hji]; exact H')
      have H2 := (H.2 j (ready_mono hj hji)).2
      by_cases hjm : j = m
      · subst hjm
        rw [gOp_self] at H2 ⊢
        exact hgo a hy H2
      · rw [gOp_of hjm hoj] at H2 ⊢
        exact oneK_mono (fun a' h3 => hgo a' h3.1 h3.2) (oneK_put (hfree j oj hoj hji hjun hnot) (fun cs b => hsel i oi cs b hi) (fun cs b => hsel j oj cs b hoj) hy H2)
/-- The variable may be made first. -/
theorem wpHeadG_made {n : Nat} {L : Array Bool → Act → Prop}
    (hs : Region.sinkB md ops n = true) (hc : Region.chainB md ops n = true) (hn : n < ops.size) (hin : m < n) (hdone : ∀ b a, L b a → ∀ j ∈ Region.ready md ops b, n ≤ j) (f : Nat) :
    ∀ (b : Array Bool) (a : Act), HeadInv md ops n b → m ∈ Region.ready md ops b →
      wpHeadG P md ops W m n L f (b.setIfInBounds m true) a → wpHeadG P md ops W m n L (f + 1) b a := by
  induction f with
  | zero =>
    intro b a inv hr H
    refine ⟨fun h => (by rw [h] at hr; cases hr), fun j hj => ?_⟩
    have hjn : j < n := Nat.lt_of_not_le fun h => tail_waits hs hc hn inv _ m rfl hin (mem_ready.1 hr).1 j h hj
    refine ⟨hjn, ?_⟩
    by_cases hji : j = m
    · subst hji; rw [gOp_self]; exact H
    · exact absurd (hdone _ _ H j (ready_mono hj hji)) (by omega)
  | succ f ih =>
    intro b a inv hr H
    refine ⟨fun h => (by rw [h] at hr; cases hr), fun j hj => ?_⟩
    have hjn : j < n := Nat.lt_of_not_le fun h => tail_waits hs hc hn inv _ m rfl hin (mem_ready.1 hr).1 j h hj
    refine ⟨hjn, ?_⟩
    by_cases hji : j = m
    · subst hji; rw [gOp_self]; exact H
    · refine gOp_mono (fun a' h3 => ih (b.setIfInBounds j true) a' (inv.set hj hjn) (ready_mono hr (Ne.symm hji)) ?_) (H.2 j (ready_mono hj hji)).2
      rw [Array.setIfInBounds_comm _ _ hji]
      exact h3
/-- The walk by numbers. -/
def wpNum (P : Program) (ops : Array Oper) (W : World) (m : Nat) (Q : Act → Prop) : Nat → Nat → Act → Prop
  | 0, _, a => Q a
  | r + 1, k, a => gOp P ops W m k (wpNum P ops W m Q r (k + 1)) a
theorem wpNum_of_list {Q : Act → Prop} (s : List Oper) : ∀ (k r : Nat) (a : Act), (∀ j, j < s.length → s[j]? = ops[k + j]? ∧ k + j ≠ m) → wpOne P ops W (wpNum P ops W m Q r (k + s.length)) s a → wpNum P ops W m Q (s.length + r) k a := by
  induction s with
  | nil => intro k r a _ h; simpa [wpOne] using h
  | cons o s ih =>
    intro k r a hl h
    have h0 : ops[k]? = some o ∧ k ≠ m := by have := hl 0 (by simp); simpa [eq_comm] using this
    rw [show (o :: s).length + r = (s.length + r) + 1 by simp; omega]
    show gOp P ops W m k _ a
    rw [gOp_of h0.2 h0.1]
    refine oneK_mono (fun a' h' => ih (k + 1) r a' (fun j hj => ?_) ?_) h
    · have := hl (j + 1) (by simp; omega)
      simpa [Nat.add_assoc, Nat.add_comm 1 j] using this
    · rw [show k + 1 + s.length = k + (o :: s).length by simp; omega]; exact h'
theorem wpHeadG_lex {n g : Nat} {Lq : Act → Prop} (hsel : Region.noSelect ops = true) (hs : Region.sinkB md ops n = true) (hc : Region.chainB md ops n = true) (hn : n < ops.size) (hmn : m < n) (r : Nat) :
    ∀ (k : Nat) (b : Array Bool) (a : Act), k + r = n → HeadInv md ops n b → (m < k → b.getD m false = true) →
    Region.lexHead md ops g r k b = true → wpNum P ops W m Lq r k a → wpHeadG P md ops W m n (fun b' a' => Region.seqB md ops g n b' = true ∧ b'.getD m false = true ∧ Lq a') r b a := by
  induction r with
  | zero =>
    intro k b a hk inv hb hB h
    have hkn : k = n := by omega
    subst hkn
    exact ⟨by simpa [Region.lexHead] using hB, hb hmn, h⟩
  | succ r ih =>
    intro k b a hk inv hb hB h
    simp only [Region.lexHead, Bool.and_eq_true] at hB
    obtain ⟨⟨hr, hf⟩, hB'⟩ := hB
    have hkn : k < n := by omega
    have hr' : k ∈ Region.ready md ops b := by simpa using hr
    have hks : k < b.size := by rw [inv.size]; omega
    have hb' : m < k + 1 → (b.setIfInBounds k true).getD m false = true := fun h => by
      by_cases hkm : k = m
      · subst hkm; simp [hks]
      · rw [getD_set_ne false hkm]; exact hb (by omega)
    by_cases hkm : k = m
    · subst hkm
      have h' : wpNum P ops W k Lq r (k + 1) a := by
        have := h; unfold wpNum at this; rw [gOp_self] at this; exact this
      exact wpHeadG_made hs hc hn hkn (fun b' a' hL => seqB_ready hL.1) r b a inv hr' (ih (k + 1) _ a (by omega) (inv.set hr' hkn) hb' hB' h')
    · obtain ⟨_, o, h0, _⟩ := mem_ready.1 hr'
      have h' : oneK P ops W o (wpNum P ops W m Lq r (k + 1)) a := by
        have := h; unfold wpNum at this; rw [gOp_of hkm h0] at this; exact this
      obtain ⟨v, hy, hK⟩ := OneIs.of_oneK h'
      exact wpHeadG_first h0 hkm (Region.noSelect_spec hsel) hs hc hn hkn (fun b' a' hL => seqB_ready hL.1) r b a inv (Region.free_spec h0 hf) hr' hy
        (ih (k + 1) _ _ (by omega) (inv.set hr' hkn) hb' hB' hK)
theorem oneUpon_upon {w : World} {v : Value} {r : Result Next} {o : Oper} {a : Act} {K' : Act → World → Prop} {Q' : Exit → Act → World → Prop} (h : oneUpon P w v r) (hK : ∀ w', Upd 0 0 w w' → K' (a.put o.dst v) w') : o.upon P a K' Q' r := by
  cases r with
  | ok n w' =>
    cases n <;> simp only [oneUpon] at h <;> simp only [Oper.upon]
    case value u => obtain ⟨rfl, rfl⟩ := h; exact hK _ (Upd.refl _ _ _)
    case skip => obtain ⟨rfl, rfl⟩ := h; exact hK _ (Upd.refl _ _ _)
    case enter f args =>
      obtain ⟨rfl, hc⟩ := h
      exact hc.mono fun e w'' ⟨he, hu⟩ => by subst he; exact hK _ hu
  | halt x w' => simp only [oneUpon] at h
/-- From the walk to the run. -/
theorem wpAny_of_headG {n g : Nat} {L : Array Bool → Act → Prop} {Q' : Exit → Act → World → Prop} {om : Oper} {zs : List Value} {t : TypeId} (hom : ops[m]? = some om) (hg : om.guard = none)
    (hsel : ∀ (j : Nat) (o : Oper) cs b, ops[j]? = some o → o.op ≠ .select cs b)
    (hap : ∀ (j : Nat) o, j < n → j ≠ m → ops[j]? = some o → om.apart ops o = true)
    (hA : ∀ (a : Act) (w : World), (execOp a.eval om).run P w = .ok (.value (.pointer (some ⟨w.heap.size, 0, none⟩))) (w.alloc (.cells zs.toArray t)))
    (hL : ∀ b a w c, Upd 0 0 W w → W.heap.size ≤ c → c < w.heap.size → HeldF w c zs → L b a → wpAny P md ops Q' g b (a.put om.dst (.pointer (some ⟨c, 0, none⟩))) w)
    (hLm : ∀ b a, L b a → b.getD m false = true) (f : Nat) :
    ∀ (b : Array Bool) (a : Act) (w : World), b.size = ops.size → Upd 0 0 W w → wpHeadG P md ops W m n L f b a →
      (b.getD m true = false → wpAny P md ops Q' (f + g) b a w) ∧
      (∀ c, b.getD m false = true → W.heap.size ≤ c → c < w.heap.size → HeldF w c zs → wpAny P md ops Q' (f + g) b (a.put om.dst (.pointer (some ⟨c, 0, none⟩))) w) := by
  have hwm : ∀ y, Region.wanted om y = true := fun y => by unfold Region.wanted; rw [hg]
  induction f with
  | zero =>
    intro b a w hbs hw h
    rw [Nat.zero_add]
    refine ⟨fun hb => ?_, fun c _ h1 h2 h3 => hL b a w c hw h1 h2 h3 h⟩
    have := hLm b a h
    rw [getD_both hb] at this
    cases this
  | succ f ih =>
    intro b a w hbs hw h
    rw [show f + 1 + g = (f + g) + 1 by omega]
    refine ⟨fun hb => ⟨fun h0 => absurd h0 h.1, fun i hi => ?_⟩, fun c hb h1 h2 h3 => ⟨fun h0 => absurd h0 h.1, fun i hi => ?_⟩⟩
    · by_cases him : i = m
      · subst him
        have h' := (h.2 i hi).2
        rw [gOp_self] at h'
        have hms : i < b.size := by rw [hbs]; exact (Array.getElem?_eq_some_iff.1 hom).1
        unfold wpOp
        simp only [hom, hwm, if_true]
        refine .inl ?_
        unfold Oper.wp
        rw [hA]
        simp only [Oper.upon]
        have hu : Upd 0 0 w (w.alloc (.cells zs.toArray t)) := Upd.of_below ((Below.refl _ _).alloc (Nat.le_refl _) _) 0 0
        exact (ih (b.setIfInBounds i true) a _ (by simpa using hbs) (hw.trans hu) h').2 w.heap.size (by simp [hms]) hw.size (by simp) (heldF_new w zs t)
      · obtain ⟨_, o, ho, _⟩ := mem_ready.1 hi
        have hin := (h.2 i hi).1
        have h' := (h.2 i hi).2
        rw [gOp_of him ho] at h'
        have hb' : (b.setIfInBounds i true).getD m true = false := by rw [getD_set_ne true him]; exact hb
        unfold oneK at h'
        unfold wpOp
        simp only [ho]
        split
        · rename_i hwt
          simp only [hwt, if_true] at h'
          obtain ⟨v, hv, hn⟩ := h'
          refine .inl ?_
          have hv' : oneUpon P w v ((execOp a.eval o).run P w) := hv ⟨w, hw⟩
          exact oneUpon_upon hv' (fun w' hu => (ih _ _ w' (by simpa using hbs) (hw.trans hu) hn).1 hb')
        · rename_i hwt
          simp only [hwt] at h'
          exact (ih _ _ w (by simpa using hbs) hw h').1 hb'
    · have him : i ≠ m := fun h' => by
        have := (mem_ready.1 hi).1
        rw [h', ] at this
        have hms : m < b.size := by rw [hbs]; exact (Array.getElem?_eq_some_iff.1 hom).1
        simp [hms] at this hb
        rw [hb] at this
        cases this
      obtain ⟨_, o, ho, _⟩ := mem_ready.1 hi
      have hin := (h.2 i hi).1
      have h' := (h.2 i hi).2
      rw [gOp_of him ho] at h'
      obtain ⟨p1, p2, p3⟩ := Oper.apart_spec (hap i o hin him ho)
      have hb' : (b.setIfInBounds i true).getD m false = true := by rw [getD_set_ne false him]; exact hb
      unfold oneK at h'
      unfold wpOp
      simp only [ho]
      rw [wanted_put o a om.dst _ p1]
      split
      · rename_i hwt
        simp only [hwt, if_true] at h'
        obtain ⟨v, hv, hn⟩ := h'
        refine .inl ?_
        have hv' : oneUpon P w v ((execOp a.eval o).run P w) := hv ⟨w, hw⟩
        unfold Oper.wp
        rw [execOp_put o (hsel i o · · ho) a om.dst _ p1]
        refine oneUpon_upon hv' (fun w' hu => ?_)
        rw [Act.put_comm a _ v p2]
        exact (ih _ _ w' (by simpa using hbs) (hw.trans hu) hn).2 c hb' h1 (by have := hu.size; omega) (h3.keep hu)
      · rename_i hwt
        simp only [hwt] at h'
        rw [Act.put_comm a _ undef p2]
        exact (ih _ _ w (by simpa using hbs) hw h').2 c hb' h1 h2 h3
/-- All of the first n but number m are apart from what makes the variable. -/
def apartB (ops : Array Oper) (m n : Nat) : Bool := match ops[m]? with
  | none => false
  | some om => decide (om.guard = none) && decide (m < n) && (List.range n).all fun j => j == m || match ops[j]? with
    | none => true
    | some o => om.apart ops o
theorem any_float {Q : Exit → Act → World → Prop} {a : Act} {w : World} {l : List Oper} {zs : List Value} {t : TypeId} {om : Oper} (m n : Nat) (hB : Region.lexTailB .any l.toArray n = true)
    (hp : apartB l.toArray m n = true) (hom : l[m]? = some om)
    (hA : ∀ (a : Act) (w : World), (execOp a.eval om).run P w = .ok (.value (.pointer (some ⟨w.heap.size, 0, none⟩))) (w.alloc (.cells zs.toArray t)))
    (h : WG P l.toArray w (fun a' => ∀ w' c, Upd 0 0 w w' → w.heap.size ≤ c → c < w'.heap.size → HeldF w' c zs → wpList P l.toArray Q (l.drop n) (a'.put om.dst (.pointer (some ⟨c, 0, none⟩))) w') (l.take m ++ (l.take n).drop (m + 1)) a) :
    wpAny P .any l.toArray Q l.toArray.size (Array.replicate l.toArray.size false) a { w with drawn := w.drawn + 1 } := by
  have hom' : l.toArray[m]? = some om := by simpa using hom
  unfold apartB at hp
  rw [hom'] at hp
  simp only [Bool.and_eq_true, decide_eq_true_eq, List.all_eq_true, List.mem_range, Bool.or_eq_true, beq_iff_eq] at hp
  obtain ⟨⟨hg, hmn⟩, hp⟩ := hp
  simp only [Region.lexTailB, Bool.and_eq_true, decide_eq_true_eq] at hB
  obtain ⟨⟨⟨⟨hsel, hn⟩, hs⟩, hc⟩, hlex⟩ := hB
  have hn' : n < l.length := by simpa using hn
  have hdl : (l.drop n).length = l.toArray.size - n := by simp
  have inv0 : HeadInv .any l.toArray n (Array.replicate l.toArray.size false) :=
    ⟨by simp, fun j oj _ hl => (by rw [getD_replicate_false] at hl; cases hl), fun u _ ht => getD_in (by simpa using ht) (getD_replicate_false _ _)⟩
  have hW : wpNum P l.toArray w m (fun a' => ∀ w' c, Upd 0 0 w w' → w.heap.size ≤ c → c < w'.heap.size → HeldF w' c zs → wpList P l.toArray Q (l.drop n) (a'.put om.dst (.pointer (some ⟨c, 0, none⟩))) w') n 0 a := by
    have hlen : (l.take m).length = m := by simp; omega
    have hlen2 : ((l.take n).drop (m + 1)).length = n - (m + 1) := by simp; omega
    have split : ∀ (Q : Act → Prop) (s u : List Oper) (a : Act), wpOne P l.toArray w Q (s ++ u) a → wpOne P l.toArray w (wpOne P l.toArray w Q u) s a := by
      intro Q s u
      induction s with
      | nil => intro a h; exact h
      | cons o s ih => intro a h; exact oneK_mono (fun a' h' => ih a' h') h
    have h1 := split _ _ _ _ h.h
    have hb := wpNum_of_list (P := P) (W := w) (m := m) (ops := l.toArray) (l.take m) 0 (n - m) a (fun j hj => by
      rw [hlen] at hj
      exact ⟨by simp [hj], by omega⟩) (Q := (fun a' => ∀ w' c, Upd 0 0 w w' → w.heap.size ≤ c → c < w'.heap.size → HeldF w' c zs → wpList P l.toArray Q (l.drop n) (a'.put om.dst (.pointer (some ⟨c, 0, none⟩))) w'))
    rw [hlen, show m + (n - m) = n by omega] at hb
    refine hb ?_
    have mono : ∀ (Q Q' : Act → Prop) (s : List Oper) (a : Act), (∀ a, Q a → Q' a) → wpOne P l.toArray w Q s a → wpOne P l.toArray w Q' s a := by
      intro Q Q' s
      induction s with
      | nil => intro a hq h; exact hq _ h
      | cons o s ih => intro a hq h; exact oneK_mono (fun a' h' => ih a' hq h') h
    refine mono _ _ _ _ (fun a' h' => ?_) h1
    rw [show n - m = (n - (m + 1)) + 1 by omega]
    show gOp P l.toArray w m (0 + m) _ a'
    rw [show 0 + m = m by omega, gOp_self]
    have hb2 := wpNum_of_list (P := P) (W := w) (m := m) (ops := l.toArray) ((l.take n).drop (m + 1)) (m + 1) 0 a' (fun j hj => by
      rw [hlen2] at hj
      exact ⟨by rw [List.getElem?_drop, List.getElem?_take, if_pos (by omega)]; simp, by omega⟩) (Q := (fun a' => ∀ w' c, Upd 0 0 w w' → w.heap.size ≤ c → c < w'.heap.size → HeldF w' c zs → wpList P l.toArray Q (l.drop n) (a'.put om.dst (.pointer (some ⟨c, 0, none⟩))) w'))
    rw [hlen2] at hb2
    exact hb2 h'
  have H := wpHeadG_lex (md := .any) (g := l.toArray.size - n) hsel hs hc hn hmn n 0 (Array.replicate l.toArray.size false) a (by omega) inv0 (fun h => by omega) hlex hW
  have R := wpAny_of_headG (W := w) (Q' := Q) (g := l.toArray.size - n) (zs := zs) (t := t) hom' hg (Region.noSelect_spec hsel)
    (fun j o hj hjm ho => by have := hp j hj; rw [ho] at this; simpa [hjm] using this) hA
    (fun b a' w' c hu h1 h2 h3 hL => by
      have := wpAny_of_seq (md := .any) (Q' := Q) (l.drop n) n b (a'.put om.dst (.pointer (some ⟨c, 0, none⟩))) w' (fun j => by simp [List.getElem?_drop]) (by rw [hdl]; exact hL.1) (hL.2.2 w' c hu h1 h2 h3)
      rwa [hdl] at this) (fun b a' hL => hL.2.1) n (Array.replicate l.toArray.size false) a { w with drawn := w.drawn + 1 } (by simp) ⟨rfl, rfl, rfl, Nat.le_refl _, fun _ _ _ => rfl⟩ H
  have := R.1 (by
    have hms : m < l.length := by omega
    simp [hms])
  rwa [show n + (l.toArray.size - n) = l.toArray.size by omega] at this
theorem wp_region_float {id : Nat} {Q : Exit → Act → World → Prop} {a : Act} {w : World} {l : List Oper} {zs : List Value} {t : TypeId} {om : Oper} (m n : Nat) (hm : P.follows .mixedOrders = true) (hB : Region.lexTailB .any l.toArray n = true)
    (hp : apartB l.toArray m n = true) (hom : l[m]? = some om)
    (hA : ∀ (a : Act) (w : World), (execOp a.eval om).run P w = .ok (.value (.pointer (some ⟨w.heap.size, 0, none⟩))) (w.alloc (.cells zs.toArray t)))
    (h : WG P l.toArray w (fun a' => ∀ w' c, Upd 0 0 w w' → w.heap.size ≤ c → c < w'.heap.size → HeldF w' c zs → wpList P l.toArray Q (l.drop n) (a'.put om.dst (.pointer (some ⟨c, 0, none⟩))) w') (l.take m ++ (l.take n).drop (m + 1)) a) :
    (Code.region id l.toArray true).wp P Q a w :=
  wp_region_any hm (any_float m n hB hp hom hA h)
end
end Go.Proofs.Ytilmdbdgohfpcaa
