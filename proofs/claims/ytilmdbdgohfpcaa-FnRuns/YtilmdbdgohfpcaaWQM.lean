/- A region that draws its order: quiet operations, ONE among them that makes a block out of what others gave (a slice's literal, a variable), and a tail that waits for all: the walk of the text's order serves. -/
import Derived.Test.YtilmdbdgohfpcaaWQA
namespace Go.Proofs.Ytilmdbdgohfpcaa
open Go.RowKit

section
variable {P : Program} {ops : Array Oper} {md : Region.Mode} {W : World} {m : Nat}
/-- In every such world number m makes a block of these cells. -/
def makesAt (P : Program) (W : World) (om : Oper) (mk : Nat → Value) (zs : List Value) (t : TypeId) (a : Act) : Prop :=
  ∀ x : UpdT W, (execOp a.eval om).run P x.to = .ok (.value (mk x.to.heap.size)) (x.to.alloc (.cells zs.toArray t))
structure WM (P : Program) (ops : Array Oper) (W : World) (Q : Act → Prop) (m : Nat) (om : Oper) (mk : Nat → Value) (zs : List Value) (t : TypeId) (l1 l2 : List Oper) (a : Act) : Prop where
  h : wpOne P ops W (fun a' => makesAt P W om mk zs t a' ∧ wpOne P ops W Q l2 a') l1 a
variable {om : Oper} {mk : Nat → Value} {zs : List Value} {t : TypeId}
def mOp (P : Program) (ops : Array Oper) (W : World) (om : Oper) (mk : Nat → Value) (zs : List Value) (t : TypeId) (m i : Nat) (K : Act → Prop) (a : Act) : Prop :=
  if i = m then makesAt P W om mk zs t a ∧ K a else match ops[i]? with
  | none => K a
  | some o => oneK P ops W o K a
theorem mOp_self {K : Act → Prop} {a : Act} : mOp P ops W om mk zs t m m K a = (makesAt P W om mk zs t a ∧ K a) := by unfold mOp; rw [if_pos rfl]
theorem mOp_of {i : Nat} {K : Act → Prop} {a : Act} {o : Oper} (hne : i ≠ m) (ho : ops[i]? = some o) : mOp P ops W om mk zs t m i K a = oneK P ops W o K a := by
  unfold mOp; rw [if_neg hne]; simp only [ho]
theorem mOp_mono {i : Nat} {a : Act} {K K' : Act → Prop} (h : ∀ a, K a → K' a) (hh : mOp P ops W om mk zs t m i K a) : mOp P ops W om mk zs t m i K' a := by
  by_cases hi : i = m
  · subst hi; rw [mOp_self] at *; exact ⟨hh.1, h _ hh.2⟩
  · cases ho : ops[i]? with
    | none => unfold mOp at *; rw [if_neg hi] at *; simp only [ho] at *; exact h _ hh
    | some o => rw [mOp_of hi ho] at *; exact oneK_mono h hh
/-- Whatever order is picked among the first n, with 'L' to be shown behind them. -/
def wpHeadM (P : Program) (md : Region.Mode) (ops : Array Oper) (W : World) (om : Oper) (mk : Nat → Value) (zs : List Value) (t : TypeId) (m n : Nat) (L : Array Bool → Act → Prop) : Nat → Array Bool → Act → Prop
  | 0, b, a => L b a
  | f + 1, b, a => Region.ready md ops b ≠ [] ∧ ∀ i ∈ Region.ready md ops b, i < n ∧ mOp P ops W om mk zs t m i (wpHeadM P md ops W om mk zs t m n L f (b.setIfInBounds i true)) a
theorem wpHeadM_first {n i : Nat} {oi : Oper} {v : Value} {L : Array Bool → Act → Prop} (hom : ops[m]? = some om) (hi : ops[i]? = some oi) (him : i ≠ m) (hsel : ∀ (j : Nat) (o : Oper) cs b, ops[j]? = some o → o.op ≠ .select cs b)
    (hs : Region.sinkB md ops n = true) (hc : Region.chainB md ops n = true) (hn : n < ops.size) (hin : i < n) (hdone : ∀ b a, L b a → ∀ j ∈ Region.ready md ops b, n ≤ j) (f : Nat) :
    ∀ (b : Array Bool) (a : Act), HeadInv md ops n b →
      (∀ j oj, ops[j]? = some oj → j ≠ i → b.getD j true = false → (∀ e ∈ oj.after, Region.binds md e = true → e.on ≠ i) → oi.apart ops oj = true) →
      i ∈ Region.ready md ops b → OneIs P ops W oi v a →
      wpHeadM P md ops W om mk zs t m n L f (b.setIfInBounds i true) (a.put oi.dst v) → wpHeadM P md ops W om mk zs t m n L (f + 1) b a := by
  have hself : ∀ (K : Act → Prop) a, OneIs P ops W oi v a → K (a.put oi.dst v) → mOp P ops W om mk zs t m i K a := fun K a hy h => by rw [mOp_of him hi]; exact hy.oneK h
  induction f with
  | zero =>
    intro b a inv _ hr hy H
    refine ⟨fun h => (by rw [h] at hr; cases hr), fun j hj => ?_⟩
    have hjn : j < n := Nat.lt_of_not_le fun h => tail_waits hs hc hn inv _ i rfl hin (mem_ready.1 hr).1 j h hj
    refine ⟨hjn, ?_⟩
    by_cases hji : j = i
    · subst hji; exact hself _ _ hy H
    · exact absurd (hdone _ _ H j (ready_mono hj hji)) (by omega)
  | succ f ih =>
    intro b a inv hfree hr hy H
    refine ⟨fun h => (by rw [h] at hr; cases hr), fun j hj => ?_⟩
    have hun := (mem_ready.1 hr).1
    have hjn : j < n := Nat.lt_of_not_le fun h => tail_waits hs hc hn inv _ i rfl hin hun j h hj
    refine ⟨hjn, ?_⟩
    by_cases hji : j = i
    · subst hji; exact hself _ _ hy H
    · obtain ⟨hjun, oj, hoj, hall⟩ := mem_ready.1 hj
      have hnot : ∀ e ∈ oj.after, Region.binds md e = true → e.on ≠ i := fun e he hb heq => by
        have h1 := hall e he hb
        rw [heq, getD_both hun] at h1
        cases h1
      have hfree' : ∀ k ok, ops[k]? = some ok → k ≠ i → (b.setIfInBounds j true).getD k true = false → (∀ e ∈ ok.after, Region.binds md e = true → e.on ≠ i) → oi.apart ops ok = true := fun k ok hk hki hun' hno => by
        refine hfree k ok hk hki ?_ hno
        by_cases hjk : j = k
        · subst hjk; exact hjun
        · rw [getD_set_ne true hjk] at hun'; exact hun'
      have hgo : ∀ a', OneIs P ops W oi v a' → wpHeadM P md ops W om mk zs t m n L f ((b.setIfInBounds i true).setIfInBounds j true) (a'.put oi.dst v) → wpHeadM P md ops W om mk zs t m n L (f + 1) (b.setIfInBounds j true) a' := fun a' hy' H' =>
        ih (b.setIfInBounds j true) a' (inv.set hj hjn) hfree' (ready_mono hr (Ne.symm hji)) hy' (by rw [Array.setIfInBounds_comm _ _ hji]; exact H')
      have H2 := (H.2 j (ready_mono hj hji)).2
      by_cases hjm : j = m
      · subst hjm
        have hoe : oj = om := Option.some.inj (hoj.symm.trans hom)
        subst hoe
        rw [mOp_self] at H2 ⊢
        refine ⟨fun x => ?_, hgo a hy H2.2⟩
        have := H2.1 x
        rwa [execOp_put oj (fun cs b => hsel j oj cs b hoj) a oi.dst v (Oper.apart_spec (hfree j oj hoj hji hjun hnot)).1] at this
      · rw [mOp_of hjm hoj] at H2 ⊢
        exact oneK_mono (fun a' h3 => hgo a' h3.1 h3.2) (oneK_put (hfree j oj hoj hji hjun hnot) (fun cs b => hsel i oi cs b hi) (fun cs b => hsel j oj cs b hoj) hy H2)
theorem oneK_makes {o : Oper} (hap : om.apart ops o = true) (hsm : ∀ cs b, om.op ≠ .select cs b) {K : Act → Prop} {a : Act} (hm : makesAt P W om mk zs t a) (h : oneK P ops W o K a) : oneK P ops W o (fun a' => makesAt P W om mk zs t a' ∧ K a') a := by
  obtain ⟨_, _, h3⟩ := Oper.apart_spec hap
  have keep : ∀ u, makesAt P W om mk zs t (a.put o.dst u) := fun u x => by rw [execOp_put om hsm a o.dst u h3]; exact hm x
  unfold oneK at *
  split
  · rename_i hw; simp only [hw, if_true] at h; obtain ⟨u, hu, hn⟩ := h; exact ⟨u, hu, keep u, hn⟩
  · rename_i hw; simp only [hw] at h; exact ⟨keep _, h⟩
/-- The block may be made first. -/
theorem wpHeadM_made {n : Nat} {L : Array Bool → Act → Prop} (hom : ops[m]? = some om) (hsel : ∀ (j : Nat) (o : Oper) cs b, ops[j]? = some o → o.op ≠ .select cs b)
    (hs : Region.sinkB md ops n = true) (hc : Region.chainB md ops n = true) (hn : n < ops.size) (hin : m < n) (hdone : ∀ b a, L b a → ∀ j ∈ Region.ready md ops b, n ≤ j) (f : Nat) :
    ∀ (b : Array Bool) (a : Act), HeadInv md ops n b →
      (∀ j oj, ops[j]? = some oj → j ≠ m → b.getD j true = false → (∀ e ∈ oj.after, Region.binds md e = true → e.on ≠ m) → om.apart ops oj = true) →
      m ∈ Region.ready md ops b → makesAt P W om mk zs t a →
      wpHeadM P md ops W om mk zs t m n L f (b.setIfInBounds m true) a → wpHeadM P md ops W om mk zs t m n L (f + 1) b a := by
  induction f with
  | zero =>
    intro b a inv _ hr hmk H
    refine ⟨fun h => (by rw [h] at hr; cases hr), fun j hj => ?_⟩
    have hjn : j < n := Nat.lt_of_not_le fun h => tail_waits hs hc hn inv _ m rfl hin (mem_ready.1 hr).1 j h hj
    refine ⟨hjn, ?_⟩
    by_cases hji : j = m
    · subst hji; rw [mOp_self]; exact ⟨hmk, H⟩
    · exact absurd (hdone _ _ H j (ready_mono hj hji)) (by omega)
  | succ f ih =>
    intro b a inv hfree hr hmk H
    refine ⟨fun h => (by rw [h] at hr; cases hr), fun j hj => ?_⟩
    have hun := (mem_ready.1 hr).1
    have hjn : j < n := Nat.lt_of_not_le fun h => tail_waits hs hc hn inv _ m rfl hin hun j h hj
    refine ⟨hjn, ?_⟩
    by_cases hji : j = m
    · subst hji; rw [mOp_self]; exact ⟨hmk, H⟩
    · obtain ⟨hjun, oj, hoj, hall⟩ := mem_ready.1 hj
      have hnot : ∀ e ∈ oj.after, Region.binds md e = true → e.on ≠ m := fun e he hb heq => by
        have h1 := hall e he hb
        rw [heq, getD_both hun] at h1
        cases h1
      have hfree' : ∀ k ok, ops[k]? = some ok → k ≠ m → (b.setIfInBounds j true).getD k true = false → (∀ e ∈ ok.after, Region.binds md e = true → e.on ≠ m) → om.apart ops ok = true := fun k ok hk hki hun' hno => by
        refine hfree k ok hk hki ?_ hno
        by_cases hjk : j = k
        · subst hjk; exact hjun
        · rw [getD_set_ne true hjk] at hun'; exact hun'
      have H2 := (H.2 j (ready_mono hj hji)).2
      rw [mOp_of hji hoj] at H2 ⊢
      refine oneK_mono (fun a' h3 => ih (b.setIfInBounds j true) a' (inv.set hj hjn) hfree' (ready_mono hr (Ne.symm hji)) h3.1 ?_) (oneK_makes (hfree j oj hoj hji hjun hnot) (fun cs b => hsel m om cs b hom) hmk H2)
      rw [Array.setIfInBounds_comm _ _ hji]
      exact h3.2
/-- The walk by numbers. -/
def wpNumM (P : Program) (ops : Array Oper) (W : World) (om : Oper) (mk : Nat → Value) (zs : List Value) (t : TypeId) (m : Nat) (Q : Act → Prop) : Nat → Nat → Act → Prop
  | 0, _, a => Q a
  | r + 1, k, a => mOp P ops W om mk zs t m k (wpNumM P ops W om mk zs t m Q r (k + 1)) a
theorem wpNumM_of_list {Q : Act → Prop} (s : List Oper) : ∀ (k r : Nat) (a : Act), (∀ j, j < s.length → s[j]? = ops[k + j]? ∧ k + j ≠ m) → wpOne P ops W (wpNumM P ops W om mk zs t m Q r (k + s.length)) s a → wpNumM P ops W om mk zs t m Q (s.length + r) k a := by
  induction s with
  | nil => intro k r a _ h; simpa [wpOne] using h
  | cons o s ih =>
    intro k r a hl h
    have h0 : ops[k]? = some o ∧ k ≠ m := by have := hl 0 (by simp); simpa [eq_comm] using this
    rw [show (o :: s).length + r = (s.length + r) + 1 by simp; omega]
    show mOp P ops W om mk zs t m k _ a
    rw [mOp_of h0.2 h0.1]
    refine oneK_mono (fun a' h' => ih (k + 1) r a' (fun j hj => ?_) ?_) h
    · have := hl (j + 1) (by simp; omega)
      simpa [Nat.add_assoc, Nat.add_comm 1 j] using this
    · rw [show k + 1 + s.length = k + (o :: s).length by simp; omega]; exact h'
theorem wpHeadM_lex {n g : Nat} {Lq : Act → Prop} (hom : ops[m]? = some om) (hsel : Region.noSelect ops = true) (hs : Region.sinkB md ops n = true) (hc : Region.chainB md ops n = true) (hn : n < ops.size) (hmn : m < n) (r : Nat) :
    ∀ (k : Nat) (b : Array Bool) (a : Act), k + r = n → HeadInv md ops n b → (m < k → b.getD m false = true) →
    Region.lexHead md ops g r k b = true → wpNumM P ops W om mk zs t m Lq r k a → wpHeadM P md ops W om mk zs t m n (fun b' a' => Region.seqB md ops g n b' = true ∧ b'.getD m false = true ∧ Lq a') r b a := by
  induction r with
  | zero =>
    intro k b a hk inv hb hB h
    have hkn : k = n := by omega
    subst hkn
    exact ⟨by simpa [Region.lexHead] using hB, hb hmn, h⟩
  | succ r ih =>
    intro k b a hk inv hb hB h
    simp only [Region.lexHead, Bool.and_eq_true] at hB
    obtain ⟨⟨hr, hf⟩, hB'⟩ := hB
    have hkn : k < n := by omega
    have hr' : k ∈ Region.ready md ops b := by simpa using hr
    have hks : k < b.size := by rw [inv.size]; omega
    have hb' : m < k + 1 → (b.setIfInBounds k true).getD m false = true := fun h => by
      by_cases hkm : k = m
      · subst hkm; simp [hks]
      · rw [getD_set_ne false hkm]; exact hb (by omega)
    by_cases hkm : k = m
    · subst hkm
      have h' : makesAt P W om mk zs t a ∧ wpNumM P ops W om mk zs t k Lq r (k + 1) a := by
        have := h; unfold wpNumM at this; rw [mOp_self] at this; exact this
      exact wpHeadM_made hom (Region.noSelect_spec hsel) hs hc hn hkn (fun b' a' hL => seqB_ready hL.1) r b a inv (Region.free_spec hom hf) hr' h'.1 (ih (k + 1) _ a (by omega) (inv.set hr' hkn) hb' hB' h'.2)
    · obtain ⟨_, o, h0, _⟩ := mem_ready.1 hr'
      have h' : oneK P ops W o (wpNumM P ops W om mk zs t m Lq r (k + 1)) a := by
        have := h; unfold wpNumM at this; rw [mOp_of hkm h0] at this; exact this
      obtain ⟨v, hy, hK⟩ := OneIs.of_oneK h'
      exact wpHeadM_first hom h0 hkm (Region.noSelect_spec hsel) hs hc hn hkn (fun b' a' hL => seqB_ready hL.1) r b a inv (Region.free_spec h0 hf) hr' hy
        (ih (k + 1) _ _ (by omega) (inv.set hr' hkn) hb' hB' hK)
/-- From the walk to the run. -/
theorem wpAny_of_headM {n g : Nat} {L : Array Bool → Act → Prop} {Q' : Exit → Act → World → Prop} (hom : ops[m]? = some om) (hg : om.guard = none)
    (hsel : ∀ (j : Nat) (o : Oper) cs b, ops[j]? = some o → o.op ≠ .select cs b)
    (hap : ∀ (j : Nat) o, j < n → j ≠ m → ops[j]? = some o → (∀ d, om.dst = some d → d ∉ o.looksAt ops) ∧ (∀ d, om.dst = some d → o.dst ≠ some d))
    (hL : ∀ b a w c, Upd 0 0 W w → W.heap.size ≤ c → c < w.heap.size → HeldF w c zs → L b a → wpAny P md ops Q' g b (a.put om.dst (mk c)) w)
    (hLm : ∀ b a, L b a → b.getD m false = true) (f : Nat) :
    ∀ (b : Array Bool) (a : Act) (w : World), b.size = ops.size → Upd 0 0 W w → wpHeadM P md ops W om mk zs t m n L f b a →
      (b.getD m true = false → wpAny P md ops Q' (f + g) b a w) ∧
      (∀ c, b.getD m false = true → W.heap.size ≤ c → c < w.heap.size → HeldF w c zs → wpAny P md ops Q' (f + g) b (a.put om.dst (mk c)) w) := by
  have hwm : ∀ y, Region.wanted om y = true := fun y => by unfold Region.wanted; rw [hg]
  induction f with
  | zero =>
    intro b a w hbs hw h
    rw [Nat.zero_add]
    refine ⟨fun hb => ?_, fun c _ h1 h2 h3 => hL b a w c hw h1 h2 h3 h⟩
    have := hLm b a h
    rw [getD_both hb] at this
    cases this
  | succ f ih =>
    intro b a w hbs hw h
    rw [show f + 1 + g = (f + g) + 1 by omega]
    refine ⟨fun hb => ⟨fun h0 => absurd h0 h.1, fun i hi => ?_⟩, fun c hb h1 h2 h3 => ⟨fun h0 => absurd h0 h.1, fun i hi => ?_⟩⟩
    · by_cases him : i = m
      · subst him
        have h' := (h.2 i hi).2
        rw [mOp_self] at h'
        have hms : i < b.size := by rw [hbs]; exact (Array.getElem?_eq_some_iff.1 hom).1
        unfold wpOp
        simp only [hom, hwm, if_true]
        refine .inl ?_
        unfold Oper.wp
        rw [show (execOp a.eval om).run P w = .ok (.value (mk w.heap.size)) (w.alloc (.cells zs.toArray t)) from h'.1 ⟨w, hw⟩]
        simp only [Oper.upon]
        have hu : Upd 0 0 w (w.alloc (.cells zs.toArray t)) := Upd.of_below ((Below.refl _ _).alloc (Nat.le_refl _) _) 0 0
        exact (ih (b.setIfInBounds i true) a _ (by simpa using hbs) (hw.trans hu) h'.2).2 w.heap.size (by simp [hms]) hw.size (by simp) (heldF_new w zs t)
      · obtain ⟨_, o, ho, _⟩ := mem_ready.1 hi
        have hin := (h.2 i hi).1
        have h' := (h.2 i hi).2
        rw [mOp_of him ho] at h'
        have hb' : (b.setIfInBounds i true).getD m true = false := by rw [getD_set_ne true him]; exact hb
        unfold oneK at h'
        unfold wpOp
        simp only [ho]
        split
        · rename_i hwt
          simp only [hwt, if_true] at h'
          obtain ⟨v, hv, hn⟩ := h'
          refine .inl ?_
          have hv' : oneUpon P w v ((execOp a.eval o).run P w) := hv ⟨w, hw⟩
          exact oneUpon_upon hv' (fun w' hu => (ih _ _ w' (by simpa using hbs) (hw.trans hu) hn).1 hb')
        · rename_i hwt
          simp only [hwt] at h'
          exact (ih _ _ w (by simpa using hbs) hw h').1 hb'
    · have him : i ≠ m := fun h' => by
        have := (mem_ready.1 hi).1
        rw [h', ] at this
        have hms : m < b.size := by rw [hbs]; exact (Array.getElem?_eq_some_iff.1 hom).1
        simp [hms] at this hb
        rw [hb] at this
        cases this
      obtain ⟨_, o, ho, _⟩ := mem_ready.1 hi
      have hin := (h.2 i hi).1
      have h' := (h.2 i hi).2
      rw [mOp_of him ho] at h'
      obtain ⟨p1, p2⟩ := hap i o hin him ho
      have hb' : (b.setIfInBounds i true).getD m false = true := by rw [getD_set_ne false him]; exact hb
      unfold oneK at h'
      unfold wpOp
      simp only [ho]
      rw [wanted_put o a om.dst _ p1]
      split
      · rename_i hwt
        simp only [hwt, if_true] at h'
        obtain ⟨v, hv, hn⟩ := h'
        refine .inl ?_
        have hv' : oneUpon P w v ((execOp a.eval o).run P w) := hv ⟨w, hw⟩
        unfold Oper.wp
        rw [execOp_put o (hsel i o · · ho) a om.dst _ p1]
        refine oneUpon_upon hv' (fun w' hu => ?_)
        rw [Act.put_comm a _ v p2]
        exact (ih _ _ w' (by simpa using hbs) (hw.trans hu) hn).2 c hb' h1 (by have := hu.size; omega) (h3.keep hu)
      · rename_i hwt
        simp only [hwt] at h'
        rw [Act.put_comm a _ undef p2]
        exact (ih _ _ w (by simpa using hbs) hw h').2 c hb' h1 h2 h3
/-- None of the first n but number m looks at what is made or puts its own there. -/
def unseenB (ops : Array Oper) (m n : Nat) : Bool := match ops[m]? with
  | none => false
  | some om => decide (om.guard = none) && decide (m < n) && (List.range n).all fun j => j == m || match ops[j]? with
    | none => true
    | some o => match om.dst with
      | none => true
      | some d => !(o.looksAt ops).contains d && decide (o.dst ≠ some d)
theorem any_make {Q : Exit → Act → World → Prop} {a : Act} {w : World} {l : List Oper} (m n : Nat) (mk : Nat → Value) (zs : List Value) (t : TypeId) {om : Oper} (hB : Region.lexTailB .any l.toArray n = true)
    (hp : unseenB l.toArray m n = true) (hom : l[m]? = some om)
    (h : WM P l.toArray w (fun a' => ∀ w' c, Upd 0 0 w w' → w.heap.size ≤ c → c < w'.heap.size → HeldF w' c zs → wpList P l.toArray Q (l.drop n) (a'.put om.dst (mk c)) w') m om mk zs t (l.take m) ((l.take n).drop (m + 1)) a) :
    wpAny P .any l.toArray Q l.toArray.size (Array.replicate l.toArray.size false) a { w with drawn := w.drawn + 1 } := by
  have hom' : l.toArray[m]? = some om := by simpa using hom
  unfold unseenB at hp
  rw [hom'] at hp
  simp only [Bool.and_eq_true, decide_eq_true_eq, List.all_eq_true, List.mem_range, Bool.or_eq_true, beq_iff_eq] at hp
  obtain ⟨⟨hg, hmn⟩, hp⟩ := hp
  simp only [Region.lexTailB, Bool.and_eq_true, decide_eq_true_eq] at hB
  obtain ⟨⟨⟨⟨hsel, hn⟩, hs⟩, hc⟩, hlex⟩ := hB
  have hn' : n < l.length := by simpa using hn
  have hdl : (l.drop n).length = l.toArray.size - n := by simp
  have inv0 : HeadInv .any l.toArray n (Array.replicate l.toArray.size false) :=
    ⟨by simp, fun j oj _ hl => (by rw [getD_replicate_false] at hl; cases hl), fun u _ ht => getD_in (by simpa using ht) (getD_replicate_false _ _)⟩
  have hW : wpNumM P l.toArray w om mk zs t m (fun a' => ∀ w' c, Upd 0 0 w w' → w.heap.size ≤ c → c < w'.heap.size → HeldF w' c zs → wpList P l.toArray Q (l.drop n) (a'.put om.dst (mk c)) w') n 0 a := by
    have hlen : (l.take m).length = m := by simp; omega
    have hlen2 : ((l.take n).drop (m + 1)).length = n - (m + 1) := by simp; omega
    have hb := wpNumM_of_list (P := P) (W := w) (m := m) (om := om) (mk := mk) (zs := zs) (t := t) (ops := l.toArray) (l.take m) 0 (n - m) a (fun j hj => by
      rw [hlen] at hj
      exact ⟨by simp [hj], by omega⟩) (Q := (fun a' => ∀ w' c, Upd 0 0 w w' → w.heap.size ≤ c → c < w'.heap.size → HeldF w' c zs → wpList P l.toArray Q (l.drop n) (a'.put om.dst (mk c)) w'))
    rw [hlen, show m + (n - m) = n by omega] at hb
    refine hb ?_
    have mono : ∀ (Q Q' : Act → Prop) (s : List Oper) (a : Act), (∀ a, Q a → Q' a) → wpOne P l.toArray w Q s a → wpOne P l.toArray w Q' s a := by
      intro Q Q' s
      induction s with
      | nil => intro a hq h; exact hq _ h
      | cons o s ih => intro a hq h; exact oneK_mono (fun a' h' => ih a' hq h') h
    refine mono _ _ _ _ (fun a' h' => ?_) h.h
    rw [show n - m = (n - (m + 1)) + 1 by omega]
    show mOp P l.toArray w om mk zs t m (0 + m) _ a'
    rw [show 0 + m = m by omega, mOp_self]
    refine ⟨h'.1, ?_⟩
    have hb2 := wpNumM_of_list (P := P) (W := w) (m := m) (om := om) (mk := mk) (zs := zs) (t := t) (ops := l.toArray) ((l.take n).drop (m + 1)) (m + 1) 0 a' (fun j hj => by
      rw [hlen2] at hj
      exact ⟨by rw [List.getElem?_drop, List.getElem?_take, if_pos (by omega)]; simp, by omega⟩) (Q := (fun a' => ∀ w' c, Upd 0 0 w w' → w.heap.size ≤ c → c < w'.heap.size → HeldF w' c zs → wpList P l.toArray Q (l.drop n) (a'.put om.dst (mk c)) w'))
    rw [hlen2] at hb2
    exact hb2 h'.2
  have H := wpHeadM_lex (md := .any) (g := l.toArray.size - n) hom' hsel hs hc hn hmn n 0 (Array.replicate l.toArray.size false) a (by omega) inv0 (fun h => by omega) hlex hW
  have R := wpAny_of_headM (W := w) (Q' := Q) (g := l.toArray.size - n) (zs := zs) (t := t) (mk := mk) hom' hg (Region.noSelect_spec hsel)
    (fun j o hj hjm ho => by
      have := hp j hj
      rw [ho] at this
      simp only [hjm, false_or] at this
      cases hd : om.dst with
      | none => exact ⟨fun d h' => (by cases h'), fun d h' => (by cases h')⟩
      | some d0 =>
        rw [hd] at this
        simp only [Bool.and_eq_true, Bool.not_eq_true', decide_eq_true_eq, List.contains_eq_mem, decide_eq_false_iff_not] at this
        exact ⟨fun d h' => (by cases h'; exact this.1), fun d h' => (by cases h'; exact this.2)⟩)
    (fun b a' w' c hu h1 h2 h3 hL => by
      have := wpAny_of_seq (md := .any) (Q' := Q) (l.drop n) n b (a'.put om.dst (mk c)) w' (fun j => by simp [List.getElem?_drop]) (by rw [hdl]; exact hL.1) (hL.2.2 w' c hu h1 h2 h3)
      rwa [hdl] at this) (fun b a' hL => hL.2.1) n (Array.replicate l.toArray.size false) a { w with drawn := w.drawn + 1 } (by simp) ⟨rfl, rfl, rfl, Nat.le_refl _, fun _ _ _ => rfl⟩ H
  have := R.1 (by
    have hms : m < l.length := by omega
    simp [hms])
  rwa [show n + (l.toArray.size - n) = l.toArray.size by omega] at this
theorem wp_region_make {id : Nat} {Q : Exit → Act → World → Prop} {a : Act} {w : World} {l : List Oper} (m n : Nat) (mk : Nat → Value) (zs : List Value) (t : TypeId) {om : Oper} (hm : P.follows .mixedOrders = true) (hB : Region.lexTailB .any l.toArray n = true)
    (hp : unseenB l.toArray m n = true) (hom : l[m]? = some om)
    (h : WM P l.toArray w (fun a' => ∀ w' c, Upd 0 0 w w' → w.heap.size ≤ c → c < w'.heap.size → HeldF w' c zs → wpList P l.toArray Q (l.drop n) (a'.put om.dst (mk c)) w') m om mk zs t (l.take m) ((l.take n).drop (m + 1)) a) :
    (Code.region id l.toArray true).wp P Q a w :=
  wp_region_any hm (any_make m n mk zs t hB hp hom h)
theorem wpOne_mono {Q Q' : Act → Prop} (hq : ∀ a, Q a → Q' a) (s : List Oper) : ∀ a, wpOne P ops W Q s a → wpOne P ops W Q' s a := by
  induction s with
  | nil => intro a h; exact hq _ h
  | cons o s ih => intro a h; exact oneK_mono (fun a' h' => ih a' h') h
/-- The two halves of the walk, each behind the wrapper. -/
theorem WM.of {Q : Act → Prop} {l1 l2 : List Oper} {a : Act} (h : WG P ops W (fun a' => makesAt P W om mk zs t a' ∧ WG P ops W Q l2 a') l1 a) : WM P ops W Q m om mk zs t l1 l2 a :=
  ⟨wpOne_mono (fun _ h' => ⟨h'.1, h'.2.h⟩) l1 a h.h⟩
end
end Go.Proofs.Ytilmdbdgohfpcaa
