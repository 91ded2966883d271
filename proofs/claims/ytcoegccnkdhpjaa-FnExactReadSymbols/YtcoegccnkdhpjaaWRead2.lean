/- The walk of ReadSymbols: the specification's. -/
import Derived.Test.YtcoegccnkdhpjaaWRead1
import Derived.Test.YtcoegccnkdhpjaaWSy
namespace Go.Proofs.Ytcoegccnkdhpjaa
open Go.RowKit

theorem one_newI (w : World) (u : Value) : ∀ j v, [u][j]? = some v → (w.alloc (.cells #[u] 3)).cell? ((⟨w.heap.size, 0, none⟩ : Addr).add j) = some v := by
  intro j v hj
  match j, hj with
  | 0, hj => simp at hj; subst hj; simp [Addr.add]
theorem one_oneI (x : Int) : ∀ u ∈ [Value.int .i64 x], u.oneCell' = true := by intro u hu; simp at hu; subst hu; rfl
theorem ints_snoc (l : List Int) (x : Int) : ints l ++ [.int .i64 x] = ints (l ++ [x]) := by unfold ints; simp
theorem own_nilI (w : World) (a b : Nat) : OwnI w a b (.slice none 0 0) [] := ⟨World.ownsRow_nil _ _ _ _, fun k hk => by simp [Value.ownBlock] at hk⟩
/-- The three cells of a result of this kind. -/
def Three (w : World) (c : Nat) (x y z : Value) : Prop := c < w.heap.size ∧ (w.cell? ⟨c, 0, none⟩ = some x ∧ w.cell? ⟨c, 1, none⟩ = some y ∧ w.cell? ⟨c, 2, none⟩ = some z) ∧ w.frozen? ⟨c, 0, none⟩ = false ∧ w.frozen? ⟨c, 1, none⟩ = false ∧ w.frozen? ⟨c, 2, none⟩ = false
theorem three_new (w : World) (x y z : Value) (t : TypeId) : Three (w.alloc (.cells #[x, y, z] t)) w.heap.size x y z := by
  refine ⟨by simp, ⟨?_, ?_, ?_⟩, World.frozen?_alloc_at _ _ _ _ rfl, World.frozen?_alloc_at _ _ _ _ rfl, World.frozen?_alloc_at _ _ _ _ rfl⟩ <;> (rw [World.cell?_alloc_at _ _ _ _ rfl]; rfl)
theorem Three.below {w w' : World} {c B : Nat} {x y z : Value} (h : Three w c x y z) (hb : Below B w w') (hc : c < B) : Three w' c x y z := by
  obtain ⟨h0, ⟨h1, h2, h3⟩, f1, f2, f3⟩ := h
  exact ⟨Nat.lt_of_lt_of_le h0 hb.size, ⟨(hb.cell (by simpa using hc)).trans h1, (hb.cell (by simpa using hc)).trans h2, (hb.cell (by simpa using hc)).trans h3⟩, (hb.frozen (by simpa using hc)).trans f1, (hb.frozen (by simpa using hc)).trans f2, (hb.frozen (by simpa using hc)).trans f3⟩

theorem SinkAt.below {w w' : World} {c B : Nat} {o v : Value} {q : Int} (h : SinkAt w c o v q) (hb : Below B w w') (hc : c < B) : SinkAt w' c o v q := by
  obtain ⟨h0, h1, h2, h3, f1, f2⟩ := h
  exact ⟨Nat.lt_of_lt_of_le h0 hb.size, (hb.cell (by simpa using hc)).trans h1, (hb.cell (by simpa using hc)).trans h2, (hb.cell (by simpa using hc)).trans h3, (hb.frozen (by simpa using hc)).trans f1, (hb.frozen (by simpa using hc)).trans f2⟩
theorem ownsB {w w' : World} {base : Nat} {e : TypeId} {size n : Nat} {v : Value} {xs : List Value} (h : w.ownsRow base e size v n xs) (hb : Below w.heap.size w w') : w'.ownsRow base e size v n xs :=
  ((Own.of h).keep (Upd.of_below hb 0 0)).1
theorem rdF_pos (zs d : List Int) (p f n : Nat) : (rdF zs d p f n).2 ≤ p + n ∨ (rdF zs d p f n).2 ≤ 8 * d.length := by
  induction f generalizing n with
  | zero => unfold rdF; simp
  | succ f ih =>
    unfold rdF
    split
    · exact .inl (Nat.le_refl _)
    · split
      · rcases ih (n + 1) with h | h
        · exact .inr (by omega)
        · exact .inr h
      · exact .inr (by simp only; omega)
theorem readOne_pos (zs d : List Int) (p : Nat) : (readOne zs d p).2 ≤ p ∨ (readOne zs d p).2 ≤ 8 * d.length := rdF_pos zs d p 15 0
theorem readF_bad {zs d : List Int} {p m : Int} (h : kindF zs = 0 ∨ p < 0 ∨ m < 0 ∨ 20000 < m) : readF zs d p m = (1, [], 0) := by unfold readF; rw [if_pos h]
theorem readF_good {zs d : List Int} {p m : Nat} (h : ¬ kindF zs = 0) (hm : m ≤ 20000) : readF zs d (p : Int) (m : Int) = rdTo zs d p m := by
  unfold readF; rw [if_neg (by omega)]; rfl
theorem rdTo_short {zs d : List Int} {p k m q : Nat} {l : List Int} (h : k < m) (hr : rdTo zs d p k = (0, l, q)) (ho : (readOne zs d q).1 = -2) : rdTo zs d p m = (2, [], 0) := by
  have : rdTo zs d p (k + 1) = (2, [], 0) := by rw [rdTo, hr]; simp [ho]
  rw [rdTo_err (show k + 1 ≤ m by omega) (by rw [this]; decide), this]
theorem rdTo_code {zs d : List Int} {p k m q : Nat} {l : List Int} (h : k < m) (hr : rdTo zs d p k = (0, l, q)) (ho : (readOne zs d q).1 = -1) : rdTo zs d p m = (4, [], 0) := by
  have : rdTo zs d p (k + 1) = (4, [], 0) := by rw [rdTo, hr]; simp [ho]
  rw [rdTo_err (show k + 1 ≤ m by omega) (by rw [this]; decide), this]
theorem rdTo_next {zs d : List Int} {p k q : Nat} {l : List Int} (hr : rdTo zs d p k = (0, l, q)) (h2 : (readOne zs d q).1 ≠ -2) (h1 : (readOne zs d q).1 ≠ -1) : rdTo zs d p (k + 1) = (0, l ++ [(readOne zs d q).1], (readOne zs d q).2) := by
  rw [rdTo, hr]; simp [h1, h2]
theorem rdTo_len {zs d : List Int} {p k q : Nat} {l : List Int} (hr : rdTo zs d p k = (0, l, q)) : l.length = k := by
  induction k generalizing l q with
  | zero => rw [rdTo] at hr; injection hr with _ hr; injection hr with hr _; subst hr; rfl
  | succ k ih =>
    rcases hx : rdTo zs d p k with ⟨a, b, c⟩
    rw [rdTo, hx] at hr
    simp only at hr
    split at hr
    · rename_i h; injection hr with h0 _; exact absurd h0 h
    · rename_i h
      have ha : a = 0 := by omega
      subst ha
      split at hr
      · injection hr with h0 _; omega
      · split at hr
        · injection hr with h0 _; omega
        · injection hr with _ hr; injection hr with hr _
          rw [← hr, List.length_append, ih hx]; rfl
theorem readF_len (zs d : List Int) (p m : Int) : (readF zs d p m).2.1.length ≤ 1048576 := by
  unfold readF
  split
  · simp
  · rename_i h
    rcases hx : rdTo zs d p.toNat m.toNat with ⟨a, b, c⟩
    by_cases ha : a = 0
    · subst ha; have := rdTo_len hx; simp only; omega
    · have : ∀ k, (rdTo zs d p.toNat k).1 ≠ 0 → (rdTo zs d p.toNat k).2.1 = [] := by
        intro k
        induction k with
        | zero => intro h; exact absurd rfl h
        | succ k ih =>
          intro h
          rw [rdTo] at h ⊢
          split
          · rename_i h'; exact ih h'
          · rename_i h'
            rw [if_neg h'] at h
            split
            · rfl
            · rename_i h2
              rw [if_neg h2] at h
              split
              · rfl
              · rename_i h3; rw [if_neg h3] at h; exact absurd rfl h
      have := this m.toNat (by rw [hx]; exact ha)
      rw [hx] at this
      simp only at this ⊢
      rw [this]; simp
end Go.Proofs.Ytcoegccnkdhpjaa
