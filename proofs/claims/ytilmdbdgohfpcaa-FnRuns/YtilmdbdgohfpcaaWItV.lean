/- slices.AppendSeq of the places in scan order. -/
import Derived.Test.YtilmdbdgohfpcaaWItU
import Derived.Test.YtilmdbdgohfpcaaWAppI
import Derived.RangeFuncBox
import Derived.Maps.OwnIn
import Derived.Maps.AppendAt
namespace Go.Proofs.Ytilmdbdgohfpcaa
open Go Go.RowKit Go.Shelf
attribute [local go_sem] Oper.semAt_some

theorem ownsRow_turns {V V' : World} {base : Nat} {e : TypeId} {size n : Nat} {v : Value} {xs : List Value} (h : V.ownsRow base e size v n xs) (hk : ∀ g, v.ownBlock = some g → V'.heap[g]? = V.heap[g]?) : V'.ownsRow base e size v n xs := by
  refine ⟨h.1, ?_⟩
  rcases h.2 with hn | ⟨g, cap, cur, rfl, h1, h2, h3⟩
  · exact .inl hn
  · exact .inr ⟨g, cap, cur, rfl, h1, (hk g rfl).trans h2, h3⟩

/-- A box and the row that its value owns, none of them the iterator's. -/
def ApZ (w : World) (base B : Nat) (e : TypeId) (Z : Nat → Prop) (pre : List Int) (V : World) : Prop :=
  (∃ v, Boxed V B 23 v ∧ V.ownsRow base e 1 v pre.length (ints pre) ∧ (∀ g, v.ownBlock = some g → g < V.heap.size ∧ ¬ Z g)) ∧ ¬ Z B ∧ B < V.heap.size ∧ Below base w V ∧ (∀ k, Z k → base ≤ k)

theorem apZ_abid (w : World) (base B : Nat) (e : TypeId) (hb : base ≤ w.heap.size) : Abid (ApZ w base B e) := by
  rintro Z Z' pre V V' ⟨⟨v, hv, hr, hg⟩, hnB, hlB, hbel, hzb⟩ ht hz
  have hsz := ht.size
  have hbs := hbel.size
  have hn : ∀ k, k < V.heap.size → ¬ Z k → ¬ Z' k := fun k hk hn h => by
    rcases hz k h with h | h
    · exact hn h
    · omega
  refine ⟨⟨v, (ht.block B hlB hnB).trans hv, ownsRow_turns hr (fun g h => ht.block g (hg g h).1 (hg g h).2), fun g h => ⟨Nat.lt_of_lt_of_le (hg g h).1 hsz, hn g (hg g h).1 (hg g h).2⟩⟩,
    hn B hlB hnB, Nat.lt_of_lt_of_le hlB hsz, hbel.trans ⟨ht.os, ht.tape, ht.output, hsz, fun k hk => ht.block k (by omega) (fun h => by have := hzb k h; omega)⟩, fun k h => ?_⟩
  rcases hz k h with h | h
  · exact hzb k h
  · omega

set_option maxRecDepth 100000 in
set_option maxHeartbeats 4000000 in
theorem appendScan (base g0 : Nat) (w : World) (hrow : w.ownsRow base 3 1 (.slice (some ⟨g0, 0, none⟩) 0 64) 0 (ints [])) (hbase : base ≤ w.heap.size) (hg0 : g0 < w.heap.size) :
    Calls Try.prog 34 #[.slice (some ⟨g0, 0, none⟩) 0 64, .func (.func 50) #[] #[]] w fun e w' => ∃ v', e = .returned v' ∧ w'.ownsRow base 3 1 v' 64 (ints scanL) ∧ Below base w w' := by
  refine (callsIn_wide (n := 10)).1 ?_
  refine callsIn_of_wp_marks Try.func34 rfl trivial ?_ rfl
  simp only [Try.ntmps34, List.size_toArray, List.length_cons, List.length_nil, Nat.reduceAdd, Nat.reduceSub, Array.replicate_succ, Array.replicate_zero, List.push_toArray, List.append_toArray, List.nil_append, List.cons_append]
  gi_wp2
  have hv0 := Boxed.new w 23 (.slice (some ⟨g0, 0, none⟩) 0 64)
  have hT1 : Below w.heap.size w (w.alloc (.cells #[.slice (some ⟨g0, 0, none⟩) 0 64] 23)) := (Below.refl _ w).alloc (Nat.le_refl _) _
  have hs1 : (w.alloc (.cells #[.slice (some ⟨g0, 0, none⟩) 0 64] 23)).heap.size = w.heap.size + 1 := by simp
  obtain ⟨B, hB⟩ : ∃ B, w.heap.size = B := ⟨_, rfl⟩
  rw [hB] at hv0
  rw [hB]
  generalize w.alloc (.cells #[.slice (some ⟨g0, 0, none⟩) 0 64] 23) = W1 at hv0 hT1 hs1 ⊢
  have hI0 : ApZ w base B 3 (fun _ => False) [] W1 := ⟨⟨_, hv0, ownsRow_turns hrow (fun g h => by
      obtain rfl : g0 = g := by simpa [Value.ownBlock] using h
      exact hT1.block _ hg0), fun g h => by
      obtain rfl : g0 = g := by simpa [Value.ownBlock] using h
      exact ⟨by omega, id⟩⟩, id, by omega, hT1.mono hbase, fun _ h => h.elim⟩
  refine wpIn_rangeZ rfl (by omega) (gf := 50) (lb := #[]) rfl trivial (enters_of Try.func50 (by kernel_rfl) rfl)
    (scanPlaces_seq (10 - 1) (by omega) W1) (fun _ h => h.elim) (Below.refl _ _) (fun _ => rfl)
    (ApZ w base B 3) (fun _ _ _ _ => False) (apZ_abid w base B 3 hbase) (fun _ _ _ _ _ _ h _ _ => h) hI0
    (fun x => { tmps := #[.slice (some ⟨g0, 0, none⟩) 0 64, .func (.func 50) #[] #[], .pointer (some ⟨B, 0, none⟩), undef, .slice none 0 0, .int .i64 x, .func (.func 50) #[] #[], .int .i64 x, undef, undef, undef, undef, undef], defers := [] })
    ?assign ?body ?done ?stop
  case assign =>
    intro l1 x V K hK
    gi_wp2
    exact hK
  case body =>
    rintro l1 Z pre x V hZb ⟨⟨v, hv, hr, hg⟩, hnB, hlB, hbel, hzb⟩ ⟨s, k, hs, hk, hpx⟩
    have hlen : pre.length + 1 ≤ 64 := by
      have h := congrArg List.length hpx
      rw [List.length_append, List.length_append, placesN_length] at h
      have := linesN_len s hs
      simp at h
      omega
    have hbs := hbel.size
    have hcB := hv.cell
    obtain ⟨i0, hi, hz0, hz1, hz2⟩ := info_parts infoI
    clear hrow hI0 hT1 hs1 hv0 hpx
    gi_wp2_with (gi_at_builtin; refine wpListIn_append_own_at _ rfl _ _ 23 rfl base 3 i0 (.int .i64 0) 1 8 Try.underlying23 hi hz0 hz1 hz2 rfl (by decide) _ _ _ rfl (hr.alloc _) ⟨V.heap.size, 0, none⟩ 1 1 [.int .i64 x] rfl rfl (cell_one_new _ _ _) (by simp [Value.oneCell']) (by unfold maxLen; omega) (by omega) (by simp; omega) ?_; intro v' w1 hown' hgrow _ hat; obtain ⟨g', cap', rfl⟩ := ownsRow_succ hown'; obtain ⟨hv1, hv2, hr2, hk2, hb2⟩ := hv.appended (by decide) hr (by omega) (by omega) hown' hgrow; have hc1 := hv1.cell; have hf1 := hv1.frozen)
    have hg1 : (V.alloc (.cells #[.int .i64 x] 3)).grownBy w1 v.ownBlock := hgrow
    have hat1 : some g' = v.ownBlock ∨ some g' = some (V.heap.size + 1) := by
      have h := hat
      simp only [Value.ownBlock, World.size_alloc] at h
      exact h
    clear hgrow hat hcB hc1 hf1 hown' hk2
    have hlt := (hr2.lt g' rfl).2
    have hbsz := hb2.size
    refine ⟨⟨hbsz, fun k hk => ?_⟩, ⟨_, hv2, ?_, fun g h => ?_⟩, hnB, by omega, hbel.trans hb2, hzb⟩
    · have hZk : Z k := hk.resolve_left id
      have hlk := (hZb k hZk).2
      rw [(grownBy_setCell' w1 B _).block k (by have := hg1.size; simp at this; omega) (fun e => hnB (by cases e; exact hZk)),
        hg1.block k (by simp; omega) (fun e => (hg k e.symm).2 hZk)]
      exact Below.heap_alloc V _ k hlk
    · rw [List.length_append, show ints (pre ++ [x]) = ints pre ++ [.int .i64 x] from ints_append _ _]
      exact hr2
    · obtain rfl : g' = g := by simpa [Value.ownBlock] using h
      refine ⟨hlt, fun hz => ?_⟩
      rcases hat1 with h1 | h1
      · exact (hg g' h1.symm).2 hz
      · have := (hZb g' hz).2
        simp at h1
        omega
  case done =>
    rintro D Z xs V hZb hD rfl ⟨⟨v, hv, hr, hg⟩, hnB, hlB, hbel, hzb⟩ hdd
    have hcB := hv.cell
    clear hrow hI0 hT1 hs1 hv0
    gi_wp2
    refine leaves_marks (Z := Z) _ _ ⟨⟨D, rfl, hD, hdd, fun e h => by cases h⟩, trivial⟩ fun w' ht hs => ?_
    refine ⟨_, results_tmp rfl _ _ _, v, rfl, ?_, ?_⟩
    · have h := ownsRow_turns hr (fun g h => ht.block g (hg g h).1 (hg g h).2)
      rwa [scanL_length] at h
    · exact hbel.trans ⟨ht.os, ht.tape, ht.output, ht.size, fun k hk => ht.block k (by have := hbel.size; omega) (fun h => by have := hzb k h; omega)⟩
  case stop =>
    rintro D Z c pre V _ _ _ h _
    exact h.elim
end Go.Proofs.Ytilmdbdgohfpcaa
