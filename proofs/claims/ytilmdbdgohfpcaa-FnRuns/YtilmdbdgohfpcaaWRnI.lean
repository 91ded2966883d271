/- The program's RunsOf. -/
import Derived.Test.YtilmdbdgohfpcaaWRnT
import Derived.Test.YtilmdbdgohfpcaaWItX
import Derived.Shelf.RegionOpenPlain
import Derived.Test.YtilmdbdgohfpcaaWRd
namespace Go.Proofs.Ytilmdbdgohfpcaa
open Go Go.RowKit Go.Shelf
attribute [local go_sem] Oper.semAt_some oneAt oneUpon

theorem placesBehind_mk (w : World) : Calls Try.prog 30 #[] w fun e w' => e = .returned (.func (.func 49) #[] #[]) ∧ w' = w := by
  go_enter Try.func30, Try.ntmps30
  go_wp2
  go_ret
  exact ⟨rfl, rfl⟩

/-- The program's variables: the runs so far, the zeros since, the block. -/
def RnZ (w : World) (zs : List Int) (base B1 B3 B4 : Nat) (arg : Value) (Z : Nat → Prop) (pre : List Int) (V : World) : Prop :=
  (∃ v, Boxed V B3 25 v ∧ V.ownsRow base 54 2 v (runsTo zs pre).1.length (cellsRn (runsTo zs pre).1) ∧ (∀ g, v.ownBlock = some g → g < V.heap.size ∧ ¬ Z g)) ∧
    Boxed V B4 3 (.int .i64 ((runsTo zs pre).2 : Int)) ∧ Boxed V B1 23 arg ∧ (¬ Z B1 ∧ ¬ Z B3 ∧ ¬ Z B4) ∧ Below base w V ∧ (∀ k, Z k → base ≤ k)

theorem rnZ_abid (w : World) (zs : List Int) (base B1 B3 B4 : Nat) (arg : Value) (hb : base ≤ w.heap.size) : Abid (RnZ w zs base B1 B3 B4 arg) := by
  rintro Z Z' pre V V' ⟨⟨v, hv, hr, hg⟩, h4, h1, ⟨n1, n3, n4⟩, hbel, hzb⟩ ht hz
  have hsz := ht.size
  have hbs := hbel.size
  have hn : ∀ k, k < V.heap.size → ¬ Z k → ¬ Z' k := fun k hk hn h => by
    rcases hz k h with h | h
    · exact hn h
    · omega
  refine ⟨⟨v, (ht.block B3 hv.lt n3).trans hv, ownsRow_turns hr (fun g h => ht.block g (hg g h).1 (hg g h).2), fun g h => ⟨Nat.lt_of_lt_of_le (hg g h).1 hsz, hn g (hg g h).1 (hg g h).2⟩⟩,
    (ht.block B4 h4.lt n4).trans h4, (ht.block B1 h1.lt n1).trans h1, ⟨hn B1 h1.lt n1, hn B3 hv.lt n3, hn B4 h4.lt n4⟩,
    hbel.trans ⟨ht.os, ht.tape, ht.output, hsz, fun k hk => ht.block k (by omega) (fun h => by have := hzb k h; omega)⟩, fun k h => ?_⟩
  rcases hz k h with h | h
  · exact hzb k h
  · omega

theorem twoAt {w : World} {k : Nat} {u u' : Value} (h0 : w.cell? ⟨k, 0, none⟩ = some u) (h1 : w.cell? ⟨k, 1, none⟩ = some u') : ∀ j v, [u, u'][j]? = some v → w.cell? ((⟨k, 0, none⟩ : Addr).add j) = some v := by
  intro j v hj
  match j, hj with
  | 0, hj => simp at hj; subst hj; simpa [Addr.add] using h0
  | 1, hj => simp at hj; subst hj; simpa [Addr.add] using h1
/-- The variables behind a round that appends: W8 is the world behind the append, the two stores follow. -/
theorem rnZ_append (w : World) (zs : List Int) (B1 B3 : Nat) (arg : Value) (Z : Nat → Prop) (pre : List Int) (x : Int) (V w5 w8 : World) (v : Value) (g' cap' : Nat) (L : List (Int × Int)) (m : Nat) (y : Int)
    (hb3 : w.heap.size ≤ B3)
    (hZs : ∀ k, Z k → k < V.heap.size) (hv : Boxed V B3 25 v) (hr : V.ownsRow w.heap.size 54 2 v L.length (cellsRn L)) (hg : ∀ g, v.ownBlock = some g → g < V.heap.size ∧ ¬ Z g) (h4 : Boxed V (B3 + 1) 3 (.int .i64 (m : Int)))
    (h1 : Boxed V B1 23 arg) (hn : ¬ Z B1 ∧ ¬ Z B3 ∧ ¬ Z (B3 + 1)) (hbel : Below w.heap.size w V) (hzb : ∀ k, Z k → w.heap.size ≤ k) (h13 : B1 < B3)
    (hnx : runsTo zs (pre ++ [x]) = (L ++ [((m : Int), y)], 0)) (hu5 : Upd 0 0 V w5)
    (hown : w8.ownsRow w.heap.size 54 2 (.slice (some ⟨g', 0, none⟩) (L.length + 1) cap') (L.length + 1) (cellsRn L ++ [.int .i64 (m : Int), .int .i64 y])) (hgr : w5.grownBy w8 v.ownBlock) (hat : g' = w5.heap.size ∨ v.ownBlock = some g') :
    Keeps (fun k => False ∨ Z k) V ((w8.setCell ⟨B3, 0, none⟩ (.slice (some ⟨g', 0, none⟩) (L.length + 1) cap')).setCell ⟨B3 + 1, 0, none⟩ (.int .i64 0)) ∧
      RnZ w zs w.heap.size B1 B3 (B3 + 1) arg Z (pre ++ [x]) ((w8.setCell ⟨B3, 0, none⟩ (.slice (some ⟨g', 0, none⟩) (L.length + 1) cap')).setCell ⟨B3 + 1, 0, none⟩ (.int .i64 0)) := by
  obtain ⟨n1, n3, n4⟩ := hn
  have hne3 := hv.not_row (by decide) hr
  have hne4 := h4.not_row (by decide) hr
  have hne1 := h1.not_row (by decide) hr
  have l1 := h1.lt
  have l3 := hv.lt
  have l4 := h4.lt
  have hs5 := hu5.size
  have hs8 := hgr.size
  have blk8 : ∀ k, k < V.heap.size → some k ≠ v.ownBlock → w8.heap[k]? = V.heap[k]? := fun k hk hn => (hgr.block k (by omega) hn).trans (hu5.block k hk (.inr (Nat.zero_le _)))
  generalize hu : Value.slice (some ⟨g', 0, none⟩) (L.length + 1) cap' = u at *
  have hub : u.ownBlock = some g' := by rw [← hu]; rfl
  have hv8 : Boxed w8 B3 25 v := (blk8 B3 l3 hne3).trans hv
  have hn3' := hv8.not_row (by decide) hown
  have h48 : Boxed w8 (B3 + 1) 3 (.int .i64 (m : Int)) := (blk8 _ l4 hne4).trans h4
  have hn4' := h48.not_row (by decide) hown
  have h18 : Boxed w8 B1 23 arg := (blk8 _ l1 hne1).trans h1
  rw [hub] at hn3' hn4'
  obtain ⟨W9, hW9⟩ : ∃ W9, (w8.setCell ⟨B3, 0, none⟩ u).setCell ⟨B3 + 1, 0, none⟩ (.int .i64 0) = W9 := ⟨_, rfl⟩
  have blk9 : ∀ k, k < w8.heap.size → k ≠ B3 → k ≠ B3 + 1 → W9.heap[k]? = w8.heap[k]? := fun k hk a b => by
    rw [← hW9]
    exact ((grownBy_setCell' _ (B3 + 1) _).block k (by have := (grownBy_setCell' w8 B3 u).size; omega) (fun e => b (by cases e; rfl))).trans ((grownBy_setCell' w8 B3 u).block k hk (fun e => a (by cases e; rfl)))
  have hs9 : w8.heap.size ≤ W9.heap.size := by
    rw [← hW9]; exact Nat.le_trans (grownBy_setCell' w8 B3 u).size (grownBy_setCell' _ (B3 + 1) _).size
  have hB9 : Below w.heap.size V W9 := by
    have e8 : Below w.heap.size V w8 := ⟨hgr.os.trans hu5.os, hgr.tape.trans hu5.tape, hgr.output.trans hu5.output, Nat.le_trans hs5 hs8, fun k hk => blk8 k (Nat.lt_of_lt_of_le hk hbel.size) (fun e => by
      rcases hr.2 with ⟨rfl, _⟩ | ⟨g, cap, cur, rfl, hb, _, _⟩
      · simp [Value.ownBlock] at e
      · obtain rfl : k = g := by simpa [Value.ownBlock] using e
        omega)⟩
    rw [← hW9]
    exact (e8.setCell (p := ⟨B3, 0, none⟩) hb3 u).setCell (p := ⟨B3 + 1, 0, none⟩) (show w.heap.size ≤ B3 + 1 by omega) _
  rw [hW9]
  refine ⟨⟨by omega, fun k hk => ?_⟩, ?_⟩
  · have hZk : Z k := hk.resolve_left id
    have hks := hZs k hZk
    have a3 : k ≠ B3 := fun e => n3 (e ▸ hZk)
    have a4 : k ≠ B3 + 1 := fun e => n4 (e ▸ hZk)
    exact (blk9 k (by omega) a3 a4).trans (blk8 k hks (fun e => (hg k e.symm).2 hZk))
  · have hgl : g' < w8.heap.size := by
      rcases hown.2 with ⟨_, h0⟩ | ⟨g, cap, cur, e, _, hgb, _⟩
      · omega
      · rw [e] at hub
        obtain rfl : g = g' := by simpa [Value.ownBlock] using hub
        exact (Array.getElem?_eq_some_iff.1 hgb).1
    have hgz : ¬ Z g' := fun hz => by
      rcases hat with e | e
      · have := hZs g' hz; omega
      · exact (hg g' e).2 hz
    unfold RnZ
    rw [hnx, cellsRn_snoc, List.length_append]
    refine ⟨⟨u, ?_, ownsRow_turns hown (fun g h => ?_), fun g h => ?_⟩, ?_, (blk9 B1 (by omega) (by omega) (by omega)).trans h18, ⟨n1, n3, n4⟩, hbel.trans hB9, hzb⟩
    · rw [← hW9]; exact (hv8.set u).other (by omega) _
    · rw [hub] at h
      cases h
      exact blk9 g' hgl (fun e => hn3' (by rw [e])) (fun e => hn4' (by rw [e]))
    · rw [hub] at h
      cases h
      exact ⟨by omega, hgz⟩
    · rw [← hW9]
      exact (h48.other (by omega) u).set (.int .i64 0)

set_option maxRecDepth 100000 in
set_option maxHeartbeats 4000000 in
theorem implRunsOfZ (v : Value) (zs : List Int) (w : World) (hn : zs.length ≤ 1048576) (hv : RdI w v zs) :
    Calls Try.prog 8 #[v] w fun e w' => ∃ u, e = .returned u ∧ OwnRn w' w.heap.size w'.heap.size u (runsOfF zs) ∧ Upd 0 0 w w' := by
  obtain ⟨ad, cap, rfl, hA⟩ := hv
  refine (callsIn_wide (n := 20)).1 ?_
  refine callsIn_of_wp_marks Try.func8 rfl trivial ?_ rfl
  simp only [Try.ntmps8, List.size_toArray, List.length_cons, List.length_nil, Nat.reduceAdd, Nat.reduceSub, Array.replicate_succ, Array.replicate_zero, List.push_toArray, List.append_toArray, List.nil_append, List.cons_append]
  have hal : Below w.heap.size w (w.alloc (.cells #[.slice ad zs.length cap] 23)) := (Below.refl _ w).alloc (Nat.le_refl _) _
  have hA1 := hA.below hal
  have hB := implGoodBlock ad cap zs _ hn hA1
  have hb1 := Boxed.new w 23 (.slice ad zs.length cap)
  gi_wp2
  refine ⟨trivial, (callsIn_wide.2 hB).mono ?_⟩
  rintro e w1 ⟨rfl, hu⟩
  have hbw := hal.trans (hu.none.mono hal.size)
  replace hb1 : Boxed w1 w.heap.size 23 (.slice ad zs.length cap) := (hu.block _ hb1.lt (by omega)).trans hb1
  have hsz := hu.size
  simp only [World.size_alloc] at hsz
  clear hal hA1 hB hu
  by_cases h1 : BlOk zs
  case neg =>
    have hE : runsOfF zs = [] := by unfold runsOfF; rw [blB_no h1]; rfl
    rw [blB_no h1]
    gi_wp2
    exact ⟨_, results_tmp rfl _ _ _, _, rfl, by rw [hE]; exact own_nilRn _ _ _, Upd.of_below hbw 0 0⟩
  have hE : runsOfF zs = runsL zs := by unfold runsOfF; rw [blB_yes h1]; rfl
  rw [blB_yes h1]
  obtain ⟨hz64, hzr⟩ := h1
  obtain ⟨bb, off, rfl, hbl, hcl⟩ := hA (ne_of_lt_length (show 0 < zs.length by omega))
  rw [hz64] at hb1 ⊢
  gi_wp2
  refine ⟨trivial, (callsIn_wide.2 (placesBehind_mk _)).mono ?_⟩
  rintro e w2 ⟨rfl, hw2⟩
  have hb1' := (hb1.alloc (.cells #[.slice none 0 0] 25)).alloc (.cells #[.int .i64 0] 3)
  have hb3 := (Boxed.new w1 25 (.slice none 0 0)).alloc (.cells #[.int .i64 0] 3)
  have hb4 := Boxed.new (w1.alloc (.cells #[.slice none 0 0] 25)) 3 (.int .i64 0)
  rw [← hw2] at hb1' hb3 hb4
  simp only [World.size_alloc] at hb4
  have hbw2 : Below w.heap.size w w2 := by
    rw [hw2]; exact hbw.trans (((Below.refl _ w1).alloc (by omega) _).alloc (by simp; omega) _)
  clear hw2 hb1 hbw
  have hI0 : RnZ w zs w.heap.size w.heap.size w1.heap.size (w1.heap.size + 1) (.slice (some ⟨bb, off, none⟩) 64 cap) (fun _ => False) [] w2 :=
    ⟨⟨_, hb3, World.ownsRow_nil _ _ _ _, fun g h => by simp [Value.ownBlock] at h⟩, hb4, hb1', ⟨id, id, id⟩, hbw2, fun _ h => h.elim⟩
  obtain ⟨B3, hB3⟩ : ∃ B3, w1.heap.size = B3 := ⟨_, rfl⟩
  obtain ⟨B1, hB1⟩ : ∃ B1, w.heap.size = B1 := ⟨_, rfl⟩
  rw [hB3] at hI0 hsz ⊢
  rw [hB1] at hsz ⊢
  rw [show RnZ w zs w.heap.size w.heap.size = RnZ w zs w.heap.size B1 by rw [hB1]] at hI0
  clear hb1' hb3 hb4
  gi_wp2
  refine wpIn_rangeZ rfl (by omega) (gf := 49) (lb := #[]) rfl trivial (enters_of Try.func49 (by kernel_rfl) rfl)
    (placesBehind_seq (20 - 1) (by omega) w2) (fun _ h => h.elim) (Below.refl _ _) (fun _ => rfl)
    (RnZ w zs w.heap.size B1 B3 (B3 + 1) (.slice (some ⟨bb, off, none⟩) 64 cap)) (fun _ _ _ _ => False) (rnZ_abid w zs w.heap.size B1 B3 (B3 + 1) _ (Nat.le_refl _)) (fun _ _ _ _ _ _ h _ _ => h) hI0
    (fun x => { tmps := #[.slice (some ⟨bb, off, none⟩) 64 cap, .pointer (some ⟨B1, 0, none⟩), .slice none 0 0, .pointer (some ⟨B3, 0, none⟩), .pointer (some ⟨B3 + 1, 0, none⟩), .int .i64 x, .slice (some ⟨bb, off, none⟩) 64 cap, .bool true, .bool false, .func (.func 49) #[] #[], .int .i64 x, undef, undef, undef, undef, undef, undef, undef, undef, undef, undef, undef, undef, undef, undef, undef, undef, undef, undef, undef, undef, undef, undef, undef, undef], defers := [] })
    ?assign ?body ?done ?stop
  case assign =>
    intro l1 x V K hK
    gi_wp2
    exact hK
  case body =>
    rintro l1 Z pre x V hZb ⟨⟨v, hv, hr, hg⟩, h4, h1, ⟨n1, n3, n4⟩, hbel, hzb⟩ ⟨j, hj, hj0, hpx⟩
    obtain ⟨hpe, hxe⟩ := List.append_inj' hpx rfl
    have hxb := scanL_bd j hj
    have hxe : x = scanL.getD j 0 := by simpa using hxe
    rw [← hxe] at hxb
    obtain ⟨p, rfl⟩ : ∃ p : Nat, x = (p : Int) := ⟨x.toNat, by omega⟩
    have hp64 : p < 64 := by omega
    have hst := runsTo_le zs pre
    have hpl : pre.length ≤ 63 := by rw [hpe, List.length_tail, List.length_take]; omega
    have hnx : runsTo zs (pre ++ [(p : Int)]) = if zs.getD p 0 = 0 then ((runsTo zs pre).1, (runsTo zs pre).2 + 1) else ((runsTo zs pre).1 ++ [(((runsTo zs pre).2 : Int), zs.getD p 0)], 0) := by
      rw [runsTo_snoc, runStep, Int.toNat_natCast]
    have hcz : V.cell? ⟨bb, off + p, none⟩ = some (.int .i64 (zs.getD p 0)) := by
      rw [hbel.cell (by simpa using hbl)]; exact hcl p (by omega)
    have hyr := hzr p (by omega)
    generalize zs.getD p 0 = y at hnx hcz hyr
    generalize hgen : runsTo zs pre = st at hst hnx hr h4
    obtain ⟨L, m⟩ := st
    have hL63 : L.length ≤ 63 := by have := hst.1; simp at this; omega
    have hm63 : m ≤ 63 := by have := hst.2; simp at this; omega
    replace hr : V.ownsRow w.heap.size 54 2 v L.length (cellsRn L) := hr
    replace h4 : Boxed V (B3 + 1) 3 (.int .i64 (m : Int)) := h4
    replace hnx : runsTo zs (pre ++ [(p : Int)]) = if y = 0 then (L, m + 1) else (L ++ [((m : Int), y)], 0) := hnx
    have c1 := h1.cell
    have c3 := hv.cell
    have c4 := h4.cell
    have f4 := h4.frozen
    have f3 := hv.frozen
    clear hpx hpe hxe hst hI0 hgen
    by_cases hy0 : y = 0
    · have hyz : (y == 0) = true := by simp; omega
      rw [if_pos hy0] at hnx
      clear hy0
      gi_wp2
      have hne := h4.not_row (by decide) hr
      have hbk : Below w.heap.size V (V.setCell ⟨B3 + 1, 0, none⟩ (.int .i64 ((m : Int) + 1))) := (Below.refl _ V).setCell (p := ⟨B3 + 1, 0, none⟩) (by simp; omega) _
      have hbl2 : ∀ k, k < V.heap.size → k ≠ B3 + 1 → (V.setCell ⟨B3 + 1, 0, none⟩ (.int .i64 ((m : Int) + 1))).heap[k]? = V.heap[k]? := fun k hk hn => (grownBy_setCell' V (B3 + 1) _).block k hk (fun e => hn (by cases e; rfl))
      refine ⟨⟨hbk.size, fun k hk => ?_⟩, ?_⟩
      · have hZk : Z k := hk.resolve_left id
        exact hbl2 k (hZb k hZk).2 (fun e => n4 (e ▸ hZk))
      · unfold RnZ
        rw [hnx]
        refine ⟨⟨v, hv.other (by omega) _, ownsRow_turns hr (fun g h => hbl2 g (hg g h).1 (fun e => hne (by rw [h, e]))), fun g h => ⟨Nat.lt_of_lt_of_le (hg g h).1 hbk.size, (hg g h).2⟩⟩, ?_, h1.other (by omega) _, ⟨n1, n3, n4⟩, hbel.trans hbk, hzb⟩
        have := h4.set (.int .i64 ((m : Int) + 1))
        simpa using this
    · have hyz : (y == 0) = false := by simp; omega
      rw [if_neg hy0] at hnx
      clear hy0
      have hbs := hbel.size
      obtain ⟨i0, hi, hz0, hz1, hz2⟩ := info_parts infoRn
      have hmo : Try.prog.follows Departure.mixedOrders = true := by kernel_rfl
      have q1 := fun X : UpdT V => (X.upd.block _ h1.lt (.inr (Nat.zero_le _))).trans h1
      have r1 : ∀ X : UpdT V, X.to.cell? ⟨B1, 0, none⟩ = some (.slice (some ⟨bb, off, none⟩) 64 cap) := fun X => Boxed.cell (q1 X)
      have r3 : ∀ X : UpdT V, X.to.cell? ⟨B3, 0, none⟩ = some v := fun X => Boxed.cell (show Boxed X.to B3 _ _ from (X.upd.block _ hv.lt (.inr (Nat.zero_le _))).trans hv)
      have r4 : ∀ X : UpdT V, X.to.cell? ⟨B3 + 1, 0, none⟩ = some (.int .i64 (m : Int)) := fun X => Boxed.cell (show Boxed X.to (B3 + 1) _ _ from (X.upd.block _ h4.lt (.inr (Nat.zero_le _))).trans h4)
      have rz : ∀ X : UpdT V, X.to.cell? ⟨bb, off + p, none⟩ = some (.int .i64 y) := fun X => ((X.upd.none).cell (by have := hbel.size; simp; omega)).trans hcz
      gi_wp2_with fail
      refine wpIn_region_any_round (by kernel_rfl) (by kernel_rfl) (any_make 7 8 (fun k => .slice (some ⟨k, 0, none⟩) 1 1) [.int .i64 (m : Int), .int .i64 y] 54 (by kernel_rfl) (by kernel_rfl) (by rfl) (WM.of ?_))
      simp only [List.take_succ_cons, List.take_zero, List.drop_succ_cons, List.drop_zero, List.drop_nil]
      iterate 7
        refine WG.step (fun K hK => ?_)
        go_simp
        refine hK _ ?_
        clear hK K
      refine WG.nil ⟨fun X => ?_, ?_⟩
      · go_simp
      refine WG.nil ?_
      clear r1 r3 r4 rz q1
      intro w5 k hw h1' h2' hnk
      have hv5 : Boxed w5 B3 25 v := (hw.block _ hv.lt (.inr (Nat.zero_le _))).trans hv
      have h45 : Boxed w5 (B3 + 1) 3 (.int .i64 (m : Int)) := (hw.block _ h4.lt (.inr (Nat.zero_le _))).trans h4
      have hr5 : w5.ownsRow w.heap.size 54 2 v L.length (cellsRn L) := ownsRow_turns hr (fun g h => hw.block g (hg g h).1 (.inr (Nat.zero_le _)))
      have hc0 := hnk.1.2 0 _ rfl
      have hc1 := hnk.1.2 1 _ rfl
      have hs5 := hw.size
      refine wpList_append_own_at _ rfl (.tmp 18) (.tmp 25) 25 rfl w.heap.size 54 i0 (.agg #[.int .i64 0, .int .i64 0]) 2 16 Try.underlying25 hi hz0 hz1 hz2 rfl (by decide) v L.length (cellsRn L) rfl hr5
        ⟨k, 0, none⟩ 1 1 [.int .i64 (m : Int), .int .i64 y] rfl rfl (twoAt hc0 hc1) (twoOne _ _ _ _) (by unfold maxLen; omega) (by omega) (by omega) ?_
      intro v' w8 hown' hgrow _ hat
      obtain ⟨g', cap', rfl⟩ := ownsRow_succ hown'
      have hgb : g' = w5.heap.size ∨ v.ownBlock = some g' := by
        rcases hat with e | e
        · exact .inr (e.symm.trans rfl)
        · exact .inl (by simpa [Value.ownBlock] using e)
      have hfin := rnZ_append w zs B1 B3 (.slice (some ⟨bb, off, none⟩) 64 cap) Z pre (p : Int) V w5 w8 v g' cap' L m y (by omega) (fun k h => (hZb k h).2) hv hr hg h4 h1 ⟨n1, n3, n4⟩ hbel hzb (by omega) hnx hw hown' hgrow hgb
      have hne3 := hv5.not_row (by decide) hr5
      have hne4 := h45.not_row (by decide) hr5
      have e3 := (hgrow.block B3 hv5.lt hne3).trans hv5
      have e4 := (hgrow.block (B3 + 1) h45.lt hne4).trans h45
      have f3' : w8.frozen? ⟨B3, 0, none⟩ = false := Boxed.frozen e3
      have c3' : w8.cell? ⟨B3, 0, none⟩ = some v := Boxed.cell e3
      have e4' := (show Boxed w8 (B3 + 1) 3 (.int .i64 (m : Int)) from e4).other (show B3 + 1 ≠ B3 by omega) (.slice (some ⟨g', 0, none⟩) (L.length + 1) cap')
      have f4' := e4'.frozen
      have c4' := e4'.cell
      clear c1 c3 c4 f3 f4 hc0 hc1 hne3 hne4 e3 e4 e4' hnk h1' h2' hcz
      go_wp2
      refine ⟨rfl, ?_⟩
      gi_wp2
      exact hfin
  case done =>
    rintro D Z xs V hZb hD hS ⟨⟨v, hv, hr, hg⟩, h4, h1, ⟨n1, n3, n4⟩, hbel, hzb⟩ hdd
    have c3 := hv.cell
    have c4 := h4.cell
    have hE2 : runsOfF zs = runsEnd (runsTo zs xs) := by rw [hE, hS]; rfl
    have hst := runsTo_le zs xs
    have hl63 : xs.length = 63 := by rw [hS, List.length_tail, scanL_length]
    rw [hl63] at hst
    generalize runsTo zs xs = st at hE2 hst hr h4 c4
    obtain ⟨L, m⟩ := st
    have hL63 : L.length ≤ 63 := hst.1
    have hm63 : m ≤ 63 := hst.2
    replace hr : V.ownsRow w.heap.size 54 2 v L.length (cellsRn L) := hr
    replace h4 : Boxed V (B3 + 1) 3 (.int .i64 (m : Int)) := h4
    replace c4 : V.cell? ⟨B3 + 1, 0, none⟩ = some (.int .i64 (m : Int)) := c4
    replace hE2 : runsOfF zs = if 0 < m then L ++ [((m : Int), 0)] else L := hE2
    have f3 := hv.frozen
    have hbs := hbel.size
    clear hS hE hst hl63 hI0
    by_cases hm : 0 < m
    · have hmb : decide (0 < m) = true := by simpa using hm
      rw [if_pos hm] at hE2
      replace hE2 := hide hE2
      obtain ⟨i0, hi, hz0, hz1, hz2⟩ := info_parts infoRn
      have hgZ : ∀ g, v.ownBlock = some g → ¬ Z g := fun g h => (hg g h).2
      clear hm hg
      gi_wp2_with (gi_at_builtin; refine wpListIn_append_own_at _ rfl _ _ 25 rfl w.heap.size 54 i0 (.agg #[.int .i64 0, .int .i64 0]) 2 16 Try.underlying25 hi hz0 hz1 hz2 rfl (by decide) v L.length (cellsRn L) rfl (hr.alloc _) ⟨V.heap.size, 0, none⟩ 1 1 [.int .i64 (m : Int), .int .i64 0] rfl rfl (twoNew _ _ _ _) (twoOne _ _ _ _) (by unfold maxLen; omega) (by omega) (by simp; omega) ?_; intro v' w8 hown' hgrow _ hat; obtain ⟨g', cap', rfl⟩ := ownsRow_succ hown'; obtain ⟨hv1, hv2, hr2, hk2, hb2⟩ := hv.appended (by decide) hr hbs (by omega) hown' hgrow; have hc1 := hv1.cell; have hf1 := hv1.frozen; have hc2 := hv2.cell)
      have hs8 := hgrow.size
      have hv8 := hk2.size
      have hdd8 : (w8.setCell ⟨B3, 0, none⟩ (.slice (some ⟨g', 0, none⟩) (L.length + 1) cap')).heap[D]? = some (.deferred (some [])) := hk2.same D _ hdd rfl
      refine leaves_marks (Z := Z) _ _ ⟨⟨D, rfl, hD, hdd8, fun e h => by cases h⟩, trivial⟩ fun w' ht hs => ?_
      refine ⟨_, results_tmp rfl _ _ _, _, rfl, ?_, ?_⟩
      · rw [unhide hE2]
        have hr3 : (w8.setCell ⟨B3, 0, none⟩ (.slice (some ⟨g', 0, none⟩) (L.length + 1) cap')).ownsRow w.heap.size 54 2 (.slice (some ⟨g', 0, none⟩) (L.length + 1) cap') (L ++ [((m : Int), 0)]).length (cellsRn (L ++ [((m : Int), 0)])) := by
          rw [cellsRn_snoc, List.length_append]; exact hr2
        refine Own.of (ownsRow_turns hr3 (fun g h => ?_))
        have hgg : g' = g := by simpa [Value.ownBlock] using h
        subst hgg
        have hgl : g' < (w8.setCell ⟨B3, 0, none⟩ (.slice (some ⟨g', 0, none⟩) (L.length + 1) cap')).heap.size := by
          rcases hr2.2 with ⟨e, _⟩ | ⟨g, cap, cur, e, _, hgb, _⟩
          · cases e
          · cases e
            exact (Array.getElem?_eq_some_iff.1 hgb).1
        refine ht.block g' hgl (fun hz => ?_)
        rcases hat with e | e
        · exact hgZ g' (e.symm.trans rfl) hz
        · have e' : g' = (V.alloc (.cells [.int .i64 (m : Int), .int .i64 0].toArray 54)).heap.size := by simpa [Value.ownBlock] using e
          have := (hZb g' hz).2
          simp at e'
          omega
      · exact Upd.of_below ((hbel.trans hb2).trans ⟨ht.os, ht.tape, ht.output, ht.size, fun k hk => ht.block k (by omega) (fun h => by have := hzb k h; omega)⟩) 0 0
    · have hmb : decide (0 < m) = false := by simpa using hm
      rw [if_neg hm] at hE2
      replace hE2 := hide hE2
      clear hm
      gi_wp2
      refine leaves_marks (Z := Z) _ _ ⟨⟨D, rfl, hD, hdd, fun e h => by cases h⟩, trivial⟩ fun w' ht hs => ?_
      refine ⟨_, results_tmp rfl _ _ _, v, rfl, ?_, ?_⟩
      · rw [unhide hE2]
        exact Own.of (ownsRow_turns hr (fun g h => ht.block g (hg g h).1 (hg g h).2))
      · exact Upd.of_below (hbel.trans ⟨ht.os, ht.tape, ht.output, ht.size, fun k hk => ht.block k (by omega) (fun h => by have := hzb k h; omega)⟩) 0 0
  case stop =>
    rintro D Z c pre V _ _ _ h _
    exact h.elim
theorem implRunsOf (v : Value) (zs : List Int) (w : World) (hn : zs.length ≤ 1048576) (_hR : InI zs) (hv : RdI w v zs) :
    Calls Try.prog 8 #[v] w fun e w' => ∃ u, e = .returned u ∧ OwnRn w' w.heap.size w'.heap.size u (runsOfF zs) ∧ Upd 0 0 w w' := implRunsOfZ v zs w hn hv
end Go.Proofs.Ytilmdbdgohfpcaa
