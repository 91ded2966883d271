/- The places behind the first: an iterator over scanPlaces. -/
import Derived.Test.YtilmdbdgohfpcaaWItW
namespace Go.Proofs.Ytilmdbdgohfpcaa
open Go Go.RowKit Go.Shelf
attribute [local go_sem] Oper.semAt_some

theorem scan_takes : ∀ s, s < 15 → ∀ k, k < 8 → k < cntN s → linesN s ++ placesN s (k + 1) = scanL.take ((linesN s).length + k + 1) ∧ (linesN s).length + k < 64 := by decide +kernel
theorem cntN_le (s : Nat) : cntN s ≤ 8 := by unfold cntN btN; omega
theorem scan_pos : ∀ j, j < 64 → 0 < j → 0 < scanL.getD j 0 := by decide +kernel

/-- What comes in a round of scanPlaces. -/
theorem scan_round {pre : List Int} {x : Int} (h : ∃ s k, s < 15 ∧ k < cntN s ∧ pre ++ [x] = linesN s ++ placesN s (k + 1)) :
    pre.length < 64 ∧ pre = scanL.take pre.length ∧ x = scanL.getD pre.length 0 := by
  obtain ⟨s, k, hs, hk, he⟩ := h
  obtain ⟨h1, h2⟩ := scan_takes s hs k (by have := cntN_le s; omega) hk
  rw [h1] at he
  have hl := congrArg List.length he
  rw [List.length_append, List.length_take, scanL_length, List.length_singleton] at hl
  have hm : (linesN s).length + k = pre.length := by omega
  rw [hm] at he
  have hp : pre.length < scanL.length := by rw [scanL_length]; omega
  rw [List.take_succ_eq_append_getElem hp] at he
  obtain ⟨e1, e2⟩ := List.append_inj' he rfl
  refine ⟨by omega, e1, ?_⟩
  rw [List.getD_eq_getElem?_getD, List.getElem?_eq_getElem hp]
  simpa using e2

set_option maxRecDepth 100000 in
set_option maxHeartbeats 4000000 in
theorem placesBehind_seq (n : Nat) (hn : 9 ≤ n) (w : World) :
    SeqZ Fence.wide n Try.prog 49 #[] (fun x : Int => #[Value.int .i64 x]) (fun _ => False) (fun xs => xs = scanL.tail) (fun xs => ∃ j, j < 64 ∧ 0 < j ∧ xs = (scanL.take j).tail ++ [scanL.getD j 0]) w := by
  intro l J Jx W hW hJ hJx hY h0
  refine callsIn_of_wp_marks Try.func49 rfl trivial ?_ rfl
  simp only [Try.ntmps49, List.size_toArray, List.length_cons, List.length_nil, Nat.reduceAdd, Nat.reduceSub, Array.replicate_succ, Array.replicate_zero, List.push_toArray, List.append_toArray, List.nil_append, List.cons_append]
  gi_wp2
  refine ⟨trivial, fun _ => by omega, (callsIn_wide.2 (scanPlaces_mk _)).mono ?_⟩
  rintro e W0 ⟨rfl, hW0⟩
  have hJ1 : J (fun i => i = W.heap.size) [] W0 := hJ _ _ _ _ _ h0 (by rw [hW0]; exact Turns.alloc _ _ _) (fun i hi => .inr (by rw [hW0]; simp; omega))
  have c0 : W0.cell? ⟨W.heap.size, 0, none⟩ = some (.func (.yield l) #[] #[]) := by
    rw [hW0]; unfold World.cell?; rw [World.alloc_heap_new]; rfl
  have hs0 : W0.heap.size = W.heap.size + 1 := by rw [hW0]; simp
  clear hW0
  generalize W.heap.size = B0 at hJ1 c0 hs0 ⊢
  gi_wp2
  have hz0 : ∀ i, i = B0 → i < W0.heap.size := fun i hi => by omega
  refine wpIn_rangeZ rfl (by omega) (gf := 50) (lb := #[]) rfl trivial (enters_of Try.func50 (by kernel_rfl) rfl)
    (scanPlaces_seq (n - 1) (by omega) W0) (fun _ h => h.elim) (Below.refl _ _) (fun _ => rfl)
    (fun Z pre V => J (fun i => Z i ∨ i = B0) pre.tail V ∧ Keeps (fun i => i = B0) W0 V ∧ (∀ i, Z i → W0.heap.size ≤ i ∧ i < V.heap.size))
    (fun c Z pre V => c = .ret ∧ (∃ j, j < 64 ∧ 0 < j ∧ pre.tail = (scanL.take j).tail ++ [scanL.getD j 0]) ∧ Jx (fun i => Z i ∨ i = B0) pre.tail V ∧ Keeps (fun i => i = B0) W0 V ∧ (∀ i, Z i → W0.heap.size ≤ i ∧ i < V.heap.size))
    (abid_over hJ hz0 (fun pre : List Int => pre.tail))
    (fun c Z Z' s V V' h ht hz => ⟨h.1, h.2.1, abid_over hJx hz0 (fun pre : List Int => pre.tail) Z Z' s V V' h.2.2 ht hz⟩)
    ⟨hJ _ _ _ _ _ hJ1 (Turns.refl _ _) (fun i hi => .inl (hi.resolve_left id)), Keeps.refl _ _, fun _ h => h.elim⟩
    (fun x => { tmps := #[.func (.yield l) #[] #[], .pointer (some ⟨B0, 0, none⟩), .int .i64 x, .func (.func 50) #[] #[], .int .i64 x, undef, undef, undef, undef, undef, undef, undef, undef], defers := [] })
    ?assign ?body ?done ?stop
  case assign =>
    intro l1 x V K hK
    gi_wp2
    exact hK
  case body =>
    rintro l1 Zb pre x V hZb ⟨hj, hkp, hzl2⟩ hsp
    obtain ⟨hp1, hp2, hp3⟩ := scan_round hsp
    clear hsp
    have d0 := (World.cell?_of_block (a := ⟨B0, 0, none⟩) (hkp.block B0 rfl)).trans c0
    have h1' : 1 ≤ n - 1 - 1 := by omega
    by_cases hpz : pre.length = 0
    · have hpn : pre = [] := List.length_eq_zero_iff.1 hpz
      subst hpn
      obtain rfl : x = 0 := by rw [hp3]; exact scanL_zero
      clear hp1 hp2 hp3 hpz
      gi_wp2
      refine ⟨fun _ h => (by cases h), ?_⟩
      gi_wp2
      exact ⟨Keeps.refl _ _, hj, hkp, hzl2⟩
    · have hx0 : 0 < x := by rw [hp3]; exact scan_pos _ hp1 (by omega)
      have hxb : decide (0 < x) = true := decide_eq_true hx0
      have htl : (pre ++ [x]).tail = pre.tail ++ [x] := by
        cases pre with
        | nil => simp at hpz
        | cons b bs => rfl
      have hsp2 : pre.tail ++ [x] = (scanL.take pre.length).tail ++ [scanL.getD pre.length 0] := by rw [← hp2, ← hp3]
      have hy := YieldAt.wide (l1 := l1) (m' := n - 1 - 1 - 1) (hY (fun i => Zb i ∨ i = B0) _ x V (fun i hi => by
        rcases hi with h | h
        · exact (hZb i h).2
        · exact Nat.lt_of_lt_of_le (hz0 i h) hkp.size) hj ⟨_, hp1, by omega, hsp2⟩)
      obtain ⟨fn, tmps, assign, body, hy, hR⟩ := hy
      clear hp2 hp3
      gi_wp2
      refine hR.mono ?_
      rintro e W3 ⟨hkp3, (⟨rfl, hJ3⟩ | ⟨rfl, hJx3⟩)⟩
      · clear hy hR d0
        gi_wp2
        exact ⟨hkp3.less (fun i hi => .inr (.inl (hi.resolve_left id))), by rw [htl]; exact hJ3, hkp.trans (hkp3.less fun i hi => .inr (.inr hi)), fun i hi => ⟨(hZb i hi).1, Nat.lt_of_lt_of_le (hZb i hi).2 hkp3.size⟩⟩
      · clear hy hR d0
        gi_wp2
        exact ⟨hkp3.less (fun i hi => .inr (.inl (hi.resolve_left id))), rfl, ⟨_, hp1, by omega, by rw [htl]; exact hsp2⟩, by rw [htl]; exact hJx3, hkp.trans (hkp3.less fun i hi => .inr (.inr hi)), fun i hi => ⟨(hZb i hi).1, Nat.lt_of_lt_of_le (hZb i hi).2 hkp3.size⟩⟩
  case done =>
    rintro D Zb xs V hZb hD rfl ⟨hj, hkp, hzl2⟩ hdd
    gi_wp2
    refine leaves_marks (Z := fun i => Zb i ∨ i = B0) _ _ ⟨⟨D, rfl, .inl hD, hdd, fun e h => by cases h⟩, trivial⟩ fun w' ht hs => ⟨_, results_none rfl _ _ _, ⟨_, rfl⟩, .inl ⟨fun i => Zb i ∨ i = B0, _, rfl, fun i hi => ?_, hJ _ _ _ _ _ hj ht (Laid.same _ _ _)⟩⟩
    rw [hs]
    rcases hi with h | h
    · exact (hZb i h).2
    · exact Nat.lt_of_lt_of_le (hz0 i h) hkp.size
  case stop =>
    rintro D Zb c pre V hZb hD hsp ⟨rfl, hpp, hjx, hkp, hzl2⟩ hdd
    gi_wp2
    refine leaves_marks (Z := fun i => Zb i ∨ i = B0) _ _ ⟨⟨D, rfl, .inl hD, hdd, fun e h => by cases h⟩, trivial⟩ fun w' ht hs => ⟨_, results_none rfl _ _ _, ⟨_, rfl⟩, .inr ⟨fun i => Zb i ∨ i = B0, _, hpp, fun i hi => ?_, hJx _ _ _ _ _ hjx ht (Laid.same _ _ _)⟩⟩
    rw [hs]
    rcases hi with h | h
    · exact (hZb i h).2
    · exact Nat.lt_of_lt_of_le (hz0 i h) hkp.size
end Go.Proofs.Ytilmdbdgohfpcaa
