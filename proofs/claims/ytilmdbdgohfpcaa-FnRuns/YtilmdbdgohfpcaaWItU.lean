/- All places of a block in scan order: an iterator over iterators. -/
import Derived.Test.YtilmdbdgohfpcaaWItM
import Derived.Test.YtilmdbdgohfpcaaWItS
import Derived.RangeFuncLeaves
namespace Go.Proofs.Ytilmdbdgohfpcaa
open Go Go.RowKit Go.Shelf
attribute [local go_sem] Oper.semAt_some

set_option maxRecDepth 100000 in
set_option maxHeartbeats 4000000 in
theorem scanPlaces_seq (n : Nat) (hn : 5 ≤ n) (w : World) :
    SeqZ Fence.wide n Try.prog 50 #[] (fun x : Int => #[Value.int .i64 x]) (fun _ => False) (fun xs => xs = scanL) (fun xs => ∃ s k, s < 15 ∧ k < cntN s ∧ xs = linesN s ++ placesN s (k + 1)) w := by
  intro l J Jx W hW hJ hJx hY h0
  refine callsIn_of_wp_marks Try.func50 rfl trivial ?_ rfl
  simp only [Try.ntmps50, List.size_toArray, List.length_cons, List.length_nil, Nat.reduceAdd, Nat.reduceSub, Array.replicate_succ, Array.replicate_zero, List.push_toArray, List.append_toArray, List.nil_append, List.cons_append]
  gi_wp2
  obtain ⟨B0, hB0⟩ : ∃ B0, W.heap.size = B0 := ⟨_, rfl⟩
  have hT1 : Turns (fun _ => False) W (W.alloc (.cells #[.func (.yield l) #[] #[]] 73)) := Turns.alloc _ _ _
  have hJ1 : J (fun i => i = B0) (linesN 0) (W.alloc (.cells #[.func (.yield l) #[] #[]] 73)) := hJ _ _ _ _ _ h0 hT1 (fun i hi => .inr (by simp; omega))
  have hc1 : (W.alloc (.cells #[.func (.yield l) #[] #[]] 73)).cell? ⟨B0, 0, none⟩ = some (.func (.yield l) #[] #[]) := by
    rw [← hB0]; unfold World.cell?; rw [World.alloc_heap_new]; rfl
  have hs1 : (W.alloc (.cells #[.func (.yield l) #[] #[]] 73)).heap.size = B0 + 1 := by simp; omega
  rw [hB0]
  generalize W.alloc (.cells #[.func (.yield l) #[] #[]] 73) = W1 at hT1 hJ1 hc1 hs1 ⊢
  refine wpIn_loop (fun a wr => ∃ (k : Nat) (Z : Nat → Prop) (ds : List Deferred) (u2 u3 u5 u6 u7 u8 u9 u10 u11 u12 u13 u14 u15 u16 u17 u18 u19 : Value), a = { tmps := #[.func (.yield l) #[] #[], .pointer (some ⟨B0, 0, none⟩), u2, u3, .int .i64 (k : Int), u5, u6, u7, u8, u9, u10, u11, u12, u13, u14, u15, u16, u17, u18, u19], defers := ds } ∧ k ≤ 15 ∧
      J Z (linesN k) wr ∧ (∀ i, Z i → B0 ≤ i ∧ i < wr.heap.size) ∧ Z B0 ∧ wr.cell? ⟨B0, 0, none⟩ = some (.func (.yield l) #[] #[]) ∧ MarkL Z ds wr)
    (fun a _ => 15 - (intOf (a.tmps.getD 4 undef)).toNat) ?start ?round
  case start => exact ⟨0, fun i => i = B0, [], _, _, _, _, _, _, _, _, _, _, _, _, _, _, _, _, _, rfl, by omega, hJ1, fun i hi => by omega, rfl, hc1, trivial⟩
  case round =>
    clear hJ1 hc1 hT1 hs1 h0 W1
    rintro _ wr ⟨k, Z, ds, u2, u3, u5, u6, u7, u8, u9, u10, u11, u12, u13, u14, u15, u16, u17, u18, u19, rfl, hk, hJ1, hZ, hZ0, hc0, hM⟩
    by_cases hk15 : k < 15
    · have hlb : decide ((k : Int) < 15) = true := decide_eq_true (by omega)
      gi_wp2
      refine ⟨trivial, fun _ => by omega, (callsIn_wide.2 (rowsOfLine_mk k (by omega) _)).mono ?_⟩
      rintro e W0 ⟨b1, b2, b3, rfl, hb1, hb2, hb3, k1, k2, k3, hbel⟩
      have hsz : wr.heap.size + 1 ≤ W0.heap.size := by have := hbel.size; simpa using this
      have hbw : Below wr.heap.size wr W0 := ((Below.refl _ wr).alloc (Nat.le_refl _) _).trans (hbel.mono (by simp))
      have hbl : wr.heap.size ≤ b1 ∧ wr.heap.size ≤ b2 ∧ wr.heap.size ≤ b3 := by simp at hb1 hb2 hb3; omega
      have cl : W0.cell? ⟨wr.heap.size, 0, none⟩ = some (.int .i64 (k : Int)) := by
        rw [hbel.cell (p := ⟨wr.heap.size, 0, none⟩) (by simp)]
        unfold World.cell?; rw [World.alloc_heap_new]; rfl
      have hlt0 := hZ B0 hZ0
      have c0 := (hbw.cell (p := ⟨B0, 0, none⟩) hlt0.2).trans hc0
      obtain ⟨Z0, hZ0e⟩ : ∃ Z0 : Nat → Prop, Z0 = fun i => Z i ∨ (wr.heap.size ≤ i ∧ i < W0.heap.size) := ⟨_, rfl⟩
      have hZe : ∀ i, Z0 i ↔ Z i ∨ (wr.heap.size ≤ i ∧ i < W0.heap.size) := fun i => by rw [hZ0e]
      have hJ2 : J Z0 (linesN k) W0 := hJ _ _ _ _ _ hJ1 (Turns.of_below hbw) (fun i hi => (hZe i).1 hi)
      have hM2 : MarkL Z0 ds W0 := hM.kept (fun i hi => hbw.block i (hZ i hi).2) (fun i hi => (hZe i).2 (.inl hi))
      have hzb : ∀ i, Z0 i → B0 ≤ i ∧ i < W0.heap.size := fun i hi => by
        rcases (hZe i).1 hi with h | h
        · have := hZ i h; omega
        · omega
      obtain ⟨BL, hBL⟩ : ∃ BL, wr.heap.size = BL := ⟨_, rfl⟩
      have hz0 : Z0 B0 := (hZe _).2 (.inl hZ0)
      have hzl : Z0 BL := (hZe _).2 (.inr (by omega))
      have hz1 : Z0 b1 ∧ Z0 b2 ∧ Z0 b3 := ⟨(hZe _).2 (.inr (by omega)), (hZe _).2 (.inr (by omega)), (hZe _).2 (.inr (by omega))⟩
      have hb1' := hb1.2
      have hb2' := hb2.2
      have hb3' := hb3.2
      rw [hBL] at cl ⊢
      clear hZ0e hZe hZ hM hc0 hJ1 hbw hbel hb1 hb2 hb3 hbl hsz hZ0 hBL
      gi_wp2
      refine wpIn_rangeZ rfl (by omega) (gf := 61) (lb := #[.pointer (some ⟨b1, 0, none⟩), .pointer (some ⟨b2, 0, none⟩), .pointer (some ⟨b3, 0, none⟩)]) rfl trivial (enters_of Try.func61 (by kernel_rfl) rfl)
        (rowsOfLine_seq (n - 1) (by omega) k (by omega) b1 b2 b3 W0 hb1' hb2' hb3' k1 k2 k3) (fun i hi => by rcases hi with rfl | rfl | rfl <;> assumption) (Below.refl _ _) (fun _ => rfl)
        (fun Z pre V => J (fun i => Z i ∨ Z0 i) (linesN k ++ pre.map (fun r : Int => r * 8 + (k : Int) - r)) V ∧ Keeps Z0 W0 V ∧ (∀ i, Z i → W0.heap.size ≤ i ∧ i < V.heap.size))
        (fun c Z pre V => c = .ret ∧ Jx (fun i => Z i ∨ Z0 i) (linesN k ++ pre.map (fun r : Int => r * 8 + (k : Int) - r)) V ∧ Keeps Z0 W0 V ∧ (∀ i, Z i → W0.heap.size ≤ i ∧ i < V.heap.size))
        (abid_over hJ (fun i hi => (hzb i hi).2) (fun pre : List Int => linesN k ++ pre.map (fun r : Int => r * 8 + (k : Int) - r)))
        (fun c Z Z' s V V' h ht hz => ⟨h.1, abid_over hJx (fun i hi => (hzb i hi).2) (fun pre : List Int => linesN k ++ pre.map (fun r : Int => r * 8 + (k : Int) - r)) Z Z' s V V' h.2 ht hz⟩)
        ⟨by rw [List.map_nil, List.append_nil]; exact hJ _ _ _ _ _ hJ2 (Turns.refl _ _) (fun i hi => .inl (hi.resolve_left id)), Keeps.refl _ _, fun _ h => h.elim⟩
        (fun x => { tmps := #[.func (.yield l) #[] #[], .pointer (some ⟨B0, 0, none⟩), .pointer (some ⟨BL, 0, none⟩), .int .i64 x, .int .i64 (k : Int), .bool true, .int .i64 (k : Int), .int .i64 (k : Int), .func (.func 61) #[] #[.pointer (some ⟨b1, 0, none⟩), .pointer (some ⟨b2, 0, none⟩), .pointer (some ⟨b3, 0, none⟩)], .int .i64 x, u10, u11, u12, u13, u14, u15, u16, u17, u18, u19], defers := [] })
        ?assign ?body ?done ?stop
      case assign =>
        intro l1 x V K hK
        gi_wp2
        exact hK
      case body =>
        rintro l1 Zb pre x V hZb ⟨hj, hkp, hzl2⟩ ⟨j, hjc, hpx⟩
        obtain ⟨rfl, hx⟩ := List.append_inj' hpx rfl
        obtain rfl : x = ((rowN k j : Nat) : Int) := by simpa using hx
        clear hx hpx
        have hr7 := rowN_le k j (by omega) hjc
        have hpl : linesN k ++ (rowsN k j ++ [((rowN k j : Nat) : Int)]).map (fun r : Int => r * 8 + (k : Int) - r) = (linesN k ++ (rowsN k j).map (fun r : Int => r * 8 + (k : Int) - r)) ++ [((rowN k j : Nat) : Int) * 8 + (k : Int) - ((rowN k j : Nat) : Int)] := by
          rw [List.map_append, List.append_assoc]; rfl
        have hsp : (linesN k ++ (rowsN k j).map (fun r : Int => r * 8 + (k : Int) - r)) ++ [((rowN k j : Nat) : Int) * 8 + (k : Int) - ((rowN k j : Nat) : Int)] = linesN k ++ placesN k (j + 1) := by
          rw [← hpl, placesN_of]; rfl
        have hy := YieldAt.wide (l1 := l1) (m' := n - 1 - 1 - 1) (hY (fun i => Zb i ∨ Z0 i) _ (((rowN k j : Nat) : Int) * 8 + (k : Int) - ((rowN k j : Nat) : Int)) V (fun i hi => by
          rcases hi with h | h
          · exact (hZb i h).2
          · exact Nat.lt_of_lt_of_le (hzb i h).2 hkp.size) hj ⟨k, j, hk15, hjc, hsp⟩)
        clear hsp
        generalize rowN k j = r at hr7 hy hpl ⊢
        obtain ⟨fn, tmps, assign, body, hy, hR⟩ := hy
        have d0 := (World.cell?_of_block (a := ⟨B0, 0, none⟩) (hkp.block B0 hz0)).trans c0
        have dl := (World.cell?_of_block (a := ⟨BL, 0, none⟩) (hkp.block BL hzl)).trans cl
        have h1' : 1 ≤ n - 1 - 1 := by omega
        gi_wp2
        refine hR.mono ?_
        rintro e W3 ⟨hkp3, (⟨rfl, hJ3⟩ | ⟨rfl, hJx3⟩)⟩
        · clear hy hR d0 dl
          gi_wp2
          refine ⟨hkp3.less (fun i hi => ?_), by rw [hpl]; exact hJ3, hkp.trans (hkp3.less fun i hi => .inr (.inr hi)), fun i hi => ⟨(hZb i hi).1, Nat.lt_of_lt_of_le (hZb i hi).2 hkp3.size⟩⟩
          rcases hi with (rfl | rfl | rfl) | hi
          · exact .inr (.inr hz1.1)
          · exact .inr (.inr hz1.2.1)
          · exact .inr (.inr hz1.2.2)
          · exact .inr (.inl hi)
        · clear hy hR d0 dl
          gi_wp2
          refine ⟨hkp3.less (fun i hi => ?_), rfl, by rw [hpl]; exact hJx3, hkp.trans (hkp3.less fun i hi => .inr (.inr hi)), fun i hi => ⟨(hZb i hi).1, Nat.lt_of_lt_of_le (hZb i hi).2 hkp3.size⟩⟩
          rcases hi with (rfl | rfl | rfl) | hi
          · exact .inr (.inr hz1.1)
          · exact .inr (.inr hz1.2.1)
          · exact .inr (.inr hz1.2.2)
          · exact .inr (.inl hi)
      case done =>
        rintro D Zb xs V hZb hD rfl ⟨hj, hkp, hzl2⟩ hdd
        rw [← placesN_of] at hj
        have hnD : ¬ Z0 D := fun h => by
          have a1 := (hzb D h).2
          have a2 := (hZb D hD).1
          omega
        have hM3 := hM2.push (Z' := fun i => Zb i ∨ Z0 i) (fun i hi => hkp.block i hi) (fun i hi => .inr hi) hnD (.inl hD) hdd
        have hzf : ∀ i, Zb i ∨ Z0 i → B0 ≤ i ∧ i < V.heap.size := fun i hi => by
          have a3 := hkp.size
          rcases hi with h | h
          · have a1 := hZb i h
            have a2 := hzb B0 hz0
            omega
          · have a1 := hzb i h
            omega
        have c9 := (World.cell?_of_block (a := ⟨B0, 0, none⟩) (hkp.block B0 hz0)).trans c0
        clear hdd hM2 hJ2 hz1 hb1' hb2' hb3' k1 k2 k3 cl c0 hnD hD
        gi_wp2
        refine ⟨⟨k + 1, fun i => Zb i ∨ Z0 i, _ :: ds, _, _, _, _, _, _, _, _, _, _, _, _, _, _, _, _, _, by push_cast; rfl, by omega, hj, hzf, .inr hz0, c9, hM3⟩, ?_⟩
        simp [intOf]; omega
      case stop =>
        rintro D Zb c pre V hZb hD ⟨j, hjc, hpre⟩ ⟨rfl, hjx, hkp, hzl2⟩ hdd
        have hnD : ¬ Z0 D := fun h => by
          have a1 := (hzb D h).2
          have a2 := (hZb D hD).1
          omega
        have hM3 := hM2.push (Z' := fun i => Zb i ∨ Z0 i) (fun i hi => hkp.block i hi) (fun i hi => .inr hi) hnD (.inl hD) hdd
        have hpp : linesN k ++ pre.map (fun r : Int => r * 8 + (k : Int) - r) = linesN k ++ placesN k (j + 1) := by rw [hpre, placesN_of]; rfl
        rw [hpp] at hjx
        gi_wp2
        refine leaves_marks _ _ hM3 fun w' ht hs => ⟨_, results_none rfl _ _ _, ⟨_, rfl⟩, .inr ⟨fun i => Zb i ∨ Z0 i, _, ⟨k, j, hk15, hjc, rfl⟩, fun i hi => ?_, hJx _ _ _ _ _ hjx ht (Laid.same _ _ _)⟩⟩
        have a3 := hkp.size
        rw [hs]
        rcases hi with h | h
        · exact (hZb i h).2
        · exact Nat.lt_of_lt_of_le (hzb i h).2 a3
    · have hke : k = 15 := by omega
      subst hke
      rw [linesN_all] at hJ1
      gi_wp2
      refine leaves_marks _ _ hM fun w' ht hs => ⟨_, results_none rfl _ _ _, ⟨_, rfl⟩, .inl ⟨Z, _, rfl, fun i hi => by rw [hs]; exact (hZ i hi).2, hJ _ _ _ _ _ hJ1 ht (Laid.same _ _ _)⟩⟩
end Go.Proofs.Ytilmdbdgohfpcaa
