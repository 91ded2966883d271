/- The walk of ReadSymbols: the program's. -/
import Derived.Test.YtcoegccnkdhpjaaWReadI
import Derived.Test.YtcoegccnkdhpjaaWKind2
namespace Go.Proofs.Ytcoegccnkdhpjaa
open Go.RowKit

set_option maxHeartbeats 4000000 in
theorem implReadBad (v : Value) (zs : List Int) (u : Value) (p m : Int) (w : World) (hn : zs.length ≤ 1048576) (hR : InI zs) (hv : RdI w v zs) (h : kindF zs = 0 ∨ p < 0 ∨ m < 0 ∨ 20000 < m) :
    Calls Try.prog 30 #[v, u, .int .i64 p, .int .i64 m] w fun e w' => e = .returned (.agg #[.int .i64 1, .slice none 0 0, .int .i64 0]) ∧ Upd 0 0 w w' := by
  have hB := (Below.refl w.heap.size w).alloc (Nat.le_refl _) (.cells #[.int .i64 0, .slice none 0 0, .int .i64 0] 46)
  have hT := three_new w (.int .i64 0) (.slice none 0 0) (.int .i64 0) 46
  have hK := hide (implCodeKind v zs _ hn hR (hv.below hB))
  have H : (kindF zs == 0) = true ∨ ((kindF zs == 0) = false ∧ p < 0) ∨ ((kindF zs == 0) = false ∧ 0 ≤ p ∧ m < 0) ∨ ((kindF zs == 0) = false ∧ 0 ≤ p ∧ 0 ≤ m ∧ 20000 < m) := by
    by_cases h0 : kindF zs = 0
    · exact .inl (by simpa using h0)
    · have e : (kindF zs == 0) = false := by simpa using h0
      rcases h with h | h | h | h
      · exact absurd h h0
      · exact .inr (.inl ⟨e, h⟩)
      · by_cases h1 : p < 0
        · exact .inr (.inl ⟨e, h1⟩)
        · exact .inr (.inr (.inl ⟨e, by omega, h⟩))
      · by_cases h1 : p < 0
        · exact .inr (.inl ⟨e, h1⟩)
        · exact .inr (.inr (.inr ⟨e, by omega, by omega, h⟩))
  replace hB := hide hB
  replace hT := hide hT
  clear h hv
  rcases H with q0 | ⟨q0, q1⟩ | ⟨q0, q1, q2⟩ | ⟨q0, q1, q2, q3⟩
  all_goals
    go_enter Try.func30, Try.ntmps30
    go_wp2_with fail
    refine (unhide hK).mono ?_
    rintro e w1 ⟨rfl, hu⟩
    have hT1 := (unhide hT).below hu.none (unhide hT).1
    obtain ⟨t0, ⟨t1, t2, t3⟩, t4, t5, t6⟩ := hT1
    replace hu := hide ((Upd.of_below (unhide hB) 0 0).trans hu)
    clear hK hT hB
    go_wp2
    refine bodyPost_ret (v := .agg #[.int .i64 1, .slice none 0 0, .int .i64 0]) (by simp [results, Try.results30, go_sem, t1, t2, t3]) rfl ⟨rfl, ?_⟩
    refine Upd.of_below ?_ 0 0
    repeat (first | exact (unhide hu).none | refine Below.setCell ?_ (by simp) _)

def padI (l : List Int) (m : Nat) : List Int := l ++ List.replicate (m - l.length) 0
theorem padI_nil (m : Nat) : padI [] m = List.replicate m 0 := by simp [padI]
theorem padI_full (l : List Int) (m : Nat) (h : l.length = m) : padI l m = l := by simp [padI, h]
theorem padI_length (l : List Int) (m : Nat) (h : l.length ≤ m) : (padI l m).length = m := by simp [padI]; omega
theorem padI_set (l : List Int) (m : Nat) (x : Int) (h : l.length < m) : (padI l m).set l.length x = padI (l ++ [x]) m := by
  unfold padI
  rw [List.set_append, if_neg (by omega), Nat.sub_self, List.append_assoc]
  congr 1
  have : m - l.length = (m - (l ++ [x]).length) + 1 := by simp; omega
  rw [this, List.replicate_succ]; simp

set_option maxHeartbeats 8000000 in
set_option maxRecDepth 1000000 in
theorem implReadGood (v : Value) (zs : List Int) (u : Value) (d : List Int) (P M : Nat) (w : World) (hn : zs.length ≤ 1048576) (hR : InI zs) (hv : RdI w v zs) (hd : d.length ≤ 1048576) (hD : InB d) (hud : RdY w u d)
    (hk : ¬ kindF zs = 0) (hM : M ≤ 20000) (hP : P ≤ 9223372036854775807) :
    Calls Try.prog 30 #[v, u, .int .i64 P, .int .i64 M] w fun e w' => ∃ x, e = .returned x ∧ OwnSy w' w.heap.size w'.heap.size x (rdTo zs d P M) ∧ Upd 0 0 w w' := by
  obtain ⟨i0, hi, hi0, hi1, hi2⟩ := info_parts infoI
  obtain ⟨z, hz0, hz⟩ := zeroCT
  have hB := (Below.refl w.heap.size w).alloc (Nat.le_refl _) (.cells #[.int .i64 0, .slice none 0 0, .int .i64 0] 46)
  have hT := three_new w (.int .i64 0) (.slice none 0 0) (.int .i64 0) 46
  have hv1 := hv.below hB
  replace hud := hud.below hB
  have hK := hide (implCodeKind v zs _ hn hR hv1)
  have hg := hide (kindF_ne hk).1
  have q0 : (kindF zs == 0) = false := by simpa using hk
  obtain ⟨adu, capu, rfl, hU⟩ := hud
  replace hU := hide hU
  replace hv1 := hide hv1
  replace hB := hide hB
  replace hT := hide hT
  replace hk := hide hk
  replace hz0 := hide hz0
  replace hz := hide hz
  obtain ⟨ad, cap, rfl, hA⟩ := hv
  clear hA
  go_enter Try.func30, Try.ntmps30
  go_wp2_with fail
  refine (unhide hK).mono ?_
  rintro e w1 ⟨rfl, hu⟩
  replace hv1 := hide ((unhide hv1).below hu.none)
  replace hU := hide ((unhide hU).below hu.none)
  replace hT := hide ((unhide hT).below hu.none (unhide hT).1)
  replace hB := hide ((unhide hB).trans (hu.none.mono (unhide hB).size))
  clear hu hK
  go_wp2_with fail
  refine (implTable _ zs w1 (unhide hg) (unhide hv1)).mono ?_
  rintro e w2 ⟨cs, ys, y, rfl, hTb, hyl, hsym, hoy, hu⟩
  replace hU := hide ((unhide hU).below hu.none)
  replace hT := hide ((unhide hT).below hu.none (unhide hT).1)
  replace hB := hide ((unhide hB).trans (hu.none.mono (unhide hB).size))
  obtain ⟨ady, capy, rfl, hAy⟩ := OwnI.rd hoy
  have hyne : ∀ a, ady = some a → a.block < w2.heap.size := by
    rintro a rfl
    exact hoy.2 a.block (by simp [Value.ownBlock])
  replace hyne := hide hyne
  replace hAy := hide hAy
  replace hsym := hide hsym
  have hone := hide hTb.one
  have hcs : Hid ((Try.prog.info? 81).map (·.size) = some cs.size) := hide (by rw [hTb.size]; exact sizeCT)
  have hcz : Hid (z.size = cs.size) := hide (by rw [hTb.size, (unhide hz0).size])
  replace hTb := hide hTb
  clear hu hoy hv1
  have hz' := unhide hz
  go_upto_region 4 with (first | (refine wpList_store_row rfl 81 (.tmp 9) (.tmp 32) rfl w2.heap.size cs rfl rfl 81 z (heap_alloc_new w2 _) (unhide hcs) (unhide hcz) (unhide hone) ?_))
  have hb3 : Below w2.heap.size w2 ((w2.alloc (.cells z 81)).setRow w2.heap.size cs) := below_setRow ((Below.refl w2.heap.size w2).alloc (Nat.le_refl _) _) (Nat.le_refl _) _
  have hnx := hide (setRow_heap (w2.alloc (.cells z 81)) w2.heap.size z cs 81 (0, 0) (heap_alloc_new w2 _))
  have hsz : ((w2.alloc (.cells z 81)).setRow w2.heap.size cs).heap.size = w2.heap.size + 1 := by simp
  generalize (w2.alloc (.cells z 81)).setRow w2.heap.size cs = W3 at hnx hb3 hsz ⊢
  clear hz' hcs hcz hone
  go_upto_region 5 with fail
  have hr1 := readerAt_new W3 1 (.slice adu d.length capu) P
  have hf1 : (W3.alloc (.cells #[.int .i64 1, .slice adu d.length capu, .int .i64 P] 62)).frozen? ⟨W3.heap.size, 2, none⟩ = false := World.frozen?_alloc_at _ _ _ _ rfl
  have hb4 := (Below.refl W3.heap.size W3).alloc (Nat.le_refl _) (.cells #[.int .i64 1, .slice adu d.length capu, .int .i64 P] 62)
  have hsz5 : (W3.alloc (.cells #[.int .i64 1, .slice adu d.length capu, .int .i64 P] 62)).heap.size = w2.heap.size + 1 + 1 := by simp [hsz]
  rw [hsz] at hr1 hf1 hb4
  generalize W3.alloc (.cells #[.int .i64 1, .slice adu d.length capu, .int .i64 P] 62) = W5 at hr1 hf1 hb4 hsz5 ⊢
  have hws : w.heap.size < w2.heap.size := (unhide hT).1
  replace hnx := hide ((hb4.block w2.heap.size (by omega)).trans (unhide hnx))
  replace hb3 := hb3.trans (hb4.mono (show w2.heap.size ≤ w2.heap.size + 1 by omega))
  replace hr1 := hide hr1
  clear hb4 hsz
  go_upto_region 6 with (at_make; refine wpList_make_full _ rfl _ _ 35 rfl w.heap.size 3 i0 (.int .i64 0) 1 Try.underlying35 hi hi0 hi1 .i64 .i64 _ _ M rfl rfl (by omega) (by omega) (by rw [hi2]; omega) (by unfold maxLen; omega) (by omega) ?_; intro w4 hown hgrow)
  have hown0 := hide (show w4.ownsRow w.heap.size 3 1 (.slice (some ⟨W5.heap.size, 0, none⟩) M M) M (ints (padI [] M)) by
    rw [padI_nil, ← zeros_ints]; simpa [toList_madeCells_one, Value.cells] using hown)
  have hb5 : Below W5.heap.size W5 w4 := (Below.refl _ _).grown hgrow (Nat.le_refl _) (by simp)
  rw [hsz5] at hown0 hb5
  try rw [hsz5]
  replace hnx := hide ((hb5.block w2.heap.size (by omega)).trans (unhide hnx))
  replace hb3 := hide (hb3.trans (hb5.mono (show w2.heap.size ≤ w2.heap.size + 1 + 1 by omega)))
  have hr2 : Hid (ReaderAt w4 (w2.heap.size + 1) 1 (.slice adu d.length capu) P) := by
    obtain ⟨r0, r1, r2, r3⟩ := unhide hr1
    exact ⟨Nat.lt_of_lt_of_le r0 hb5.size, (hb5.cell (by simp)).trans r1, (hb5.cell (by simp)).trans r2, (hb5.cell (by simp)).trans r3⟩
  have hf2 : w4.frozen? ⟨w2.heap.size + 1, 2, none⟩ = false := (hb5.frozen (by simp)).trans hf1
  replace hB := hide ((unhide hB).trans ((unhide hb3).mono (by omega)))
  replace hT := hide ((unhide hT).below (unhide hb3) hws)
  clear hown hgrow hb5 hf1 hr1 hsz5
  go_wp2
  go_loopw [40] (fun i wr => ∃ k : Nat, ∃ l q, k ≤ M ∧ i = .int .i64 k ∧ Hid (rdTo zs d P k = (0, l, q)) ∧ Hid (q ≤ 9223372036854775807) ∧ wr.ownsRow w.heap.size 3 1 (.slice (some ⟨w2.heap.size + 1 + 1, 0, none⟩) M M) M (ints (padI l M)) ∧ Hid (ReaderAt wr (w2.heap.size + 1) 1 (.slice adu d.length capu) (q : Nat)) ∧ wr.frozen? ⟨w2.heap.size + 1, 2, none⟩ = false ∧ Hid (Below (w2.heap.size + 1) w4 wr)) (fun i _ => M - (intOf i).toNat)
  case atStart => exact ⟨0, [], P, Nat.zero_le _, rfl, rfl, hP, unhide hown0, hr2, hf2, Below.refl _ _⟩
  case round =>
    clear hown0 hr2 hf2
    obtain ⟨k, l, q, hkM, rfl, hr, hq, hown, hrr, hff, hbel⟩ := hrel
    by_cases hlt : k < M
    · have hb2 := (unhide hb3).trans ((unhide hbel).mono (show w2.heap.size ≤ w2.heap.size + 1 by omega))
      have hnx2 := ((unhide hbel).block w2.heap.size (by omega)).trans (unhide hnx)
      have hAy2 := (unhide hAy).below hb2
      have hTA := TabAt.cellOf (unhide hTb) hnx2 hAy2 (unhide hyne) hyl (unhide hsym)
      have hcall := implRead w2.heap.size (w2.heap.size + 1) capu adu zs ys d q wr (unhide hg) hTA hd hD ((unhide hU).below hb2) (fun hne b off e => by obtain ⟨b', off', e', hlt', _⟩ := (unhide hU) hne; rw [e] at e'; injection e' with e'; injection e' with e1 _; omega) (by omega) (unhide hq) hff (unhide hrr)
      have hT1 := hide ((unhide hT).below (unhide hbel) (by omega))
      have hpos := readOne_pos zs d q
      have hbd := rdF_bd (unhide hg).1 d q 15 0
      have hsh := hide (rdTo_short hlt (unhide hr))
      have hco := hide (rdTo_code hlt (unhide hr))
      have hnx' := hide (rdTo_next (unhide hr))
      have hll := hide (rdTo_len (unhide hr))
      change (-2 : Int) ≤ (readOne zs d q).1 ∧ (readOne zs d q).1 < 300 at hbd
      have hq2 : Hid ((readOne zs d q).2 ≤ 9223372036854775807) := hide (by have := unhide hq; omega)
      have hB4 := hide ((unhide hB).trans ((unhide hbel).mono (show w.heap.size ≤ w2.heap.size + 1 by omega)))
      have hgs := (hown.lt (w2.heap.size + 1 + 1) rfl).2
      generalize readOne zs d q = o at hcall hsh hco hnx' hq2 hbd
      obtain ⟨s, q'⟩ := o
      simp only at hcall hsh hco hnx' hq2 hbd
      replace hcall := hide hcall
      clear hpos hb2 hq hr hnx2 hAy2 hTA hrr hff
      go_wp2_with fail
      refine (unhide hcall).mono ?_
      rintro e wy ⟨hon, hcases⟩
      have hgr := hon.size
      rcases hcases with ⟨h2, rfl⟩ | ⟨h1, rfl⟩ | ⟨h0, rfl, hff, hrr⟩
      · have hE := hide (unhide hsh h2)
        have hB5 := hide ((unhide hB4).trans (hon.below (B := w.heap.size) (by omega) (by omega)))
        have hT2 := (unhide hT1).below (hon.below (B := w2.heap.size + 1) (by omega) (by omega)) (by omega)
        obtain ⟨t0, ⟨t1, t2, t3⟩, t4, t5, t6⟩ := hT2
        clear hcall hsh hco hnx' hT1 hown hbel hB4
        go_wp2
        refine bodyPost_ret (v := .agg #[.int .i64 2, .slice none 0 0, .int .i64 0]) (by simp [results, Try.results30, go_sem, t1, t2, t3]) rfl ?_
        rw [unhide hE]
        refine ⟨_, rfl, ⟨_, rfl, own_nilI _ _ _⟩, Upd.of_below ?_ 0 0⟩
        repeat (first | exact unhide hB5 | refine Below.setCell ?_ (by simp) _)
      · have hE := hide (unhide hco h1)
        have hB5 := hide ((unhide hB4).trans (hon.below (B := w.heap.size) (by omega) (by omega)))
        have hT2 := (unhide hT1).below (hon.below (B := w2.heap.size + 1) (by omega) (by omega)) (by omega)
        obtain ⟨t0, ⟨t1, t2, t3⟩, t4, t5, t6⟩ := hT2
        clear hcall hsh hco hnx' hT1 hown hbel hB4
        go_wp2
        refine bodyPost_ret (v := .agg #[.int .i64 4, .slice none 0 0, .int .i64 0]) (by simp [results, Try.results30, go_sem, t1, t2, t3]) rfl ?_
        rw [unhide hE]
        refine ⟨_, rfl, ⟨_, rfl, own_nilI _ _ _⟩, Upd.of_below ?_ 0 0⟩
        repeat (first | exact unhide hB5 | refine Below.setCell ?_ (by simp) _)
      · have hN := hide (unhide hnx' (by omega) (by omega))
        have hown1 := ownsRow_of_block hown (hon.block _ hgs (by omega))
        have hbel2 := (unhide hbel).trans (hon.below (B := w2.heap.size + 1) (by omega) (by omega))
        have hkl := unhide hll
        have hpl : (padI l M).length = M := padI_length l M (by omega)
        have hdst : ∃ u, wy.cell? ⟨w2.heap.size + 1 + 1, k, none⟩ = some u := by
          rw [hown1.cellAt k (by omega)]; exact ⟨_, List.getElem?_eq_getElem (by rw [ints_length]; omega)⟩
        obtain ⟨u, hdst⟩ := hdst
        have hfz := hown1.frozenAt k
        have hst := (hown1.stored k (.int .i64 s)).1
        rw [ints_set, ← hkl, padI_set l M s (by omega), hkl] at hst
        replace hst := hide hst
        have hB5 := hide (hbel2.setCell (p := ⟨w2.heap.size + 1 + 1, k, none⟩) (by simp) (.int .i64 s))
        have hr5 : Hid (ReaderAt (wy.setCell ⟨w2.heap.size + 1 + 1, k, none⟩ (.int .i64 s)) (w2.heap.size + 1) 1 (.slice adu d.length capu) (q' : Nat)) := by
          obtain ⟨r0, r1, r2, r3⟩ := hrr
          refine ⟨by simpa using r0, ?_, ?_, ?_⟩ <;> (rw [World.cell?_setCell_far _ _ _ _ (by simp)]; assumption)
        have hf5 : Hid ((wy.setCell ⟨w2.heap.size + 1 + 1, k, none⟩ (.int .i64 s)).frozen? ⟨w2.heap.size + 1, 2, none⟩ = false) := hide ((World.frozen?_setCell _ _ _ _).trans hff)
        clear hcall hsh hco hnx' hT1 hown hbel hB4 hown1 hbel2 hrr hff hll hpl hkl
        go_wp2
        go_roundw
        case rel => exact ⟨k + 1, _, _, by omega, by go_num, hN, hq2, unhide hst, hr5, unhide hf5, hB5⟩
        case measure => simp [intOf]; omega
    · have hkl : k = M := by omega
      subst hkl
      have hll := rdTo_len (unhide hr)
      rw [padI_full l k hll] at hown
      have hT1 := (unhide hT).below (unhide hbel) (by omega)
      obtain ⟨t0, ⟨t1, t2, t3⟩, t4, t5, t6⟩ := hT1
      obtain ⟨r0, r1, r2, r3⟩ := unhide hrr
      have hB4 := hide ((unhide hB).trans ((unhide hbel).mono (show w.heap.size ≤ w2.heap.size + 1 by omega)))
      have hO := hide (ownsRow_setCell_other (a := ⟨w.heap.size, 2, none⟩) (ownsRow_setCell_other (a := ⟨w.heap.size, 1, none⟩) (ownsRow_setCell_other (a := ⟨w.heap.size, 0, none⟩) hown (by simp [Value.ownBlock]; omega) (.int .i64 0)) (by simp [Value.ownBlock]; omega) (.slice (some ⟨w2.heap.size + 1 + 1, 0, none⟩) k k)) (by simp [Value.ownBlock]; omega) (.int .i64 (q : Nat)))
      clear hown hbel hrr
      go_wp2
      refine bodyPost_ret (v := .agg #[.int .i64 0, .slice (some ⟨w2.heap.size + 1 + 1, 0, none⟩) k k, .int .i64 (q : Nat)]) (by simp [results, Try.results30, go_sem, t1, t2, t3]) rfl ?_
      rw [unhide hr]
      refine ⟨_, rfl, ⟨_, rfl, ?_⟩, Upd.of_below ?_ 0 0⟩
      · unfold OwnI
        simp only [hll]
        exact Own.of (unhide hO)
      · repeat (first | exact unhide hB4 | refine Below.setCell ?_ (by simp) _)
end Go.Proofs.Ytcoegccnkdhpjaa
