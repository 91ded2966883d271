/- The walks of UnpackRow: the program's. -/
import Derived.Test.YthndnehadkgibaaPlainI2
import Derived.Test.YthndnehadkgibaaWRowB
import Derived.Test.YthndnehadkgibaaWTakeR
import Derived.Test.YthndnehadkgibaaWTake5
import Derived.Deep.RegionWith
namespace Go.Proofs.Ythndnehadkgibaa
open Go.RowKit

theorem own_nilIS (w : World) (a b : Nat) : OwnI w a b (.slice none 0 0) [] := ⟨World.ownsRow_nil _ _ _ _, fun k hk => by simp [Value.ownBlock] at hk⟩
theorem reader_frozen (w : World) (o : Int) (s : Value) (p : Int) : (w.alloc (.cells #[.int .i64 o, s, .int .i64 p] 75)).frozen? ⟨w.heap.size, 2, none⟩ = false := World.frozen?_alloc_at _ _ _ _ rfl
theorem ReaderAt.grown {w w' : World} {r : Nat} {o : Int} {s : Value} {p : Int} {row : Option Nat} (h : ReaderAt w r o s p) (hg : w.grownBy w' row) (hr : some r ≠ row) : ReaderAt w' r o s p := by
  obtain ⟨h0, h1, h2, h3⟩ := h
  have hb := hg.block r h0 hr
  exact ⟨Nat.lt_of_lt_of_le h0 hg.size, (World.cell?_of_block (a := ⟨r, 0, none⟩) hb).trans h1, (World.cell?_of_block (a := ⟨r, 1, none⟩) hb).trans h2, (World.cell?_of_block (a := ⟨r, 2, none⟩) hb).trans h3⟩
theorem ReaderAt.far {w : World} {r g j : Nat} {o : Int} {s u : Value} {p : Int} (h : ReaderAt w r o s p) (hg : g ≠ r) : ReaderAt (w.setCell ⟨g, j, none⟩ u) r o s p := by
  obtain ⟨h0, h1, h2, h3⟩ := h
  refine ⟨by simpa using h0, ?_, ?_, ?_⟩ <;> (rw [World.cell?_setCell_far _ _ _ _ (by simpa using hg)]; assumption)
theorem owns_onlyR {w w' : World} {base r g : Nat} {e : TypeId} {size n c : Nat} {xs : List Value} (h : w.ownsRow base e size (.slice (some ⟨g, 0, none⟩) n c) n xs) (hne : g ≠ r) (ho : OnlyAt r w w') : w'.ownsRow base e size (.slice (some ⟨g, 0, none⟩) n c) n xs := by
  refine ⟨h.1, ?_⟩
  rcases h.2 with hn | ⟨g', cap, cur, e', h1, h2, h3⟩
  · exact .inl hn
  · simp only [Value.slice.injEq, Option.some.injEq, Addr.mk.injEq, and_true, true_and] at e'
    obtain ⟨rfl, rfl⟩ := e'
    exact .inr ⟨g, c, cur, rfl, h1, by rw [ho.block g (h.lt g rfl).2 hne]; exact h2, h3⟩

set_option maxHeartbeats 8000000 in
set_option maxRecDepth 1000000 in
theorem implUnpackRow (v : Value) (zs : List Int) (m d : Int) (w : World) (hn : zs.length ≤ 1048576) (hR : InB zs) (hv : RdY w v zs) (_hl : -9223372036854775808 ≤ m) (_hh : m ≤ 9223372036854775807) (_hl2 : -9223372036854775808 ≤ d) (_hh2 : d ≤ 9223372036854775807) :
    Calls Try.prog 22 #[v, .int .i64 m, .int .i64 d] w fun e w' => ∃ u, e = .returned u ∧ OwnI w' w.heap.size w'.heap.size u (upF zs m d) ∧ Upd 0 0 w w' := by
  have hK := hide (implGoodDepth d w)
  obtain ⟨ad, cap, rfl, hA⟩ := hv
  replace hA := hide hA
  replace hR := hide hR
  by_cases hk : depthOk d = true
  · rw [hk] at hK
    by_cases hm : 0 ≤ m ∧ m ≤ 4096
    · obtain ⟨D, rfl, hD1, hD⟩ := depthOk_nat hk
      obtain ⟨M, rfl⟩ := Int.eq_ofNat_of_zero_le hm.1
      have hM : M ≤ 4096 := by omega
      have hE := hide (fun h : M * D ≤ 8 * zs.length => upF_yes (zs := zs) (M := M) (D := D) ⟨hk, by omega, by omega, by
        have : ((M : Int) * (D : Int)) = ((M * D : Nat) : Int) := by simp
        omega⟩)
      have hN := hide (fun h : ¬ M * D ≤ 8 * zs.length => upF_no (zs := zs) (m := M) (d := D) (fun h' => h (by
        have h2 := h'.2.2.2
        have : ((M : Int) * (D : Int)) = ((M * D : Nat) : Int) := by simp
        omega)))
      obtain ⟨i0, hi0, hz0, hz1, hz2⟩ := info_parts infoI
      have hr0 := readerAt_new w 1 (.slice ad zs.length cap) 0
      have hf0 := reader_frozen w 1 (.slice ad zs.length cap) 0
      have hb0 := (Below.refl w.heap.size w).alloc (Nat.le_refl _) (.cells #[.int .i64 1, .slice ad zs.length cap, .int .i64 0] 75)
      have hsz0 : (w.alloc (.cells #[.int .i64 1, .slice ad zs.length cap, .int .i64 0] 75)).heap.size = w.heap.size + 1 := by simp
      replace hk := hide hk
      clear hm
      go_enter Try.func22, Try.ntmps22
      go_wp2_with fail
      refine (unhide hK).mono ?_
      rintro e w1 ⟨rfl, rfl⟩
      clear hK
      go_wp2_with (at_make; generalize w1.alloc (.cells #[.int .i64 1, .slice ad zs.length cap, .int .i64 0] 75) = w2 at hr0 hf0 hb0 hsz0 ⊢; refine wpList_make_full _ rfl _ _ 29 rfl w2.heap.size 3 i0 (.int .i64 0) 1 Try.underlying29 hi0 hz0 hz1 .i64 .i64 _ _ M rfl rfl (by omega) (by omega) (by rw [hz2]; omega) (by unfold maxLen; omega) (Nat.le_refl _) ?_; intro w3 hown hgrow)
      have hr1 := hr0.grown hgrow (by simp)
      have hf1 := (World.frozen?_of_block (a := ⟨w1.heap.size, 2, none⟩) (hgrow.block w1.heap.size (by omega) (by simp))).trans hf0
      have hbel := hb0.grown hgrow (by omega) (by simp)
      rw [hsz0] at hown
      have hown0 : w3.ownsRow (w1.heap.size + 1) 3 1 (.slice (some ⟨w1.heap.size + 1, 0, none⟩) M M) M (partI (upL zs D M) 0) := by
        rw [partI_zero, upL_length]; simpa [toList_madeCells_one, Value.cells] using hown
      clear hown hgrow hr0 hf0 hb0 hsz0
      go_loopw [29] (fun i wr => ∃ k : Nat, k ≤ M ∧ k * D ≤ 8 * zs.length ∧ i = .int .i64 k ∧ wr.ownsRow (w1.heap.size + 1) 3 1 (.slice (some ⟨w1.heap.size + 1, 0, none⟩) M M) M (partI (upL zs D M) k) ∧ ReaderAt wr w1.heap.size 1 (.slice ad zs.length cap) ((k * D : Nat) : Int) ∧ wr.frozen? ⟨w1.heap.size, 2, none⟩ = false ∧ Below w1.heap.size w1 wr) (fun i _ => M - (intOf i).toNat)
      case atStart => exact ⟨0, Nat.zero_le _, by omega, rfl, hown0, by simpa using hr1, hf1, hbel⟩
      case round =>
        clear hown0 hbel hr1 hf1
        obtain ⟨k, hk', hkl, rfl, hown, hr, hf, hbel⟩ := hrel
        by_cases hlt : k < M
        · by_cases hin : k * D + D ≤ 8 * zs.length
          · have hne : zs ≠ [] := by rintro rfl; simp at hin; omega
            obtain ⟨b, off, rfl, hbl, hc⟩ := (unhide hA) hne
            have hps := partI_set (upL zs D M) k (by simpa using hlt)
            rw [upL_at zs D M k hlt] at hps
            have h16 := high16 zs (k * D) D hD
            have hT := hide (implTakeHighF w1.heap.size b off zs.length cap zs (k * D) D wr rfl (unhide hR) (fun j hj => (hbel.cell (by simpa using hbl)).trans (hc j hj)) hn (by omega) hin (Nat.lt_of_lt_of_le hbl hbel.size) (by omega) hf hr)
            have hnx : k * D + D = (k + 1) * D := (Nat.succ_mul k D).symm
            rw [hnx] at hT hin
            generalize highTo zs (k * D) D = x at hps h16 hT
            clear hnx hc hr hf hkl
            replace hps := hide hps
            replace hown := hide hown
            go_wp2_with fail
            refine (unhide hT).mono ?_
            rintro e w5 ⟨rfl, hr2, hf2, hon⟩
            have hown2 := owns_onlyR (unhide hown) (by omega) hon
            have hbel2 := hbel.trans (hon.below (Nat.le_refl _) hbel.size)
            clear hT hon hown hbel
            have hdst : ∃ u, w5.cell? ⟨w1.heap.size + 1, k, none⟩ = some u := by
              rw [hown2.cellAt k (by omega)]; exact ⟨_, List.getElem?_eq_getElem (by have := hown2.1; omega)⟩
            obtain ⟨u, hdst⟩ := hdst
            have hfz := hown2.frozenAt k
            have hst := (hown2.stored k (.int .i64 x)).1
            rw [unhide hps] at hst
            have hb3 := hide (hbel2.setCell (p := ⟨w1.heap.size + 1, k, none⟩) (by simp) (.int .i64 x))
            have hr3 := hide (hr2.far (g := w1.heap.size + 1) (j := k) (u := .int .i64 x) (by omega))
            have hf3 := hide ((show (w5.setCell ⟨w1.heap.size + 1, k, none⟩ (.int .i64 x)).frozen? ⟨w1.heap.size, 2, none⟩ = false from (World.frozen?_setCell _ _ _ _).trans hf2))
            replace hst := hide hst
            clear hown2 hbel2 hr2 hf2
            go_wp2
            go_roundw
            case rel => exact ⟨k + 1, by omega, hin, by go_num, unhide hst, unhide hr3, unhide hf3, unhide hb3⟩
            case measure => simp [intOf]; omega
          · have hB := hide (unhide hN (by
              have := Nat.mul_le_mul_right D (show k + 1 ≤ M by omega)
              rw [Nat.succ_mul] at this; omega))
            have hT := hide (takeBad w1.heap.size 1 ad zs.length cap ((k * D : Nat) : Int) (D : Int) wr hn hr (by omega))
            clear hr hf hown
            go_wp2_with fail
            refine (unhide hT).mono ?_
            rintro e w5 ⟨rfl, nq, rfl⟩
            clear hT
            go_wp2
            go_ret
            refine ⟨_, rfl, ?_, (Upd.of_below hbel 0 0).drewN _⟩
            rw [unhide hB]; exact own_nilIS _ _ _
        · have hkl2 : k = M := by omega
          subst hkl2
          have hpa := partI_all (upL zs D k)
          rw [upL_length] at hpa
          rw [hpa] at hown
          have ho : OwnI wr w1.heap.size wr.heap.size (.slice (some ⟨w1.heap.size + 1, 0, none⟩) k k) (upF zs k D) := by
            rw [unhide hE hkl]
            unfold OwnI; rw [upL_length]; exact Own.of (ownsRow_base hown (by omega))
          replace ho := hide ho
          clear hown hpa hr hf
          go_wp2
          go_ret
          exact ⟨_, rfl, unhide ho, Upd.of_below hbel 0 0⟩
    · have hE := hide (upF_no (zs := zs) (m := m) (d := d) (fun h => hm ⟨h.2.1, h.2.2.1⟩))
      replace hk := hide hk
      by_cases h0 : m < 0
      · clear hm
        go_enter Try.func22, Try.ntmps22
        go_wp2_with fail
        refine (unhide hK).mono ?_
        rintro e w1 ⟨rfl, rfl⟩
        clear hK
        go_wp2
        go_ret
        refine ⟨_, rfl, ?_, Upd.refl _ _ _⟩
        rw [unhide hE]; exact own_nilIS _ _ _
      · have h1 : 4096 < m := by omega
        clear hm
        go_enter Try.func22, Try.ntmps22
        go_wp2_with fail
        refine (unhide hK).mono ?_
        rintro e w1 ⟨rfl, rfl⟩
        clear hK
        go_wp2
        go_ret
        refine ⟨_, rfl, ?_, Upd.refl _ _ _⟩
        rw [unhide hE]; exact own_nilIS _ _ _
  · have hk' : depthOk d = false := by simpa using hk
    rw [hk'] at hK
    have hE := hide (upF_no (zs := zs) (m := m) (d := d) (fun h => hk h.1))
    replace hk := hide hk
    replace hk' := hide hk'
    go_enter Try.func22, Try.ntmps22
    go_wp2_with fail
    refine (unhide hK).mono ?_
    rintro e w1 ⟨rfl, rfl⟩
    clear hK
    go_wp2
    go_ret
    refine ⟨_, rfl, ?_, Upd.refl _ _ _⟩
    rw [unhide hE]; exact own_nilIS _ _ _
end Go.Proofs.Ythndnehadkgibaa
