/- The walk of the drawing of a row to be packed. -/
import Derived.Test.YthndnehadkgibaaWCurB
namespace Go.Proofs.Ythndnehadkgibaa
open Go.RowKit

theorem Own.only {e : TypeId} {s : Nat} {w w' : World} {a b c : Nat} {v : Value} {n : Nat} {xs : List Value} (h : Own e s w a b v n xs) (hc : c < a) (o : OnlyAt c w w') : Own e s w' a b v n xs := by
  refine ⟨⟨h.1.1, ?_⟩, h.2⟩
  rcases h.1.2 with hn | ⟨g, cap, cur, rfl, h1, h2, h3⟩
  · exact .inl hn
  · exact .inr ⟨g, cap, cur, rfl, h1, by rw [o.block g (h.1.lt g rfl).2 (by omega)]; exact h2, h3⟩
theorem inI_of_inT {T : Int} (hT : T ≤ 9223372036854775807) {xs : List Int} (h : InT T xs) : InI xs := by
  intro j
  by_cases hj : j < xs.length
  · have := h j hj; omega
  · rw [List.getD_eq_getElem?_getD, List.getElem?_eq_none (by omega)]; simp
theorem inI_set {xs : List Int} (h : InI xs) (k : Nat) {x : Int} (hx : -9223372036854775808 ≤ x ∧ x ≤ 9223372036854775807) : InI (xs.set k x) := by
  intro j
  rw [List.getD_eq_getElem?_getD]
  by_cases e : k = j
  · subst e
    by_cases hk : k < xs.length
    · rw [List.getElem?_set_self hk]; exact hx
    · rw [List.getElem?_eq_none (by simp; omega)]; simp
  · rw [List.getElem?_set_ne e, ← List.getD_eq_getElem?_getD]; exact h j
theorem inI_zeros (n : Nat) : InI (List.replicate n 0) := by
  intro j; rw [List.getD_eq_getElem?_getD, List.getElem?_replicate]; split <;> simp
def depCells : List Value := [.int .i64 1, .int .i64 2, .int .i64 4, .int .i64 8, .int .i64 16]

set_option maxHeartbeats 16000000 in
set_option maxRecDepth 1000000 in
theorem drawPackRow (ad : Option Addr) (cap : Nat) (zs : List Int) (w : World) (h : ArgB w ad zs) (hl : zs.length ≤ 1048576) :
    Calls Try.prog 18 #[.slice ad zs.length cap] w fun e w' => ∃ v xs d, e = .returned (.tuple #[v, .int .i64 d]) ∧ xs.length ≤ 4097 ∧ InI xs ∧ (0 ≤ d ∧ d ≤ 17) ∧ OwnI w' w.heap.size w'.heap.size v xs ∧ Below w.heap.size w w' := by
  have hc := hide (curIn_new w ad cap zs h)
  have hbC := (Below.refl w.heap.size w).alloc (Nat.le_refl _) (.cells #[.slice ad zs.length cap, .int .i64 0, .int .u64 0] 67)
  have hszC : (w.alloc (.cells #[.slice ad zs.length cap, .int .i64 0, .int .u64 0] 67)).heap.size = w.heap.size + 1 := by simp
  have hH := held_new (w.alloc (.cells #[.slice ad zs.length cap, .int .i64 0, .int .u64 0] 67)) depCells 3
  have hpick := hide (fun (m' : Nat) (n : Int) (W : World) (hc : CurIn W w.heap.size ad cap zs m') (h1 : m' ≤ 1099511627000) (h2 : n ≤ 1000000) => curPickAny w.heap.size ad cap zs m' n W hc h1 hl h2)
  go_enter Try.func18, Try.ntmps18
  go_wp2_with fail
  have hc1 := hide ((unhide hc).grown ((Below.refl _ (w.alloc (.cells #[.slice ad zs.length cap, .int .i64 0, .int .u64 0] 67))).alloc (Nat.le_refl _) (.cells depCells.toArray 3)))
  have hb1 := hbC.alloc (by simp) (.cells depCells.toArray 3)
  rw [hszC] at hH
  change Calls _ _ _ ((w.alloc (.cells #[.slice ad zs.length cap, .int .i64 0, .int .u64 0] 67)).alloc (.cells depCells.toArray 3)) _
  generalize (w.alloc (.cells #[.slice ad zs.length cap, .int .i64 0, .int .u64 0] 67)).alloc (.cells depCells.toArray 3) = W0 at hH hc1 hb1 ⊢
  clear hc hbC
  refine (unhide hpick 0 5 W0 (unhide hc1) (by omega) (by omega)).mono ?_
  rintro e W1 ⟨X, rfl, X0, X1, hcx, hox⟩
  replace X1 := X1 (by omega)
  have hD : ∃ D : Nat, 1 ≤ D ∧ D ≤ 16 ∧ W1.cell? ⟨w.heap.size + 1, X.toNat, none⟩ = some (.int .i64 D) := by
    have hcell := fun j v hj => (hox.cell (p := ⟨w.heap.size + 1, j, none⟩) hH.1 (by simp)).trans (hH.2 j v hj)
    rcases (show X = 0 ∨ X = 1 ∨ X = 2 ∨ X = 3 ∨ X = 4 by omega) with e | e | e | e | e <;> subst e
    · exact ⟨1, by omega, by omega, hcell 0 _ rfl⟩
    · exact ⟨2, by omega, by omega, hcell 1 _ rfl⟩
    · exact ⟨4, by omega, by omega, hcell 2 _ rfl⟩
    · exact ⟨8, by omega, by omega, hcell 3 _ rfl⟩
    · exact ⟨16, by omega, by omega, hcell 4 _ rfl⟩
  obtain ⟨D, D1, D2, hDc⟩ := hD
  obtain ⟨x, rfl⟩ := Int.eq_ofNat_of_zero_le X0
  rw [Int.toNat_natCast] at hDc
  have hx5 : (x : Int) < 5 := X1
  have hx0 : (0 : Int) ≤ (x : Int) := by omega
  have hb2 := hide (hb1.trans (hox.below (Nat.le_refl _) hb1.size))
  have hc2 := hide hcx
  clear hcx hox hc1 hb1 hH
  go_wp2_with fail
  clear hDc
  refine (unhide hpick (0 + 3) 20 W1 (unhide hc2) (by omega) (by omega)).mono ?_
  rintro e W2 ⟨A, rfl, A0, A1, hcx, hox⟩
  replace A1 := A1 (by omega)
  obtain ⟨a, rfl⟩ := Int.eq_ofNat_of_zero_le A0
  have hb3 := hide ((unhide hb2).trans (hox.below (Nat.le_refl _) (unhide hb2).size))
  have hc3 := hide hcx
  clear hcx hox hc2 hb2
  go_wp2_with fail
  have hS := curSamples w.heap.size ad cap zs (0 + 3 + 3) a 1 1 a D W2 (unhide hc3) (by omega) hl (by omega) (by omega) (by omega) (by omega) (by omega) ⟨D1, D2⟩
  refine hS.mono ?_
  rintro e W3 ⟨v, xs, rfl, hxl, hxT, hov, hcx, hox⟩
  have hxI := hide (inI_of_inT (by have := (two_pow_16 D2).2; omega) hxT)
  have hsz2 : w.heap.size < W2.heap.size := by obtain ⟨_, _, ⟨h0, _⟩, _⟩ := unhide hc3; exact h0
  have hsz3 := hox.size
  have hb4 := hide ((unhide hb3).trans (hox.below (Nat.le_refl _) (unhide hb3).size))
  have hc4 := hide (hcx.more (show 0 + 3 + 3 + 12 + 3 * a ≤ 100 by omega))
  have ho4 := hide hov
  clear hcx hox hc3 hb3 hS hxT hov
  subst hxl
  have hxl2 : xs.length ≤ 20 := by omega
  go_wp2_with fail
  refine (unhide hpick 100 9 W3 (unhide hc4) (by omega) (by omega)).mono ?_
  rintro e W4 ⟨q, rfl, q0, q1, hcx, hox⟩
  replace q1 := q1 (by omega)
  have hsz4 := hox.size
  have hb5 := hide ((unhide hb4).trans (hox.below (Nat.le_refl _) (unhide hb4).size))
  have hc5 := hide hcx
  have ho5 := hide ((unhide ho4).only (by omega) hox)
  clear hcx hox hc4 hb4 ho4
  have hDI : (0 : Int) ≤ (D : Int) ∧ (D : Int) ≤ 17 := by omega
  by_cases e0 : q = 0
  · subst e0
    go_wp2_with fail
    refine (unhide hpick (100 + 3) 18 W4 (unhide hc5) (by omega) (by omega)).mono ?_
    rintro e W5 ⟨d, rfl, d0, d1, hcx, hox⟩
    replace d1 := d1 (by omega)
    have hsz5 := hox.size
    have hb6 := hide ((unhide hb5).trans (hox.below (Nat.le_refl _) (unhide hb5).size))
    have ho6 := hide (own_mono ((unhide ho5).only (by omega) hox) (show w.heap.size ≤ W2.heap.size by omega) (show W3.heap.size ≤ W5.heap.size by omega))
    clear hcx hox hc5 hb5 ho5
    go_wp2
    go_ret2
    exact ⟨v, xs, d, rfl, by omega, unhide hxI, by omega, unhide ho6, unhide hb6⟩
  · have n0 : (q == 0) = false := beq_eq_false_iff_ne.2 e0
    by_cases e1 : q = 1
    · subst e1
      by_cases hpos : 0 < xs.length
      · obtain ⟨ad', cap', hv, _⟩ := OwnI.rd (unhide ho5)
        have hg : ∃ g, v = .slice (some ⟨g, 0, none⟩) xs.length cap' ∧ W2.heap.size ≤ g := by
          rcases (unhide ho5).1.2 with ⟨e, h0⟩ | ⟨g, cp, cur, e, h1, _⟩
          · omega
          · rw [hv] at e
            simp only [Value.slice.injEq] at e
            exact ⟨g, by rw [hv, e.1], h1⟩
        obtain ⟨g, hv2, hg2⟩ := hg
        clear hv
        subst hv2
        have hposI : (0 : Int) < (xs.length : Int) := by omega
        go_wp2_with fail
        refine (unhide hpick (100 + 3) xs.length W4 (unhide hc5) (by omega) (by omega)).mono ?_
        rintro e W5 ⟨Y, rfl, Y0, Y1, hcx, hox⟩
        replace Y1 := Y1 (by omega)
        obtain ⟨y, rfl⟩ := Int.eq_ofNat_of_zero_le Y0
        have hyl : y < xs.length := by omega
        have hsz5 := hox.size
        have hb6 := (unhide hb5).trans (hox.below (Nat.le_refl _) (unhide hb5).size)
        have ho6 := (unhide ho5).only (by omega) hox
        have hp := two_pow_16 D2
        obtain ⟨T, hTe⟩ : ∃ T : Int, (2 : Int) ^ D = T := ⟨_, rfl⟩
        rw [hTe] at hp
        have hsl : IntKind.i64.wrap T = T := by simp [IntKind.wrap, IntKind.bits, IntKind.signed]; omega
        have hst := (ho6.1.stored y (.int .i64 T)).1
        rw [ints_set] at hst
        have hdst : ∃ u, W5.cell? ⟨g, y, none⟩ = some u := by
          rw [ho6.1.cellAt y (by omega)]; exact ⟨_, List.getElem?_eq_getElem (by have := ho6.1.1; omega)⟩
        obtain ⟨u, hdst⟩ := hdst
        have hfz := ho6.1.frozenAt y
        have hb7 := hide (hb6.setCell (p := ⟨g, y, none⟩) (by simp; omega) (.int .i64 T))
        have ho7 : OwnI (W5.setCell ⟨g, y, none⟩ (.int .i64 T)) w.heap.size (W5.setCell ⟨g, y, none⟩ (.int .i64 T)).heap.size (.slice (some ⟨g, 0, none⟩) xs.length cap') (xs.set y T) := by
          unfold OwnI; rw [List.length_set]
          exact own_mono (Own.of hst) (by omega) (Nat.le_refl _)
        replace ho7 := hide ho7
        have hxI2 := hide (inI_set (unhide hxI) y (x := T) (by omega))
        clear hcx hox hc5 hb5 ho5 hst ho6 hb6 hpick
        have hDu : IntKind.u64.wrap (D:Int) = D := by simp [IntKind.wrap, IntKind.bits, IntKind.signed]; omega
        go_wp2
        go_ret2
        exact ⟨_, xs.set y T, D, rfl, by simp; omega, unhide hxI2, by omega, unhide ho7, unhide hb7⟩
      · have hx0' : xs.length = 0 := by omega
        obtain ⟨ad', cap', hv, _⟩ := OwnI.rd (unhide ho5)
        subst hv
        rw [hx0'] at ho5 ⊢
        have ho6 := hide (own_mono (unhide ho5) (show w.heap.size ≤ W2.heap.size by omega) (show W3.heap.size ≤ W4.heap.size by omega))
        clear hc5 ho5
        go_wp2
        go_ret2
        exact ⟨_, xs, D, rfl, by omega, unhide hxI, by omega, by unfold OwnI; rw [hx0']; exact unhide ho6, unhide hb5⟩
    · have n1 : (q == 1) = false := beq_eq_false_iff_ne.2 e1
      by_cases e2 : q = 2
      · subst e2
        have hOne := hide (curOne w.heap.size ad cap zs (100 + 3) 5 W4 (unhide hc5) (by omega) hl (by omega) (by omega))
        go_wp2_with fail
        refine (unhide hOne).mono ?_
        rintro e W5 ⟨bb, rfl, hcx, hox⟩
        have hsz5 := hox.size
        have hb6 := hide ((unhide hb5).trans (hox.below (Nat.le_refl _) (unhide hb5).size))
        have hc6 := hide hcx
        have ho6 := hide (own_mono ((unhide ho5).only (by omega) hox) (show w.heap.size ≤ W2.heap.size by omega) (show W3.heap.size ≤ W5.heap.size by omega))
        clear hcx hox hc5 hb5 ho5 hOne
        cases bb
        · go_wp2
          go_ret2
          exact ⟨v, xs, D, rfl, by omega, unhide hxI, by omega, unhide ho6, unhide hb6⟩
        · obtain ⟨i0, hi, hz0, hz1, hz2⟩ := info_parts infoI
          clear ho6
          go_wp2_with fail
          refine (unhide hpick (100 + 3 + 1) 2 W5 (unhide hc6) (by omega) (by omega)).mono ?_
          rintro e W6 ⟨Y, rfl, Y0, Y1, hcx, hox⟩
          replace Y1 := Y1 (by omega)
          obtain ⟨y, rfl⟩ := Int.eq_ofNat_of_zero_le Y0
          have hb7 := (unhide hb6).trans (hox.below (Nat.le_refl _) (unhide hb6).size)
          clear hcx hox hc6 hb6
          go_wp2_with (at_make; refine wpList_make_full _ rfl _ _ 29 rfl W6.heap.size 3 i0 (.int .i64 0) 1 Try.underlying29 hi hz0 hz1 .i64 .i64 _ _ (4096 + y) (by rfl) (by rfl) (by omega) (by omega) (by rw [hz2]; omega) (by unfold maxLen; omega) (Nat.le_refl _) ?_; intro W7 hown hgrow)
          have hb8 := hide (hb7.grown hgrow (by have := hb7.size; omega) (by simp))
          have hos : W7.ownsRow W6.heap.size 3 1 (.slice (some ⟨W6.heap.size, 0, none⟩) (4096 + y) (4096 + y)) (4096 + y) (ints (List.replicate (4096 + y) 0)) := by
            rw [ints_zeros]; simpa [toList_madeCells_one, Value.cells] using hown
          have ho7 : OwnI W7 w.heap.size W7.heap.size (.slice (some ⟨W6.heap.size, 0, none⟩) (4096 + y) (4096 + y)) (List.replicate (4096 + y) 0) := by
            unfold OwnI; rw [List.length_replicate]; exact own_mono (Own.of hos) hb7.size (Nat.le_refl _)
          replace ho7 := hide ho7
          clear hown hgrow hos hb7
          go_wp2
          go_ret2
          exact ⟨_, List.replicate (4096 + y) 0, D, rfl, by simp; omega, inI_zeros _, by omega, unhide ho7, unhide hb8⟩
      · have n2 : (q == 2) = false := beq_eq_false_iff_ne.2 e2
        have ho6 := hide (own_mono (unhide ho5) (show w.heap.size ≤ W2.heap.size by omega) (show W3.heap.size ≤ W4.heap.size by omega))
        clear hc5 ho5
        go_wp2
        go_ret2
        exact ⟨v, xs, D, rfl, by omega, unhide hxI, by omega, unhide ho6, unhide hb5⟩
end Go.Proofs.Ythndnehadkgibaa
