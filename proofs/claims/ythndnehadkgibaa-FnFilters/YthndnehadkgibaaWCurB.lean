/- The cursor that draws: lists of samples. -/
import Derived.Test.YthndnehadkgibaaWCurA
import Derived.Test.YthndnehadkgibaaPlainI
namespace Go.Proofs.Ythndnehadkgibaa
open Go.RowKit

theorem OnlyAt.trans2 {c : Nat} {w w' : World} (h : OnlyAt c w w') (k : Nat) (u : Value) : OnlyAt c w (w'.setCell ⟨w.heap.size, k, none⟩ u) :=
  ⟨h.os, h.tape, h.output, by simpa using h.size, fun j hj hjc => (Below.heap_setCell w' ⟨w.heap.size, k, none⟩ u j (by simp; omega)).trans (h.block j hj hjc)⟩

set_option maxHeartbeats 16000000 in
set_option maxRecDepth 1000000 in
theorem curSamples (c : Nat) (ad : Option Addr) (cap : Nat) (zs : List Int) (m a b p N D : Nat) (w : World) (h : CurIn w c ad cap zs m) (hm : m ≤ 1099511000000) (hl : zs.length ≤ 1048576)
    (ha : a ≤ 1024) (hb : b ≤ 1024) (hp : 1 ≤ p ∧ p ≤ 4) (hN : a * b * p = N) (hN2 : N ≤ 16384) (hD : 1 ≤ D ∧ D ≤ 16) :
    Calls Try.prog 47 #[.pointer (some ⟨c, 0, none⟩), .int .i64 a, .int .i64 b, .int .i64 p, .int .i64 D] w fun e w' => ∃ v xs, e = .returned v ∧ xs.length = N ∧ InT (2 ^ D) xs ∧ OwnI w' w.heap.size w'.heap.size v xs ∧ CurIn w' c ad cap zs (m + 12 + 3 * N) ∧ OnlyAt c w w' := by
  obtain ⟨i0, hi, hz0, hz1, hz2⟩ := info_parts infoI
  obtain ⟨p1, p2⟩ := hp
  obtain ⟨D1, D2⟩ := hD
  have hT := two_pow_16 D2
  have hT2 : (2 : Int) ≤ (2 : Int) ^ D := by
    have h1 : 2 ^ 1 ≤ 2 ^ D := Nat.pow_le_pow_right (by omega) D1
    rw [two_pow_n]; omega
  obtain ⟨T, hTe⟩ : ∃ T : Int, (2 : Int) ^ D = T := ⟨_, rfl⟩
  rw [hTe] at hT hT2 ⊢
  obtain ⟨T0, T1⟩ := hT
  have hab : a * b ≤ 1048576 := Nat.mul_le_mul ha hb
  have hab' : ((a : Int) * (b : Int)) = ((a * b : Nat) : Int) := by simp
  have hNI : (((a * b : Nat) : Int) * (p : Int)) = (N : Int) := by rw [← hN]; simp
  have ha1 : 0 < N → 1 ≤ a := fun hpos => by
    rcases Nat.eq_zero_or_pos a with h0 | h0
    · subst h0; simp at hN; omega
    · exact h0
  clear hN
  generalize a * b = ab at hab hab' hNI
  have hcl : c < w.heap.size := by obtain ⟨_, _, ⟨h0, _⟩, _⟩ := h; exact h0
  have hadl : ∀ b' off, ad = some ⟨b', off, none⟩ → zs ≠ [] → b' < w.heap.size := fun b' off e hne => by
    obtain ⟨_, _, ⟨_, _, _, _, _, _, _, hbs⟩, _⟩ := h
    obtain ⟨b2, off2, e2, hl2, _⟩ := hbs hne
    rw [e] at e2
    simp only [Option.some.injEq, Addr.mk.injEq, and_true] at e2
    omega
  replace hadl := hide hadl
  replace ha1 := hide ha1
  replace hTe := hide hTe
  have hpick := hide (fun (m' : Nat) (n : Int) (W : World) (hc : CurIn W c ad cap zs m') (h1 : m' ≤ 1099511627000) (h2 : n ≤ 1000000) => curPickAny c ad cap zs m' n W hc h1 hl h2)
  have hsl : IntKind.i64.wrap T = T := by simp [IntKind.wrap, IntKind.bits, IntKind.signed]; omega
  replace h := hide h
  have hTe2 := unhide hTe
  go_enter Try.func47, Try.ntmps47
  go_wp2_with (at_make; refine wpList_make_full _ rfl _ _ 29 rfl w.heap.size 3 i0 (.int .i64 0) 1 Try.underlying29 hi hz0 hz1 .i64 .i64 _ _ N rfl rfl (by omega) (by omega) (by rw [hz2]; omega) (by unfold maxLen; omega) (Nat.le_refl _) ?_; intro w1 hown hgrow)
  have hbel := (Below.refl w.heap.size w).grown hgrow (Nat.le_refl _) (by simp)
  have hc0 := hide ((unhide h).grown hbel)
  have hg0 := hide (show OnlyAt c w w1 from ⟨hbel.os, hbel.tape, hbel.output, hbel.size, fun k hk _ => hbel.block k hk⟩)
  have hos : w1.ownsRow w.heap.size 3 1 (.slice (some ⟨w.heap.size, 0, none⟩) N N) N (ints (List.replicate N 0)) := by
    rw [ints_zeros]; simpa [toList_madeCells_one, Value.cells] using hown
  have ho0 := hide hos
  clear hown hgrow hos hbel h
  go_wp2_with fail
  refine (unhide hpick (m) 30 w1 (unhide hc0) (by omega) (by omega)).mono ?_
  rintro e w2 ⟨dx, rfl, dx0, dx1, hcx, hox⟩
  have hw0 := owns_onlyI (unhide ho0) (by omega) hox
  have hc1 := hide hcx
  have hg1 := hide ((unhide hg0).trans hox)
  have ho1 := hide hw0
  clear hcx hox hw0 hc0 hg0 ho0
  go_wp2_with fail
  refine (unhide hpick (m + 3) 30 w2 (unhide hc1) (by omega) (by omega)).mono ?_
  rintro e w3 ⟨dy, rfl, dy0, dy1, hcx, hox⟩
  have hw1 := owns_onlyI (unhide ho1) (by omega) hox
  have hc2 := hide hcx
  have hg2 := hide ((unhide hg1).trans hox)
  have ho2 := hide hw1
  clear hcx hox hw1 hc1 hg1 ho1
  go_wp2_with fail
  refine (unhide hpick (m + 3 + 3) T w3 (unhide hc2) (by omega) (by omega)).mono ?_
  rintro e w4 ⟨bs, rfl, bs0, bs1, hcx, hox⟩
  have hw2 := owns_onlyI (unhide ho2) (by omega) hox
  have hc3 := hide hcx
  have hg3 := hide ((unhide hg2).trans hox)
  have ho3 := hide hw2
  clear hcx hox hw2 hc2 hg2 ho2
  go_wp2_with fail
  refine (unhide hpick (m + 3 + 3 + 3) 4 w4 (unhide hc3) (by omega) (by omega)).mono ?_
  rintro e w5 ⟨ns, rfl, ns0, ns1, hcx, hox⟩
  have hw3 := owns_onlyI (unhide ho3) (by omega) hox
  have hc4 := hide hcx
  have hg4 := hide ((unhide hg3).trans hox)
  have ho4 := hide hw3
  clear hcx hox hw3 hc3 hg3 ho3
  replace dx1 := dx1 (by omega)
  replace dy1 := dy1 (by omega)
  replace bs1 := bs1 (by omega)
  replace ns1 := ns1 (by omega)
  go_wp2_with fail
  go_loopw [45] (fun i wr => ∃ k : Nat, ∃ xs : List Int, k ≤ N ∧ i = .int .i64 k ∧ xs.length = N ∧ Hid (InT T xs) ∧ Hid (wr.ownsRow w.heap.size 3 1 (.slice (some ⟨w.heap.size, 0, none⟩) N N) N (ints xs)) ∧ Hid (CurIn wr c ad cap zs (m + 12 + 3 * k)) ∧ Hid (OnlyAt c w wr)) (fun i _ => N - (intOf i).toNat)
  case atStart => exact ⟨0, List.replicate N 0, Nat.zero_le _, rfl, by simp, inT_zeros (by omega) N, ho4, hc4, hg4⟩
  case round =>
    clear ho4 hc4 hg4
    obtain ⟨k, xs, hk, rfl, hxl, hxT, hox, hcx, hgx⟩ := hrel
    by_cases hlt : k < N
    · have ha1' := unhide ha1 (by omega)
      have ha0 : ((a : Int) == 0) = false := beq_eq_false_iff_ne.2 (by omega)
      have hp0 : ((p : Int) == 0) = false := beq_eq_false_iff_ne.2 (by omega)
      have ha2 : ¬ ((a : Int) = 0) := by omega
      have hp2 : ¬ ((p : Int) = 0) := by omega
      have ha3 : (1 : Int) ≤ (a : Int) := by omega
      have hp3 : (1 : Int) ≤ (p : Int) := by omega
      rcases (show ns = 0 ∨ ns = 1 ∨ ns = 2 ∨ ns = 3 by omega) with e | e | e | e
      · subst e
        have hox' := unhide hox
        have hcell : ∃ u, wr.cell? ⟨w.heap.size, k, none⟩ = some u := by
          rw [hox'.cellAt k (by omega)]; exact ⟨_, List.getElem?_eq_getElem (by have := hox'.1; omega)⟩
        obtain ⟨uu, hdst⟩ := hcell
        have hfz := hox'.frozenAt k
        have hst := hide (fun x : Int => by have := (hox'.stored k (.int .i64 x)).1; rw [ints_set] at this; exact this)
        have hcs := hide (fun x : Int => (unhide hcx).setFar (g := w.heap.size) (o := k) (u := .int .i64 x) (by omega) (fun b' off e hne => by have := unhide hadl b' off e hne; omega))
        have hgs := hide (fun x : Int => show OnlyAt c w (wr.setCell ⟨w.heap.size, k, none⟩ (.int .i64 x)) from (unhide hgx).trans2 k (.int .i64 x))
        clear hox' hox hcx hgx
        go_wp2
        all_goals
          go_roundw
          case rel =>
            exact ⟨k + 1, xs.set k _, by omega, by go_num, by simp [hxl], hide ((unhide hxT).set (by omega) (by omega) k), hide (unhide hst _), hide ((unhide hcs _).more (by omega)), hide (unhide hgs _)⟩
          case measure => simp [intOf]; omega
      · subst e
        go_wp2_with fail
        refine (unhide hpick (m + 12 + 3 * k) 9 wr (unhide hcx) (by omega) (by omega)).mono ?_
        rintro e wq ⟨pk, rfl, pk0, pk1, hcq, hoq⟩
        replace pk1 := pk1 (by omega)
        replace hox := hide (owns_onlyI (unhide hox) (by omega) hoq)
        replace hcx := hide hcq
        replace hgx := hide ((unhide hgx).trans hoq)
        clear hcq hoq
        have hox' := unhide hox
        have hcell : ∃ u, wq.cell? ⟨w.heap.size, k, none⟩ = some u := by
          rw [hox'.cellAt k (by omega)]; exact ⟨_, List.getElem?_eq_getElem (by have := hox'.1; omega)⟩
        obtain ⟨uu, hdst⟩ := hcell
        have hfz := hox'.frozenAt k
        have hst := hide (fun x : Int => by have := (hox'.stored k (.int .i64 x)).1; rw [ints_set] at this; exact this)
        have hcs := hide (fun x : Int => (unhide hcx).setFar (g := w.heap.size) (o := k) (u := .int .i64 x) (by omega) (fun b' off e hne => by have := unhide hadl b' off e hne; omega))
        have hgs := hide (fun x : Int => show OnlyAt c w (wq.setCell ⟨w.heap.size, k, none⟩ (.int .i64 x)) from (unhide hgx).trans2 k (.int .i64 x))
        clear hox' hox hcx hgx
        go_wp2
        all_goals
          go_roundw
          case rel =>
            exact ⟨k + 1, xs.set k _, by omega, by go_num, by simp [hxl], hide ((unhide hxT).set (by omega) (by omega) k), hide (unhide hst _), hide ((unhide hcs _).more (by omega)), hide (unhide hgs _)⟩
          case measure => simp [intOf]; omega
      · subst e
        have hxa : ∃ X : Int, (k : Int) / (p : Int) % (a : Int) = X := ⟨_, rfl⟩
        obtain ⟨X, hX⟩ := hxa
        by_cases hh : (a : Int) / 2 < X
        · have q : decide ((a : Int) / 2 < X) = true := by simpa using hh
          have hox' := unhide hox
          have hcell : ∃ u, wr.cell? ⟨w.heap.size, k, none⟩ = some u := by
            rw [hox'.cellAt k (by omega)]; exact ⟨_, List.getElem?_eq_getElem (by have := hox'.1; omega)⟩
          obtain ⟨uu, hdst⟩ := hcell
          have hfz := hox'.frozenAt k
          have hst := hide (fun x : Int => by have := (hox'.stored k (.int .i64 x)).1; rw [ints_set] at this; exact this)
          have hcs := hide (fun x : Int => (unhide hcx).setFar (g := w.heap.size) (o := k) (u := .int .i64 x) (by omega) (fun b' off e hne => by have := unhide hadl b' off e hne; omega))
          have hgs := hide (fun x : Int => show OnlyAt c w (wr.setCell ⟨w.heap.size, k, none⟩ (.int .i64 x)) from (unhide hgx).trans2 k (.int .i64 x))
          clear hox' hox hcx hgx
          go_wp2
          all_goals
            go_roundw
            case rel =>
              exact ⟨k + 1, xs.set k _, by omega, by go_num, by simp [hxl], hide ((unhide hxT).set (by omega) (by omega) k), hide (unhide hst _), hide ((unhide hcs _).more (by omega)), hide (unhide hgs _)⟩
            case measure => simp [intOf]; omega
        · have q : decide ((a : Int) / 2 < X) = false := by simpa using hh
          have hox' := unhide hox
          have hcell : ∃ u, wr.cell? ⟨w.heap.size, k, none⟩ = some u := by
            rw [hox'.cellAt k (by omega)]; exact ⟨_, List.getElem?_eq_getElem (by have := hox'.1; omega)⟩
          obtain ⟨uu, hdst⟩ := hcell
          have hfz := hox'.frozenAt k
          have hst := hide (fun x : Int => by have := (hox'.stored k (.int .i64 x)).1; rw [ints_set] at this; exact this)
          have hcs := hide (fun x : Int => (unhide hcx).setFar (g := w.heap.size) (o := k) (u := .int .i64 x) (by omega) (fun b' off e hne => by have := unhide hadl b' off e hne; omega))
          have hgs := hide (fun x : Int => show OnlyAt c w (wr.setCell ⟨w.heap.size, k, none⟩ (.int .i64 x)) from (unhide hgx).trans2 k (.int .i64 x))
          clear hox' hox hcx hgx
          go_wp2
          all_goals
            go_roundw
            case rel =>
              exact ⟨k + 1, xs.set k _, by omega, by go_num, by simp [hxl], hide ((unhide hxT).set (by omega) (by omega) k), hide (unhide hst _), hide ((unhide hcs _).more (by omega)), hide (unhide hgs _)⟩
            case measure => simp [intOf]; omega
      · subst e
        go_wp2_with fail
        refine (unhide hpick (m + 12 + 3 * k) T wr (unhide hcx) (by omega) (by omega)).mono ?_
        rintro e wq ⟨pk, rfl, pk0, pk1, hcq, hoq⟩
        replace pk1 := pk1 (by omega)
        replace hox := hide (owns_onlyI (unhide hox) (by omega) hoq)
        replace hcx := hide hcq
        replace hgx := hide ((unhide hgx).trans hoq)
        clear hcq hoq
        have hox' := unhide hox
        have hcell : ∃ u, wq.cell? ⟨w.heap.size, k, none⟩ = some u := by
          rw [hox'.cellAt k (by omega)]; exact ⟨_, List.getElem?_eq_getElem (by have := hox'.1; omega)⟩
        obtain ⟨uu, hdst⟩ := hcell
        have hfz := hox'.frozenAt k
        have hst := hide (fun x : Int => by have := (hox'.stored k (.int .i64 x)).1; rw [ints_set] at this; exact this)
        have hcs := hide (fun x : Int => (unhide hcx).setFar (g := w.heap.size) (o := k) (u := .int .i64 x) (by omega) (fun b' off e hne => by have := unhide hadl b' off e hne; omega))
        have hgs := hide (fun x : Int => show OnlyAt c w (wq.setCell ⟨w.heap.size, k, none⟩ (.int .i64 x)) from (unhide hgx).trans2 k (.int .i64 x))
        clear hox' hox hcx hgx
        go_wp2
        all_goals
          go_roundw
          case rel =>
            exact ⟨k + 1, xs.set k _, by omega, by go_num, by simp [hxl], hide ((unhide hxT).set (by omega) (by omega) k), hide (unhide hst _), hide ((unhide hcs _).more (by omega)), hide (unhide hgs _)⟩
          case measure => simp [intOf]; omega
    · have hkN : k = N := by omega
      subst hkN
      have ho : OwnI wr w.heap.size wr.heap.size (.slice (some ⟨w.heap.size, 0, none⟩) k k) xs := by
        unfold OwnI; rw [hxl]; exact Own.of (unhide hox)
      replace ho := hide ho
      clear hox
      go_wp2
      go_ret
      exact ⟨_, xs, rfl, hxl, unhide hxT, unhide ho, unhide hcx, unhide hgx⟩
end Go.Proofs.Ythndnehadkgibaa
