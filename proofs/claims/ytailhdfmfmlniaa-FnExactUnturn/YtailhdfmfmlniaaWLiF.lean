/- Two lists unturned: the specification's walk. -/
import Derived.Test.YtailhdfmfmlniaaWLiD
import Derived.StillTailTactics
namespace Go.Proofs.Ytailhdfmfmlniaa
open Go.RowKit

theorem i64_and_1 (n : Int) : bits .and .i64 n 1 = n % 2 := by
  have h1 : (BitVec.ofInt 64 1).toNat = 2 ^ 1 - 1 := by decide
  have key : (BitVec.ofInt 64 n &&& BitVec.ofInt 64 1).toNat = (n % ((2 ^ 64 : Nat) : Int)).toNat % 2 ^ 1 := by
    rw [BitVec.toNat_and, BitVec.toNat_ofInt, h1, Nat.and_two_pow_sub_one_eq_mod]
  show IntKind.i64.wrap ((BitVec.ofInt 64 n &&& BitVec.ofInt 64 1).toNat : Nat) = _
  rw [key, IntKind.wrap_i64]
  omega
theorem untwo_bad {way : Int} {xs ys : List Int} (k : Nat) (hk : k < xs.length) (hl : ys.length = xs.length) (h : ¬ ((-268435456 ≤ xs.getD k 0 ∧ xs.getD k 0 ≤ 268435455) ∧ -268435456 ≤ ys.getD k 0 ∧ ys.getD k 0 ≤ 268435455)) : ¬ UntOk way xs ys :=
  fun h' => h ⟨h'.1.2.2.1.2 k hk, h'.1.2.2.2.2 k (by omega)⟩

set_option maxHeartbeats 8000000 in
set_option maxRecDepth 100000 in
theorem specL10Unturn (way : Int) (ad : Option Addr) (cap : Nat) (xs : List Int) (ad' : Option Addr) (cap' : Nat) (ys : List Int) (w : World) (hw : 0 ≤ way ∧ way ≤ 2) (hn : xs.length ≤ 4000) (hl : ys.length = xs.length)
    (hA : ArgI w ad xs) (hA' : ArgI w ad' ys) :
    Calls Try.prog 95 #[.int .i64 way, .slice ad xs.length cap, .slice ad' ys.length cap'] w fun e w' => ∃ va vb, e = .returned (.tuple #[va, vb]) ∧ TwoI w w' va vb (untF untA way xs ys) (untF untB way xs ys) ∧ Upd 0 0 w w' := by
  obtain ⟨n, hnn⟩ : ∃ n, xs.length = n := ⟨_, rfl⟩
  rw [hl, hnn]
  rw [hnn] at hn hl
  obtain ⟨o, hmk⟩ := mkRowI n (by omega)
  have hmk1 := fun X => (hmk X).1
  have hmk2 := hide (fun X => (hmk X).2)
  clear hmk
  have hY : Hid ((∀ j, j < n → ((-268435456 ≤ xs.getD j 0 ∧ xs.getD j 0 ≤ 268435455) ∧ -268435456 ≤ ys.getD j 0 ∧ ys.getD j 0 ≤ 268435455)) → PairOk (-268435456) 268435455 way xs ys) := hide (fun h => ⟨hw, by omega, ⟨by omega, fun j hj => (h j (by omega)).1⟩, ⟨by omega, fun j hj => (h j (by omega)).2⟩⟩)
  have hN : Hid (∀ k, k < n → ¬ ((-268435456 ≤ xs.getD k 0 ∧ xs.getD k 0 ≤ 268435455) ∧ -268435456 ≤ ys.getD k 0 ∧ ys.getD k 0 ≤ 268435455) → untF untA way xs ys = [] ∧ untF untB way xs ys = []) := hide (fun k hk h => ⟨untF_no (untwo_bad k (by omega) (by omega) h), untF_no (untwo_bad k (by omega) (by omega) h)⟩)
  have hA1 : Hid (PairOk (-268435456) 268435455 way xs ys → lsB (-67108864) 67108863 (two untA way xs ys) = true → lsB (-67108864) 67108863 (two untB way xs ys) = true → untF untA way xs ys = two untA way xs ys ∧ untF untB way xs ys = two untB way xs ys) := hide (fun hp h1 h2 => ⟨untF_yes (untOk_of hp h1 h2), untF_yes (untOk_of hp h1 h2)⟩)
  have hN1 : Hid (lsB (-67108864) 67108863 (two untA way xs ys) = false → untF untA way xs ys = [] ∧ untF untB way xs ys = []) := hide (fun h1 => ⟨untF_no (untNo_A h1), untF_no (untNo_A h1)⟩)
  have hN2 : Hid (lsB (-67108864) 67108863 (two untB way xs ys) = false → untF untA way xs ys = [] ∧ untF untB way xs ys = []) := hide (fun h1 => ⟨untF_no (untNo_B h1), untF_no (untNo_B h1)⟩)
  generalize untF untA way xs ys = RA at hN hA1 hN1 hN2 ⊢
  generalize untF untB way xs ys = RB at hN hA1 hN1 hN2 ⊢
  obtain ⟨A, hAe⟩ : ∃ A, two untA way xs ys = A := ⟨_, rfl⟩
  obtain ⟨B, hBe⟩ : ∃ B, two untB way xs ys = B := ⟨_, rfl⟩
  have hAl : A.length = n := by rw [← hAe, two_length, hnn]
  have hBl : B.length = n := by rw [← hBe, two_length, hnn]
  have hAg : Hid (∀ k, k < n → A.getD k 0 = untA way (xs.getD k 0) (ys.getD k 0)) := hide (fun k hk => by rw [← hAe]; exact two_getD _ _ _ _ _ (by omega))
  have hBg : Hid (∀ k, k < n → B.getD k 0 = untB way (xs.getD k 0) (ys.getD k 0)) := hide (fun k hk => by rw [← hBe]; exact two_getD _ _ _ _ _ (by omega))
  rw [hAe, hBe] at hA1
  rw [hAe] at hN1
  rw [hBe] at hN2
  clear hAe hBe
  have hz0 : partI A 0 = List.replicate n (.int .i64 0) := by rw [partI_zero, hAl]
  have hz1 : partI B 0 = List.replicate n (.int .i64 0) := by rw [partI_zero, hBl]
  replace hz0 := hide hz0
  replace hz1 := hide hz1
  replace hA := hide hA
  replace hA' := hide hA'
  replace hl := hide hl
  replace hnn := hide hnn
  replace hAl := hide hAl
  replace hBl := hide hBl
  replace hw := hide hw
  go_enter Try.func95, Try.ntmps95
  go_upto_region 3 with fail
  have h1 := unhide hmk2 w
  have h2 := unhide hmk2 (w.alloc o)
  have hs : (w.alloc o).heap.size = w.heap.size + 1 := by simp
  rw [hs] at h2
  have hrA := hide (h1.alloc o)
  have hrB := hide h2
  rw [← unhide hz0] at hrA
  rw [← unhide hz1] at hrB
  have hbel : Hid (Below w.heap.size w ((w.alloc o).alloc o)) := hide (((Below.refl w.heap.size w).alloc (Nat.le_refl _) o).alloc (by simp) o)
  clear h1 h2 hs hmk1 hmk2 hz0 hz1
  generalize (w.alloc o).alloc o = W0 at hrA hrB hbel ⊢
  obtain ⟨g, hg⟩ : ∃ g, w.heap.size = g := ⟨_, rfl⟩
  obtain ⟨h, hh⟩ : ∃ h, w.heap.size + 1 = h := ⟨_, rfl⟩
  have hne : g ≠ h := by omega
  have hgw : w.heap.size ≤ g := by omega
  have hhw : w.heap.size ≤ h := by omega
  rw [hh]
  rw [hg] at hrA ⊢
  rw [hh] at hrB
  replace hg := hide hg
  replace hh := hide hh
  go_wp2
  go_loopw [10, 19] (fun _ i wr => ∃ k : Nat, k ≤ n ∧ i = .int .i64 k ∧ Hid (RowI wr g n (partI A k)) ∧ Hid (RowI wr h n (partI B k)) ∧ Hid (Below w.heap.size w wr) ∧ Hid (∀ j, j < k → ((-268435456 ≤ xs.getD j 0 ∧ xs.getD j 0 ≤ 268435455) ∧ -268435456 ≤ ys.getD j 0 ∧ ys.getD j 0 ≤ 268435455))) (fun _ i _ => n - (intOf i).toNat)
  case atStart => exact ⟨0, Nat.zero_le _, rfl, hrA, hrB, hbel, hide (fun j hj => by omega)⟩
  case round =>
    clear hrA hrB hbel
    obtain ⟨k, hk, rfl, hrA, hrB, hbel, hok⟩ := hrel
    by_cases hlt : k < n
    · obtain ⟨b, off, rfl, hbl, hc⟩ := (unhide hA) (ne_of_lt_length (k := k) (by rw [unhide hnn]; exact hlt))
      obtain ⟨b', off', rfl, hbl', hc'⟩ := (unhide hA') (ne_of_lt_length (k := k) (by rw [unhide hl]; exact hlt))
      have hc0 := hc k (by rw [unhide hnn]; exact hlt)
      have hc0' := hc' k (by rw [unhide hl]; exact hlt)
      have hOk := hide (unhide hN k hlt)
      have hOk2 : Hid (((-268435456 ≤ xs.getD k 0 ∧ xs.getD k 0 ≤ 268435455) ∧ -268435456 ≤ ys.getD k 0 ∧ ys.getD k 0 ≤ 268435455) → ∀ j, j < k + 1 → ((-268435456 ≤ xs.getD j 0 ∧ xs.getD j 0 ≤ 268435455) ∧ -268435456 ≤ ys.getD j 0 ∧ ys.getD j 0 ≤ 268435455)) := hide (fun h j hj => by
        rcases Nat.lt_or_eq_of_le (Nat.le_of_lt_succ hj) with h' | h'
        · exact unhide hok j h'
        · subst h'; exact h)
      have gA := partI_set A k (by rw [unhide hAl]; exact hlt)
      have gB := partI_set B k (by rw [unhide hBl]; exact hlt)
      rw [unhide hAg k hlt] at gA
      rw [unhide hBg k hlt] at gB
      generalize xs.getD k 0 = x at hc0 hOk hOk2 gA gB
      generalize ys.getD k 0 = y at hc0' hOk hOk2 gA gB
      have hck := ((unhide hbel).cell (p := ⟨b, off + k, none⟩) (by simpa using hbl)).trans hc0
      have hck' := ((unhide hbel).cell (p := ⟨b', off' + k, none⟩) (by simpa using hbl')).trans hc0'
      replace hc0 := hide hc0
      replace hc0' := hide hc0'
      by_cases x1 : x < -268435456
      · obtain ⟨f1, f2⟩ := unhide hOk (by omega)
        replace f1 := hide f1
        replace f2 := hide f2
        have hlt2 := hide (unhide hbel).size
        clear hOk hOk2 gA gB hrA hrB hY hN hA1 hN1 hN2 hc hc'
        go_wp2
        go_ret2
        rw [unhide f1, unhide f2]
        exact ⟨_, _, rfl, twoI_nil _ _ (unhide hlt2), Upd.of_below (unhide hbel) 0 0⟩
      by_cases x2 : 268435455 < x
      · obtain ⟨f1, f2⟩ := unhide hOk (by omega)
        replace f1 := hide f1
        replace f2 := hide f2
        have hlt2 := hide (unhide hbel).size
        clear hOk hOk2 gA gB hrA hrB hY hN hA1 hN1 hN2 hc hc'
        go_wp2
        go_ret2
        rw [unhide f1, unhide f2]
        exact ⟨_, _, rfl, twoI_nil _ _ (unhide hlt2), Upd.of_below (unhide hbel) 0 0⟩
      by_cases y1 : y < -268435456
      · obtain ⟨f1, f2⟩ := unhide hOk (by omega)
        replace f1 := hide f1
        replace f2 := hide f2
        have hlt2 := hide (unhide hbel).size
        clear hOk hOk2 gA gB hrA hrB hY hN hA1 hN1 hN2 hc hc'
        go_wp2
        go_ret2
        rw [unhide f1, unhide f2]
        exact ⟨_, _, rfl, twoI_nil _ _ (unhide hlt2), Upd.of_below (unhide hbel) 0 0⟩
      by_cases y2 : 268435455 < y
      · obtain ⟨f1, f2⟩ := unhide hOk (by omega)
        replace f1 := hide f1
        replace f2 := hide f2
        have hlt2 := hide (unhide hbel).size
        clear hOk hOk2 gA gB hrA hrB hY hN hA1 hN1 hN2 hc hc'
        go_wp2
        go_ret2
        rw [unhide f1, unhide f2]
        exact ⟨_, _, rfl, twoI_nil _ _ (unhide hlt2), Upd.of_below (unhide hbel) 0 0⟩
      replace hOk2 := hide (unhide hOk2 (by omega))
      clear hOk
      have nb1 : b ≠ g := by omega
      have nb2 : b ≠ h := by omega
      have nb3 : b' ≠ g := by omega
      have nb4 : b' ≠ h := by omega
      have hnA := (unhide hrA).frozen k
      have hnB := (unhide hrB).frozen k
      obtain ⟨uA, hdA⟩ := (unhide hrA).has k hlt
      obtain ⟨uB, hdB⟩ := (unhide hrB).has k hlt
      have kI : (0 : Int) ≤ (k : Int) := by omega
      have kL : (k : Int) < (n : Int) := by omega
      clear hc hc'
      go_upto_region 10 with fail
      have qA := ((unhide hrA).set k (.int .i64 x)).other (c := h) (Ne.symm hne) k (.int .i64 y)
      have qB := ((unhide hrB).other (c := g) hne k (.int .i64 x)).set k (.int .i64 y)
      have qb := ((unhide hbel).setCell (p := ⟨g, k, none⟩) hgw (.int .i64 x)).setCell (p := ⟨h, k, none⟩) hhw (.int .i64 y)
      clear hck hck' hrA hrB hbel hdA hdB hnA hnB
      generalize (wr.setCell ⟨g, k, none⟩ (.int .i64 x)).setCell ⟨h, k, none⟩ (.int .i64 y) = W1 at qA qB qb ⊢
      have dk := (qb.cell (p := ⟨b, off + k, none⟩) (by simpa using hbl)).trans (unhide hc0)
      have dk' := (qb.cell (p := ⟨b', off' + k, none⟩) (by simpa using hbl')).trans (unhide hc0')
      have hnA := qA.frozen k
      have hnB := qB.frozen k
      obtain ⟨uA, hdA⟩ := qA.has k hlt
      obtain ⟨uB, hdB⟩ := qB.has k hlt
      replace qA := hide qA
      replace qB := hide qB
      replace qb := hide qb
      have hwy := unhide hw
      rcases (show way = 0 ∨ way = 1 ∨ way = 2 by omega) with e | e | e <;> subst e
      · have e1 : untA 0 x y = x := rfl
        have e2 : untB 0 x y = y := rfl
        rw [e1] at gA
        rw [e2] at gB
        have rA2 := unhide qA
        have rB2 := unhide qB
        rw [gA] at rA2
        rw [gB] at rB2
        replace rA2 := hide rA2
        replace rB2 := hide rB2
        clear gA gB qA qB e1 e2 dk dk' hnA hnB hdA hdB
        go_wp2
        go_roundw
        case rel => exact ⟨k + 1, by omega, by go_num, rA2, rB2, qb, hOk2⟩
        case measure => simp [intOf]; omega
      · have e1 : untA 1 x y = x := rfl
        have e2 : untB 1 x y = x - y := rfl
        rw [e1] at gA
        rw [e2] at gB
        have rA2 : Hid (RowI (W1.setCell ⟨h, k, none⟩ (.int .i64 (x - y))) g n (partI A (k + 1))) := hide (by
          have := (unhide qA).other (c := h) (Ne.symm hne) k (.int .i64 (x - y))
          rw [gA] at this; exact this)
        have rB2 : Hid (RowI (W1.setCell ⟨h, k, none⟩ (.int .i64 (x - y))) h n (partI B (k + 1))) := hide (by
          have := (unhide qB).set k (.int .i64 (x - y))
          rw [List.set_set, gB] at this; exact this)
        have rb2 : Hid (Below w.heap.size w (W1.setCell ⟨h, k, none⟩ (.int .i64 (x - y)))) := hide ((unhide qb).setCell (p := ⟨h, k, none⟩) hhw _)
        clear gA gB qA qB e1 e2 qb
        go_upto_region 11 with fail
        refine wp_region_still_tail 12 (by kernel_rfl) (by kernel_rfl) ?_
        simp only [List.take_succ_cons, List.take_zero, List.drop_succ_cons, List.drop_zero]
        iterate 12 still_step
        refine wpStill_nil ?_
        go_wp2
        go_roundw
        case rel => exact ⟨k + 1, by omega, by go_num, hide ((unhide rA2).keep (Upd.drew1 _)), hide ((unhide rB2).keep (Upd.drew1 _)), hide (below_drewN (unhide rb2) 1), hOk2⟩
        case measure => simp [intOf]; omega
      · obtain ⟨m, hm⟩ : ∃ m, x + (y + 1) / 2 = m := ⟨_, rfl⟩
        have e1 : untA 2 x y = m := hm
        have e2 : untB 2 x y = m - y := by rw [← hm]; rfl
        rw [e1] at gA
        rw [e2] at gB
        have hnd := i64_and_1 y
        have hm1 : (2 * x + y % 2 + y).tdiv 2 = m := by
          have h2 : (2 : Int) ∣ 2 * x + y % 2 + y := ⟨x + (y + 1) / 2, by omega⟩
          rw [Int.tdiv_eq_ediv_of_dvd h2]; omega
        have hm2 : -536870912 ≤ m ∧ m ≤ 536870912 := by omega
        replace hm := hide hm
        clear e1 e2
        go_upto_region 13 with fail
        refine wp_region_still_tail 20 (by kernel_rfl) (by kernel_rfl) ?_
        simp only [List.take_succ_cons, List.take_zero, List.drop_succ_cons, List.drop_zero]
        iterate 20 still_step
        refine wpStill_nil ?_
        go_upto_region 14 with fail
        rw [hm1]
        have dg : ((W1.setCell ⟨g, k, none⟩ (.int .i64 m)).drew).cell? ⟨g, k, none⟩ = some (.int .i64 m) := by
          show (W1.setCell ⟨g, k, none⟩ (.int .i64 m)).cell? ⟨g, k, none⟩ = _
          first | exact World.cell?_setCell_same _ _ hdA | exact World.cell?_setCell_same _ _ _ hdA
        have rA1 := ((unhide qA).set k (.int .i64 m)).keep (Upd.drew1 _)
        rw [List.set_set, gA] at rA1
        have rB1 := ((unhide qB).other (c := g) hne k (.int .i64 m)).keep (Upd.drew1 _)
        have rb1 := below_drewN ((unhide qb).setCell (p := ⟨g, k, none⟩) hgw (.int .i64 m)) 1
        change Below w.heap.size w (W1.setCell ⟨g, k, none⟩ (.int .i64 m)).drew at rb1
        clear dk dk' hnA hnB hdA hdB qA qB qb hm1 hnd
        generalize (W1.setCell ⟨g, k, none⟩ (.int .i64 m)).drew = W2 at rA1 rB1 rb1 dg ⊢
        have dk' := (rb1.cell (p := ⟨b', off' + k, none⟩) (by simpa using hbl')).trans (unhide hc0')
        have hnB := rB1.frozen k
        obtain ⟨uB, hdB⟩ := rB1.has k hlt
        have rA2 : Hid (RowI (W2.setCell ⟨h, k, none⟩ (.int .i64 (m - y))) g n (partI A (k + 1))) := hide (rA1.other (c := h) (Ne.symm hne) k _)
        have rB2 : Hid (RowI (W2.setCell ⟨h, k, none⟩ (.int .i64 (m - y))) h n (partI B (k + 1))) := hide (by
          have := rB1.set k (.int .i64 (m - y))
          rw [List.set_set, gB] at this; exact this)
        have rb2 : Hid (Below w.heap.size w (W2.setCell ⟨h, k, none⟩ (.int .i64 (m - y)))) := hide (rb1.setCell (p := ⟨h, k, none⟩) hhw _)
        clear rA1 rB1 rb1 gA gB
        refine wp_region_still_tail 12 (by kernel_rfl) (by kernel_rfl) ?_
        simp only [List.take_succ_cons, List.take_zero, List.drop_succ_cons, List.drop_zero]
        iterate 12 still_step
        refine wpStill_nil ?_
        go_wp2
        go_roundw
        case rel => exact ⟨k + 1, by omega, by go_num, hide ((unhide rA2).keep (Upd.drew1 _)), hide ((unhide rB2).keep (Upd.drew1 _)), hide (below_drewN (unhide rb2) 1), hOk2⟩
        case measure => simp [intOf]; omega
    · have hkn : k = n := by omega
      subst hkn
      have oA := unhide hrA
      have oB := unhide hrB
      have aA := partI_all A
      have aB := partI_all B
      rw [unhide hAl] at aA
      rw [unhide hBl] at aB
      rw [aA] at oA
      rw [aB] at oB
      have hlg := oA.lt
      have hlh := oB.lt
      have hT : Hid (TwoI w wr (.slice (some ⟨g, 0, none⟩) k k) (.slice (some ⟨h, 0, none⟩) k k) A B) := hide ⟨g, g + 1, h, h + 1, hgw, by omega, hhw, by omega, by omega, by
        have := oA.own; unfold OwnI; rw [unhide hAl]; exact this, by
        have := oB.own; unfold OwnI; rw [unhide hBl]; exact this⟩
      have h1 : OwnI wr g (g + 1) (.slice (some ⟨g, 0, none⟩) k k) A := by
        have := oA.own; unfold OwnI; rw [unhide hAl]; exact this
      have h2 : OwnI wr h (h + 1) (.slice (some ⟨h, 0, none⟩) k k) B := by
        have := oB.own; unfold OwnI; rw [unhide hBl]; exact this
      have hR1 : ArgI wr (some ⟨g, 0, none⟩) A := by
        obtain ⟨ad, cap, e, h⟩ := OwnI.rd h1
        simp only [Value.slice.injEq] at e; rw [e.1]; exact h
      have hR2 : ArgI wr (some ⟨h, 0, none⟩) B := by
        obtain ⟨ad, cap, e, h⟩ := OwnI.rd h2
        simp only [Value.slice.injEq] at e; rw [e.1]; exact h
      have hG1 := specL10List (some ⟨g, 0, none⟩) k A wr (by rw [unhide hAl]; omega) hR1
      have hG2 := fun W (u : Upd 0 0 wr W) => specL10List (some ⟨h, 0, none⟩) k B W (by rw [unhide hBl]; omega) (hR2.below u.none)
      rw [unhide hAl] at hG1
      rw [unhide hBl] at hG2
      replace hG1 := hide hG1
      replace hG2 := hide hG2
      have hok3 := unhide hY (unhide hok)
      replace hY := hide (unhide hA1 hok3)
      have hT3 : Hid (∀ W, Upd 0 0 wr W → TwoI w W (.slice (some ⟨g, 0, none⟩) k k) (.slice (some ⟨h, 0, none⟩) k k) A B) := hide (fun W u => by
        obtain ⟨a1, b1, a2, b2, m1, m2, m3, m4, m5, q1, q2⟩ := unhide hT
        have := u.size
        exact ⟨a1, b1, a2, b2, m1, by omega, m3, by omega, m5, q1.keep u, q2.keep u⟩)
      have hU := hide (Upd.of_below (unhide hbel) 0 0)
      clear hrA hrB oA oB aA aB hlg hlh hA1 hok hok3 hT hR1 hR2 h1 h2 hbel hN hAg hBg
      by_cases q1 : lsB (-67108864) 67108863 A = true
      case neg =>
        rw [Bool.not_eq_true] at q1
        obtain ⟨e1, e2⟩ := unhide hN1 q1
        rw [q1] at hG1
        replace e1 := hide e1
        replace e2 := hide e2
        clear q1 hY hN1 hN2
        go_wp2_with fail
        refine (unhide hG1).mono ?_
        rintro e w3 ⟨rfl, hu3⟩
        go_wp2
        go_ret2
        rw [unhide e1, unhide e2]
        exact ⟨_, _, rfl, twoI_nil _ _ ((unhide hU).trans hu3).size, (unhide hU).trans hu3⟩
      rw [q1] at hG1
      go_wp2_with fail
      refine (unhide hG1).mono ?_
      rintro e w3 ⟨rfl, hu3⟩
      have hG3 := hide (unhide hG2 w3 hu3)
      clear hG2
      replace hu3 := hide hu3
      by_cases q2 : lsB (-67108864) 67108863 B = true
      case neg =>
        rw [Bool.not_eq_true] at q2
        obtain ⟨e1, e2⟩ := unhide hN2 q2
        rw [q2] at hG3
        replace e1 := hide e1
        replace e2 := hide e2
        clear q1 q2 hY hN1 hN2
        go_wp2_with fail
        refine (unhide hG3).mono ?_
        rintro e w4 ⟨rfl, hu4⟩
        go_wp2
        go_ret2
        rw [unhide e1, unhide e2]
        exact ⟨_, _, rfl, twoI_nil _ _ (((unhide hU).trans (unhide hu3)).trans hu4).size, ((unhide hU).trans (unhide hu3)).trans hu4⟩
      rw [q2] at hG3
      obtain ⟨e1, e2⟩ := unhide hY q1 q2
      replace e1 := hide e1
      replace e2 := hide e2
      clear q1 q2 hY hN1 hN2
      go_wp2_with fail
      refine (unhide hG3).mono ?_
      rintro e w4 ⟨rfl, hu4⟩
      have hT4 := hide (unhide hT3 w4 ((unhide hu3).trans hu4))
      go_wp2
      go_ret2
      rw [unhide e1, unhide e2]
      exact ⟨_, _, rfl, unhide hT4, ((unhide hU).trans (unhide hu3)).trans hu4⟩
end Go.Proofs.Ytailhdfmfmlniaa
