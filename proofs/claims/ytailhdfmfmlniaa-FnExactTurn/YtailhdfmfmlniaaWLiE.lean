/- Two lists turned: the specification's walk. -/
import Derived.Test.YtailhdfmfmlniaaWLiC
import Derived.StillTailTactics
namespace Go.Proofs.Ytailhdfmfmlniaa
open Go.RowKit

set_option maxHeartbeats 8000000 in
set_option maxRecDepth 100000 in
theorem specL10Turn (way : Int) (ad : Option Addr) (cap : Nat) (xs : List Int) (ad' : Option Addr) (cap' : Nat) (ys : List Int) (w : World) (hw : 0 ≤ way ∧ way ≤ 2) (hn : xs.length ≤ 4000) (hl : ys.length = xs.length)
    (hx : InR (-268435456) 268435455 xs) (hy : InR (-268435456) 268435455 ys) (hA : ArgI w ad xs) (hA' : ArgI w ad' ys) :
    Calls Try.prog 94 #[.int .i64 way, .slice ad xs.length cap, .slice ad' ys.length cap'] w fun e w' => ∃ va vb, e = .returned (.tuple #[va, vb]) ∧ TwoI w w' va vb (two turA way xs ys) (two turB way xs ys) ∧ Upd 0 0 w w' := by
  obtain ⟨n, hnn⟩ : ∃ n, xs.length = n := ⟨_, rfl⟩
  rw [hl, hnn]
  rw [hnn] at hn hl
  obtain ⟨o, hmk⟩ := mkRowI n (by omega)
  have hmk1 := fun X => (hmk X).1
  have hmk2 := hide (fun X => (hmk X).2)
  clear hmk
  obtain ⟨A, hAe⟩ : ∃ A, two turA way xs ys = A := ⟨_, rfl⟩
  obtain ⟨B, hBe⟩ : ∃ B, two turB way xs ys = B := ⟨_, rfl⟩
  have hAl : A.length = n := by rw [← hAe, two_length, hnn]
  have hBl : B.length = n := by rw [← hBe, two_length, hnn]
  have hAg : Hid (∀ k, k < n → A.getD k 0 = turA way (xs.getD k 0) (ys.getD k 0)) := hide (fun k hk => by rw [← hAe]; exact two_getD _ _ _ _ _ (by omega))
  have hBg : Hid (∀ k, k < n → B.getD k 0 = turB way (xs.getD k 0) (ys.getD k 0)) := hide (fun k hk => by rw [← hBe]; exact two_getD _ _ _ _ _ (by omega))
  rw [hAe, hBe]
  clear hAe hBe
  have hz0 : partI A 0 = List.replicate n (.int .i64 0) := by rw [partI_zero, hAl]
  have hz1 : partI B 0 = List.replicate n (.int .i64 0) := by rw [partI_zero, hBl]
  replace hz0 := hide hz0
  replace hz1 := hide hz1
  replace hA := hide hA
  replace hA' := hide hA'
  replace hx := hide hx
  replace hy := hide hy
  replace hl := hide hl
  replace hnn := hide hnn
  replace hAl := hide hAl
  replace hBl := hide hBl
  replace hw := hide hw
  go_enter Try.func94, Try.ntmps94
  go_upto_region 3 with fail
  have h1 := unhide hmk2 w
  have h2 := unhide hmk2 (w.alloc o)
  have hs : (w.alloc o).heap.size = w.heap.size + 1 := by simp
  rw [hs] at h2
  have hrA := hide (h1.alloc o)
  have hrB := hide h2
  rw [← unhide hz0] at hrA
  rw [← unhide hz1] at hrB
  have hbel : Hid (Below w.heap.size w ((w.alloc o).alloc o)) := hide (((Below.refl w.heap.size w).alloc (Nat.le_refl _) o).alloc (by simp) o)
  clear h1 h2 hs hmk1 hmk2 hz0 hz1
  generalize (w.alloc o).alloc o = W0 at hrA hrB hbel ⊢
  obtain ⟨g, hg⟩ : ∃ g, w.heap.size = g := ⟨_, rfl⟩
  obtain ⟨h, hh⟩ : ∃ h, w.heap.size + 1 = h := ⟨_, rfl⟩
  have hne : g ≠ h := by omega
  have hgw : w.heap.size ≤ g := by omega
  have hhw : w.heap.size ≤ h := by omega
  rw [hh]
  rw [hg] at hrA ⊢
  rw [hh] at hrB
  replace hg := hide hg
  replace hh := hide hh
  go_wp2
  go_loopw [10, 19] (fun _ i wr => ∃ k : Nat, k ≤ n ∧ i = .int .i64 k ∧ Hid (RowI wr g n (partI A k)) ∧ Hid (RowI wr h n (partI B k)) ∧ Hid (Below w.heap.size w wr)) (fun _ i _ => n - (intOf i).toNat)
  case atStart => exact ⟨0, Nat.zero_le _, rfl, hrA, hrB, hbel⟩
  case round =>
    clear hrA hrB hbel
    obtain ⟨k, hk, rfl, hrA, hrB, hbel⟩ := hrel
    by_cases hlt : k < n
    · obtain ⟨b, off, rfl, hbl, hc⟩ := (unhide hA) (ne_of_lt_length (k := k) (by rw [unhide hnn]; exact hlt))
      obtain ⟨b', off', rfl, hbl', hc'⟩ := (unhide hA') (ne_of_lt_length (k := k) (by rw [unhide hl]; exact hlt))
      have hc0 := hc k (by rw [unhide hnn]; exact hlt)
      have hc0' := hc' k (by rw [unhide hl]; exact hlt)
      have hbx := (unhide hx) k (by rw [unhide hnn]; exact hlt)
      have hby := (unhide hy) k (by rw [unhide hl]; exact hlt)
      have gA := partI_set A k (by rw [unhide hAl]; exact hlt)
      have gB := partI_set B k (by rw [unhide hBl]; exact hlt)
      rw [unhide hAg k hlt] at gA
      rw [unhide hBg k hlt] at gB
      generalize xs.getD k 0 = x at hc0 hbx gA gB
      generalize ys.getD k 0 = y at hc0' hby gA gB
      have hck := ((unhide hbel).cell (p := ⟨b, off + k, none⟩) (by simpa using hbl)).trans hc0
      have hck' := ((unhide hbel).cell (p := ⟨b', off' + k, none⟩) (by simpa using hbl')).trans hc0'
      replace hc0 := hide hc0
      replace hc0' := hide hc0'
      obtain ⟨x1, x2⟩ := hbx
      obtain ⟨y1, y2⟩ := hby
      have nb1 : b ≠ g := by omega
      have nb2 : b ≠ h := by omega
      have nb3 : b' ≠ g := by omega
      have nb4 : b' ≠ h := by omega
      have hnA := (unhide hrA).frozen k
      have hnB := (unhide hrB).frozen k
      obtain ⟨uA, hdA⟩ := (unhide hrA).has k hlt
      obtain ⟨uB, hdB⟩ := (unhide hrB).has k hlt
      have kI : (0 : Int) ≤ (k : Int) := by omega
      have kL : (k : Int) < (n : Int) := by omega
      clear hc hc'
      go_upto_region 8 with fail
      have qA := ((unhide hrA).set k (.int .i64 x)).other (c := h) (Ne.symm hne) k (.int .i64 y)
      have qB := ((unhide hrB).other (c := g) hne k (.int .i64 x)).set k (.int .i64 y)
      have qb := ((unhide hbel).setCell (p := ⟨g, k, none⟩) hgw (.int .i64 x)).setCell (p := ⟨h, k, none⟩) hhw (.int .i64 y)
      clear hck hck' hrA hrB hbel hdA hdB hnA hnB
      generalize (wr.setCell ⟨g, k, none⟩ (.int .i64 x)).setCell ⟨h, k, none⟩ (.int .i64 y) = W1 at qA qB qb ⊢
      have dk := (qb.cell (p := ⟨b, off + k, none⟩) (by simpa using hbl)).trans (unhide hc0)
      have dk' := (qb.cell (p := ⟨b', off' + k, none⟩) (by simpa using hbl')).trans (unhide hc0')
      have hnA := qA.frozen k
      have hnB := qB.frozen k
      obtain ⟨uA, hdA⟩ := qA.has k hlt
      obtain ⟨uB, hdB⟩ := qB.has k hlt
      replace qA := hide qA
      replace qB := hide qB
      replace qb := hide qb
      have hwy := unhide hw
      rcases (show way = 0 ∨ way = 1 ∨ way = 2 by omega) with e | e | e <;> subst e
      · have e1 : turA 0 x y = x := rfl
        have e2 : turB 0 x y = y := rfl
        rw [e1] at gA
        rw [e2] at gB
        have rA2 := unhide qA
        have rB2 := unhide qB
        rw [gA] at rA2
        rw [gB] at rB2
        replace rA2 := hide rA2
        replace rB2 := hide rB2
        clear gA gB qA qB e1 e2 dk dk' hnA hnB hdA hdB
        go_wp2
        go_roundw
        case rel => exact ⟨k + 1, by omega, by go_num, rA2, rB2, qb⟩
        case measure => simp [intOf]; omega
      · have e1 : turA 1 x y = x := rfl
        have e2 : turB 1 x y = x - y := rfl
        rw [e1] at gA
        rw [e2] at gB
        have rA2 : Hid (RowI (W1.setCell ⟨h, k, none⟩ (.int .i64 (x - y))) g n (partI A (k + 1))) := hide (by
          have := (unhide qA).other (c := h) (Ne.symm hne) k (.int .i64 (x - y))
          rw [gA] at this; exact this)
        have rB2 : Hid (RowI (W1.setCell ⟨h, k, none⟩ (.int .i64 (x - y))) h n (partI B (k + 1))) := hide (by
          have := (unhide qB).set k (.int .i64 (x - y))
          rw [List.set_set, gB] at this; exact this)
        have rb2 : Hid (Below w.heap.size w (W1.setCell ⟨h, k, none⟩ (.int .i64 (x - y)))) := hide ((unhide qb).setCell (p := ⟨h, k, none⟩) hhw _)
        clear gA gB qA qB e1 e2 qb
        go_upto_region 9 with fail
        refine wp_region_still_tail 12 (by kernel_rfl) (by kernel_rfl) ?_
        simp only [List.take_succ_cons, List.take_zero, List.drop_succ_cons, List.drop_zero]
        iterate 12 still_step
        refine wpStill_nil ?_
        go_wp2
        go_roundw
        case rel => exact ⟨k + 1, by omega, by go_num, hide ((unhide rA2).keep (Upd.drew1 _)), hide ((unhide rB2).keep (Upd.drew1 _)), hide (below_drewN (unhide rb2) 1)⟩
        case measure => simp [intOf]; omega
      · have e1 : turA 2 x y = (x + y) / 2 := rfl
        have e2 : turB 2 x y = x - y := rfl
        rw [e1] at gA
        rw [e2] at gB
        go_upto_region 9 with fail
        refine wp_region_still_tail 12 (by kernel_rfl) (by kernel_rfl) ?_
        simp only [List.take_succ_cons, List.take_zero, List.drop_succ_cons, List.drop_zero]
        iterate 12 still_step
        refine wpStill_nil ?_
        go_upto_region 11 with fail
        have rA1 := ((unhide qA).other (c := h) (Ne.symm hne) k (.int .i64 (x - y))).keep (Upd.drew1 _)
        have rB1 := ((unhide qB).set k (.int .i64 (x - y))).keep (Upd.drew1 _)
        rw [List.set_set, gB] at rB1
        have rb1 := below_drewN ((unhide qb).setCell (p := ⟨h, k, none⟩) hhw (.int .i64 (x - y))) 1
        change Below w.heap.size w (W1.setCell ⟨h, k, none⟩ (.int .i64 (x - y))).drew at rb1
        clear dk dk' hnA hnB hdA hdB qA qB qb e1 e2
        generalize (W1.setCell ⟨h, k, none⟩ (.int .i64 (x - y))).drew = W2 at rA1 rB1 rb1 ⊢
        have dk := (rb1.cell (p := ⟨b, off + k, none⟩) (by simpa using hbl)).trans (unhide hc0)
        have dk' := (rb1.cell (p := ⟨b', off' + k, none⟩) (by simpa using hbl')).trans (unhide hc0')
        have hnA := rA1.frozen k
        obtain ⟨uA, hdA⟩ := rA1.has k hlt
        have rA2 : Hid (RowI (W2.setCell ⟨g, k, none⟩ (.int .i64 ((x + y) / 2))) g n (partI A (k + 1))) := hide (by
          have := rA1.set k (.int .i64 ((x + y) / 2))
          rw [List.set_set, gA] at this; exact this)
        have rB2 : Hid (RowI (W2.setCell ⟨g, k, none⟩ (.int .i64 ((x + y) / 2))) h n (partI B (k + 1))) := hide (rB1.other (c := g) hne k _)
        have rb2 : Hid (Below w.heap.size w (W2.setCell ⟨g, k, none⟩ (.int .i64 ((x + y) / 2)))) := hide (rb1.setCell (p := ⟨g, k, none⟩) hgw _)
        clear rA1 rB1 rb1 gA gB
        refine wp_region_still_tail 13 (by kernel_rfl) (by kernel_rfl) ?_
        simp only [List.take_succ_cons, List.take_zero, List.drop_succ_cons, List.drop_zero]
        iterate 13 still_step
        refine wpStill_nil ?_
        go_wp2
        go_roundw
        case rel => exact ⟨k + 1, by omega, by go_num, hide ((unhide rA2).keep (Upd.drew1 _)), hide ((unhide rB2).keep (Upd.drew1 _)), hide (below_drewN (unhide rb2) 1)⟩
        case measure => simp [intOf]; omega
    · have hkn : k = n := by omega
      subst hkn
      have oA := unhide hrA
      have oB := unhide hrB
      have aA := partI_all A
      have aB := partI_all B
      rw [unhide hAl] at aA
      rw [unhide hBl] at aB
      rw [aA] at oA
      rw [aB] at oB
      have hlg := oA.lt
      have hlh := oB.lt
      have hT : Hid (TwoI w wr (.slice (some ⟨g, 0, none⟩) k k) (.slice (some ⟨h, 0, none⟩) k k) A B) := hide ⟨g, g + 1, h, h + 1, hgw, by omega, hhw, by omega, by omega, by
        have := oA.own; unfold OwnI; rw [unhide hAl]; exact this, by
        have := oB.own; unfold OwnI; rw [unhide hBl]; exact this⟩
      clear hrA hrB oA oB aA aB hlg hlh
      go_wp2
      go_ret2
      exact ⟨_, _, rfl, unhide hT, Upd.of_below (unhide hbel) 0 0⟩
end Go.Proofs.Ytailhdfmfmlniaa
