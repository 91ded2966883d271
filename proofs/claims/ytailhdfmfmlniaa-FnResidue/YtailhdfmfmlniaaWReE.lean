/- What a residue restores: the program's walk. -/
import Derived.Test.YtailhdfmfmlniaaWReC
import Derived.Test.YtailhdfmfmlniaaWReD
namespace Go.Proofs.Ytailhdfmfmlniaa
open Go.RowKit

theorem partSet_cellL (j k : Nat) (xs A : List Int) (hj : j < k) (hk : k ≤ A.length) : (partSet .i64 (ints xs) A k)[j]? = some (.int .i64 (A.getD j 0)) := by
  unfold partSet ints
  rw [List.getElem?_append_left (by simp; omega), List.getElem?_map, List.getElem?_take_of_lt hj]
  have hml : j < A.length := by omega
  rw [List.getElem?_eq_getElem hml, List.getD_eq_getElem?_getD, List.getElem?_eq_getElem hml]
  rfl
theorem hasB27 (y : Int) (h : ¬ (-67108864 ≤ y ∧ y ≤ 67108863)) : decide (loB 27 ≤ y ∧ y ≤ hiB 27) = false := decide_eq_false (by rw [loB_27, hiB_27]; exact h)
theorem hasB27y (y : Int) (h : -67108864 ≤ y ∧ y ≤ 67108863) : decide (loB 27 ≤ y ∧ y ≤ hiB 27) = true := decide_eq_true (by rw [loB_27, hiB_27]; exact h)
set_option maxHeartbeats 8000000 in
set_option maxRecDepth 100000 in
theorem implRestoreGood (o : Nat) (v : Value) (xs : List Int) (w : World) (ho : o ≤ 4) (hok : LsOk (-2147483648) 2147483647 xs) (hv : RdX w v xs) :
    Calls Try.prog 21 #[.int .i64 (o : Int), v] w fun e w' => ∃ u, e = .returned u ∧ OwnI w' w.heap.size w'.heap.size u (rstF o xs) ∧ Upd 0 0 w w' := by
  obtain ⟨ad, cap, rfl, hA⟩ := hv.rd
  have hn4 := hok.1
  have hB1 := implGoodOrder (o : Int)
  rw [decide_eq_true (show (0 : Int) ≤ (o : Int) ∧ (o : Int) ≤ 4 by omega)] at hB1
  have hB2 := fun W (u : Upd 0 0 w W) => implGoodNumbers ad cap xs 32 W (by omega) (by omega) (by omega) (hA.below u.none)
  rw [loB_32, hiB_32, lsB_yes hok] at hB2
  have hB4 := hide (fun W (u : Upd 0 0 w W) => cloneI _ xs W (by omega) (hv.below u.none).rj)
  have hidx := idx_fore o ho
  replace hB1 := hide hB1
  replace hB2 := hide hB2
  obtain ⟨n, hnn⟩ : ∃ n, xs.length = n := ⟨_, rfl⟩
  have hY : Hid (InR (-67108864) 67108863 (rst o xs n) → rstF o xs = rst o xs n) := hide (fun h2 => by
    rw [rstF_yes ho hok (by rw [hnn]; exact h2), hnn])
  have hN2 : Hid (∀ k, k < n → ¬ (-67108864 ≤ rstAt o xs (rst o xs k) k ∧ rstAt o xs (rst o xs k) k ≤ 67108863) → rstF o xs = []) := hide (fun k hk h => rstF_bad k (by omega) h)
  have hin := hide hok.2
  generalize rstF o xs = RR at hY hN2 ⊢
  clear hok hA hv
  rw [hnn] at hn4 hB2 hB4 ⊢
  obtain ⟨G, hG⟩ : ∃ G, fgn o = G := ⟨_, rfl⟩
  have hrun := fun v W => run_fore o v W ho
  have hfo := fun cap b off a1 a2 a3 a4 W => implFore o cap b off a1 a2 a3 a4 W ho
  rw [hG] at hidx hrun hfo
  replace hfo := hide hfo
  replace hG := hide hG
  obtain ⟨A, hAe⟩ : ∃ A, rst o xs n = A := ⟨_, rfl⟩
  have hAl : A.length = n := by rw [← hAe, rst_length]
  have hAg : Hid (∀ k, k < n → A.getD k 0 = rstAt o xs (rst o xs k) k) := hide (fun k hk => by rw [← hAe]; exact rst_at o xs n k hk)
  have hAt : Hid (∀ k j, j < k → k ≤ n → A.getD j 0 = (rst o xs k).getD j 0) := hide (fun k j hj hk => by rw [← hAe]; exact rst_getD o xs n j k hj hk)
  rw [hAe] at hY
  have hAr : Hid (InR (-67108864) 67108863 (rst o xs n) → InR (-67108864) 67108863 A) := hide (fun h => by rw [← hAe]; exact h)
  clear hAe
  replace hAl := hide hAl
  replace hnn := hide hnn
  go_enter Try.func21, Try.ntmps21
  go_wp2_with fail
  refine (unhide hB1 _).mono ?_
  rintro e w1 ⟨rfl, rfl⟩
  go_wp2_with fail
  refine (unhide hB2 _ (Upd.refl 0 0 _)).mono ?_
  rintro e w2 ⟨rfl, hu2⟩
  replace hu2 := hide hu2
  go_wp2_with fail
  refine (implFores _).mono ?_
  rintro e w3 ⟨rfl, hu3⟩
  replace hu3 := hide ((unhide hu2).trans hu3)
  clear hu2
  go_wp2_with fail
  refine (unhide hB4 _ (unhide hu3)).mono ?_
  rintro e w4 ⟨u, rfl, how, hu4⟩
  by_cases hn0 : n = 0
  · have how2 := hide (own_mono (a' := w1.heap.size) how (unhide hu3).size (Nat.le_refl _))
    replace hu4 := hide ((unhide hu3).trans hu4)
    have hRR : Hid (RR = xs) := hide (by
      have h1 : xs = [] := List.length_eq_zero_iff.1 (by rw [unhide hnn]; exact hn0)
      have h2 : A = [] := List.length_eq_zero_iff.1 (by rw [unhide hAl]; exact hn0)
      rw [h1, unhide hY (by rw [h2]; exact inR_nil _ _), h2])
    obtain ⟨adu, capu, hue, _⟩ := OwnI.rd how
    subst hue
    have hxl : Hid (xs.length = 0) := hide (by rw [unhide hnn]; exact hn0)
    rw [unhide hnn, hn0]
    clear hu3 how hn0 hidx
    go_wp2
    go_loop [7, 23] (fun _ i => i = .int .i64 0) (fun _ _ => 0)
    case atStart => rfl
    case round =>
      subst hrel
      go_wp2
      go_ret
      rw [unhide hRR]
      exact ⟨_, rfl, by have h := unhide how2; unfold OwnI at h ⊢; rw [unhide hxl] at h ⊢; exact h, unhide hu4⟩
  obtain ⟨g, capg, rfl, hgw, hgl, hcg, hrow⟩ := rowJ_of_own how (by rw [unhide hnn]; omega)
  rw [unhide hnn] at hcg hrow ⊢
  clear how
  have hs3 := (unhide hu3).size
  rw [← partSet_start 0 xs A rfl] at hrow
  have hbel := (unhide hu3).none
  replace hbel := hide (below_upd hbel hu4 (Nat.le_refl _) (.inr (Nat.le_refl _)))
  replace hrow := hide hrow
  have hgw' : w1.heap.size ≤ g := by omega
  clear hB1 hB2 hB4 hu3 hu4 hgw hs3 hidx
  go_wp2
  go_loopw [7, 23] (fun _ i wr => ∃ k : Nat, k ≤ n ∧ i = .int .i64 k ∧ Hid (RowJ wr g n capg (partSet .i64 (ints xs) A k)) ∧ Hid (Below w1.heap.size w1 wr) ∧ Hid (InR (-67108864) 67108863 (rst o xs k))) (fun _ i _ => n - (intOf i).toNat)
  case atStart => exact ⟨0, Nat.zero_le _, rfl, hrow, hbel, hide (inR_nil _ _)⟩
  case round =>
    clear hrow hbel
    obtain ⟨k, hk, rfl, hrow, hbel, hir⟩ := hrel
    by_cases hlt : k < n
    · have hxk := unhide hin k (by rw [unhide hnn]; exact hlt)
      have gA := partSet_set .i64 (ints xs) A k (by rw [unhide hAl]; exact hlt) (by simp [ints, unhide hAl, unhide hnn])
      rw [unhide hAg k hlt] at gA
      have hcell := partSet_cell k xs A (by rw [unhide hnn]; exact hlt) (by rw [unhide hnn]; exact unhide hAl)
      rw [← (unhide hrow).cell k hlt] at hcell
      have hN2k := hide (unhide hN2 k hlt)
      have hin1 : Hid ((-67108864 ≤ rstAt o xs (rst o xs k) k ∧ rstAt o xs (rst o xs k) k ≤ 67108863) → InR (-67108864) 67108863 (rst o xs (k + 1))) := hide (fun h => by rw [rst_succ]; exact inR_snoc (unhide hir) h)
      have hyV : Hid (rstAt o xs (rst o xs k) k = if o ≤ k then xs.getD k 0 + gueZ o (rst o xs k) k else xs.getD k 0) := hide rfl
      generalize rstAt o xs (rst o xs k) k = y at gA hN2k hin1 hyV
      have hzV := hide (gueZ_V o (rst o xs k) k)
      have hgb := gueZ_bd (unhide hir) o k ho
      have hlg := (unhide hrow).lt
      have hcs : ∀ (X : UpdT wr) m, m < k → X.to.cell? ⟨g, m, none⟩ = some (.int .i64 ((rst o xs k).getD m 0)) := fun X m hm => by
        have e1 : wr.cell? ⟨g, m, none⟩ = some (.int .i64 ((rst o xs k).getD m 0)) := by
          rw [(unhide hrow).cell m (by omega), ← unhide hAt k m hm hk]
          exact partSet_cellL m k xs A hm (by rw [unhide hAl]; omega)
        exact cell_updJ e1 hlg X
      generalize gueZ o (rst o xs k) k = z at hzV hgb hyV
      generalize xs.getD k 0 = x at hxk hyV hcell
      obtain ⟨x1, x2⟩ := hxk
      obtain ⟨z1, z2⟩ := hgb
      have hnA := (unhide hrow).frozen k
      have kI : (0 : Int) ≤ (k : Int) := by omega
      have kL : (k : Int) < (n : Int) := by omega
      by_cases hko : o ≤ k
      case neg =>
        have hy := unhide hyV
        rw [if_neg hko] at hy
        subst hy
        have q1 : decide ((o : Int) ≤ (k : Int)) = false := decide_eq_false (by omega)
        have q2 : decide (o ≤ k) = false := decide_eq_false hko
        have hst : (partSet .i64 (ints xs) A k).set k (.int .i64 y) = partSet .i64 (ints xs) A k := by
          have hc := (unhide hrow).cell k hlt
          rw [hcell] at hc
          apply List.ext_getElem? 
          intro i
          by_cases hi : i = k
          · subst hi
            rw [← hc, List.getElem?_set_self (by have := (unhide hrow).len; omega)]
          · rw [List.getElem?_set_ne (by omega)]
        rw [hst] at gA
        have rA2 := unhide hrow
        rw [gA] at rA2
        have rb2 := unhide hbel
        have dY := hcell
        clear gA hrow hbel hcs hzV hyV hcell hst hnA
        go_upto_region 10 with fail
        replace rA2 := hide rA2
        replace rb2 := hide rb2
        have hHB := hide (fun W => implHasBits y 27 W (by omega) (by omega))
        by_cases hyb : -67108864 ≤ y ∧ y ≤ 67108863
        case neg =>
          have hB := hide (unhide hN2k hyb)
          rw [hasB27 y hyb] at hHB
          clear hN2k hin1 hyb
          go_wp2_with fail
          refine (unhide hHB _).mono ?_
          rintro e wz ⟨rfl, rfl⟩
          go_wp2
          go_ret
          exact ⟨_, rfl, by rw [unhide hB]; exact own_nilI _ _ _, Upd.of_below (unhide rb2) 0 0⟩
        rw [hasB27y y hyb] at hHB
        have hin2 := hide (unhide hin1 hyb)
        clear hN2k hin1 hyb
        go_wp2_with fail
        refine (unhide hHB _).mono ?_
        rintro e wz ⟨rfl, rfl⟩
        go_wp2
        go_roundw
        case rel => exact ⟨k + 1, by omega, by go_num, rA2, rb2, hin2⟩
        case measure => simp [intOf]; omega
      have hy := unhide hyV
      rw [if_pos hko] at hy
      have q1 : decide ((o : Int) ≤ (k : Int)) = true := decide_eq_true (by omega)
      have q2 : decide (o ≤ k) = true := decide_eq_true hko
      obtain ⟨j, hj⟩ : ∃ j, k - o = j := ⟨_, rfl⟩
      have hF := hide (fun (X : UpdT wr) (c : Nat) => unhide hfo c g j ((rst o xs k).getD (k - 1) 0) ((rst o xs k).getD (k - 2) 0) ((rst o xs k).getD (k - 3) 0) ((rst o xs k).getD (k - 4) 0) X.to (sm_ofI (unhide hir) _) (sm_ofI (unhide hir) _) (sm_ofI (unhide hir) _) (sm_ofI (unhide hir) _)
        (fun h => by have := hcs X (k - 1) (by omega); rwa [show k - 1 = j + (o - 1) by omega] at this ⊢)
        (fun h => by have := hcs X (k - 2) (by omega); rwa [show k - 2 = j + (o - 2) by omega] at this ⊢)
        (fun h => by have := hcs X (k - 3) (by omega); rwa [show k - 3 = j + (o - 3) by omega] at this ⊢)
        (fun h => by have := hcs X (k - 4) (by omega); rwa [show k - 4 = j + (o - 4) by omega] at this ⊢))
      rw [← unhide hzV] at hF
      have fA := cell_updJ hcell hlg
      have jI : (k : Int) - (o : Int) = (j : Int) := by omega
      have jW : IntKind.i64.wrap (j : Int) = (j : Int) := by simp [IntKind.wrap, IntKind.bits, IntKind.signed]; omega
      have jc : ¬ capg = j := by omega
      have j0 : (0 : Int) ≤ (j : Int) := by omega
      have jk : (j : Int) ≤ (k : Int) := by omega
      have kc : (k : Int) ≤ (capg : Int) := by omega
      have eo : k - j = o := by omega
      clear hcs hzV hcell hyV
      replace hj := hide hj
      go_upto_region 9 with fail
      refine wq_region_tail 14 (by kernel_rfl) (by kernel_rfl) ?_
      simp only [List.take_succ_cons, List.take_zero, List.drop_succ_cons, List.drop_zero]
      iterate 11
        refine WQ.step (fun K hK => ?_)
        go_simp
        refine hK _ ?_
        clear hK K
      refine WQ.step (fun K hK => ?_)
      go_simp
      refine ⟨.int .i64 z, fun X => Calls.updT X (unhide hF X _), hK _ ?_⟩
      clear hK K
      iterate 2
        refine WQ.step (fun K hK => ?_)
        go_simp
        refine hK _ ?_
        clear hK K
      refine WQ.nil ?_
      rintro _ ⟨X, rfl⟩
      have hX := X.upd
      have fX := fA X
      generalize X.to = wt at hX fX ⊢
      have q3 := (unhide hrow).keep hX
      have hnA := q3.frozen k
      have rA2 : RowJ (wt.setCell ⟨g, k, none⟩ (.int .i64 (x + z))) g n capg (partSet .i64 (ints xs) A (k + 1)) := by
        have := q3.set k (.int .i64 (x + z))
        rw [← hy, gA] at this
        rw [← hy]; exact this
      have rb2 : Below w1.heap.size w1 (wt.setCell ⟨g, k, none⟩ (.int .i64 (x + z))) := (below_upd (unhide hbel) hX (Nat.le_refl _) (.inr (Nat.le_refl _))).setCell (p := ⟨g, k, none⟩) hgw' _
      have dY : (wt.setCell ⟨g, k, none⟩ (.int .i64 (x + z))).cell? ⟨g, k, none⟩ = some (.int .i64 y) := by
        rw [hy]
        first | exact World.cell?_setCell_same _ _ fX | exact World.cell?_setCell_same _ _ _ fX
      clear gA q3 hF fA
      go_upto_region 10 with fail
      clear hX fX hnA hy
      generalize wt.setCell ⟨g, k, none⟩ (.int .i64 (x + z)) = W2 at rA2 rb2 dY ⊢
      replace rA2 := hide rA2
      replace rb2 := hide rb2
      have hHB := hide (fun W => implHasBits y 27 W (by omega) (by omega))
      by_cases hyb : -67108864 ≤ y ∧ y ≤ 67108863
      case neg =>
        have hB := hide (unhide hN2k hyb)
        rw [hasB27 y hyb] at hHB
        clear hN2k hin1 hyb
        go_wp2_with fail
        refine (unhide hHB _).mono ?_
        rintro e wz ⟨rfl, rfl⟩
        go_wp2
        go_ret
        exact ⟨_, rfl, by rw [unhide hB]; exact own_nilI _ _ _, Upd.of_below (unhide rb2) 0 0⟩
      rw [hasB27y y hyb] at hHB
      have hin2 := hide (unhide hin1 hyb)
      clear hN2k hin1 hyb
      go_wp2_with fail
      refine (unhide hHB _).mono ?_
      rintro e wz ⟨rfl, rfl⟩
      go_wp2
      go_roundw
      case rel => exact ⟨k + 1, by omega, by go_num, rA2, rb2, hin2⟩
      case measure => simp [intOf]; omega
    · have hkn : n = k := by omega
      subst hkn
      have oA := unhide hrow
      have aA := partSet_all .i64 (ints xs) A (by simp [ints, unhide hAl, unhide hnn])
      rw [unhide hAl] at aA
      rw [aA] at oA
      have hlg := oA.lt
      have hT : Hid (OwnI wr w1.heap.size wr.heap.size (.slice (some ⟨g, 0, none⟩) n capg) A) := hide (by
        have h0 : OwnI wr g (g + 1) (.slice (some ⟨g, 0, none⟩) n capg) A := by have := oA.own; unfold OwnI; rw [unhide hAl]; exact this
        exact own_mono h0 hgw' (by omega))
      have hR := hide (unhide hY (unhide hAr (unhide hir)))
      clear hrow oA aA hlg hY hN2 hAr hir
      go_wp2
      go_ret
      rw [unhide hR]
      exact ⟨_, rfl, unhide hT, Upd.of_below (unhide hbel) 0 0⟩
set_option maxHeartbeats 4000000 in
theorem implRestore (o : Int) (v : Value) (xs : List Int) (w : World) (_hl : -9223372036854775808 ≤ o) (_hh : o ≤ 9223372036854775807) (hn : xs.length ≤ 1048576) (_hR : InI xs) (hv : RdX w v xs) :
    Calls Try.prog 21 #[.int .i64 o, v] w fun e w' => ∃ u, e = .returned u ∧ OwnI w' w.heap.size w'.heap.size u (rstF o xs) ∧ Upd 0 0 w w' := by
  by_cases h : (0 ≤ o ∧ o ≤ 4) ∧ LsOk (-2147483648) 2147483647 xs
  · obtain ⟨⟨h1, h2⟩, h3⟩ := h
    obtain ⟨p, rfl⟩ := Int.eq_ofNat_of_zero_le h1
    exact implRestoreGood p v xs w (by omega) h3 hv
  rw [rstF_no h]
  obtain ⟨ad, cap, rfl, hA⟩ := hv.rd
  have hB1 := implGoodOrder o
  have hC := fun W (u : Upd 0 0 w W) => implGoodNumbers ad cap xs 32 W (by omega) (by omega) hn (hA.below u.none)
  rw [loB_32, hiB_32] at hC
  by_cases g : 0 ≤ o ∧ o ≤ 4
  · rw [decide_eq_true g] at hB1
    rw [lsB_no (fun h' => h ⟨g, h'⟩)] at hC
    replace hB1 := hide hB1
    replace hC := hide hC
    clear hA hv h g
    go_enter Try.func21, Try.ntmps21
    go_wp2_with fail
    refine (unhide hB1 _).mono ?_
    rintro e w1 ⟨rfl, rfl⟩
    go_wp2_with fail
    refine (unhide hC _ (Upd.refl 0 0 _)).mono ?_
    rintro e w2 ⟨rfl, hu2⟩
    go_wp2
    go_ret
    exact ⟨_, rfl, own_nilI _ _ _, hu2⟩
  · rw [decide_eq_false g] at hB1
    replace hB1 := hide hB1
    clear hA hv h g hC
    go_enter Try.func21, Try.ntmps21
    go_wp2_with fail
    refine (unhide hB1 _).mono ?_
    rintro e w1 ⟨rfl, rfl⟩
    go_wp2
    go_ret
    exact ⟨_, rfl, own_nilI _ _ _, Upd.refl 0 0 _⟩
theorem rstF_lenM (o : Int) (xs : List Int) : (rstF o xs).length ≤ 1048576 := by have := rstF_len o xs; omega
end Go.Proofs.Ytailhdfmfmlniaa
