/- Residues: the program's walk. -/
import Derived.Test.YtailhdfmfmlniaaWReA
import Derived.Test.YtailhdfmfmlniaaWLiA
import Derived.Test.YtailhdfmfmlniaaWRowJ
import Derived.Test.YtailhdfmfmlniaaWClI
import Derived.Test.YtailhdfmfmlniaaWQT
import Derived.Deep.DeepCutAuto
namespace Go.Proofs.Ytailhdfmfmlniaa
open Go.RowKit

theorem cell_updJ {w : World} {p : Addr} {v : Value} (h : w.cell? p = some v) (hp : p.block < w.heap.size) (X : UpdT w) : X.to.cell? p = some v := (X.upd.none.cell hp).trans h
theorem sm_ofI {xs : List Int} (h : InR (-67108864) 67108863 xs) (j : Nat) : Sm (xs.getD j 0) := getD_bd h (by omega) j
theorem resL_take (o : Nat) (xs : List Int) : (resL o xs).take o = xs.take o := by
  apply List.ext_getElem?
  intro i
  by_cases hi : i < o
  · rw [List.getElem?_take_of_lt hi, List.getElem?_take_of_lt hi]
    by_cases hl : i < xs.length
    · rw [List.getElem?_eq_getElem hl, List.getElem?_eq_getElem (by simpa using hl)]
      have h := tabN_getD xs.length (resAt o xs) i hl
      have e : (resL o xs).getD i 0 = (resL o xs)[i]'(by simpa using hl) := by rw [List.getD_eq_getElem?_getD, List.getElem?_eq_getElem (by simpa using hl)]; rfl
      have e2 : xs.getD i 0 = xs[i] := by rw [List.getD_eq_getElem?_getD, List.getElem?_eq_getElem hl]; rfl
      unfold resL at e
      rw [h] at e
      congr 1
      unfold resL
      rw [← e]
      unfold resAt
      rw [if_neg (by omega), e2]
    · rw [List.getElem?_eq_none (by simpa using hl), List.getElem?_eq_none (by simpa using hl)]
  · rw [List.getElem?_take_eq_none (by omega), List.getElem?_take_eq_none (by omega)]
theorem resL_short (o : Nat) (xs : List Int) (h : xs.length ≤ o) : resL o xs = xs := by
  have := resL_take o xs
  rwa [List.take_of_length_le (by simpa using h), List.take_of_length_le h] at this
set_option maxHeartbeats 8000000 in
set_option maxRecDepth 100000 in
theorem implResidueGood (o : Nat) (v : Value) (xs : List Int) (w : World) (ho : o ≤ 4) (hok : LsOk (-67108864) 67108863 xs) (hv : RdX w v xs) :
    Calls Try.prog 19 #[.int .i64 (o : Int), v] w fun e w' => ∃ u, e = .returned u ∧ OwnI w' w.heap.size w'.heap.size u (resL o xs) ∧ Upd 0 0 w w' := by
  obtain ⟨ad, cap, rfl, hA⟩ := hv.rd
  have hn4 := hok.1
  have hB1 := implGoodOrder (o : Int)
  rw [decide_eq_true (show (0 : Int) ≤ (o : Int) ∧ (o : Int) ≤ 4 by omega)] at hB1
  have hB2 := fun W (u : Upd 0 0 w W) => implGoodList ad cap xs W (by omega) (hA.below u.none)
  rw [lsB_yes hok] at hB2
  have hB4 := hide (fun W (u : Upd 0 0 w W) => cloneI _ xs W (by omega) (hv.below u.none).rj)
  have hidx := idx_fore o ho
  replace hB1 := hide hB1
  replace hB2 := hide hB2
  have hv0 := hide hv
  have hx := hide hok.2
  clear hok hA hv
  by_cases hlo : o < xs.length
  case neg =>
    rw [resL_short o xs (by omega)]
    have q1 : decide ((o : Int) < (xs.length : Int)) = false := decide_eq_false (by omega)
    have q2 : decide (o < xs.length) = false := decide_eq_false (by omega)
    go_enter Try.func19, Try.ntmps19
    go_wp2_with fail
    refine (unhide hB1 _).mono ?_
    rintro e w1 ⟨rfl, rfl⟩
    go_wp2_with fail
    refine (unhide hB2 _ (Upd.refl 0 0 _)).mono ?_
    rintro e w2 ⟨rfl, hu2⟩
    replace hu2 := hide hu2
    go_wp2_with fail
    refine (implFores _).mono ?_
    rintro e w3 ⟨rfl, hu3⟩
    replace hu3 := hide ((unhide hu2).trans hu3)
    clear hu2
    go_wp2_with fail
    refine (unhide hB4 _ (unhide hu3)).mono ?_
    rintro e w4 ⟨u, rfl, how, hu4⟩
    have how2 := hide (own_mono (a' := w1.heap.size) how (unhide hu3).size (Nat.le_refl _))
    replace hu4 := hide ((unhide hu3).trans hu4)
    clear hu3 how
    go_wp2
    go_loop [7] (fun i => i = .int .i64 (o : Int)) (fun _ => 0)
    case atStart => rfl
    case round =>
      subst hrel
      go_wp2
      go_ret
      exact ⟨_, rfl, unhide how2, unhide hu4⟩
  rcases unhide hv0 with ⟨_, e0⟩ | ⟨b, off, cap', e0, hcp, hbl, hc⟩
  · rw [e0] at hlo; simp at hlo
  simp only [Value.slice.injEq] at e0
  obtain ⟨rfl, _, rfl⟩ := e0
  obtain ⟨n, hnn⟩ : ∃ n, xs.length = n := ⟨_, rfl⟩
  obtain ⟨A, hAe⟩ : ∃ A, resL o xs = A := ⟨_, rfl⟩
  have hAl : A.length = n := by rw [← hAe, resL_length, hnn]
  have hAg : Hid (∀ k, k < n → A.getD k 0 = if o ≤ k then xs.getD k 0 - gueZ o xs k else xs.getD k 0) := hide (fun k hk => by rw [← hAe]; exact tabN_getD _ _ _ (by omega))
  have hGb : Hid (∀ k, -1006632960 ≤ gueZ o xs k ∧ gueZ o xs k ≤ 1006632960) := hide (fun k => gueZ_bd (unhide hx) o k ho)
  have hst := hide (partSet_start o xs A (by rw [← hAe]; exact resL_take o xs))
  rw [hAe]
  clear hAe hv0
  have hc0 : Hid (∀ j, j < n → w.cell? ⟨b, off + j, none⟩ = some (.int .i64 (xs.getD j 0))) := hide (fun j hj => hc j (by omega))
  clear hc
  rw [hnn] at hn4 hlo hB2 hB4 hcp ⊢
  obtain ⟨G, hG⟩ : ∃ G, fgn o = G := ⟨_, rfl⟩
  have hrun := fun v W => run_fore o v W ho
  have hfo := fun cap b off a1 a2 a3 a4 W => implFore o cap b off a1 a2 a3 a4 W ho
  rw [hG] at hidx hrun hfo
  replace hfo := hide hfo
  replace hG := hide hG
  replace hAl := hide hAl
  replace hnn := hide hnn
  go_enter Try.func19, Try.ntmps19
  go_wp2_with fail
  refine (unhide hB1 _).mono ?_
  rintro e w1 ⟨rfl, rfl⟩
  go_wp2_with fail
  refine (unhide hB2 _ (Upd.refl 0 0 _)).mono ?_
  rintro e w2 ⟨rfl, hu2⟩
  replace hu2 := hide hu2
  go_wp2_with fail
  refine (implFores _).mono ?_
  rintro e w3 ⟨rfl, hu3⟩
  replace hu3 := hide ((unhide hu2).trans hu3)
  clear hu2
  go_wp2_with fail
  refine (unhide hB4 _ (unhide hu3)).mono ?_
  rintro e w4 ⟨u, rfl, how, hu4⟩
  obtain ⟨g, capg, rfl, hgw, hgl, hcg, hrow⟩ := rowJ_of_own how (by rw [unhide hnn]; omega)
  rw [unhide hnn] at hcg hrow ⊢
  clear how
  have hs3 := (unhide hu3).size
  rw [← unhide hst] at hrow
  have hbel := (unhide hu3).none
  replace hbel := hide (below_upd hbel hu4 (Nat.le_refl _) (.inr (Nat.le_refl _)))
  replace hrow := hide hrow
  have hgw' : w1.heap.size ≤ g := by omega
  clear hB1 hB2 hB4 hu3 hu4 hgw hs3
  clear hidx
  go_wp2
  go_loopw [7] (fun i wr => ∃ k : Nat, o ≤ k ∧ k ≤ n ∧ i = .int .i64 k ∧ Hid (RowJ wr g n capg (partSet .i64 (ints xs) A k)) ∧ Hid (Below w1.heap.size w1 wr)) (fun i _ => n - (intOf i).toNat)
  case atStart => exact ⟨o, Nat.le_refl _, by omega, rfl, hrow, hbel⟩
  case round =>
    clear hrow hbel
    obtain ⟨k, hok, hk, rfl, hrow, hbel⟩ := hrel
    by_cases hlt : k < n
    · have q1 : decide ((k : Int) < (n : Int)) = true := decide_eq_true (by omega)
      have q2 : decide (k < n) = true := decide_eq_true hlt
      have hxk := sm_ofI (unhide hx) k
      have gA := partSet_set .i64 (ints xs) A k (by rw [unhide hAl]; exact hlt) (by simp [ints, unhide hAl, unhide hnn])
      rw [unhide hAg k hlt, if_pos hok] at gA
      have hcell := partSet_cell k xs A (by rw [unhide hnn]; exact hlt) (by rw [unhide hnn]; exact unhide hAl)
      rw [← (unhide hrow).cell k hlt] at hcell
      have hzV := hide (gueZ_V o xs k)
      have hgb := unhide hGb k
      obtain ⟨j, hj⟩ : ∃ j, k - o = j := ⟨_, rfl⟩
      have hcs : ∀ (X : UpdT wr) m, m < n → X.to.cell? ⟨b, off + m, none⟩ = some (.int .i64 (xs.getD m 0)) := fun X m hm => by
        have e1 := ((unhide hbel).cell (p := ⟨b, off + m, none⟩) (by simpa using hbl)).trans (unhide hc0 m hm)
        have hs := (unhide hbel).size
        exact cell_updJ e1 (by simp; omega) X
      have hF := hide (fun (X : UpdT wr) (c : Nat) => unhide hfo c b (off + j) (xs.getD (k - 1) 0) (xs.getD (k - 2) 0) (xs.getD (k - 3) 0) (xs.getD (k - 4) 0) X.to (sm_ofI (unhide hx) _) (sm_ofI (unhide hx) _) (sm_ofI (unhide hx) _) (sm_ofI (unhide hx) _)
        (fun h => by have := hcs X (k - 1) (by omega); rwa [show off + (k - 1) = off + j + (o - 1) by omega] at this)
        (fun h => by have := hcs X (k - 2) (by omega); rwa [show off + (k - 2) = off + j + (o - 2) by omega] at this)
        (fun h => by have := hcs X (k - 3) (by omega); rwa [show off + (k - 3) = off + j + (o - 3) by omega] at this)
        (fun h => by have := hcs X (k - 4) (by omega); rwa [show off + (k - 4) = off + j + (o - 4) by omega] at this))
      rw [← unhide hzV] at hF
      generalize gueZ o xs k = z at hzV hgb gA hF
      generalize xs.getD k 0 = x at hxk gA hcell
      obtain ⟨x1, x2⟩ := hxk
      obtain ⟨z1, z2⟩ := hgb
      have fA := cell_updJ hcell (by have := (unhide hrow).lt; simpa using this)
      have kI : (0 : Int) ≤ (k : Int) := by omega
      have kL : (k : Int) < (n : Int) := by omega
      have jI : (k : Int) - (o : Int) = (j : Int) := by omega
      have jW : IntKind.i64.wrap (j : Int) = (j : Int) := by simp [IntKind.wrap, IntKind.bits, IntKind.signed]; omega
      have jc : ¬ cap = j := by omega
      have j0 : (0 : Int) ≤ (j : Int) := by omega
      have jk : (j : Int) ≤ (k : Int) := by omega
      have kc : (k : Int) ≤ (cap : Int) := by omega
      have eo : k - j = o := by omega
      clear hcs hzV hcell
      replace hj := hide hj
      go_upto_region 8 with fail
      refine wq_region_tail 14 (by kernel_rfl) (by kernel_rfl) ?_
      simp only [List.take_succ_cons, List.take_zero, List.drop_succ_cons, List.drop_zero]
      iterate 11
        refine WQ.step (fun K hK => ?_)
        go_simp
        refine hK _ ?_
        clear hK K
      refine WQ.step (fun K hK => ?_)
      go_simp
      refine ⟨.int .i64 z, fun X => Calls.updT X (unhide hF X _), hK _ ?_⟩
      clear hK K
      iterate 2
        refine WQ.step (fun K hK => ?_)
        go_simp
        refine hK _ ?_
        clear hK K
      refine WQ.nil ?_
      rintro _ ⟨X, rfl⟩
      have hX := X.upd
      have fX := fA X
      generalize X.to = wt at hX fX ⊢
      have q3 := (unhide hrow).keep hX
      have hnA := q3.frozen k
      have rA2 : Hid (RowJ (wt.setCell ⟨g, k, none⟩ (.int .i64 (x - z))) g n capg (partSet .i64 (ints xs) A (k + 1))) := hide (by
        have := q3.set k (.int .i64 (x - z))
        rw [gA] at this; exact this)
      have rb2 : Hid (Below w1.heap.size w1 (wt.setCell ⟨g, k, none⟩ (.int .i64 (x - z)))) := hide ((below_upd (unhide hbel) hX (Nat.le_refl _) (.inr (Nat.le_refl _))).setCell (p := ⟨g, k, none⟩) hgw' _)
      clear gA q3 hF fA hX
      go_wp2
      go_roundw
      case rel => exact ⟨k + 1, by omega, by omega, by go_num, rA2, rb2⟩
      case measure => simp [intOf]; omega
    · have hkn : k = n := by omega
      subst hkn
      have q1 : decide ((k : Int) < (k : Int)) = false := decide_eq_false (by omega)
      have q2 : decide (k < k) = false := decide_eq_false (by omega)
      have oA := unhide hrow
      have aA := partSet_all .i64 (ints xs) A (by simp [ints, unhide hAl, unhide hnn])
      rw [unhide hAl] at aA
      rw [aA] at oA
      have hlg := oA.lt
      have hT : Hid (OwnI wr w1.heap.size wr.heap.size (.slice (some ⟨g, 0, none⟩) k capg) A) := hide (by
        have h0 : OwnI wr g (g + 1) (.slice (some ⟨g, 0, none⟩) k capg) A := by have := oA.own; unfold OwnI; rw [unhide hAl]; exact this
        exact own_mono h0 hgw' (by omega))
      clear hrow oA aA hlg
      go_wp2
      go_ret
      exact ⟨_, rfl, unhide hT, Upd.of_below (unhide hbel) 0 0⟩
set_option maxHeartbeats 4000000 in
theorem implResidue (o : Int) (v : Value) (xs : List Int) (w : World) (_hl : -9223372036854775808 ≤ o) (_hh : o ≤ 9223372036854775807) (hn : xs.length ≤ 1048576) (_hR : InI xs) (hv : RdX w v xs) :
    Calls Try.prog 19 #[.int .i64 o, v] w fun e w' => ∃ u, e = .returned u ∧ OwnI w' w.heap.size w'.heap.size u (resF o xs) ∧ Upd 0 0 w w' := by
  by_cases h : (0 ≤ o ∧ o ≤ 4) ∧ LsOk (-67108864) 67108863 xs
  · obtain ⟨⟨h1, h2⟩, h3⟩ := h
    obtain ⟨p, rfl⟩ := Int.eq_ofNat_of_zero_le h1
    rw [resF_yes (by omega) h3]
    exact implResidueGood p v xs w (by omega) h3 hv
  rw [resF_no h]
  obtain ⟨ad, cap, rfl, hA⟩ := hv.rd
  have hB1 := implGoodOrder o
  have hC := hide (fun W (u : Upd 0 0 w W) => implGoodList ad cap xs W hn (hA.below u.none))
  by_cases g : 0 ≤ o ∧ o ≤ 4
  · rw [decide_eq_true g] at hB1
    rw [lsB_no (fun h' => h ⟨g, h'⟩)] at hC
    replace hB1 := hide hB1
    clear hA hv h g
    go_enter Try.func19, Try.ntmps19
    go_wp2_with fail
    refine (unhide hB1 _).mono ?_
    rintro e w1 ⟨rfl, rfl⟩
    go_wp2_with fail
    refine (unhide hC _ (Upd.refl 0 0 _)).mono ?_
    rintro e w2 ⟨rfl, hu2⟩
    go_wp2
    go_ret
    exact ⟨_, rfl, own_nilI _ _ _, hu2⟩
  · rw [decide_eq_false g] at hB1
    replace hB1 := hide hB1
    clear hA hv h g hC
    go_enter Try.func19, Try.ntmps19
    go_wp2_with fail
    refine (unhide hB1 _).mono ?_
    rintro e w1 ⟨rfl, rfl⟩
    go_wp2
    go_ret
    exact ⟨_, rfl, own_nilI _ _ _, Upd.refl 0 0 _⟩
end Go.Proofs.Ytailhdfmfmlniaa
