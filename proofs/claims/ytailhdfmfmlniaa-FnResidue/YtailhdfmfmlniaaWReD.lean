/- What a residue restores: the specification's walk. -/
import Derived.Test.YtailhdfmfmlniaaWReB
import Derived.Test.YtailhdfmfmlniaaWRowJ
namespace Go.Proofs.Ytailhdfmfmlniaa
open Go.RowKit

theorem rst_getD (o : Nat) (xs : List Int) (n j k : Nat) (h : j < k) (hk : k ≤ n) : (rst o xs n).getD j 0 = (rst o xs k).getD j 0 := by
  rw [← rst_take o xs k n hk, List.getD_eq_getElem?_getD, List.getD_eq_getElem?_getD, List.getElem?_take_of_lt h]
theorem rst_at (o : Nat) (xs : List Int) (n k : Nat) (hk : k < n) : (rst o xs n).getD k 0 = rstAt o xs (rst o xs k) k := by
  rw [rst_getD o xs n k (k + 1) (by omega) (by omega), rst_succ]
  have := getD_snocI (rst o xs k) (rstAt o xs (rst o xs k) k)
  rwa [rst_length] at this
set_option maxHeartbeats 8000000 in
set_option maxRecDepth 100000 in
theorem specRestoreGood (o : Nat) (ad : Option Addr) (cap : Nat) (xs : List Int) (w : World) (ho : o ≤ 4) (hn : xs.length ≤ 4000) (hA : ArgI w ad xs) :
    Calls Try.prog 29 #[.int .i64 (o : Int), .slice ad xs.length cap] w fun e w' => ∃ u, e = .returned u ∧ OwnI w' w.heap.size w'.heap.size u (rstF o xs) ∧ Upd 0 0 w w' := by
  obtain ⟨n, hnn⟩ : ∃ n, xs.length = n := ⟨_, rfl⟩
  have hY : Hid ((∀ j, j < n → (-2147483648 : Int) ≤ xs.getD j 0 ∧ xs.getD j 0 ≤ 2147483647) → InR (-67108864) 67108863 (rst o xs n) → rstF o xs = rst o xs n) := hide (fun h1 h2 => by
    rw [rstF_yes ho ⟨hn, fun j hj => h1 j (by omega)⟩ (by rw [hnn]; exact h2), hnn])
  have hN1 : Hid (∀ k, k < n → ¬ ((-2147483648 : Int) ≤ xs.getD k 0 ∧ xs.getD k 0 ≤ 2147483647) → rstF o xs = []) := hide (fun k hk h => rstF_no (fun h' => h (h'.2.2 k (by omega))))
  have hN2 : Hid (∀ k, k < n → ¬ (-67108864 ≤ rstAt o xs (rst o xs k) k ∧ rstAt o xs (rst o xs k) k ≤ 67108863) → rstF o xs = []) := hide (fun k hk h => rstF_bad k (by omega) h)
  generalize rstF o xs = RR at hY hN1 hN2 ⊢
  rw [hnn] at hn ⊢
  obtain ⟨ob, hmk⟩ := mkRowI n (by omega)
  have hmk1 := fun X => (hmk X).1
  have hmk2 := hide (fun X => (hmk X).2)
  clear hmk
  obtain ⟨A, hAe⟩ : ∃ A, rst o xs n = A := ⟨_, rfl⟩
  have hAl : A.length = n := by rw [← hAe, rst_length]
  have hAg : Hid (∀ k, k < n → A.getD k 0 = rstAt o xs (rst o xs k) k) := hide (fun k hk => by rw [← hAe]; exact rst_at o xs n k hk)
  have hAt : Hid (∀ k j, j < k → k ≤ n → A.getD j 0 = (rst o xs k).getD j 0) := hide (fun k j hj hk => by rw [← hAe]; exact rst_getD o xs n j k hj hk)
  rw [hAe] at hY
  have hAr : Hid (InR (-67108864) 67108863 (rst o xs n) → InR (-67108864) 67108863 A) := hide (fun h => by rw [← hAe]; exact h)
  clear hAe
  have hz0 : partI A 0 = List.replicate n (.int .i64 0) := by rw [partI_zero, hAl]
  replace hz0 := hide hz0
  replace hA := hide hA
  replace hnn := hide hnn
  replace hAl := hide hAl
  have t1 : ¬ ((o : Int) < 0) := by omega
  have t2 : ¬ ((4 : Int) < (o : Int)) := by omega
  go_enter Try.func29, Try.ntmps29
  go_wp2
  go_loop [6, 22] (fun _ i => ∃ k : Nat, k ≤ n ∧ i = .int .i64 k ∧ Hid (∀ j, j < k → (-2147483648 : Int) ≤ xs.getD j 0 ∧ xs.getD j 0 ≤ 2147483647)) (fun _ i => n - (intOf i).toNat)
  case atStart => exact ⟨0, Nat.zero_le _, rfl, hide (fun j hj => by omega)⟩
  case round =>
    obtain ⟨k, hk, rfl, hok⟩ := hrel
    by_cases hlt : k < n
    · obtain ⟨b, off, rfl, hbl, hc⟩ := (unhide hA) (ne_of_lt_length (k := k) (by rw [unhide hnn]; exact hlt))
      have hck := hc k (by rw [unhide hnn]; exact hlt)
      have hbad := hide (unhide hN1 k hlt)
      have hOk : Hid (((-2147483648 : Int) ≤ xs.getD k 0 ∧ xs.getD k 0 ≤ 2147483647) → ∀ j, j < k + 1 → ((-2147483648 : Int) ≤ xs.getD j 0 ∧ xs.getD j 0 ≤ 2147483647)) := hide (fun h j hj => by
        rcases Nat.lt_or_eq_of_le (Nat.le_of_lt_succ hj) with h' | h'
        · exact unhide hok j h'
        · subst h'; exact h)
      clear hc hbl hmk1 hmk2
      generalize xs.getD k 0 = x at hck hbad hOk
      by_cases h1 : x < -2147483648
      · have hB := hide (unhide hbad (fun h => by have := h.1; omega))
        clear hbad hOk
        go_wp2
        go_ret
        exact ⟨_, rfl, by rw [unhide hB]; exact own_nilI _ _ _, Upd.refl 0 0 _⟩
      · by_cases h2 : 2147483647 < x
        · have hB := hide (unhide hbad (fun h => by have := h.2; omega))
          clear hbad hOk
          go_wp2
          go_ret
          exact ⟨_, rfl, by rw [unhide hB]; exact own_nilI _ _ _, Upd.refl 0 0 _⟩
        · have hok2 := hide (unhide hOk ⟨by omega, by omega⟩)
          clear hbad hOk
          go_wp2
          all_goals
            go_round
            case rel => exact ⟨k + 1, by omega, by go_num, hok2⟩
            case measure => simp [intOf]; omega
    · have hkl : n = k := by omega
      subst hkl
      have hin := hide (unhide hok)
      clear hN1 hok
      replace hY := hide (unhide hY (unhide hin))
      go_upto_region 10 with fail
      have hrA := hide (unhide hmk2 w)
      rw [← unhide hz0] at hrA
      have hbel : Hid (Below w.heap.size w (w.alloc ob)) := hide ((Below.refl w.heap.size w).alloc (Nat.le_refl _) ob)
      clear hmk1 hmk2 hz0
      generalize w.alloc ob = W0 at hrA hbel ⊢
      obtain ⟨g, hg⟩ : ∃ g, w.heap.size = g := ⟨_, rfl⟩
      have hgw : w.heap.size ≤ g := by omega
      rw [hg] at hrA ⊢
      replace hg := hide hg
      go_wp2
      go_loopw [8, 38] (fun _ i wr => ∃ k : Nat, k ≤ n ∧ i = .int .i64 k ∧ Hid (RowI wr g n (partI A k)) ∧ Hid (Below w.heap.size w wr) ∧ Hid (InR (-67108864) 67108863 (rst o xs k))) (fun _ i _ => n - (intOf i).toNat)
      case atStart => exact ⟨0, Nat.zero_le _, rfl, hrA, hbel, hide (inR_nil _ _)⟩
      clear hrA hbel
      obtain ⟨k, hk, rfl, hrA, hbel, hir⟩ := hrel
      by_cases hlt : k < n
      · obtain ⟨b, off, rfl, hbl, hc⟩ := (unhide hA) (ne_of_lt_length (k := k) (by rw [unhide hnn]; exact hlt))
        have hck := ((unhide hbel).cell (p := ⟨b, off + k, none⟩) (by simpa using hbl)).trans (hc k (by rw [unhide hnn]; exact hlt))
        have hxk := unhide hin k hlt
        have gA := partI_set A k (by rw [unhide hAl]; exact hlt)
        rw [unhide hAg k hlt] at gA
        have hN2k := hide (unhide hN2 k hlt)
        have hin1 : Hid ((-67108864 ≤ rstAt o xs (rst o xs k) k ∧ rstAt o xs (rst o xs k) k ≤ 67108863) → InR (-67108864) 67108863 (rst o xs (k + 1))) := hide (fun h => by rw [rst_succ]; exact inR_snoc (unhide hir) h)
        have hyV : Hid (rstAt o xs (rst o xs k) k = if o ≤ k then xs.getD k 0 + gueZ o (rst o xs k) k else xs.getD k 0) := hide rfl
        generalize rstAt o xs (rst o xs k) k = y at gA hN2k hin1 hyV
        have hzV := hide (gueZ_V o (rst o xs k) k)
        have hgb := gueZ_bd (unhide hir) o k ho
        generalize gueZ o (rst o xs k) k = z at hzV hgb hyV
        generalize xs.getD k 0 = x at hck hxk hyV
        obtain ⟨x1, x2⟩ := hxk
        obtain ⟨z1, z2⟩ := hgb
        have nb1 : b ≠ g := by omega
        have hnA := (unhide hrA).frozen k
        obtain ⟨uA, hdA⟩ := (unhide hrA).has k hlt
        have kI : (0 : Int) ≤ (k : Int) := by omega
        have kL : (k : Int) < (n : Int) := by omega
        have hlg := (unhide hrA).lt
        have hce : ∀ m, m < k → wr.cell? ⟨g, m, none⟩ = some (.int .i64 ((rst o xs k).getD m 0)) := fun m hm => by
          rw [(unhide hrA).cell m (by omega), ← unhide hAt k m hm hk]
          unfold partI ints
          rw [List.getElem?_append_left (by simp; rw [unhide hAl]; omega), List.getElem?_map, List.getElem?_take_of_lt hm]
          have hml : m < A.length := by rw [unhide hAl]; omega
          rw [List.getElem?_eq_getElem hml, List.getD_eq_getElem?_getD, List.getElem?_eq_getElem hml]
          rfl
        clear hc
        go_upto_region 14 with fail
        have qA := (unhide hrA).set k (.int .i64 x)
        have qb := (unhide hbel).setCell (p := ⟨g, k, none⟩) hgw (.int .i64 x)
        have dA : (wr.setCell ⟨g, k, none⟩ (.int .i64 x)).cell? ⟨g, k, none⟩ = some (.int .i64 x) := by
          first | exact World.cell?_setCell_same _ _ hdA | exact World.cell?_setCell_same _ _ _ hdA
        have hce2 : ∀ m, m < k → (wr.setCell ⟨g, k, none⟩ (.int .i64 x)).cell? ⟨g, m, none⟩ = some (.int .i64 ((rst o xs k).getD m 0)) := fun m hm => by
          have hne : (⟨g, k, none⟩ : Addr) ≠ ⟨g, m, none⟩ := by intro h; simp only [Addr.mk.injEq] at h; omega
          refine Eq.trans ?_ (hce m hm)
          first | exact World.cell?_setCell_other hne | exact World.cell?_setCell_other _ hne | exact World.cell?_setCell_other _ _ hne | exact World.cell?_setCell_other _ _ _ _ hne
        have hlg2 : g < (wr.setCell ⟨g, k, none⟩ (.int .i64 x)).heap.size := by simpa using hlg
        clear hck hrA hbel hdA hnA hce hlg
        generalize wr.setCell ⟨g, k, none⟩ (.int .i64 x) = W1 at qA qb dA hce2 hlg2 ⊢
        by_cases hko : o ≤ k
        case neg =>
          have hy := unhide hyV
          rw [if_neg hko] at hy
          subst hy
          have rA2 := qA
          rw [gA] at rA2
          have rb2 := qb
          have q1 : decide ((o : Int) ≤ (k : Int)) = false := decide_eq_false (by omega)
          have q2 : decide (o ≤ k) = false := decide_eq_false hko
          have dY := dA
          clear gA hce2 qA qb hzV hyV dA hlg2
          go_upto_region 16 with fail
          replace rA2 := hide rA2
          replace rb2 := hide rb2
          by_cases y1 : y < -67108864
          · have hB := hide (unhide hN2k (fun h => by have := h.1; omega))
            clear hN2k
            go_wp2
            go_ret
            exact ⟨_, rfl, by rw [unhide hB]; exact own_nilI _ _ _, Upd.of_below (unhide rb2) 0 0⟩
          by_cases y2 : 67108863 < y
          · have hB := hide (unhide hN2k (fun h => by have := h.2; omega))
            clear hN2k
            go_wp2
            go_ret
            exact ⟨_, rfl, by rw [unhide hB]; exact own_nilI _ _ _, Upd.of_below (unhide rb2) 0 0⟩
          have hin2 := hide (unhide hin1 ⟨by omega, by omega⟩)
          clear hN2k hin1
          go_wp2
          go_roundw
          case rel => exact ⟨k + 1, by omega, by go_num, rA2, rb2, hin2⟩
          case measure => simp [intOf]; omega
        have hy := unhide hyV
        rw [if_pos hko] at hy
        have q1 : decide ((o : Int) ≤ (k : Int)) = true := decide_eq_true (by omega)
        have q2 : decide (o ≤ k) = true := decide_eq_true hko
        have hG := hide (fun X : UpdT W1 => specL10Guess o k n n g 0 ((rst o xs k).getD (k - 1) 0) ((rst o xs k).getD (k - 2) 0) ((rst o xs k).getD (k - 3) 0) ((rst o xs k).getD (k - 4) 0) X.to ho hko hlt hn (sm_of (unhide hir) _) (sm_of (unhide hir) _) (sm_of (unhide hir) _) (sm_of (unhide hir) _)
          (fun h => cell_updL (by rw [Nat.zero_add]; exact hce2 (k - 1) (by omega)) hlg2 X) (fun h => cell_updL (by rw [Nat.zero_add]; exact hce2 (k - 2) (by omega)) hlg2 X) (fun h => cell_updL (by rw [Nat.zero_add]; exact hce2 (k - 3) (by omega)) hlg2 X) (fun h => cell_updL (by rw [Nat.zero_add]; exact hce2 (k - 4) (by omega)) hlg2 X))
        rw [← unhide hzV] at hG
        have fA := cell_updL dA hlg2
        clear hce2 dA hzV hko hlg2 hyV
        replace qA := hide qA
        replace qb := hide qb
        go_upto_region 15 with fail
        refine wq_region_tail 10 (by kernel_rfl) (by kernel_rfl) ?_
        simp only [List.take_succ_cons, List.take_zero, List.drop_succ_cons, List.drop_zero]
        iterate 7
          refine WQ.step (fun K hK => ?_)
          go_simp
          refine hK _ ?_
          clear hK K
        refine WQ.step (fun K hK => ?_)
        go_simp
        refine ⟨.int .i64 z, fun X => Calls.updT X (unhide hG X), hK _ ?_⟩
        clear hK K
        iterate 2
          refine WQ.step (fun K hK => ?_)
          go_simp
          refine hK _ ?_
          clear hK K
        refine WQ.nil ?_
        rintro _ ⟨X, rfl⟩
        have hX := X.upd
        have fX := fA X
        generalize X.to = wt at hX fX ⊢
        have q3 := (unhide qA).keep hX
        have hnA := q3.frozen k
        have rA2 : RowI (wt.setCell ⟨g, k, none⟩ (.int .i64 (x + z))) g n (partI A (k + 1)) := by
          have := q3.set k (.int .i64 (x + z))
          rw [List.set_set, ← hy, gA] at this
          rw [← hy]; exact this
        have rb2 : Below w.heap.size w (wt.setCell ⟨g, k, none⟩ (.int .i64 (x + z))) := (below_upd (unhide qb) hX (Nat.le_refl _) (.inr (Nat.le_refl _))).setCell (p := ⟨g, k, none⟩) hgw _
        have dY : (wt.setCell ⟨g, k, none⟩ (.int .i64 (x + z))).cell? ⟨g, k, none⟩ = some (.int .i64 y) := by
          rw [hy]
          first | exact World.cell?_setCell_same _ _ fX | exact World.cell?_setCell_same _ _ _ fX
        clear gA qA qb q3 hG fA
        go_upto_region 16 with fail
        clear hX fX hnA hy
        generalize wt.setCell ⟨g, k, none⟩ (.int .i64 (x + z)) = W2 at rA2 rb2 dY ⊢
        replace rA2 := hide rA2
        replace rb2 := hide rb2
        by_cases y1 : y < -67108864
        · have hB := hide (unhide hN2k (fun h => by have := h.1; omega))
          clear hN2k
          go_wp2
          go_ret
          exact ⟨_, rfl, by rw [unhide hB]; exact own_nilI _ _ _, Upd.of_below (unhide rb2) 0 0⟩
        by_cases y2 : 67108863 < y
        · have hB := hide (unhide hN2k (fun h => by have := h.2; omega))
          clear hN2k
          go_wp2
          go_ret
          exact ⟨_, rfl, by rw [unhide hB]; exact own_nilI _ _ _, Upd.of_below (unhide rb2) 0 0⟩
        have hin2 := hide (unhide hin1 ⟨by omega, by omega⟩)
        clear hN2k hin1
        go_wp2
        go_roundw
        case rel => exact ⟨k + 1, by omega, by go_num, rA2, rb2, hin2⟩
        case measure => simp [intOf]; omega
      · have hkn : n = k := by omega
        subst hkn
        have oA := unhide hrA
        have aA := partI_all A
        rw [unhide hAl] at aA
        rw [aA] at oA
        have hlg := oA.lt
        have hT : Hid (OwnI wr w.heap.size wr.heap.size (.slice (some ⟨g, 0, none⟩) n n) A) := hide (by
          have h0 : OwnI wr g (g + 1) (.slice (some ⟨g, 0, none⟩) n n) A := by have := oA.own; unfold OwnI; rw [unhide hAl]; exact this
          exact own_mono h0 hgw (by omega))
        have hR := hide (unhide hY (unhide hAr (unhide hir)))
        clear hrA oA aA hlg hY hN2 hAr hir
        go_wp2
        go_ret
        rw [unhide hR]
        exact ⟨_, rfl, unhide hT, Upd.of_below (unhide hbel) 0 0⟩
set_option maxHeartbeats 4000000 in
theorem specRestoreX (o : Int) (v : Value) (xs : List Int) (w : World) (_hl : -9223372036854775808 ≤ o) (_hh : o ≤ 9223372036854775807) (hn : xs.length ≤ 1048576) (_hR : InI xs) (hv : RdX w v xs) :
    Calls Try.prog 29 #[.int .i64 o, v] w fun e w' => ∃ u, e = .returned u ∧ OwnI w' w.heap.size w'.heap.size u (rstF o xs) ∧ Upd 0 0 w w' := by
  obtain ⟨ad, cap, rfl, hA⟩ := hv.rd
  by_cases g0 : o < 0
  · rw [rstF_no (fun h => by omega)]
    clear hv
    go_enter Try.func29, Try.ntmps29
    go_wp2
    go_ret
    exact ⟨_, rfl, own_nilI _ _ _, Upd.refl 0 0 _⟩
  by_cases g4 : 4 < o
  · rw [rstF_no (fun h => by omega)]
    clear hv
    go_enter Try.func29, Try.ntmps29
    go_wp2
    go_ret
    exact ⟨_, rfl, own_nilI _ _ _, Upd.refl 0 0 _⟩
  by_cases gl : 4000 < xs.length
  · rw [rstF_no (fun h => by have := h.2.1; omega)]
    clear hv
    go_enter Try.func29, Try.ntmps29
    go_wp2
    go_ret
    exact ⟨_, rfl, own_nilI _ _ _, Upd.refl 0 0 _⟩
  obtain ⟨p, rfl⟩ := Int.eq_ofNat_of_zero_le (show 0 ≤ o by omega)
  exact specRestoreGood p ad cap xs w (by omega) (by omega) hA
end Go.Proofs.Ytailhdfmfmlniaa
