/- Residues: the specification's walk. -/
import Derived.Test.YtailhdfmfmlniaaWReA
import Derived.Test.YtailhdfmfmlniaaWLiC
namespace Go.Proofs.Ytailhdfmfmlniaa
open Go.RowKit

theorem sm_of {xs : List Int} (h : InR (-67108864) 67108863 xs) (j : Nat) : Sm (xs.getD j 0) := getD_bd h (by omega) j
set_option maxHeartbeats 8000000 in
set_option maxRecDepth 100000 in
theorem specL10Residue (o : Nat) (ad : Option Addr) (cap : Nat) (xs : List Int) (w : World) (ho : o ≤ 4) (hok : LsOk (-67108864) 67108863 xs) (hA : ArgI w ad xs) :
    Calls Try.prog 79 #[.int .i64 (o : Int), .slice ad xs.length cap] w fun e w' => ∃ v, e = .returned v ∧ OwnI w' w.heap.size w'.heap.size v (resL o xs) ∧ Upd 0 0 w w' := by
  obtain ⟨hn, hx⟩ := hok
  obtain ⟨n, hnn⟩ : ∃ n, xs.length = n := ⟨_, rfl⟩
  rw [hnn] at hn ⊢
  obtain ⟨ob, hmk⟩ := mkRowI n (by omega)
  have hmk1 := fun X => (hmk X).1
  have hmk2 := hide (fun X => (hmk X).2)
  clear hmk
  obtain ⟨A, hAe⟩ : ∃ A, resL o xs = A := ⟨_, rfl⟩
  have hAl : A.length = n := by rw [← hAe, resL_length, hnn]
  have hAg : Hid (∀ k, k < n → A.getD k 0 = if o ≤ k then xs.getD k 0 - gueZ o xs k else xs.getD k 0) := hide (fun k hk => by rw [← hAe]; exact tabN_getD _ _ _ (by omega))
  have hGb : Hid (∀ k, -1006632960 ≤ gueZ o xs k ∧ gueZ o xs k ≤ 1006632960) := hide (fun k => gueZ_bd hx o k ho)
  rw [hAe]
  clear hAe
  have hz0 : partI A 0 = List.replicate n (.int .i64 0) := by rw [partI_zero, hAl]
  replace hz0 := hide hz0
  replace hA := hide hA
  replace hx := hide hx
  replace hnn := hide hnn
  replace hAl := hide hAl
  go_enter Try.func79, Try.ntmps79
  go_upto_region 2 with fail
  have hrA := hide (unhide hmk2 w)
  rw [← unhide hz0] at hrA
  have hbel : Hid (Below w.heap.size w (w.alloc ob)) := hide ((Below.refl w.heap.size w).alloc (Nat.le_refl _) ob)
  clear hmk1 hmk2 hz0
  generalize w.alloc ob = W0 at hrA hbel ⊢
  obtain ⟨g, hg⟩ : ∃ g, w.heap.size = g := ⟨_, rfl⟩
  have hgw : w.heap.size ≤ g := by omega
  rw [hg] at hrA ⊢
  replace hg := hide hg
  go_wp2
  go_loopw [6, 12] (fun _ i wr => ∃ k : Nat, k ≤ n ∧ i = .int .i64 k ∧ Hid (RowI wr g n (partI A k)) ∧ Hid (Below w.heap.size w wr)) (fun _ i _ => n - (intOf i).toNat)
  case atStart => exact ⟨0, Nat.zero_le _, rfl, hrA, hbel⟩
  case round =>
    clear hrA hbel
    obtain ⟨k, hk, rfl, hrA, hbel⟩ := hrel
    by_cases hlt : k < n
    · obtain ⟨b, off, rfl, hbl, hc⟩ := (unhide hA) (ne_of_lt_length (k := k) (by rw [unhide hnn]; exact hlt))
      have hc0 := fun j (hj : j < n) => hc j (by rw [unhide hnn]; exact hj)
      have hck := ((unhide hbel).cell (p := ⟨b, off + k, none⟩) (by simpa using hbl)).trans (hc0 k hlt)
      have hbx := sm_of (unhide hx) k
      have gA := partI_set A k (by rw [unhide hAl]; exact hlt)
      rw [unhide hAg k hlt] at gA
      have hzV := hide (gueZ_V o xs k)
      have hgb := unhide hGb k
      replace hc0 := hide hc0
      generalize xs.getD k 0 = x at hck hbx gA
      generalize gueZ o xs k = z at hzV hgb gA
      obtain ⟨x1, x2⟩ := hbx
      obtain ⟨z1, z2⟩ := hgb
      have nb1 : b ≠ g := by omega
      have hnA := (unhide hrA).frozen k
      obtain ⟨uA, hdA⟩ := (unhide hrA).has k hlt
      have kI : (0 : Int) ≤ (k : Int) := by omega
      have kL : (k : Int) < (n : Int) := by omega
      clear hc
      go_upto_region 6 with fail
      have qA := (unhide hrA).set k (.int .i64 x)
      have qb := (unhide hbel).setCell (p := ⟨g, k, none⟩) hgw (.int .i64 x)
      have dA : (wr.setCell ⟨g, k, none⟩ (.int .i64 x)).cell? ⟨g, k, none⟩ = some (.int .i64 x) := by
        first | exact World.cell?_setCell_same _ _ hdA | exact World.cell?_setCell_same _ _ _ hdA
      clear hck hrA hbel hdA hnA
      generalize wr.setCell ⟨g, k, none⟩ (.int .i64 x) = W1 at qA qb dA ⊢
      by_cases hko : o ≤ k
      case neg =>
        rw [if_neg hko] at gA
        rw [gA] at qA
        replace qA := hide qA
        replace qb := hide qb
        have q1 : decide ((o : Int) ≤ (k : Int)) = false := decide_eq_false (by omega)
        have q2 : decide (o ≤ k) = false := decide_eq_false hko
        clear gA dA
        go_wp2
        go_roundw
        case rel => exact ⟨k + 1, by omega, by go_num, qA, qb⟩
        case measure => simp [intOf]; omega
      rw [if_pos hko] at gA
      have q1 : decide ((o : Int) ≤ (k : Int)) = true := decide_eq_true (by omega)
      have q2 : decide (o ≤ k) = true := decide_eq_true hko
      have hcs : ∀ (X : UpdT W1) j, 1 ≤ j → j ≤ o → X.to.cell? ⟨b, off + (k - j), none⟩ = some (.int .i64 (xs.getD (k - j) 0)) := fun X j h1 h2 => by
        have e1 := (qb.cell (p := ⟨b, off + (k - j), none⟩) (by simpa using hbl)).trans (unhide hc0 (k - j) (by omega))
        have hs := qb.size
        exact cell_updL e1 (by simp; omega) X
      have hG := hide (fun X : UpdT W1 => specL10Guess o k n cap b off (xs.getD (k - 1) 0) (xs.getD (k - 2) 0) (xs.getD (k - 3) 0) (xs.getD (k - 4) 0) X.to ho hko hlt hn (sm_of (unhide hx) _) (sm_of (unhide hx) _) (sm_of (unhide hx) _) (sm_of (unhide hx) _)
        (fun h => hcs X 1 (by omega) h) (fun h => hcs X 2 (by omega) h) (fun h => hcs X 3 (by omega) h) (fun h => hcs X 4 (by omega) h))
      rw [← unhide hzV] at hG
      have fA := cell_updL dA (by have := qA.lt; simpa using this)
      clear hcs dA hzV hko
      replace qA := hide qA
      replace qb := hide qb
      go_upto_region 7 with fail
      refine wq_region_tail 10 (by kernel_rfl) (by kernel_rfl) ?_
      simp only [List.take_succ_cons, List.take_zero, List.drop_succ_cons, List.drop_zero]
      iterate 7
        refine WQ.step (fun K hK => ?_)
        go_simp
        refine hK _ ?_
        clear hK K
      refine WQ.step (fun K hK => ?_)
      go_simp
      refine ⟨.int .i64 z, fun X => Calls.updT X (unhide hG X), hK _ ?_⟩
      clear hK K
      iterate 2
        refine WQ.step (fun K hK => ?_)
        go_simp
        refine hK _ ?_
        clear hK K
      refine WQ.nil ?_
      rintro _ ⟨X, rfl⟩
      have hX := X.upd
      have fX := fA X
      generalize X.to = wt at hX fX ⊢
      have q3 := (unhide qA).keep hX
      have hnA := q3.frozen k
      have rA2 : Hid (RowI (wt.setCell ⟨g, k, none⟩ (.int .i64 (x - z))) g n (partI A (k + 1))) := hide (by
        have := q3.set k (.int .i64 (x - z))
        rw [List.set_set, gA] at this; exact this)
      have rb2 : Hid (Below w.heap.size w (wt.setCell ⟨g, k, none⟩ (.int .i64 (x - z)))) := hide ((below_upd (unhide qb) hX (Nat.le_refl _) (.inr (Nat.le_refl _))).setCell (p := ⟨g, k, none⟩) hgw _)
      clear gA qA qb q3 hG fA hX
      go_wp2
      go_roundw
      case rel => exact ⟨k + 1, by omega, by go_num, rA2, rb2⟩
      case measure => simp [intOf]; omega
    · have hkn : k = n := by omega
      subst hkn
      have oA := unhide hrA
      have aA := partI_all A
      rw [unhide hAl] at aA
      rw [aA] at oA
      have hlg := oA.lt
      have hT : Hid (OwnI wr w.heap.size wr.heap.size (.slice (some ⟨g, 0, none⟩) k k) A) := hide (by
        have h0 : OwnI wr g (g + 1) (.slice (some ⟨g, 0, none⟩) k k) A := by have := oA.own; unfold OwnI; rw [unhide hAl]; exact this
        exact own_mono h0 hgw (by omega))
      clear hrA oA aA hlg
      go_wp2
      go_ret
      exact ⟨_, rfl, unhide hT, Upd.of_below (unhide hbel) 0 0⟩
set_option maxHeartbeats 4000000 in
theorem specResidue (o : Int) (v : Value) (xs : List Int) (w : World) (_hl : -9223372036854775808 ≤ o) (_hh : o ≤ 9223372036854775807) (hn : xs.length ≤ 1048576) (_hR : InI xs) (hv : RdI w v xs) :
    Calls Try.prog 20 #[.int .i64 o, v] w fun e w' => ∃ u, e = .returned u ∧ OwnI w' w.heap.size w'.heap.size u (resF o xs) ∧ Upd 0 0 w w' := by
  obtain ⟨ad, cap, rfl, hA⟩ := hv
  have hC := hide (specL10List ad cap xs w hn hA)
  have hE := hide (fun (W : World) (u : Upd 0 0 w W) (p : Nat) (hp : p ≤ 4) (hok : LsOk (-67108864) 67108863 xs) => specL10Residue p ad cap xs W hp hok (hA.below u.none))
  clear hA
  by_cases g0 : o < 0
  · rw [resF_no (fun h => by omega)]
    go_enter Try.func20, Try.ntmps20
    go_wp2
    go_ret
    exact ⟨_, rfl, own_nilI _ _ _, Upd.refl 0 0 _⟩
  by_cases g4 : 4 < o
  · rw [resF_no (fun h => by omega)]
    go_enter Try.func20, Try.ntmps20
    go_wp2
    go_ret
    exact ⟨_, rfl, own_nilI _ _ _, Upd.refl 0 0 _⟩
  by_cases hok : LsOk (-67108864) 67108863 xs
  case neg =>
    rw [resF_no (fun h => hok h.2)]
    rw [lsB_no hok] at hC
    clear hok hE
    go_enter Try.func20, Try.ntmps20
    go_wp2_with fail
    refine (unhide hC).mono ?_
    rintro e w1 ⟨rfl, hu⟩
    go_wp2
    go_ret
    exact ⟨_, rfl, own_nilI _ _ _, hu⟩
  obtain ⟨p, rfl⟩ := Int.eq_ofNat_of_zero_le (show 0 ≤ o by omega)
  rw [resF_yes (by omega) hok]
  rw [lsB_yes hok] at hC
  replace hE := hide (fun (W : World) (u : Upd 0 0 w W) => unhide hE W u p (by omega) hok)
  clear hok
  go_enter Try.func20, Try.ntmps20
  go_wp2_with fail
  refine (unhide hC).mono ?_
  rintro e w1 ⟨rfl, hu⟩
  have hE1 := hide (unhide hE w1 hu)
  have hs := hide hu.size
  clear hE
  replace hu := hide hu
  go_wp2_with fail
  refine (unhide hE1).mono ?_
  rintro e w2 ⟨u, rfl, ho, hu2⟩
  have ho2 := hide (own_mono (a' := w.heap.size) ho (unhide hs) (Nat.le_refl _))
  clear ho
  go_wp2
  go_ret
  exact ⟨_, rfl, unhide ho2, (unhide hu).trans hu2⟩
end Go.Proofs.Ytailhdfmfmlniaa
