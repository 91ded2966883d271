/- Odds: the specification's OddsCost. -/
import Derived.Test.YtocoeodoihdkgaaWOdF
import Derived.Test.YtocoeodoihdkgaaWHeld
import Derived.Test.YtocoeodoihdkgaaWQT
namespace Go.Proofs.Ytocoeodoihdkgaa
open Go.RowKit

/-- One cell of a block is written. -/
theorem upd_setCellG (w : World) (g j : Nat) (v : Value) : Upd g (g + 1) w (w.setCell ⟨g, j, none⟩ v) :=
  ⟨rfl, rfl, rfl, by simp, fun k _ hk => Below.heap_setCell w ⟨g, j, none⟩ v k (by simp; omega)⟩
set_option maxHeartbeats 16000000 in
set_option maxRecDepth 1000000 in
theorem specOddsCost (p : Int) (v : Value) (cs : List Ch) (w : World) (hp0 : -9223372036854775808 ≤ p) (hp1 : p ≤ 9223372036854775807) (hn : cs.length ≤ 1048576) (_hR : InCh cs) (hv : RdCh w v cs) :
    Calls Try.prog 52 #[.int .i64 p, v] w fun e w' => e = .returned (.int .i64 (oddsCost p cs)) ∧ Upd 0 0 w w' := by
  have hG := hide (specL12Ok p v cs w hn hv)
  obtain ⟨ad, cap, rfl, hA⟩ := hv
  by_cases hok : oddsB p cs = true
  case neg =>
    have hok : oddsB p cs = false := by simpa using hok
    have hE := hide (show oddsCost p cs = -1 by unfold oddsCost; rw [hok]; rfl)
    rw [hok] at hG
    clear hok hA
    go_enter Try.func52, Try.ntmps52
    go_wp2_with fail
    refine (unhide hG).mono ?_
    rintro e w1 ⟨rfl, hu⟩
    replace hu := hide hu
    clear hG
    go_wp2
    go_ret
    exact ⟨by rw [unhide hE]; rfl, unhide hu⟩
  have hE := hide (show oddsCost p cs = costK cs cs.length by unfold oddsCost; rw [hok]; rfl)
  rw [hok] at hG
  obtain ⟨⟨hp1', hp512⟩, hlen, hch⟩ := (oddsB_iff _ _).1 hok
  obtain ⟨P, rfl⟩ := Int.eq_ofNat_of_zero_le (show 0 ≤ p by omega)
  have hS := hide (fun X => specL12Odds P X (by omega))
  replace hch := hide hch
  replace hA := hide hA
  clear hok
  go_enter Try.func52, Try.ntmps52
  go_wp2_with fail
  refine (unhide hG).mono ?_
  rintro e w1 ⟨rfl, hu1⟩
  replace hu1 := hide hu1
  clear hG
  go_wp2_with fail
  refine (unhide hS _).mono ?_
  rintro e w2 ⟨rfl, hrow, hb2⟩
  have hs1 := (unhide hu1).size
  have hB := hide ((unhide hu1).none.trans (hb2.mono hs1))
  generalize w1.heap.size = g at hs1 hrow hB ⊢
  clear hu1 hb2
  replace hrow := hide (show RowI w2 g P (oddsI P (oddsK cs 0)) from hrow)
  go_wp2_with fail
  go_loopw [6, 18, 8, 9] (fun c i _ _ wr => ∃ (k : Nat), c = .int .i64 (costK cs k) ∧ i = .int .i64 (k : Int) ∧ k ≤ cs.length ∧ Hid (RowI wr g P (oddsI P (oddsK cs k))) ∧ Hid (Below w.heap.size w wr)) (fun _ i _ _ _ => cs.length - (intOf i).toNat)
  case atStart => exact ⟨0, rfl, rfl, by omega, hrow, hB⟩
  case round =>
    clear hB hrow
    obtain ⟨k, rfl, rfl, hk, hod, hB⟩ := hrel
    by_cases hkl : k < cs.length
    · obtain ⟨bb, off, rfl, hbl, hcl⟩ := (unhide hA) (ne_of_lt_length hkl)
      obtain ⟨c0, c1⟩ := hcl k hkl
      replace c0 := ((unhide hB).cell (by simpa using hbl)).trans c0
      replace c1 := ((unhide hB).cell (by simpa using hbl)).trans c1
      have hck := unhide hch k hkl
      have hsc := costK_succ cs k
      have hso := oddsK_succ cs k
      have hcb := costK_bd cs k
      have hSk : ∀ q, 31 ≤ oddsK cs k q ∧ oddsK cs k q ≤ 4065 := oddsK_bd cs k
      rw [show cs.getD k Ch0 = cs.getD k (0, 0) from rfl] at c0 c1
      generalize cs.getD k (0, 0) = c at c0 c1 hck hsc hso
      obtain ⟨x, y⟩ := c
      obtain ⟨⟨x0, x1⟩, y0, y1⟩ := hck
      obtain ⟨q, rfl⟩ := Int.eq_ofNat_of_zero_le x0
      have hq : q < P := by simp at x1; omega
      have hqI : (q : Int) < (P : Int) := by omega
      replace c0 : wr.cell? ⟨bb, off + k * 2, none⟩ = some (.int .i64 (q : Int)) := c0
      replace c1 : wr.cell? ⟨bb, off + k * 2 + 1, none⟩ = some (.int .i64 y) := c1
      replace hsc : costK cs (k + 1) = costK cs k + costF (oddsK cs k (q : Int)) y := hsc
      have hcf := costF_bd (oddsK cs k (q : Int)) y (hSk _)
      have hpb := partsF_bd (oddsK cs k (q : Int)) y (hSk _)
      have hLog := hide (fun X => specL12Log (partsF (oddsK cs k (q : Int)) y) (by omega) (by omega) X)
      have hLn := hide (fun X => specL12Learn (oddsK cs k (q : Int)) y (hSk _) X)
      rw [show logF (partsF (oddsK cs k (q : Int)) y) = costF (oddsK cs k (q : Int)) y from rfl] at hLog
      have hpf : partsF (oddsK cs k (q : Int)) y = ((if y = 1 then 4096 - oddsK cs k (q : Int) else oddsK cs k (q : Int)) + 8) / 16 := rfl
      rw [hpf] at hLog
      clear hpf hpb
      have hal := Upd.of_below ((Below.refl wr.heap.size wr).alloc (Nat.le_refl _) (.cells #[.int .i64 (q : Int), .int .i64 y] 38)) 0 0
      have hod1 := (unhide hod).keep hal
      have hcc := heldF_new wr [.int .i64 (q : Int), .int .i64 y] 38
      have hB1 := hide (below_upd (unhide hB) hal (Nat.le_refl _) (.inr (Nat.le_refl _)))
      have hgl := (unhide hod).lt
      have hgw : w.heap.size ≤ g := hs1
      have hput := hide (fun X (hX : RowI X g P (oddsI P (oddsK cs k))) => hX.learn ((q : Int), y) q rfl)
      rw [← hso] at hput
      generalize costF (oddsK cs k (q : Int)) y = cf at hcf hsc hLog
      have hob := hSk (q : Int)
      have hcell := oddsI_at P (oddsK cs k) q hq
      generalize hov : oddsK cs k (q : Int) = o at hob hcell hLog hLn hput
      have hlb := learnF_bd o y hob
      generalize hlv : learnF o y = o2 at hlb hLn hput
      obtain ⟨o0, o1⟩ := hob
      obtain ⟨l0, l1⟩ := hlb
      obtain ⟨s0, s1⟩ := hcb
      obtain ⟨cf0, cf1⟩ := hcf
      have s2 : costK cs k ≤ 40960000 := by omega
      clear s1
      generalize costK cs k = sm at s0 s2 hsc ⊢
      generalize hs2 : costK cs (k + 1) = sm2 at hsc
      subst hsc
      replace hcell := hide hcell
      replace hod1 := hide hod1
      replace hcc := hide hcc
      replace hso := hide hso
      replace hs2 := hide hs2
      replace hov := hide hov
      replace hlv := hide hlv
      clear hal hod hB hcl x1 hSk
      have kI : decide ((k : Int) < (cs.length : Int)) = true := decide_eq_true (by omega)
      go_upto_region 8 with fail
      simp only [List.toArray] at hcc
      generalize wr.alloc (.cells #[.int .i64 (q : Int), .int .i64 y] 38) = wn at hod1 hcc hB1 ⊢
      generalize wr.heap.size = cb at hcc hgl ⊢
      have d0 := (unhide hcc).1.2 0 _ rfl
      have d1 := (unhide hcc).1.2 1 _ rfl
      have dq := ((unhide hod1).cell q hq).trans (unhide hcell)
      clear c0 c1
      by_cases hy : y = 1
      · have ty : (y == 1) = true := by simpa using hy
        rw [if_pos hy] at hLog
        clear hy
        go_wp2_with fail
        refine (unhide hLog _).mono ?_
        rintro e w3 ⟨rfl, hw3⟩
        obtain rfl : wn = w3 := hw3.symm
        clear hLog
        go_wp2_with fail
        clear d0 d1 dq
        have k0 := fun X : UpdT wn => (((unhide hcc).1.updT X).2 0 _ rfl)
        have k1 := fun X : UpdT wn => (((unhide hcc).1.updT X).2 1 _ rfl)
        have kq := fun X : UpdT wn => ((((unhide hod1).keep X.upd).cell q hq).trans (unhide hcell))
        refine wq_region_tail 12 (by kernel_rfl) (by kernel_rfl) ?_
        simp only [List.take_succ_cons, List.take_zero, List.drop_succ_cons, List.drop_zero]
        iterate 10
          refine WQ.step (fun K hK => ?_)
          go_simp
          refine hK _ ?_
          clear hK K
        refine WQ.step (fun K hK => ?_)
        go_simp
        refine ⟨_, fun X => Calls.updT_same X (unhide hLn X.to), hK _ ?_⟩
        clear hK K
        refine WQ.step (fun K hK => ?_)
        go_simp
        refine hK _ ?_
        clear hK K
        refine WQ.nil ?_
        rintro _ ⟨X, rfl⟩
        clear k0 k1 kq
        have hX := X.upd
        generalize X.to = wt at hX ⊢
        have hod4 := (unhide hod1).keep hX
        have dq := (hod4.cell q hq).trans (unhide hcell)
        have fq := hod4.frozen q
        have hod5 := hide (unhide hput _ hod4)
        have hB5 := hide (below_upd (below_upd (unhide hB1) hX (Nat.le_refl _) (.inr (Nat.le_refl _))) (upd_setCellG wt g q (.int .i64 o2)) (Nat.le_refl _) (.inl hgw))
        clear hX hod1 hod4 hB1 hcc hput hLn
        go_wp2_with fail
        go_roundw
        case rel => exact ⟨k + 1, by rw [unhide hs2], by go_num, by omega, hod5, hB5⟩
        case measure => simp [intOf]; omega
      · have ty : (y == 1) = false := by simpa using hy
        rw [if_neg hy] at hLog
        clear hy
        go_wp2_with fail
        refine (unhide hLog _).mono ?_
        rintro e w3 ⟨rfl, hw3⟩
        obtain rfl : wn = w3 := hw3.symm
        clear hLog
        go_wp2_with fail
        clear d0 d1 dq
        have k0 := fun X : UpdT wn => (((unhide hcc).1.updT X).2 0 _ rfl)
        have k1 := fun X : UpdT wn => (((unhide hcc).1.updT X).2 1 _ rfl)
        have kq := fun X : UpdT wn => ((((unhide hod1).keep X.upd).cell q hq).trans (unhide hcell))
        refine wq_region_tail 12 (by kernel_rfl) (by kernel_rfl) ?_
        simp only [List.take_succ_cons, List.take_zero, List.drop_succ_cons, List.drop_zero]
        iterate 10
          refine WQ.step (fun K hK => ?_)
          go_simp
          refine hK _ ?_
          clear hK K
        refine WQ.step (fun K hK => ?_)
        go_simp
        refine ⟨_, fun X => Calls.updT_same X (unhide hLn X.to), hK _ ?_⟩
        clear hK K
        refine WQ.step (fun K hK => ?_)
        go_simp
        refine hK _ ?_
        clear hK K
        refine WQ.nil ?_
        rintro _ ⟨X, rfl⟩
        clear k0 k1 kq
        have hX := X.upd
        generalize X.to = wt at hX ⊢
        have hod4 := (unhide hod1).keep hX
        have dq := (hod4.cell q hq).trans (unhide hcell)
        have fq := hod4.frozen q
        have hod5 := hide (unhide hput _ hod4)
        have hB5 := hide (below_upd (below_upd (unhide hB1) hX (Nat.le_refl _) (.inr (Nat.le_refl _))) (upd_setCellG wt g q (.int .i64 o2)) (Nat.le_refl _) (.inl hgw))
        clear hX hod1 hod4 hB1 hcc hput hLn
        go_wp2_with fail
        go_roundw
        case rel => exact ⟨k + 1, by rw [unhide hs2], by go_num, by omega, hod5, hB5⟩
        case measure => simp [intOf]; omega
    · obtain rfl : k = cs.length := by omega
      have hfin := hide (Upd.of_below (unhide hB) 0 0)
      have kI : decide ((cs.length : Int) < (cs.length : Int)) = false := decide_eq_false (by omega)
      clear hB hod
      go_wp2
      go_ret
      exact ⟨by rw [unhide hE]; rfl, unhide hfin⟩
end Go.Proofs.Ytocoeodoihdkgaa
