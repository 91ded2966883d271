/- Odds: what choices cost: the program's OddsCost. -/
import Derived.Test.YtocoeodoihdkgaaWOdD
namespace Go.Proofs.Ytocoeodoihdkgaa
open Go.RowKit

theorem odAt_row {W : World} {g : Nat} {s : Int → Int} {t : TypeId} (h : W.heap[g]? = some (.cells (oddsV s).toArray t (0, 0))) : OdAt W g s [] := by
  refine ⟨⟨(Array.getElem?_eq_some_iff.1 h).1, fun j v hj => ?_⟩, fun j => frozen_of_row _ _ _ _ _ h⟩
  rw [cell_of_row _ _ _ _ _ _ h, List.getElem?_toArray]
  simpa using hj
set_option maxHeartbeats 8000000 in
set_option maxRecDepth 1000000 in
theorem implOddsCost (p : Int) (v : Value) (cs : List Ch) (w : World) (hp0 : -9223372036854775808 ≤ p) (hp1 : p ≤ 9223372036854775807) (hn : cs.length ≤ 1048576) (_hR : InCh cs) (hv : RdCh w v cs) :
    Calls Try.prog 20 #[.int .i64 p, v] w fun e w' => e = .returned (.int .i64 (oddsCost p cs)) ∧ Upd 0 0 w w' := by
  have hG := hide (implGoodChoices p v cs w hn hv)
  obtain ⟨ad, cap, rfl, hA⟩ := hv
  by_cases hok : oddsB p cs = true
  case neg =>
    have hok : oddsB p cs = false := by simpa using hok
    have hE := hide (show oddsCost p cs = -1 by unfold oddsCost; rw [hok]; rfl)
    rw [hok] at hG
    clear hok hA
    go_enter Try.func20, Try.ntmps20
    go_wp2_with fail
    refine (unhide hG).mono ?_
    rintro e w1 ⟨rfl, hu⟩
    replace hu := hide hu
    clear hG
    go_wp2
    go_ret
    exact ⟨by rw [unhide hE]; rfl, unhide hu⟩
  have hE := hide (show oddsCost p cs = costK cs cs.length by unfold oddsCost; rw [hok]; rfl)
  rw [hok] at hG
  obtain ⟨⟨hp1', hp512⟩, hlen, hch⟩ := (oddsB_iff _ _).1 hok
  have hS := hide (fun X => implStartOdds X)
  obtain ⟨z, hz0, hz⟩ := zeroOd
  have hone : Hid ((oddsV odds0).toArray.all (·.oneCell') = true) := hide (by
    rw [Array.all_eq_true_iff_forall_mem]
    intro v hv
    simp only [oddsV, List.mem_toArray, List.mem_map] at hv
    obtain ⟨x, _, rfl⟩ := hv
    rfl)
  have hcs : Hid ((Try.prog.info? 86).map (·.size) = some (oddsV odds0).toArray.size) := hide (by simpa using sizeOd)
  have hcz : Hid (z.size = (oddsV odds0).toArray.size) := hide (by simpa using hz0.1)
  replace hch := hide hch
  replace hA := hide hA
  clear hok
  go_enter Try.func20, Try.ntmps20
  go_wp2_with fail
  refine (unhide hG).mono ?_
  rintro e w1 ⟨rfl, hu1⟩
  replace hu1 := hide hu1
  clear hG
  go_wp2_with fail
  refine (unhide hS _).mono ?_
  rintro e w2 ⟨rfl, hu2⟩
  have hu := hide ((unhide hu1).trans hu2)
  clear hu1 hu2
  have hz' := hz
  go_upto_region 4 with (first | (refine wpList_store_row rfl 86 (.tmp 6) (.tmp 13) rfl w2.heap.size (oddsV odds0).toArray rfl rfl 86 z (heap_alloc_new w2 _) (unhide hcs) (unhide hcz) (unhide hone) ?_))
  have hb3 : Below w2.heap.size w2 ((w2.alloc (.cells z 86)).setRow w2.heap.size (oddsV odds0).toArray) := below_setRow ((Below.refl w2.heap.size w2).alloc (Nat.le_refl _) _) (Nat.le_refl _) _
  have hnx := odAt_row (setRow_heap (w2.alloc (.cells z 86)) w2.heap.size z (oddsV odds0).toArray 86 (0, 0) (heap_alloc_new w2 _))
  generalize (w2.alloc (.cells z 86)).setRow w2.heap.size (oddsV odds0).toArray = W3 at hnx hb3 ⊢
  have hs2 := (unhide hu).size
  have hB := hide (hu.none.trans (hb3.mono hs2))
  generalize w2.heap.size = g at hs2 hnx hB ⊢
  clear hz hz' hcs hcz hone hu hb3 hz0
  replace hnx := hide hnx
  go_wp2_with fail
  go_loopw [5, 16, 8] (fun c i _ wr => ∃ (k : Nat), c = .int .i64 (costK cs k) ∧ i = .int .i64 (k : Int) ∧ k ≤ cs.length ∧ Hid (OdAt wr g (oddsK cs k) []) ∧ Hid (Below w.heap.size w wr)) (fun _ i _ _ => cs.length - (intOf i).toNat)
  case atStart => exact ⟨0, rfl, rfl, by omega, hnx, hB⟩
  case round =>
    clear hB hnx
    obtain ⟨k, rfl, rfl, hk, hod, hB⟩ := hrel
    by_cases hkl : k < cs.length
    · obtain ⟨bb, off, rfl, hbl, hcl⟩ := (unhide hA) (ne_of_lt_length hkl)
      obtain ⟨c0, c1⟩ := hcl k hkl
      replace c0 := ((unhide hB).cell (by simpa using hbl)).trans c0
      replace c1 := ((unhide hB).cell (by simpa using hbl)).trans c1
      have hck := unhide hch k hkl
      have hsc := costK_succ cs k
      have hso := oddsK_succ cs k
      have hcb := costK_bd cs k
      have hSk : SOk (oddsK cs k) := oddsK_bd cs k
      rw [show cs.getD k Ch0 = cs.getD k (0, 0) from rfl] at c0 c1
      generalize cs.getD k (0, 0) = c at c0 c1 hck hsc hso
      obtain ⟨x, y⟩ := c
      obtain ⟨⟨x0, x1⟩, y0, y1⟩ := hck
      obtain ⟨q, rfl⟩ := Int.eq_ofNat_of_zero_le x0
      have hq : q < 512 := by simp at x1; omega
      have hcf := costF_bd (oddsK cs k (q : Int)) y (hSk _)
      replace c0 : wr.cell? ⟨bb, off + k * 2, none⟩ = some (.int .i64 (q : Int)) := c0
      replace c1 : wr.cell? ⟨bb, off + k * 2 + 1, none⟩ = some (.int .i64 y) := c1
      replace hsc : costK cs (k + 1) = costK cs k + costF (oddsK cs k (q : Int)) y := hsc
      have hal := Upd.of_below ((Below.refl wr.heap.size wr).alloc (Nat.le_refl _) (.cells #[.int .i64 (q : Int), .int .i64 y] 38)) 0 0
      have hod1 := (unhide hod).upd hal (.inr (Nat.zero_le _))
      have hcc := heldF_new wr [.int .i64 (q : Int), .int .i64 y] 38
      have hB1 := hide (below_upd (unhide hB) hal (Nat.le_refl _) (.inr (Nat.le_refl _)))
      have hgl := (unhide hod).lt
      have hC := hide (fun X (hX : OdAt X g (oddsK cs k) []) => implCost g q y (oddsK cs k) [] X hX hq hSk)
      have hL := hide (fun X (hX : OdAt X g (oddsK cs k) []) => implLearn g q y (oddsK cs k) [] X hX hq hSk)
      rw [← hso] at hL
      generalize costF (oddsK cs k (q : Int)) y = cf at hcf hsc hC
      obtain ⟨s0, s1⟩ := hcb
      obtain ⟨cf0, cf1⟩ := hcf
      have s2 : costK cs k ≤ 40960000 := by omega
      clear s1
      generalize costK cs k = sm at s0 s2 hsc ⊢
      generalize hs2 : costK cs (k + 1) = sm2 at hsc
      subst hsc
      replace hod1 := hide hod1
      replace hcc := hide hcc
      replace hso := hide hso
      replace hs2 := hide hs2
      replace hSk := hide hSk
      clear hal hod hB hcl x1
      have kI : decide ((k : Int) < (cs.length : Int)) = true := decide_eq_true (by omega)
      go_upto_region 7 with fail
      simp only [List.toArray] at hcc
      have hcx := hgl
      generalize wr.alloc (.cells #[.int .i64 (q : Int), .int .i64 y] 38) = wn at hod1 hcc hB1 ⊢
      generalize wr.heap.size = cb at hcc hgl ⊢
      have d0 := (unhide hcc).1.2 0 _ rfl
      have d1 := (unhide hcc).1.2 1 _ rfl
      clear c0 c1
      go_wp2_with fail
      refine (unhide hC _ (unhide hod1)).mono ?_
      rintro e w3 ⟨rfl, hu3⟩
      have hod3 := hide ((unhide hod1).upd hu3 (.inr (Nat.zero_le _)))
      have hB3 := hide (below_upd (unhide hB1) hu3 (Nat.le_refl _) (.inr (Nat.le_refl _)))
      have hcc3 := hide ((unhide hcc).keep hu3)
      clear d0 d1 hod1 hB1 hcc hu3 hC
      have d0 := (unhide hcc3).1.2 0 _ rfl
      have d1 := (unhide hcc3).1.2 1 _ rfl
      go_wp2_with fail
      refine (unhide hL _ (unhide hod3)).mono ?_
      rintro e w4 ⟨rfl, hod4, hu4⟩
      have hB4 := hide (below_upd (unhide hB3) hu4 (Nat.le_refl _) (.inl (by omega)))
      replace hod4 := hide hod4
      clear hod3 hB3 hcc3 hu4 d0 d1 hL
      go_wp2_with fail
      go_roundw
      case rel => exact ⟨k + 1, by rw [unhide hs2], by go_num, by omega, hod4, hB4⟩
      case measure => simp [intOf]; omega
    · obtain rfl : k = cs.length := by omega
      have hfin := hide (Upd.of_below (unhide hB) 0 0)
      have kI : decide ((cs.length : Int) < (cs.length : Int)) = false := decide_eq_false (by omega)
      clear hB hod
      go_wp2
      go_ret
      exact ⟨by rw [unhide hE]; rfl, unhide hfin⟩
end Go.Proofs.Ytocoeodoihdkgaa
