/- What a plan costs: the program's walk. -/
import Derived.Test.YtailhdfmfmlniaaWPcH
import Derived.Test.YtailhdfmfmlniaaWPcC
import Derived.Deep.RegionHeld3
namespace Go.Proofs.Ytailhdfmfmlniaa
open Go.RowKit

theorem inRB_iffC {lo hi : Int} {zs : List Int} : inRB lo hi zs = true ↔ InR lo hi zs := by unfold inRB; simp
theorem tell_plan {o p : Int} {ks xs : List Int} (hok : LsOk (-67108864) 67108863 xs) (h : tellB o p ks xs.length = true) : PlanOk o p ks xs := by
  unfold tellB at h
  rw [Bool.and_eq_true, Bool.and_eq_true] at h
  exact ⟨hok, of_decide_eq_true h.1, of_decide_eq_true h.2.1, inRB_iffC.1 h.2.2⟩
theorem tell_no {o p : Int} {ks xs : List Int} (h : tellB o p ks xs.length = false) : ¬ PlanOk o p ks xs := fun h' => by
  unfold tellB at h
  rw [decide_eq_true h'.2.1, decide_eq_true h'.2.2.1, inRB_iffC.2 h'.2.2.2] at h
  cases h
set_option maxHeartbeats 16000000 in
set_option maxRecDepth 100000 in
theorem implPlanCost (v : Value) (d : Pa) (v1 : Value) (xs : List Int) (w : World) (hn : PaSize d ≤ 1048576) (_hR : InPa d) (hv : RdPa w v d) (hn1 : xs.length ≤ 1048576) (hR1 : InI xs) (hv1 : RdX w v1 xs) :
    Calls Try.prog 33 #[v, v1] w fun e w' => e = .returned (.int .i64 (costF d.1 d.2.1 d.2.2 xs)) ∧ Upd 0 0 w w' := by
  obtain ⟨v0, rfl, hK⟩ := hv
  obtain ⟨o, p, ks⟩ := d
  simp only [Pav, PaSize] at hn hK ⊢
  obtain ⟨adk, capk, rfl, hAk⟩ := hK
  obtain ⟨ad, cap, rfl, hA⟩ := hv1.rd
  have hbx := hide (heldF_new w (pac o p (.slice adk ks.length capk)) 45)
  have hU := hide (Upd.of_below ((Below.refl w.heap.size w).alloc (Nat.le_refl _) (.cells #[.int .i64 o, .int .i64 p, .slice adk ks.length capk] 45)) 0 0)
  have hC := hide (fun W (u : Upd 0 0 w W) => implGoodList ad cap xs W hn1 (hA.below u.none))
  have hD := hide (fun W (u : Upd 0 0 w W) => implMayTell o p ks xs.length adk capk W hn1 hn (hAk.below u.none))
  by_cases hok : LsOk (-67108864) 67108863 xs
  case neg =>
    rw [costF_noL (lsB_no hok)]
    rw [lsB_no hok] at hC
    clear hok hD hA hv1 hAk
    go_enter Try.func33, Try.ntmps33
    go_wp2_with fail
    refine (unhide hC _ (unhide hU)).mono ?_
    rintro e w1 ⟨rfl, hu⟩
    replace hU := hide ((unhide hU).trans hu)
    go_wp2
    go_ret
    exact ⟨rfl, unhide hU⟩
  rw [lsB_yes hok] at hC
  by_cases hte : tellB o p ks xs.length = true
  case neg =>
    rw [Bool.not_eq_true] at hte
    rw [costF_no (tell_no hte)]
    rw [hte] at hD
    clear hok hA hv1 hAk hte
    go_enter Try.func33, Try.ntmps33
    go_wp2_with fail
    change Hid (HeldF (w.alloc (.cells #[.int .i64 o, .int .i64 p, .slice adk ks.length capk] 45)) w.heap.size (pac o p (.slice adk ks.length capk))) at hbx
    generalize w.alloc (.cells #[.int .i64 o, .int .i64 p, .slice adk ks.length capk] 45) = w0 at hbx hU ⊢
    refine (unhide hC _ (unhide hU)).mono ?_
    rintro e w1 ⟨rfl, hu⟩
    replace hU := hide ((unhide hU).trans hu)
    replace hbx := hide ((unhide hbx).keep hu)
    clear hu
    have p0 := (unhide hbx).1.2 0 _ rfl
    have p1 := (unhide hbx).1.2 1 _ rfl
    have p2 := (unhide hbx).1.2 2 _ rfl
    have pl := (unhide hbx).1.1
    go_wp2_with fail
    refine (unhide hD _ (unhide hU)).mono ?_
    rintro e w2 ⟨rfl, hu⟩
    replace hU := hide ((unhide hU).trans hu)
    clear hu p0 p1 p2 pl hbx
    go_wp2
    go_ret
    exact ⟨rfl, unhide hU⟩
  have hpo := tell_plan hok hte
  rw [hte] at hD
  clear hte
  obtain ⟨O, rfl⟩ := Int.eq_ofNat_of_zero_le hpo.2.1.1.1
  obtain ⟨P, rfl⟩ := Int.eq_ofNat_of_zero_le hpo.2.1.2.2.1.1
  have hO4 : O ≤ 4 := by have := hpo.2.1.1.2; omega
  have hP4 : P ≤ 4 := by have := hpo.2.1.2.2.1.2; omega
  have hcn := (cutOk_of (O : Int) P xs.length hpo.2.1.1 hpo.2.1.2.1 hP4).1 hpo.2.1
  have hk2 : ks.length = 2 ^ P := by
    have h1 := hpo.2.2.1
    rw [Int.toNat_natCast] at h1
    have : ((ks.length : Nat) : Int) = ((2 ^ P : Nat) : Int) := by rw [h1, Int.natCast_pow]; rfl
    omega
  have hRes := hide (fun W (u : Upd 0 0 w W) => implResidue (O : Int) _ xs W (by omega) (by omega) hn1 hR1 (hv1.below u.none))
  rw [resF_yes hO4 hok] at hRes
  have hCB := hide (fun (rv : Value) (W : World) (u : Upd 0 0 w W) (hrd : RdX W rv (resL O xs)) => implCountBits O P xs.length (xs.length / 2 ^ P) adk capk ks xs (resL O xs) rv 0 W rfl rfl hP4 hO4 (by have := hcn.2; omega) rfl (fun i hi => parts_le hcn.1 i hi) hok.1 hk2 hpo.2.2.2 (resL_inR hok.2 O hO4) (hAk.below u.none) hrd)
  have hcf := hide (costF_yes hpo)
  clear hpo hcn hA hAk hv1 hk2
  generalize costF (O : Int) (P : Int) ks xs = R at hcf ⊢
  go_enter Try.func33, Try.ntmps33
  go_wp2_with fail
  change Hid (HeldF (w.alloc (.cells #[.int .i64 (O : Int), .int .i64 (P : Int), .slice adk ks.length capk] 45)) w.heap.size (pac (O : Int) (P : Int) (.slice adk ks.length capk))) at hbx
  generalize w.alloc (.cells #[.int .i64 (O : Int), .int .i64 (P : Int), .slice adk ks.length capk] 45) = w0 at hbx hU ⊢
  refine (unhide hC _ (unhide hU)).mono ?_
  rintro e w1 ⟨rfl, hu⟩
  replace hU := hide ((unhide hU).trans hu)
  replace hbx := hide ((unhide hbx).keep hu)
  clear hu
  have p0 := (unhide hbx).1.2 0 _ rfl
  have p1 := (unhide hbx).1.2 1 _ rfl
  have p2 := (unhide hbx).1.2 2 _ rfl
  have pl := (unhide hbx).1.1
  go_wp2_with fail
  refine (unhide hD _ (unhide hU)).mono ?_
  rintro e w2 ⟨rfl, hu⟩
  replace hU := hide ((unhide hU).trans hu)
  replace hbx := hide ((unhide hbx).keep hu)
  clear hu p0 p1 p2 pl hC hD
  have p0 := (unhide hbx).1.2 0 _ rfl
  have p1 := (unhide hbx).1.2 1 _ rfl
  have p2 := (unhide hbx).1.2 2 _ rfl
  have pl := (unhide hbx).1.1
  go_upto_region 3 with fail
  have hUd := hide ((unhide hU).trans (Upd.drew1 w2))
  have hRd := hide (unhide hRes w2.drew (unhide hUd))
  have hCd := hide (fun (rv : Value) (W : World) (u : Upd 0 0 w2.drew W) (hrd : RdX W rv (resL O xs)) => unhide hCB rv W ((unhide hUd).trans u) hrd)
  clear hRes hCB
  generalize costTo O P ks xs ks.length = Rc at hcf hCd
  replace hR1 := hide hR1
  clear hok _hR
  generalize resL O xs = r at hRd hCd
  go_region_held3 (fun X => X.cell? ⟨w.heap.size, 0, none⟩ = some (.int .i64 (O : Int)) ∧ X.cell? ⟨w.heap.size, 1, none⟩ = some (.int .i64 (P : Int)) ∧ X.cell? ⟨w.heap.size, 2, none⟩ = some (.slice adk ks.length capk)) (first | (exact ⟨((hut.trans huf).none.cell pl).trans p0, ((hut.trans huf).none.cell pl).trans p1, ((hut.trans huf).none.cell pl).trans p2⟩) | (exact ⟨(hut.none.cell pl).trans p0, (hut.none.cell pl).trans p1, (hut.none.cell pl).trans p2⟩) | go_keep) (first | (go_at_call 19; refine (unhide hRd).mono ?_; rintro e wt ⟨vt, rfl, hot, hut⟩; obtain ⟨adr, capr, rfl, _⟩ := OwnI.rd hot) | (go_at_call 93; refine (unhide hCd _ wt hut (rdX_of_own hot)).mono ?_; rintro e wf ⟨rfl, huf⟩))
  all_goals
    have hUf := hide ((unhide hUd).trans (hut.trans huf))
    go_wp2
    go_ret
    exact ⟨by rw [unhide hcf]; rfl, unhide hUf⟩
end Go.Proofs.Ytailhdfmfmlniaa
