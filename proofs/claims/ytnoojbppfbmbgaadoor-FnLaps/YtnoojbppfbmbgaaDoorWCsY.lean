/- Laps of two blocks: the program's walk. -/
import Derived.Test.YtnoojbppfbmbgaaDoorWCsX
import Derived.Test.YtnoojbppfbmbgaaDoorWConcI2
import Derived.Test.YtnoojbppfbmbgaaDoorWRowJ
namespace Go.Proofs.YtnoojbppfbmbgaaDoor
open Go.RowKit

def hopB (zs : List Int) : Bool := decide (zs.length = 16) && inRB (-32768) 32767 zs
theorem hopB_iff {zs : List Int} : hopB zs = true ↔ (zs.length = 16 ∧ InR (-32768) 32767 zs) := by
  unfold hopB
  rw [Bool.and_eq_true, decide_eq_true_iff, inRB_iff0]
def lapF (xs ys : List Int) : List Int := if hopB xs && hopB ys then lapL (xs ++ ys) else []
theorem lapF_len (xs ys : List Int) : (lapF xs ys).length ≤ 1048576 := by
  unfold lapF lapL
  split
  · simp
  · simp
theorem two_in {xs ys : List Int} (hx : hopB xs = true) (hy : hopB ys = true) (i : Nat) (hi : i < 32) : -32768 ≤ fI (xs ++ ys) i ∧ fI (xs ++ ys) i ≤ 32767 := by
  obtain ⟨l1, h1⟩ := hopB_iff.1 hx
  obtain ⟨l2, h2⟩ := hopB_iff.1 hy
  unfold fI
  rw [List.getD_eq_getElem?_getD]
  by_cases h : i < 16
  · rw [List.getElem?_append_left (by omega), ← List.getD_eq_getElem?_getD]
    exact h1 i (by omega)
  · rw [List.getElem?_append_right (by omega), ← List.getD_eq_getElem?_getD]
    exact h2 _ (by omega)
set_option maxHeartbeats 4000000 in
set_option maxRecDepth 100000 in
theorem implGoodHop (ad : Option Addr) (cap : Nat) (zs : List Int) (w : World) (hn : zs.length ≤ 1048576) (hA : ArgI w ad zs) :
    Calls Tryd.prog 37 #[.slice ad zs.length cap] w fun e w' => e = .returned (.bool (hopB zs)) ∧ Upd 0 0 w w' := by
  have hU := hide (Upd.refl 0 0 w)
  have hP := hide (implGoodNumbers ad cap zs 16 w (by omega) (by omega) hn hA)
  by_cases h : zs.length = 16
  · have e : hopB zs = inRB (-32768) 32767 zs := by unfold hopB; rw [decide_eq_true h, Bool.true_and]
    rw [e]
    have q : decide ((zs.length : Int) = 16) = true := decide_eq_true (by omega)
    have q' : ((zs.length : Int) == 16) = true := by rw [beq_iff_eq]; omega
    clear e
    rw [show lsB (loB 16) (hiB 16) zs = inRB (-32768) 32767 zs from by unfold lsB; rw [decide_eq_true (by omega), Bool.true_and]; rfl] at hP
    generalize inRB (-32768) 32767 zs = R at hP ⊢
    clear h hA
    go_enter Tryd.func37, Tryd.ntmps37
    go_wp2_with fail
    refine (unhide hP).mono ?_
    rintro e w1 ⟨rfl, hu1⟩
    replace hU := hide ((unhide hU).trans hu1)
    clear hu1 hP
    go_wp2
    go_ret
    exact ⟨rfl, unhide hU⟩
  · have e : hopB zs = false := by unfold hopB; rw [decide_eq_false h, Bool.false_and]
    rw [e]
    have q : decide ((zs.length : Int) = 16) = false := decide_eq_false (by omega)
    have q' : ((zs.length : Int) == 16) = false := by rw [beq_eq_false_iff_ne]; omega
    clear e hP h hA
    go_enter Tryd.func37, Tryd.ntmps37
    go_wp2
    go_ret
    exact ⟨rfl, unhide hU⟩
theorem argI_of_rdX {w : World} {v : Value} {xs : List Int} (h : RdX w v xs) : ∃ ad cap, v = .slice ad xs.length cap ∧ ArgI w ad xs := by
  obtain ⟨ad, cap, rfl, hA⟩ := h.rd
  exact ⟨ad, cap, rfl, hA⟩
set_option maxHeartbeats 8000000 in
set_option maxRecDepth 100000 in
theorem implLap (v : Value) (xs : List Int) (v1 : Value) (ys : List Int) (w : World) (hT : Held w 0 cosCells) (hn : xs.length ≤ 1048576) (_hR : InI xs) (hv : RdX w v xs) (hn1 : ys.length ≤ 1048576) (_hR1 : InI ys) (hv1 : RdX w v1 ys) :
    Calls Tryd.prog 12 #[v, v1] w fun e w' => ∃ u, e = .returned u ∧ OwnI w' w.heap.size w'.heap.size u (lapF xs ys) ∧ Upd 0 0 w w' := by
  obtain ⟨ad, cap, e0, hA⟩ := argI_of_rdX hv
  obtain ⟨ad1, cap1, e1, hA1⟩ := argI_of_rdX hv1
  have hG := hide (implGoodHop ad cap xs w hn hA)
  have hG1 := hide (fun X (hX : Upd 0 0 w X) => implGoodHop ad1 cap1 ys X hn1 (hA1.below hX.none))
  have hC := hide (fun X (hX : Upd 0 0 w X) (hl : xs.length + ys.length ≤ 1099511627776) t => concat2Z v v1 xs ys X t hl (hv.below hX.none).rj (hv1.below hX.none).rj)
  cases hx : hopB xs
  · have hF : lapF xs ys = [] := by unfold lapF; rw [hx]; rfl
    rw [hF]
    rw [hx] at hG
    subst e0
    subst e1
    clear hx hF hA hA1 hT hn hn1 hv hv1 hC hG1
    go_enter Tryd.func12, Tryd.ntmps12
    go_wp2_with fail
    refine (unhide hG).mono ?_
    rintro e w1 ⟨rfl, hu1⟩
    have hU := hide hu1
    clear hu1
    go_wp2
    go_ret
    exact ⟨_, rfl, own_nilI _ _ _, unhide hU⟩
  rw [hx] at hG
  cases hy : hopB ys
  · have hF : lapF xs ys = [] := by unfold lapF; rw [hy, Bool.and_false]; rfl
    rw [hF]
    rw [hy] at hG1
    subst e0
    subst e1
    clear hx hy hF hA hA1 hT hn hn1 hv hv1 hC
    go_enter Tryd.func12, Tryd.ntmps12
    go_wp2_with fail
    refine (unhide hG).mono ?_
    rintro e w1 ⟨rfl, hu1⟩
    have hU := hide hu1
    clear hu1
    go_wp2_with fail
    refine (unhide hG1 _ (unhide hU)).mono ?_
    rintro e w2 ⟨rfl, hu2⟩
    replace hU := hide ((unhide hU).trans hu2)
    clear hu2
    go_wp2
    go_ret
    exact ⟨_, rfl, own_nilI _ _ _, unhide hU⟩
  rw [hy] at hG1
  have hF : lapF xs ys = lapL (xs ++ ys) := by unfold lapF; rw [hx, hy]; rfl
  rw [hF]
  have hl : (xs ++ ys).length = 32 := by rw [List.length_append, (hopB_iff.1 hx).1, (hopB_iff.1 hy).1]
  have hL := hide (fun (b off cap : Nat) (X : World) (hX : Upd 0 0 w X) (hb : b < X.heap.size) (hc : ∀ j, j < 32 → X.cell? ⟨b, off + j, none⟩ = some (.int .i64 (fI (xs ++ ys) j))) => implLapped b off cap (xs ++ ys) X hl (fun i hi => two_in hx hy i hi) hb hc (hT.keep hX))
  subst e0
  subst e1
  clear hx hy hF hA hA1 hT hv hv1
  go_enter Tryd.func12, Tryd.ntmps12
  go_wp2_with fail
  refine (unhide hG).mono ?_
  rintro e w1 ⟨rfl, hu1⟩
  have hU := hide hu1
  clear hu1
  go_wp2_with fail
  refine (unhide hG1 _ (unhide hU)).mono ?_
  rintro e w2 ⟨rfl, hu2⟩
  replace hU := hide ((unhide hU).trans hu2)
  clear hu2 hG hG1
  go_wp2_with fail
  refine (unhide hC _ (unhide hU) (by omega) _).mono ?_
  rintro e w3 ⟨u, rfl, how, hu3⟩
  replace hU := hide ((unhide hU).trans hu3)
  clear hu3 hC
  obtain ⟨ad, cp, rfl, hA⟩ := how.rd
  obtain ⟨b, off, rfl, hbl, hcl⟩ := hA (ne_of_lt_length (k := 0) (by rw [hl]; omega))
  rw [hl]
  have hLL := hide (unhide hL b off cp w3 (unhide hU) hbl (fun j hj => hcl j (by rw [hl]; exact hj)))
  have hs3 := (unhide hU).size
  clear hA hbl hcl how hL hl
  go_wp2_with fail
  refine (unhide hLL).mono ?_
  rintro e w4 ⟨u, rfl, how, hu4⟩
  have how2 := hide (own_mono (a' := w.heap.size) how hs3 (Nat.le_refl _))
  replace hU := hide ((unhide hU).trans hu4)
  clear how hu4 hLL
  go_wp2
  go_ret
  exact ⟨_, rfl, unhide how2, unhide hU⟩
end Go.Proofs.YtnoojbppfbmbgaaDoor
