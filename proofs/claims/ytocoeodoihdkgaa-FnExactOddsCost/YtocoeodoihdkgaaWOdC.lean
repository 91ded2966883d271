/- Odds: the program's rows of 512 odds: how they begin, learn, what a choice costs by them. -/
import Derived.Test.YtocoeodoihdkgaaWOdA
import Derived.Test.YtocoeodoihdkgaaWHeld
import Derived.Test.YtocoeodoihdkgaaWTrC
import Derived.Test.YtocoeodoihdkgaaWQT
import Derived.Deep.WholeRow
import Derived.Laws.ResultCell
import Derived.Laws.CopyOwn
namespace Go.Proofs.Ytocoeodoihdkgaa
open Go.RowKit

def oddsV (s : Int → Int) : List Value := (List.range 512).map fun p : Nat => .int .u16 (s (p : Int))
@[simp] theorem oddsV_length (s : Int → Int) : (oddsV s).length = 512 := by simp [oddsV]
theorem oddsV_at (s : Int → Int) (p : Nat) (h : p < 512) : (oddsV s)[p]? = some (.int .u16 (s p)) := by
  unfold oddsV; rw [List.getElem?_map, List.getElem?_range h]; rfl
theorem oddsV_put (s : Int → Int) (c : Int × Int) (p : Nat) (hp : c.1 = (p : Int)) : (oddsV s).set p (.int .u16 (learnF (s c.1) c.2)) = oddsV (oddsSet s c) := by
  apply List.ext_getElem?
  intro j
  by_cases hj : j < 512
  · by_cases e : p = j
    · subst e
      rw [List.getElem?_set_self (by simpa using hj), oddsV_at _ _ hj]
      unfold oddsSet; rw [if_pos hp.symm, hp]
    · rw [List.getElem?_set_ne e, oddsV_at _ _ hj, oddsV_at _ _ hj]
      unfold oddsSet; rw [if_neg (by omega)]
  · rw [List.getElem?_eq_none (by simp; omega), List.getElem?_eq_none (by simp; omega)]
/-- A row of odds at the head of a block, other cells behind them. -/
def OdAt (w : World) (g : Nat) (s : Int → Int) (rest : List Value) : Prop := HeldF w g (oddsV s ++ rest)
theorem OdAt.odds {w : World} {g : Nat} {s : Int → Int} {rest : List Value} (h : OdAt w g s rest) (p : Nat) (hp : p < 512) : w.cell? ⟨g, p, none⟩ = some (.int .u16 (s p)) :=
  h.1.2 p _ (by rw [List.getElem?_append_left (by simpa using hp)]; exact oddsV_at s p hp)
theorem OdAt.back {w : World} {g : Nat} {s : Int → Int} {rest : List Value} (h : OdAt w g s rest) (i : Nat) (v : Value) (hv : rest[i]? = some v) : w.cell? ⟨g, 512 + i, none⟩ = some v :=
  h.1.2 (512 + i) v (by rw [List.getElem?_append_right (by simp)]; simpa using hv)
theorem OdAt.frozen {w : World} {g : Nat} {s : Int → Int} {rest : List Value} (h : OdAt w g s rest) (j : Nat) : w.frozen? ⟨g, j, none⟩ = false := h.2 j
theorem OdAt.lt {w : World} {g : Nat} {s : Int → Int} {rest : List Value} (h : OdAt w g s rest) : g < w.heap.size := h.1.1
theorem OdAt.upd {w w' : World} {g a b : Nat} {s : Int → Int} {rest : List Value} (h : OdAt w g s rest) (u : Upd a b w w') (hd : g + 1 ≤ a ∨ b ≤ g) : OdAt w' g s rest := HeldF.upd h u hd
theorem OdAt.learn {w : World} {g : Nat} {s : Int → Int} {rest : List Value} (h : OdAt w g s rest) (c : Int × Int) (p : Nat) (hp : c.1 = (p : Int)) (hl : p < 512) : OdAt (w.setCell ⟨g, p, none⟩ (.int .u16 (learnF (s c.1) c.2))) g (oddsSet s c) rest := by
  have h1 := HeldF.set h p (.int .u16 (learnF (s c.1) c.2)) (by simp; omega)
  rw [List.set_append_left _ _ (by simpa using hl), oddsV_put s c p hp] at h1
  exact h1
theorem OdAt.setBack {w : World} {g : Nat} {s : Int → Int} {rest : List Value} (h : OdAt w g s rest) (i : Nat) (hi : i < rest.length) (v : Value) : OdAt (w.setCell ⟨g, 512 + i, none⟩ v) g s (rest.set i v) := by
  have h1 := HeldF.set h (512 + i) v (by simp; omega)
  rw [List.set_append_right _ _ (by simp)] at h1
  rw [show 512 + i - (oddsV s).length = i by simp] at h1
  exact h1
theorem OdAt.other {w : World} {g : Nat} {s : Int → Int} {rest : List Value} (h : OdAt w g s rest) {g' : Nat} (hne : g' ≠ g) (o : Nat) (u : Value) : OdAt (w.setCell ⟨g', o, none⟩ u) g s rest := HeldF.other h hne o u
/-- One cell of a block is written. -/
theorem upd_setCell (w : World) (g j : Nat) (v : Value) : Upd g (g + 1) w (w.setCell ⟨g, j, none⟩ v) :=
  ⟨rfl, rfl, rfl, by simp, fun k _ hk => Below.heap_setCell w ⟨g, j, none⟩ v k (by simp; omega)⟩

def SOk (s : Int → Int) : Prop := ∀ p, 31 ≤ s p ∧ s p ≤ 4065
/-- What learning leaves, behind whatever was laid besides. -/
theorem learn_fin {w w0 wt : World} {g p : Nat} {b : Int} {s : Int → Int} {rest : List Value} (h : OdAt w0 g s rest) (hp : p < 512) (u0 : Upd 0 0 w w0) (u : Upd 0 0 w0 wt) (y : Int) (hy : y = learnF (s p) b) :
    OdAt (wt.setCell ⟨g, p, none⟩ (.int .u16 y)) g (oddsSet s (p, b)) rest ∧ Upd g (g + 1) w (wt.setCell ⟨g, p, none⟩ (.int .u16 y)) := by
  have h1 : OdAt wt g s rest := h.upd u (.inr (Nat.zero_le _))
  refine ⟨by rw [hy]; exact h1.learn (p, b) p rfl hp, ?_⟩
  have h2 := u0.trans u
  exact Upd.trans ⟨h2.os, h2.tape, h2.output, h2.size, fun k hk _ => h2.block k hk (.inr (Nat.zero_le _))⟩ (upd_setCell _ g p _)
set_option maxRecDepth 100000 in
set_option maxHeartbeats 8000000 in
theorem implLearn (g : Nat) (p : Nat) (b : Int) (s : Int → Int) (rest : List Value) (w : World) (h : OdAt w g s rest) (hp : p < 512) (hs : SOk s) :
    Calls Try.prog 66 #[.pointer (some ⟨g, 0, none⟩), .agg #[.int .i64 (p : Int), .int .i64 b]] w fun e w' => e = .returned (.tuple #[]) ∧ OdAt w' g (oddsSet s (p, b)) rest ∧ Upd g (g + 1) w w' := by
  have hu0 := Upd.of_below ((Below.refl w.heap.size w).alloc (Nat.le_refl _) (.cells #[.int .i64 (p : Int), .int .i64 b] 38)) 0 0
  have h1 := h.upd hu0 (.inr (Nat.zero_le _))
  have hch := heldF_new w [.int .i64 (p : Int), .int .i64 b] 38
  have hcell : (oddsV s ++ rest)[p]? = some (.int .u16 (s p)) := by rw [List.getElem?_append_left (by simpa using hp)]; exact oddsV_at s p hp
  obtain ⟨o, ho⟩ : ∃ o, s p = o := ⟨_, rfl⟩
  have hob := hs p
  rw [ho] at hcell hob
  have hl := learnF_bd o b hob
  obtain ⟨o0, o1⟩ := hob
  have hpI : (p : Int) < 512 := by omega
  replace h1 := hide h1
  replace hu0 := hide hu0
  replace hch := hide hch
  replace hcell := hide hcell
  replace ho := hide ho
  clear h hs
  by_cases hb : b = 0
  · have t : (b == 0) = true := by simpa using hb
    subst hb
    have hE : learnF o 0 = o + (4096 - o) / 32 := by unfold learnF; rw [if_pos rfl]
    rw [hE] at hl
    replace hE := hide hE
    obtain ⟨l0, l1⟩ := hl
    go_enter Try.func66, Try.ntmps66
    go_wp2_with fail
    simp only [List.toArray] at hch
    generalize w.alloc (.cells #[.int .i64 (p : Int), .int .i64 0] 38) = w0 at h1 hch hu0 ⊢
    generalize w.heap.size = c at hch ⊢
    have k0 := fun x : UpdT w0 => (((unhide hch).1.updT x).2 0 _ rfl)
    have kc := fun x : UpdT w0 => (((unhide h1).1.updT x).2 p _ (unhide hcell))
    refine wq_region_tail 17 (by kernel_rfl) (by kernel_rfl) ?_
    simp only [List.take_succ_cons, List.take_zero, List.drop_succ_cons, List.drop_zero]
    iterate 17
      refine WQ.step (fun K hK => ?_)
      go_simp
      refine hK _ ?_
      clear hK K
    refine WQ.nil ?_
    rintro _ ⟨x, rfl⟩
    clear k0 kc
    have hx := x.upd
    generalize x.to = wt at hx ⊢
    have f0 := (unhide h1).upd hx (.inr (Nat.zero_le _)) |>.frozen p
    have c0 := ((unhide h1).upd hx (.inr (Nat.zero_le _))).1.2 p _ (unhide hcell)
    have hfin := hide (learn_fin (b := 0) (unhide h1) hp (unhide hu0) hx (o + (4096 - o) / 32) (by rw [unhide ho, unhide hE]))
    clear hx h1 hch hu0
    go_wp2
    go_end0
    exact ⟨rfl, unhide hfin⟩
  · have t : (b == 0) = false := by simpa using hb
    have hE : learnF o b = o - o / 32 := by unfold learnF; rw [if_neg hb]
    rw [hE] at hl
    replace hE := hide hE
    obtain ⟨l0, l1⟩ := hl
    clear hb
    go_enter Try.func66, Try.ntmps66
    go_wp2_with fail
    simp only [List.toArray] at hch
    generalize w.alloc (.cells #[.int .i64 (p : Int), .int .i64 b] 38) = w0 at h1 hch hu0 ⊢
    generalize w.heap.size = c at hch ⊢
    have k0 := fun x : UpdT w0 => (((unhide hch).1.updT x).2 0 _ rfl)
    have kc := fun x : UpdT w0 => (((unhide h1).1.updT x).2 p _ (unhide hcell))
    refine wq_region_tail 16 (by kernel_rfl) (by kernel_rfl) ?_
    simp only [List.take_succ_cons, List.take_zero, List.drop_succ_cons, List.drop_zero]
    iterate 16
      refine WQ.step (fun K hK => ?_)
      go_simp
      refine hK _ ?_
      clear hK K
    refine WQ.nil ?_
    rintro _ ⟨x, rfl⟩
    clear k0 kc
    have hx := x.upd
    generalize x.to = wt at hx ⊢
    have f0 := (unhide h1).upd hx (.inr (Nat.zero_le _)) |>.frozen p
    have c0 := ((unhide h1).upd hx (.inr (Nat.zero_le _))).1.2 p _ (unhide hcell)
    have hfin := hide (learn_fin (b := b) (unhide h1) hp (unhide hu0) hx (o - o / 32) (by rw [unhide ho, unhide hE]))
    clear hx h1 hch hu0
    go_wp2
    go_end0
    exact ⟨rfl, unhide hfin⟩
set_option maxRecDepth 100000 in
set_option maxHeartbeats 8000000 in
theorem implCost (g : Nat) (p : Nat) (b : Int) (s : Int → Int) (rest : List Value) (w : World) (h : OdAt w g s rest) (hp : p < 512) (hs : SOk s) :
    Calls Try.prog 65 #[.pointer (some ⟨g, 0, none⟩), .agg #[.int .i64 (p : Int), .int .i64 b]] w fun e w' => e = .returned (.int .i64 (costF (s p) b)) ∧ Upd 0 0 w w' := by
  have hu0 := Upd.of_below ((Below.refl w.heap.size w).alloc (Nat.le_refl _) (.cells #[.int .i64 (p : Int), .int .i64 b] 38)) 0 0
  have h1 := h.upd hu0 (.inr (Nat.zero_le _))
  have hch := heldF_new w [.int .i64 (p : Int), .int .i64 b] 38
  have hcell : (oddsV s ++ rest)[p]? = some (.int .u16 (s p)) := by rw [List.getElem?_append_left (by simpa using hp)]; exact oddsV_at s p hp
  have hob := hs p
  generalize s p = o at hcell hob ⊢
  have hpb := partsF_bd o b hob
  have hL := hide (fun X => implLikely (partsF o b) (by omega) (by omega) X)
  have hR := hide (fun X => implRound4 (if b = 1 then 4096 - o else o) X (by split <;> omega) (by split <;> omega))
  have hcf : costF o b = logF (partsF o b) := rfl
  have hpf : partsF o b = ((if b = 1 then 4096 - o else o) + 8) / 16 := rfl
  rw [← hpf] at hR
  rw [hcf]
  clear hcf hpf
  generalize partsF o b = q at hR hL hpb ⊢
  obtain ⟨o0, o1⟩ := hob
  obtain ⟨q0, q1⟩ := hpb
  have hpI : (p : Int) < 512 := by omega
  replace h1 := hide h1
  replace hu0 := hide hu0
  replace hch := hide hch
  replace hcell := hide hcell
  clear h hs
  go_enter Try.func65, Try.ntmps65
  go_wp2_with fail
  simp only [List.toArray] at hch
  generalize w.alloc (.cells #[.int .i64 (p : Int), .int .i64 b] 38) = w0 at h1 hch hu0 ⊢
  generalize w.heap.size = c at hch ⊢
  have k0 := fun x : UpdT w0 => (((unhide hch).1.updT x).2 0 _ rfl)
  have kc := fun x : UpdT w0 => (((unhide h1).1.updT x).2 p _ (unhide hcell))
  refine wq_region_tail 7 (by kernel_rfl) (by kernel_rfl) ?_
  simp only [List.take_succ_cons, List.take_zero, List.drop_succ_cons, List.drop_zero]
  iterate 7
    refine WQ.step (fun K hK => ?_)
    go_simp
    refine hK _ ?_
    clear hK K
  refine WQ.nil ?_
  rintro _ ⟨x, rfl⟩
  clear k0 kc
  have hx := x.upd
  generalize x.to = wt at hx ⊢
  have c1 := ((unhide hch).keep hx).1.2 1 _ rfl
  have hfin := hide ((unhide hu0).trans hx)
  clear hx h1 hch hu0
  by_cases hb : b = 1
  · have t : (b == 1) = true := by simpa using hb
    rw [if_pos hb] at hR
    clear hb
    go_wp2_with fail
    refine (unhide hR _).mono ?_
    rintro e w1 ⟨rfl, rfl⟩
    go_wp2_with fail
    refine (unhide hL _).mono ?_
    rintro e w1 ⟨rfl, rfl⟩
    go_wp2
    go_ret
    exact ⟨rfl, unhide hfin⟩
  · have t : (b == 1) = false := by simpa using hb
    rw [if_neg hb] at hR
    clear hb
    go_wp2_with fail
    refine (unhide hR _).mono ?_
    rintro e w1 ⟨rfl, rfl⟩
    go_wp2_with fail
    refine (unhide hL _).mono ?_
    rintro e w1 ⟨rfl, rfl⟩
    go_wp2
    go_ret
    exact ⟨rfl, unhide hfin⟩
end Go.Proofs.Ytocoeodoihdkgaa
