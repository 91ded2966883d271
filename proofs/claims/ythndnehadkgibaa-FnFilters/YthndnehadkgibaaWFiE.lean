/- The walks of the filters of rows: the filter that the program makes. -/
import Derived.Test.YthndnehadkgibaaWFiD
namespace Go.Proofs.Ythndnehadkgibaa
open Go.RowKit

def abF (ab row : List Int) : List Int := if ab.length = 0 then List.replicate row.length 0 else ab
theorem abF_inB {ab row : List Int} (h : InB ab) : InB (abF ab row) := by
  unfold abF; split
  · intro j; rw [List.getD_eq_getElem?_getD, List.getElem?_replicate]; split <;> simp
  · exact h
theorem abF_len {kind step : Int} {ab row : List Int} (h : filtOk kind step ab row) : (abF ab row).length = row.length := by
  unfold abF; split
  · simp
  · have := h.2.2.2.2.2; omega
theorem abF_at (ab row : List Int) (i : Int) : atB (abF ab row) i = atB ab i := by
  unfold abF; split
  · rename_i h
    have e : ab = [] := List.length_eq_zero_iff.1 h
    subst e
    unfold atB; split
    · rfl
    · rw [List.getD_eq_getElem?_getD, List.getElem?_replicate]; split <;> simp
  · rfl
theorem abF_g (kind step : Int) (ab row r : List Int) (i : Nat) : gAt kind step (abF ab row) r i = gAt kind step ab r i := by
  unfold gAt; rw [abF_at, abF_at]

theorem gfn_form (kind : Int) : ∃ G : Nat, gfn kind = .func (.func G) #[] #[] := by
  unfold gfn
  split
  · exact ⟨_, rfl⟩
  · split
    · exact ⟨_, rfl⟩
    · split
      · exact ⟨_, rfl⟩
      · split
        · exact ⟨_, rfl⟩
        · exact ⟨_, rfl⟩
theorem idx_gfn (kind : Int) (h : 0 ≤ kind ∧ kind ≤ 4) (w : World) : (Instr.index 82 (.agg #[.func (.func 68) #[] #[], .func (.func 69) #[] #[], .func (.func 70) #[] #[], .func (.func 71) #[] #[], .func (.func 72) #[] #[]]) (.int .i64 kind)).run Try.prog w = .ok (gfn kind) w := by
  rcases (show kind = 0 ∨ kind = 1 ∨ kind = 2 ∨ kind = 3 ∨ kind = 4 by omega) with e | e | e | e | e <;> subst e <;> kernel_rfl
theorem rdY_of_owns {w : World} {base g n c : Nat} {zs : List Int} (h : w.ownsRow base 5 1 (.slice (some ⟨g, 0, none⟩) n c) n (byts zs)) (hn : zs.length = n) : RdY w (.slice (some ⟨g, 0, none⟩) n c) zs := by
  subst hn
  refine ⟨some ⟨g, 0, none⟩, c, rfl, fun _ => ⟨g, 0, rfl, (h.lt _ rfl).2, fun j hj => ?_⟩⟩
  rw [Nat.zero_add, h.cellAt j (by omega)]
  exact getD_map_int _ .u8 j hj

set_option maxHeartbeats 2000000 in
set_option maxRecDepth 1000000 in
theorem implMakeGood (kind step : Int) (u v : Value) (ab row : List Int) (w : World) (hk : filtOk kind step ab row) (hu : RdY w u ab) (hv : RdY w v row) :
    Calls Try.prog 41 #[.int .i64 kind, .int .i64 step, u, v] w fun e w' => ∃ ad cap, e = .returned (.tuple #[.agg #[gfn kind, .int .i64 step, .slice ad row.length cap], .bool true]) ∧ RdY w' (.slice ad row.length cap) (abF ab row) ∧ Below w.heap.size w w' := by
  have hln := hide (abF_len hk)
  obtain ⟨k1, k2, k3, k4, k5, k6⟩ := hk
  have hu0 := hide hu
  obtain ⟨ad, cap, rfl, hA⟩ := hu
  obtain ⟨ad', cap', rfl, hA'⟩ := hv
  clear hA' hA
  have hG := hide (fun w => implGuesses w)
  obtain ⟨G, hg⟩ := gfn_form kind
  have hidx := idx_gfn kind ⟨k1, k2⟩
  rw [hg] at hidx ⊢
  replace hg := hide hg
  have kk1 : decide (kind < 0) = false := by simp; omega
  have kk2 : decide (5 ≤ kind) = false := by simp; omega
  have kk3 : decide (step < 1) = false := by simp; omega
  have kk4 : decide (8 < step) = false := by simp; omega
  have hB0 := (Below.refl w.heap.size w).alloc (Nat.le_refl _) (.cells #[.nilFunc, .int .i64 0, .slice none 0 0] 59)
  by_cases h0 : ab.length = 0
  · have hE := hide (show abF ab row = List.replicate row.length 0 from if_pos h0)
    obtain ⟨i0, hi0, hz0, hz1, hz2⟩ := info_parts infoB
    rw [h0]
    have q2 : ((row.length : Int) != (row.length : Int)) = false := by simp
    clear k6 hu0
    go_enter Try.func41, Try.ntmps41
    go_wp2_with (at_make; generalize hal : w.alloc (.cells #[.nilFunc, .int .i64 0, .slice none 0 0] 59) = w2 at hB0 ⊢; refine wpList_make_full _ rfl _ _ 22 rfl w2.heap.size 5 i0 (.int .u8 0) 1 Try.underlying22 hi0 hz0 hz1 .i64 .i64 _ _ row.length rfl rfl (by omega) (by omega) (by rw [hz2]; omega) (by unfold maxLen; omega) (Nat.le_refl _) ?_; intro w1 hown hgrow)
    have hB1 := hB0.grown hgrow (by rw [← hal]; simp) (by simp)
    have hs2 : w2.heap.size = w.heap.size + 1 := by rw [← hal]; simp
    have c0 : w2.cell? ⟨w.heap.size, 0, none⟩ = some .nilFunc := by rw [← hal, World.cell?_alloc_at _ _ _ _ rfl]; rfl
    have c1 : w2.cell? ⟨w.heap.size, 1, none⟩ = some (.int .i64 0) := by rw [← hal, World.cell?_alloc_at _ _ _ _ rfl]; rfl
    have c2 : w2.cell? ⟨w.heap.size, 2, none⟩ = some (.slice none 0 0) := by rw [← hal, World.cell?_alloc_at _ _ _ _ rfl]; rfl
    have f0 : ∀ o, w2.frozen? ⟨w.heap.size, o, none⟩ = false := fun o => by rw [← hal]; exact World.frozen?_alloc_at _ _ _ _ rfl
    have hR : w1.ownsRow w2.heap.size 5 1 (.slice (some ⟨w2.heap.size, 0, none⟩) row.length row.length) row.length (byts (List.replicate row.length 0)) := by
      have : byts (List.replicate row.length 0) = List.replicate row.length (.int .u8 0) := by unfold byts; simp
      rw [this]
      simpa [toList_madeCells_one, Value.cells] using hown
    have hbk := hgrow.block w.heap.size (by omega) (by simp)
    have c0' := (World.cell?_of_block (a := ⟨w.heap.size, 0, none⟩) hbk).trans c0
    have c1' := (World.cell?_of_block (a := ⟨w.heap.size, 1, none⟩) hbk).trans c1
    have c2' := (World.cell?_of_block (a := ⟨w.heap.size, 2, none⟩) hbk).trans c2
    have f0' := fun o => (World.frozen?_of_block (a := ⟨w.heap.size, o, none⟩) hbk).trans (f0 o)
    have hsz := hgrow.size
    rw [hs2] at hsz hR
    clear hown hgrow hbk c0 c1 c2 f0 hal hB0
    replace hR := hide hR
    replace hB1 := hide hB1
    go_wp2_with fail
    refine (unhide hG _).mono ?_
    rintro e w3 ⟨rfl, hb⟩
    have hB3 := hide ((unhide hB1).trans (hb.mono (by omega)))
    have hR3 := hide (ownsP_below (unhide hR) hb)
    have d0 := (hb.cell (p := ⟨w.heap.size, 0, none⟩) (by simp; omega)).trans c0'
    have d1 := (hb.cell (p := ⟨w.heap.size, 1, none⟩) (by simp; omega)).trans c1'
    have d2 := (hb.cell (p := ⟨w.heap.size, 2, none⟩) (by simp; omega)).trans c2'
    have e0 := (hb.frozen (p := ⟨w.heap.size, 0, none⟩) (by simp; omega)).trans (f0' 0)
    have e1 := (hb.frozen (p := ⟨w.heap.size, 1, none⟩) (by simp; omega)).trans (f0' 1)
    have e2 := (hb.frozen (p := ⟨w.heap.size, 2, none⟩) (by simp; omega)).trans (f0' 2)
    have hi3 := hidx w3
    clear hb hidx c0' c1' c2' f0' hR hB1
    go_wp2
    refine bodyPost_ret (v := .tuple #[.agg #[.func (.func G) #[] #[], .int .i64 step, .slice (some ⟨w.heap.size + 1, 0, none⟩) row.length row.length], .bool true]) (by simp [results, Try.results41, go_sem, d0, d1, d2]) rfl ⟨some ⟨w.heap.size + 1, 0, none⟩, row.length, rfl, ?_, ?_⟩
    · rw [unhide hE]
      exact rdY_of_owns (ownsRow_setCell_below (ownsRow_setCell_below (ownsRow_setCell_below (unhide hR3) (by simp) _) (by simp) _) (by simp) _) (by simp)
    · exact (((unhide hB3).setCell (p := ⟨w.heap.size, 0, none⟩) (by simp) _).setCell (p := ⟨w.heap.size, 1, none⟩) (by simp) _).setCell (p := ⟨w.heap.size, 2, none⟩) (by simp) _
  · have h1 : ab.length = row.length := by omega
    have hE := hide (show abF ab row = ab from if_neg h0)
    rw [h1] at h0 ⊢
    have q1 : ((row.length : Int) == 0) = false := beq_eq_false_iff_ne.2 (by omega)
    have q2 : ((row.length : Int) != (row.length : Int)) = false := by simp
    rw [h1] at hu0
    clear k6 h1
    go_enter Try.func41, Try.ntmps41
    go_wp2_with fail
    generalize hal : w.alloc (.cells #[.nilFunc, .int .i64 0, .slice none 0 0] 59) = w2 at hB0 ⊢
    have hs2 : w2.heap.size = w.heap.size + 1 := by rw [← hal]; simp
    have c0 : w2.cell? ⟨w.heap.size, 0, none⟩ = some .nilFunc := by rw [← hal, World.cell?_alloc_at _ _ _ _ rfl]; rfl
    have c1 : w2.cell? ⟨w.heap.size, 1, none⟩ = some (.int .i64 0) := by rw [← hal, World.cell?_alloc_at _ _ _ _ rfl]; rfl
    have c2 : w2.cell? ⟨w.heap.size, 2, none⟩ = some (.slice none 0 0) := by rw [← hal, World.cell?_alloc_at _ _ _ _ rfl]; rfl
    have f0 : ∀ o, w2.frozen? ⟨w.heap.size, o, none⟩ = false := fun o => by rw [← hal]; exact World.frozen?_alloc_at _ _ _ _ rfl
    clear hal
    refine (unhide hG _).mono ?_
    rintro e w3 ⟨rfl, hb⟩
    have hB3 := hide (hB0.trans (hb.mono (by omega)))
    have d0 := (hb.cell (p := ⟨w.heap.size, 0, none⟩) (by simp; omega)).trans c0
    have d1 := (hb.cell (p := ⟨w.heap.size, 1, none⟩) (by simp; omega)).trans c1
    have d2 := (hb.cell (p := ⟨w.heap.size, 2, none⟩) (by simp; omega)).trans c2
    have e0 := (hb.frozen (p := ⟨w.heap.size, 0, none⟩) (by simp; omega)).trans (f0 0)
    have e1 := (hb.frozen (p := ⟨w.heap.size, 1, none⟩) (by simp; omega)).trans (f0 1)
    have e2 := (hb.frozen (p := ⟨w.heap.size, 2, none⟩) (by simp; omega)).trans (f0 2)
    have hi3 := hidx w3
    clear hb hidx c0 c1 c2 f0 hB0
    go_wp2
    have hBf := (((unhide hB3).setCell (p := ⟨w.heap.size, 0, none⟩) (by simp) (.func (.func G) #[] #[])).setCell (p := ⟨w.heap.size, 1, none⟩) (by simp) (.int .i64 step)).setCell (p := ⟨w.heap.size, 2, none⟩) (by simp) (.slice ad row.length cap)
    refine bodyPost_ret (v := .tuple #[.agg #[.func (.func G) #[] #[], .int .i64 step, .slice ad row.length cap], .bool true]) (by simp [results, Try.results41, go_sem, d0, d1, d2]) rfl ⟨ad, cap, rfl, ?_, hBf⟩
    rw [unhide hE]
    exact (unhide hu0).below hBf

set_option maxHeartbeats 2000000 in
set_option maxRecDepth 1000000 in
theorem implMakeBad (kind step : Int) (u v : Value) (ab row : List Int) (w : World) (_hna : ab.length ≤ 1048576) (hn : row.length ≤ 1048576) (hk : ¬ filtOk kind step ab row) (hu : RdY w u ab) (hv : RdY w v row) :
    Calls Try.prog 41 #[.int .i64 kind, .int .i64 step, u, v] w fun e w' => e = .returned (.tuple #[.agg #[.nilFunc, .int .i64 0, .slice none 0 0], .bool false]) ∧ Below w.heap.size w w' := by
  obtain ⟨ad, cap, rfl, hA⟩ := hu
  obtain ⟨ad', cap', rfl, hA'⟩ := hv
  clear hA' hA
  by_cases h1 : kind < 0
  · clear hk
    have q : decide (kind < 0) = true := by simp; omega
    go_enter Try.func41, Try.ntmps41
    go_wp2
    refine bodyPost_ret (v := .tuple #[.agg #[.nilFunc, .int .i64 0, .slice none 0 0], .bool false]) (by simp [results, Try.results41, go_sem]) rfl ⟨rfl, ?_⟩
    repeat (first | exact Below.refl _ _ | refine Below.setCell ?_ (by simp) _ | refine Below.alloc ?_ (by first | exact Nat.le_refl _ | (simp; done) | (simp; omega)) _)
  have q1 : decide (kind < 0) = false := by simp; omega
  by_cases h2 : 4 < kind
  · clear hk
    have q : decide (5 ≤ kind) = true := by simp; omega
    go_enter Try.func41, Try.ntmps41
    go_wp2
    refine bodyPost_ret (v := .tuple #[.agg #[.nilFunc, .int .i64 0, .slice none 0 0], .bool false]) (by simp [results, Try.results41, go_sem]) rfl ⟨rfl, ?_⟩
    repeat (first | exact Below.refl _ _ | refine Below.setCell ?_ (by simp) _ | refine Below.alloc ?_ (by first | exact Nat.le_refl _ | (simp; done) | (simp; omega)) _)
  have q2 : decide (5 ≤ kind) = false := by simp; omega
  by_cases h3 : step < 1
  · clear hk
    have q : decide (step < 1) = true := by simp; omega
    go_enter Try.func41, Try.ntmps41
    go_wp2
    refine bodyPost_ret (v := .tuple #[.agg #[.nilFunc, .int .i64 0, .slice none 0 0], .bool false]) (by simp [results, Try.results41, go_sem]) rfl ⟨rfl, ?_⟩
    repeat (first | exact Below.refl _ _ | refine Below.setCell ?_ (by simp) _ | refine Below.alloc ?_ (by first | exact Nat.le_refl _ | (simp; done) | (simp; omega)) _)
  have q3 : decide (step < 1) = false := by simp; omega
  by_cases h4 : 8 < step
  · clear hk
    have q : decide (8 < step) = true := by simp; omega
    go_enter Try.func41, Try.ntmps41
    go_wp2
    refine bodyPost_ret (v := .tuple #[.agg #[.nilFunc, .int .i64 0, .slice none 0 0], .bool false]) (by simp [results, Try.results41, go_sem]) rfl ⟨rfl, ?_⟩
    repeat (first | exact Below.refl _ _ | refine Below.setCell ?_ (by simp) _ | refine Below.alloc ?_ (by first | exact Nat.le_refl _ | (simp; done) | (simp; omega)) _)
  have q4 : decide (8 < step) = false := by simp; omega
  by_cases h5 : 4096 < row.length
  · clear hk
    have q : decide ((4096 : Int) < row.length) = true := by simp; omega
    go_enter Try.func41, Try.ntmps41
    go_wp2
    refine bodyPost_ret (v := .tuple #[.agg #[.nilFunc, .int .i64 0, .slice none 0 0], .bool false]) (by simp [results, Try.results41, go_sem]) rfl ⟨rfl, ?_⟩
    repeat (first | exact Below.refl _ _ | refine Below.setCell ?_ (by simp) _ | refine Below.alloc ?_ (by first | exact Nat.le_refl _ | (simp; done) | (simp; omega)) _)
  have q5 : decide ((4096 : Int) < row.length) = false := by simp; omega
  have h6 : ¬ (ab.length = 0 ∨ ab.length = row.length) := fun h' => hk ⟨by omega, by omega, by omega, by omega, by omega, h'⟩
  have q6 : ((ab.length : Int) == 0) = false := beq_eq_false_iff_ne.2 (by omega)
  have q7 : ((ab.length : Int) != (row.length : Int)) = true := bne_iff_ne.2 (by omega)
  clear hk h6
  go_enter Try.func41, Try.ntmps41
  go_wp2
  refine bodyPost_ret (v := .tuple #[.agg #[.nilFunc, .int .i64 0, .slice none 0 0], .bool false]) (by simp [results, Try.results41, go_sem]) rfl ⟨rfl, ?_⟩
  repeat (first | exact Below.refl _ _ | refine Below.setCell ?_ (by simp) _ | refine Below.alloc ?_ (by first | exact Nat.le_refl _ | (simp; done) | (simp; omega)) _)
end Go.Proofs.Ythndnehadkgibaa
