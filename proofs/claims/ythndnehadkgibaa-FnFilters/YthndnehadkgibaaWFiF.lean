/- The walks of the filters of rows: what the program guesses at a place. -/
import Derived.Test.YthndnehadkgibaaWFiE
import Derived.Deep.QuietTactic
import Derived.BigQuiet
import Derived.StillTactics
namespace Go.Proofs.Ythndnehadkgibaa
open Go.RowKit

theorem implGuess (kind a b c : Int) (w : World) (hk : 0 ≤ kind ∧ kind ≤ 4) (ha : 0 ≤ a ∧ a < 256) (hb : 0 ≤ b ∧ b < 256) (hc : 0 ≤ c ∧ c < 256) (G : Nat) (hg : gfn kind = .func (.func G) #[] #[]) :
    Calls Try.prog G #[.int .i64 a, .int .i64 b, .int .i64 c] w fun e w' => e = .returned (.int .i64 (guessF kind a b c)) ∧ w' = w := by
  rcases (show kind = 0 ∨ kind = 1 ∨ kind = 2 ∨ kind = 3 ∨ kind = 4 by omega) with e | e | e | e | e <;> subst e
  · have : G = 68 := by have := hg.symm; simp [gfn] at this; omega
    subst this; exact implGuess0 a b c w
  · have : G = 69 := by have := hg.symm; simp [gfn] at this; omega
    subst this; exact implGuess1 a b c w
  · have : G = 70 := by have := hg.symm; simp [gfn] at this; omega
    subst this; exact implGuess2 a b c w
  · have : G = 71 := by have := hg.symm; simp [gfn] at this; omega
    subst this; exact implGuess3 a b c w ha hb
  · have : G = 72 := by have := hg.symm; simp [gfn] at this; omega
    subst this; exact implGuess4 a b c w ha hb hc
theorem run_call0 (a b c : Int) (w : World) : (callFunc 68 #[.int .i64 a, .int .i64 b, .int .i64 c]).run Try.prog w = .ok (.enter 68 #[.int .i64 a, .int .i64 b, .int .i64 c]) w := by kernel_rfl
theorem run_call1 (a b c : Int) (w : World) : (callFunc 69 #[.int .i64 a, .int .i64 b, .int .i64 c]).run Try.prog w = .ok (.enter 69 #[.int .i64 a, .int .i64 b, .int .i64 c]) w := by kernel_rfl
theorem run_call2 (a b c : Int) (w : World) : (callFunc 70 #[.int .i64 a, .int .i64 b, .int .i64 c]).run Try.prog w = .ok (.enter 70 #[.int .i64 a, .int .i64 b, .int .i64 c]) w := by kernel_rfl
theorem run_call3 (a b c : Int) (w : World) : (callFunc 71 #[.int .i64 a, .int .i64 b, .int .i64 c]).run Try.prog w = .ok (.enter 71 #[.int .i64 a, .int .i64 b, .int .i64 c]) w := by kernel_rfl
theorem run_call4 (a b c : Int) (w : World) : (callFunc 72 #[.int .i64 a, .int .i64 b, .int .i64 c]).run Try.prog w = .ok (.enter 72 #[.int .i64 a, .int .i64 b, .int .i64 c]) w := by kernel_rfl
theorem run_callG (kind a b c : Int) (w : World) (hk : 0 ≤ kind ∧ kind ≤ 4) (G : Nat) (hg : gfn kind = .func (.func G) #[] #[]) :
    (callFunc G #[.int .i64 a, .int .i64 b, .int .i64 c]).run Try.prog w = .ok (.enter G #[.int .i64 a, .int .i64 b, .int .i64 c]) w := by
  rcases (show kind = 0 ∨ kind = 1 ∨ kind = 2 ∨ kind = 3 ∨ kind = 4 by omega) with e | e | e | e | e <;> subst e
  · have : G = 68 := by have := hg.symm; simp [gfn] at this; omega
    subst this; exact run_call0 a b c w
  · have : G = 69 := by have := hg.symm; simp [gfn] at this; omega
    subst this; exact run_call1 a b c w
  · have : G = 70 := by have := hg.symm; simp [gfn] at this; omega
    subst this; exact run_call2 a b c w
  · have : G = 71 := by have := hg.symm; simp [gfn] at this; omega
    subst this; exact run_call3 a b c w
  · have : G = 72 := by have := hg.symm; simp [gfn] at this; omega
    subst this; exact run_call4 a b c w
theorem wrap_i64_inG (n : Int) (h : -9223372036854775808 ≤ n ∧ n ≤ 9223372036854775807) : IntKind.i64.wrap n = n := by
  simp [IntKind.wrap, IntKind.bits, IntKind.signed]; omega

set_option maxHeartbeats 4000000 in
set_option maxRecDepth 1000000 in
theorem implGuessAt (kind step : Int) (ad : Option Addr) (cap : Nat) (ab : List Int) (v : Value) (row : List Int) (i : Nat) (w : World) (hk : 0 ≤ kind ∧ kind ≤ 4) (hs : 1 ≤ step ∧ step ≤ 8) (hi : i < row.length) (hl : ab.length = row.length) (hn : row.length ≤ 4096)
    (ha : InB ab) (hr : InB row) (hu : RdY w (.slice ad row.length cap) ab) (hv : RdY w v row) :
    Calls Try.prog 44 #[.agg #[gfn kind, .int .i64 step, .slice ad row.length cap], v, .int .i64 i] w fun e w' => e = .returned (.int .u8 (gAt kind step ab row i)) ∧ Below w.heap.size w w' := by
  obtain ⟨G, hg⟩ := gfn_form kind
  rw [hg]
  have hg1 := gAt_bd (kind := kind) (step := step) ha hr i
  have hC := hide (fun a b c W h1 h2 h3 => implGuess kind a b c W hk h1 h2 h3 G hg)
  obtain ⟨s1, s2⟩ := hs
  obtain ⟨ad0, cap0, e0, hA⟩ := hu
  simp only [Value.slice.injEq] at e0
  obtain ⟨rfl, e1, rfl⟩ := e0
  obtain ⟨ad', cap', rfl, hA'⟩ := hv
  obtain ⟨b, off, rfl, hbl, hc⟩ := hA (ne_of_lt_length (by omega : i < ab.length))
  have hB0 := (Below.refl w.heap.size w).alloc (Nat.le_refl _) (.cells #[.func (.func G) #[] #[], .int .i64 step, .slice (some ⟨b, off, none⟩) row.length cap] 59)
  have c2 := (hB0.cell (p := ⟨b, off + i, none⟩) (by simpa using hbl)).trans (hc i (by omega))
  have hgd : gAt kind step ab row i = guessF kind (atB row ((i : Int) - step)) (atB ab (i : Int)) (atB ab ((i : Int) - step)) := rfl
  rw [atB_nat] at hgd
  have r2 := ha i
  by_cases h : step ≤ i
  · obtain ⟨S, rfl⟩ := Int.eq_ofNat_of_zero_le (show 0 ≤ step by omega)
    obtain ⟨b', off', rfl, hbl', hc'⟩ := hA' (ne_of_lt_length (by omega : i - S < row.length))
    obtain ⟨j, hj⟩ : ∃ j, i - S = j := ⟨i - S, rfl⟩
    have hjS : ((i : Int) - (S : Int)) = (j : Int) := by omega
    rw [hjS, atB_nat, atB_nat] at hgd
    have hjr : j < row.length := by omega
    have c1 := (hB0.cell (p := ⟨b', off' + j, none⟩) (by simpa using hbl')).trans (hc' j (by omega))
    have c3 := (hB0.cell (p := ⟨b, off + j, none⟩) (by simpa using hbl)).trans (hc j (by omega))
    have r1 := hr j
    have r3 := ha j
    clear hc hc' hA hA'
    generalize row.getD j 0 = x at c1 r1 hgd
    generalize ab.getD i 0 = y at c2 r2 hgd
    generalize ab.getD j 0 = z at c3 r3 hgd
    replace hC := hide (fun W => unhide hC x y z W r1 r2 r3)
    rw [← hgd] at hC
    generalize gAt kind (S : Int) ab row i = g at hC hg1 ⊢
    clear hgd
    have q1 : decide ((S : Int) ≤ (i : Int)) = true := by simp; omega
    have hw1 : IntKind.i64.wrap ((i : Int) - S) = (j : Int) := by rw [wrap_i64_inG _ (by omega)]; omega
    have hw2 : IntKind.u8.wrap g = g := by rw [IntKind.wrap_u8']; omega
    have b1 : (0 : Int) ≤ (j : Int) := by omega
    have b2 : (j : Int) < (row.length : Int) := by omega
    have b3 : (i : Int) < (row.length : Int) := by omega
    have b4 : (0 : Int) ≤ (i : Int) := by omega
    obtain ⟨g1, g2⟩ := hg1
    replace hB0 := hide hB0
    replace hg := hide hg
    replace hjS := hide hjS
    replace hj := hide hj
    clear hbl hbl' hn hl e1
    go_enter Try.func44, Try.ntmps44
    go_wp2_with fail
    go_quiet (fail)
    go_wp2_with fail
    have d0 : ((w.alloc (.cells #[.func (.func G) #[] #[], .int .i64 (S : Int), .slice (some ⟨b, off, none⟩) row.length cap] 59)).drewN nq).cell? ⟨w.heap.size, 0, none⟩ = some (.func (.func G) #[] #[]) := by
      show (w.alloc _).cell? _ = _
      rw [World.cell?_alloc_at _ _ _ _ rfl]; rfl
    have d2 : ((w.alloc (.cells #[.func (.func G) #[] #[], .int .i64 (S : Int), .slice (some ⟨b, off, none⟩) row.length cap] 59)).drewN nq).cell? ⟨w.heap.size, 2, none⟩ = some (.slice (some ⟨b, off, none⟩) row.length cap) := by
      show (w.alloc _).cell? _ = _
      rw [World.cell?_alloc_at _ _ _ _ rfl]; rfl
    have d3 : ((w.alloc (.cells #[.func (.func G) #[] #[], .int .i64 (S : Int), .slice (some ⟨b, off, none⟩) row.length cap] 59)).drewN nq).cell? ⟨b, off + i, none⟩ = some (.int .u8 y) := c2
    have hw3 : IntKind.i64.wrap y = y := wrap_i64_inG _ (by omega)
    have hcl := fun W => run_callG kind x y z W hk G (unhide hg)
    have hB1 := hide (below_drewN (unhide hB0) nq)
    generalize (w.alloc (.cells #[.func (.func G) #[] #[], .int .i64 (S : Int), .slice (some ⟨b, off, none⟩) row.length cap] 59)).drewN nq = W1 at d0 d2 d3 hB1 ⊢
    clear c1 c2 c3 hB0
    refine wp_region_still_lit (by kernel_rfl) (by kernel_rfl) ?_
    iterate 10 still_step
    still_call (unhide hC _)
    iterate 2 still_step
    refine wpStill_nil ?_
    go_wp2
    go_ret
    exact ⟨rfl, below_drewN (unhide hB1) 1⟩
  · have hgn : gAt kind step ab row i = guessF kind 0 (ab.getD i 0) 0 := by rw [hgd, atB_neg (by omega), atB_neg (by omega)]
    clear hgd
    clear hc hA hA'
    generalize ab.getD i 0 = y at c2 r2 hgn
    replace hC := hide (fun W => unhide hC 0 y 0 W (by omega) r2 (by omega))
    rw [← hgn] at hC
    generalize gAt kind step ab row i = g at hC hg1 ⊢
    clear hgn
    have q1 : decide (step ≤ (i : Int)) = false := by simp; omega
    have hw2 : IntKind.u8.wrap g = g := by rw [IntKind.wrap_u8']; omega
    have b3 : (i : Int) < (row.length : Int) := by omega
    have b4 : (0 : Int) ≤ (i : Int) := by omega
    obtain ⟨g1, g2⟩ := hg1
    replace hg := hide hg
    clear hbl hn hl e1
    go_enter Try.func44, Try.ntmps44
    go_wp2_with fail
    have d0 : (w.alloc (.cells #[.func (.func G) #[] #[], .int .i64 step, .slice (some ⟨b, off, none⟩) row.length cap] 59)).cell? ⟨w.heap.size, 0, none⟩ = some (.func (.func G) #[] #[]) := by
      rw [World.cell?_alloc_at _ _ _ _ rfl]; rfl
    have d2 : (w.alloc (.cells #[.func (.func G) #[] #[], .int .i64 step, .slice (some ⟨b, off, none⟩) row.length cap] 59)).cell? ⟨w.heap.size, 2, none⟩ = some (.slice (some ⟨b, off, none⟩) row.length cap) := by
      rw [World.cell?_alloc_at _ _ _ _ rfl]; rfl
    have d3 := c2
    have hw3 : IntKind.i64.wrap y = y := wrap_i64_inG _ (by omega)
    have hcl := fun W => run_callG kind 0 y 0 W hk G (unhide hg)
    generalize w.alloc (.cells #[.func (.func G) #[] #[], .int .i64 step, .slice (some ⟨b, off, none⟩) row.length cap] 59) = W1 at d0 d2 d3 hB0 ⊢
    clear c2
    replace hB0 := hide hB0
    refine wp_region_still_lit (by kernel_rfl) (by kernel_rfl) ?_
    iterate 10 still_step
    still_call (unhide hC _)
    iterate 2 still_step
    refine wpStill_nil ?_
    go_wp2
    go_ret
    exact ⟨rfl, below_drewN (unhide hB0) 1⟩
end Go.Proofs.Ythndnehadkgibaa
