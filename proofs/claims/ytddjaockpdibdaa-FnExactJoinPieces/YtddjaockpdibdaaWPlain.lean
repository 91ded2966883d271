/- Plain as an answer: a struct of an error, a byte string of the call's own and a number; the laws' helpers on it. -/
import Derived.Test.YtddjaockpdibdaaWByts
import Derived.Test.YtddjaockpdibdaaWOwn
namespace Go.Proofs.Ytddjaockpdibdaa
open Go.RowKit

abbrev PlD := Int × List Int × Nat
def OwnPl (w : World) (a b : Nat) (v : Value) (d : PlD) : Prop := ∃ vl, v = .agg #[.int .i64 d.1, vl, .int .i64 (d.2.2 : Nat)] ∧ OwnY w a b vl d.2.1
theorem OwnPl.upd {w w' : World} {a b c e : Nat} {v : Value} {d : PlD} (h : OwnPl w a b v d) (u : Upd c e w w') (hd : b ≤ c ∨ e ≤ a) : OwnPl w' a b v d := by
  obtain ⟨vl, rfl, h⟩ := h
  exact ⟨vl, rfl, h.upd u hd⟩
theorem OwnPl.keep {w w' : World} {a b : Nat} {v : Value} {d : PlD} (h : OwnPl w a b v d) (u : Upd 0 0 w w') : OwnPl w' a b v d := h.upd u (.inr (Nat.zero_le _))
theorem OwnPl.form {w : World} {a b : Nat} {v : Value} {d : PlD} (h : OwnPl w a b v d) : ∃ ad cap, v = .agg #[.int .i64 d.1, .slice ad d.2.1.length cap, .int .i64 (d.2.2 : Nat)] := by
  obtain ⟨vl, rfl, h⟩ := h
  obtain ⟨ad, cap, rfl, _⟩ := h.rd
  exact ⟨ad, cap, rfl⟩
def plCount (d : PlD) : Nat := d.2.1.length
def plMarked (k : Nat) (d : PlD) : PlD := (d.1, marksB k d.2.1.length, d.2.2)

set_option maxHeartbeats 1000000 in
theorem eqPlain_own {w : World} {a b a' b' : Nat} {u v : Value} {d : PlD} (hL : d.2.1.length ≤ 1048576) (hu : OwnPl w a b u d) (hv : OwnPl w a' b' v d) :
    Calls Try.prog 50 #[u, v] w fun e w' => e = .returned (.bool true) ∧ Upd 0 0 w w' := by
  obtain ⟨ul, rfl, hu⟩ := hu
  obtain ⟨vl, rfl, hv⟩ := hv
  obtain ⟨e, l, q⟩ := d
  simp only at hL hu hv ⊢
  have hB := (((Below.refl w.heap.size w).alloc (Nat.le_refl _) (.cells #[.int .i64 e, ul, .int .i64 (q : Nat)] 54)).alloc (by simp) (.cells #[.int .i64 e, vl, .int .i64 (q : Nat)] 54))
  have h1 := hu.rd.below hB
  have h2 := hv.rd.below hB
  have hE := hide (eqByteY_rd ul vl l _ hL h1 h2)
  have a0 : ((w.alloc (.cells #[.int .i64 e, ul, .int .i64 (q : Nat)] 54)).alloc (.cells #[.int .i64 e, vl, .int .i64 (q : Nat)] 54)).cell? ⟨w.heap.size, 2, none⟩ = some (.int .i64 q) := by
    rw [World.cell?_alloc_old _ _ _ (by simp), World.cell?_alloc_at _ _ _ _ rfl]; rfl
  have a1 : ((w.alloc (.cells #[.int .i64 e, ul, .int .i64 (q : Nat)] 54)).alloc (.cells #[.int .i64 e, vl, .int .i64 (q : Nat)] 54)).cell? ⟨w.heap.size + 1, 2, none⟩ = some (.int .i64 q) := by
    have hs : w.heap.size + 1 = (w.alloc (.cells #[.int .i64 e, ul, .int .i64 (q : Nat)] 54)).heap.size := by simp
    rw [hs, World.cell?_alloc_at _ _ _ _ rfl]; rfl
  replace hB := hide hB
  replace a0 := hide a0
  replace a1 := hide a1
  clear h1 h2 hu hv
  go_enter Try.func50, Try.ntmps50
  go_wp2_with fail
  refine (unhide hE).mono ?_
  rintro e' w1 ⟨rfl, hu⟩
  have b0 := (hu.none.cell (p := ⟨w.heap.size, 2, none⟩) (by simp; omega)).trans (unhide a0)
  have b1 := (hu.none.cell (p := ⟨w.heap.size + 1, 2, none⟩) (by simp)).trans (unhide a1)
  replace hu := hide ((Upd.of_below (unhide hB) 0 0).trans hu)
  clear hE
  go_wp2
  go_ret
  exact ⟨rfl, unhide hu⟩

set_option maxHeartbeats 1000000 in
theorem markPlain_own {w : World} {a b : Nat} {v : Value} {d : PlD} (k : Nat) (hL : d.2.1.length ≤ 1048576) (hk : k ≤ 1099511627776) (hv : OwnPl w a b v d) :
    Calls Try.prog 51 #[v, .int .i64 k] w fun e w' => e = .returned (.int .i64 ((k + plCount d : Nat) : Int)) ∧ OwnPl w' a b v (plMarked k d) ∧ Upd a b w w' := by
  obtain ⟨vl, rfl, hv⟩ := hv
  obtain ⟨e, l, q⟩ := d
  simp only at hL hv ⊢
  have hB := Upd.of_below ((Below.refl w.heap.size w).alloc (Nat.le_refl _) (.cells #[.int .i64 e, vl, .int .i64 (q : Nat)] 54)) a b
  have hv1 := hv.keep (Upd.of_below ((Below.refl w.heap.size w).alloc (Nat.le_refl _) (.cells #[.int .i64 e, vl, .int .i64 (q : Nat)] 54)) 0 0)
  have hM := hide (markByteY_own a b vl k l _ hL hk hv1)
  replace hB := hide hB
  clear hv1 hv
  go_enter Try.func51, Try.ntmps51
  go_wp2_with fail
  refine (unhide hM).mono ?_
  rintro e' w1 ⟨rfl, ho, hu⟩
  replace hu := hide ((unhide hB).trans hu)
  replace ho := hide ho
  clear hM
  go_wp2
  go_ret
  refine ⟨rfl, ⟨vl, rfl, ?_⟩, unhide hu⟩
  simp only [plMarked]
  exact unhide ho

set_option maxHeartbeats 1000000 in
theorem heldPlain_own {w : World} {a b : Nat} {v : Value} {d : PlD} (k : Nat) (hL : d.2.1.length ≤ 1048576) (hk : k ≤ 1099511627776) (hv : OwnPl w a b v (plMarked k d)) :
    Calls Try.prog 52 #[v, .int .i64 k] w fun e w' => e = .returned (.int .i64 ((k + plCount d : Nat) : Int)) ∧ Upd 0 0 w w' := by
  obtain ⟨vl, rfl, hv⟩ := hv
  obtain ⟨e, l, q⟩ := d
  simp only [plMarked] at hL hv ⊢
  have hB := Upd.of_below ((Below.refl w.heap.size w).alloc (Nat.le_refl _) (.cells #[.int .i64 e, vl, .int .i64 (q : Nat)] 54)) 0 0
  have hv1 := hv.keep hB
  have hM := hide (heldByteY_own a b vl k l.length _ hL hk hv1)
  replace hB := hide hB
  clear hv1 hv
  go_enter Try.func52, Try.ntmps52
  go_wp2_with fail
  refine (unhide hM).mono ?_
  rintro e' w1 ⟨rfl, hw⟩
  subst hw
  clear hM
  go_wp2
  go_ret
  exact ⟨rfl, unhide hB⟩
end Go.Proofs.Ytddjaockpdibdaa
