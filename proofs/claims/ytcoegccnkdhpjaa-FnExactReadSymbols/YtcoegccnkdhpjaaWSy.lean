/- Symbols as an answer: a struct of an error, a list of the call's own and a place; the laws' helpers on it. -/
import Derived.Test.YtcoegccnkdhpjaaWInts
import Derived.Test.YtcoegccnkdhpjaaWSink
import Derived.Test.YtcoegccnkdhpjaaPlainR
namespace Go.Proofs.Ytcoegccnkdhpjaa
open Go.RowKit

def OwnSy (w : World) (a b : Nat) (v : Value) (d : Int × List Int × Nat) : Prop := ∃ vl, v = .agg #[.int .i64 d.1, vl, .int .i64 (d.2.2 : Nat)] ∧ OwnI w a b vl d.2.1
theorem OwnSy.upd {w w' : World} {a b c e : Nat} {v : Value} {d : Int × List Int × Nat} (h : OwnSy w a b v d) (u : Upd c e w w') (hd : b ≤ c ∨ e ≤ a) : OwnSy w' a b v d := by
  obtain ⟨vl, rfl, h⟩ := h
  exact ⟨vl, rfl, h.upd u hd⟩
theorem OwnSy.keep {w w' : World} {a b : Nat} {v : Value} {d : Int × List Int × Nat} (h : OwnSy w a b v d) (u : Upd 0 0 w w') : OwnSy w' a b v d := h.upd u (.inr (Nat.zero_le _))
theorem OwnSy.form {w : World} {a b : Nat} {v : Value} {d : Int × List Int × Nat} (h : OwnSy w a b v d) : ∃ ad cap, v = .agg #[.int .i64 d.1, .slice ad d.2.1.length cap, .int .i64 (d.2.2 : Nat)] := by
  obtain ⟨vl, rfl, h⟩ := h
  obtain ⟨ad, cap, rfl, _⟩ := h.rd
  exact ⟨ad, cap, rfl⟩
def syCount (d : Int × List Int × Nat) : Nat := d.2.1.length
def syMarked (k : Nat) (d : Int × List Int × Nat) : Int × List Int × Nat := (d.1, marks k d.2.1.length, d.2.2)

set_option maxHeartbeats 1000000 in
theorem eqSymbols_own {w : World} {a b a' b' : Nat} {u v : Value} {d : Int × List Int × Nat} (hL : d.2.1.length ≤ 1048576) (hu : OwnSy w a b u d) (hv : OwnSy w a' b' v d) :
    Calls Try.prog 44 #[u, v] w fun e w' => e = .returned (.bool true) ∧ Upd 0 0 w w' := by
  obtain ⟨ul, rfl, hu⟩ := hu
  obtain ⟨vl, rfl, hv⟩ := hv
  obtain ⟨e, l, q⟩ := d
  simp only at hL hu hv ⊢
  have hB := (((Below.refl w.heap.size w).alloc (Nat.le_refl _) (.cells #[.int .i64 e, ul, .int .i64 (q : Nat)] 46)).alloc (by simp) (.cells #[.int .i64 e, vl, .int .i64 (q : Nat)] 46))
  have h1 := hu.rd.below hB
  have h2 := hv.rd.below hB
  have hE := hide (eqIntS_rd ul vl l _ hL h1 h2)
  have a0 : ((w.alloc (.cells #[.int .i64 e, ul, .int .i64 (q : Nat)] 46)).alloc (.cells #[.int .i64 e, vl, .int .i64 (q : Nat)] 46)).cell? ⟨w.heap.size, 2, none⟩ = some (.int .i64 q) := by
    rw [World.cell?_alloc_old _ _ _ (by simp), World.cell?_alloc_at _ _ _ _ rfl]; rfl
  have a1 : ((w.alloc (.cells #[.int .i64 e, ul, .int .i64 (q : Nat)] 46)).alloc (.cells #[.int .i64 e, vl, .int .i64 (q : Nat)] 46)).cell? ⟨w.heap.size + 1, 2, none⟩ = some (.int .i64 q) := by
    have hs : w.heap.size + 1 = (w.alloc (.cells #[.int .i64 e, ul, .int .i64 (q : Nat)] 46)).heap.size := by simp
    rw [hs, World.cell?_alloc_at _ _ _ _ rfl]; rfl
  replace hB := hide hB
  replace a0 := hide a0
  replace a1 := hide a1
  clear h1 h2 hu hv
  go_enter Try.func44, Try.ntmps44
  go_wp2_with fail
  refine (unhide hE).mono ?_
  rintro e' w1 ⟨rfl, hu⟩
  have b0 := (hu.none.cell (p := ⟨w.heap.size, 2, none⟩) (by simp; omega)).trans (unhide a0)
  have b1 := (hu.none.cell (p := ⟨w.heap.size + 1, 2, none⟩) (by simp)).trans (unhide a1)
  replace hu := hide ((Upd.of_below (unhide hB) 0 0).trans hu)
  clear hE
  go_wp2
  go_ret
  exact ⟨rfl, unhide hu⟩

set_option maxHeartbeats 1000000 in
theorem markSymbols_own {w : World} {a b : Nat} {v : Value} {d : Int × List Int × Nat} (k : Nat) (hL : d.2.1.length ≤ 1048576) (hk : k ≤ 1099511627776) (hv : OwnSy w a b v d) :
    Calls Try.prog 45 #[v, .int .i64 k] w fun e w' => e = .returned (.int .i64 ((k + syCount d : Nat) : Int)) ∧ OwnSy w' a b v (syMarked k d) ∧ Upd a b w w' := by
  obtain ⟨vl, rfl, hv⟩ := hv
  obtain ⟨e, l, q⟩ := d
  simp only at hL hv ⊢
  have hB := Upd.of_below ((Below.refl w.heap.size w).alloc (Nat.le_refl _) (.cells #[.int .i64 e, vl, .int .i64 (q : Nat)] 46)) a b
  have hv1 := hv.keep (Upd.of_below ((Below.refl w.heap.size w).alloc (Nat.le_refl _) (.cells #[.int .i64 e, vl, .int .i64 (q : Nat)] 46)) 0 0)
  have hM := hide (markIntS_own a b vl k l _ hL hk hv1)
  replace hB := hide hB
  clear hv1 hv
  go_enter Try.func45, Try.ntmps45
  go_wp2_with fail
  refine (unhide hM).mono ?_
  rintro e' w1 ⟨rfl, ho, hu⟩
  replace hu := hide ((unhide hB).trans hu)
  replace ho := hide ho
  clear hM
  go_wp2
  go_ret
  refine ⟨rfl, ⟨vl, rfl, ?_⟩, unhide hu⟩
  simp only [syMarked]
  exact unhide ho

set_option maxHeartbeats 1000000 in
theorem heldSymbols_own {w : World} {a b : Nat} {v : Value} {d : Int × List Int × Nat} (k : Nat) (hL : d.2.1.length ≤ 1048576) (hk : k ≤ 1099511627776) (hv : OwnSy w a b v (syMarked k d)) :
    Calls Try.prog 46 #[v, .int .i64 k] w fun e w' => e = .returned (.int .i64 ((k + syCount d : Nat) : Int)) ∧ Upd 0 0 w w' := by
  obtain ⟨vl, rfl, hv⟩ := hv
  obtain ⟨e, l, q⟩ := d
  simp only [syMarked] at hL hv ⊢
  have hB := Upd.of_below ((Below.refl w.heap.size w).alloc (Nat.le_refl _) (.cells #[.int .i64 e, vl, .int .i64 (q : Nat)] 46)) 0 0
  have hv1 := hv.keep hB
  have hM := hide (heldIntS_own a b vl k l.length _ hL hk hv1)
  replace hB := hide hB
  clear hv1 hv
  go_enter Try.func46, Try.ntmps46
  go_wp2_with fail
  refine (unhide hM).mono ?_
  rintro e' w1 ⟨rfl, hw⟩
  subst hw
  clear hM
  go_wp2
  go_ret
  exact ⟨rfl, unhide hB⟩
end Go.Proofs.Ytcoegccnkdhpjaa
