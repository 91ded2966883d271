/- Planes as arguments and answers; the walks of the laws' own helpers on them. -/
import Derived.Test.YtkeplngifceegaaWIm
import Derived.Deep.RegionHeld3
namespace Go.Proofs.Ytkeplngifceegaa
open Go.RowKit

abbrev Pl := Int × Int × List Int
abbrev Plv (d : Pl) (vl : Value) : Value := .agg #[.int .i64 d.1, .int .i64 d.2.1, vl]
abbrev Pls (d : Pl) : List Int := d.2.2
def RdPl (w : World) (v : Value) (d : Pl) : Prop := ∃ vl, v = Plv d vl ∧ RdI w vl (Pls d)
def OwnPl (w : World) (a b : Nat) (v : Value) (d : Pl) : Prop := ∃ vl, v = Plv d vl ∧ OwnI w a b vl (Pls d)
theorem OwnPl.rd {w : World} {a b : Nat} {v : Value} {d : Pl} (h : OwnPl w a b v d) : RdPl w v d := by
  obtain ⟨vl, rfl, h⟩ := h
  exact ⟨vl, rfl, h.rd⟩
theorem RdPl.below {w w' : World} {v : Value} {d : Pl} (h : RdPl w v d) (hb : Below w.heap.size w w') : RdPl w' v d := by
  obtain ⟨vl, rfl, h⟩ := h
  exact ⟨vl, rfl, h.below hb⟩
theorem OwnPl.upd {w w' : World} {a b c e : Nat} {v : Value} {d : Pl} (h : OwnPl w a b v d) (u : Upd c e w w') (hd : b ≤ c ∨ e ≤ a) : OwnPl w' a b v d := by
  obtain ⟨vl, rfl, h⟩ := h
  exact ⟨vl, rfl, h.upd u hd⟩
theorem OwnPl.keep {w w' : World} {a b : Nat} {v : Value} {d : Pl} (h : OwnPl w a b v d) (u : Upd 0 0 w w') : OwnPl w' a b v d := h.upd u (.inr (Nat.zero_le _))
theorem OwnPl.form {w : World} {a b : Nat} {v : Value} {d : Pl} (h : OwnPl w a b v d) : ∃ ad cap, v = Plv d (.slice ad (Pls d).length cap) := by
  obtain ⟨vl, rfl, h⟩ := h
  obtain ⟨ad, cap, rfl, _⟩ := h.rd
  exact ⟨ad, cap, rfl⟩
def PlCount (d : Pl) : Nat := (Pls d).length
def PlMarked (k : Nat) (d : Pl) : Pl := (d.1, d.2.1, marks k (Pls d).length)
/-- All numbers fit. -/
def InPl (d : Pl) : Prop := (-9223372036854775808 ≤ d.1 ∧ d.1 ≤ 9223372036854775807) ∧ (-9223372036854775808 ≤ d.2.1 ∧ d.2.1 ≤ 9223372036854775807) ∧ InI d.2.2

set_option maxHeartbeats 2000000 in
theorem szPlane_any (x0 : Int) (x1 : Int) (ad : Option Addr) (n cap : Nat) (left : Int) (w : World) (h0 : 0 ≤ left) (h1 : left ≤ 1099511627776) (hb0 : n ≤ 9223372036854775807) :
    Calls Try.prog 35 #[.agg #[.int .i64 x0, .int .i64 x1, .slice ad n cap], .int .i64 left] w fun e w' => e = .returned (.int .i64 (if left < ((n : Nat) : Int) then -1 else left - ((n : Nat) : Int))) ∧ Upd 0 0 w w' := by
  have hB := hide (Upd.of_below ((Below.refl w.heap.size w).alloc (Nat.le_refl _) (.cells #[.int .i64 x0, .int .i64 x1, .slice ad n cap] 45)) 0 0)
  by_cases hlt0 : left < ((n : Nat) : Int)
  · rw [if_pos (by omega)]
    have hS := hide (fun W => szIntS_any ad n cap (left) W (by omega) (by omega) hb0)
    rw [if_pos (by omega)] at hS
    go_enter Try.func35, Try.ntmps35
    go_wp2_with fail
    refine (unhide hS _).mono ?_
    rintro e w1 ⟨rfl, rfl⟩
    go_wp2
    go_ret
    exact ⟨by first | rfl | exact ret_int (by omega), unhide hB⟩
  · skip
    rw [if_neg (by omega)]
    have hS := hide (fun W => szIntS_any ad n cap (left) W (by omega) (by omega) hb0)
    rw [if_neg (by omega)] at hS
    have q0 : decide (left - ((n : Nat) : Int) < 0) = false := by simp; omega
    go_enter Try.func35, Try.ntmps35
    go_wp2_with fail
    refine (unhide hS _).mono ?_
    rintro e w1 ⟨rfl, rfl⟩
    go_wp2
    go_ret
    exact ⟨by first | rfl | exact ret_int (by omega), unhide hB⟩

set_option maxHeartbeats 2000000 in
set_option maxRecDepth 100000 in
theorem toPlane_own (v : Value) (d : Pl) (w : World) (hn : (Pls d).length ≤ 1048576) (hv : RdPl w v d) :
    Calls Try.prog 36 #[v] w fun e w' => ∃ u, e = .returned u ∧ OwnPl w' w.heap.size w'.heap.size u d ∧ Upd 0 0 w w' := by
  obtain ⟨vl, rfl, h⟩ := hv
  obtain ⟨ad, cap, rfl, hA⟩ := h
  obtain ⟨x0, x1, zs⟩ := d
  simp only [Pls, Plv] at hn hA ⊢
  have hB' := (((Below.refl w.heap.size w).alloc (Nat.le_refl _) (.cells #[.int .i64 x0, .int .i64 x1, .slice ad zs.length cap] 45)).alloc (by simp) (.cells #[.int .i64 0, .int .i64 0, .slice none 0 0] 31)).alloc (by simp; omega) (.cells #[.int .i64 x0, .int .i64 x1, .slice none 0 0] 31)
  have hT := hide (toIntS_own ad cap zs _ hn (hA.below hB'))
  replace hB' := hide hB'
  clear hA
  go_enter Try.func36, Try.ntmps36
  go_wp2_with fail
  refine (unhide hT).mono ?_
  rintro e w1 ⟨u, rfl, ho, hu⟩
  obtain ⟨hc, hf⟩ := bcellU hu
  obtain ⟨ad', cap', rfl, _⟩ := ho.rd
  have hsz := hu.size
  simp at hsz
  replace ho := hide ho
  have huB := hide ((Upd.of_below (unhide hB') 0 0).trans hu)
  clear hT hu hB'
  go_wp2
  have hbl := (unhide huB).none
  refine bodyPost_ret (v := .agg #[.int .i64 x0, .int .i64 x1, (.slice ad' zs.length cap')]) (by simp [results, Try.results36, go_sem, hc]) rfl ⟨_, rfl, ⟨_, rfl, own_mono (((((unhide ho).set (by first | (simp; done) | (simp; omega)) _ _).set (by first | (simp; done) | (simp; omega)) _ _).set (by first | (simp; done) | (simp; omega)) _ _).set (by first | (simp; done) | (simp; omega)) _ _) (by simp; omega) (by simp)⟩, Upd.of_below ((((hbl.setCell (by first | (simp; done) | (simp; omega)) _).setCell (by first | (simp; done) | (simp; omega)) _).setCell (by first | (simp; done) | (simp; omega)) _).setCell (by first | (simp; done) | (simp; omega)) _) 0 0⟩

set_option maxHeartbeats 2000000 in
set_option maxRecDepth 100000 in
theorem eqPlane_rd (u v : Value) (d : Pl) (w : World) (hn : (Pls d).length ≤ 1048576) (hu : RdPl w u d) (hv : RdPl w v d) :
    Calls Try.prog 38 #[u, v] w fun e w' => e = .returned (.bool true) ∧ Upd 0 0 w w' := by
  obtain ⟨ul, rfl, hu⟩ := hu
  obtain ⟨vl, rfl, hv⟩ := hv
  obtain ⟨x0, x1, zs⟩ := d
  obtain ⟨ad, cap, rfl, hA⟩ := hu
  obtain ⟨ad', cap', rfl, hA'⟩ := hv
  simp only [Pls, Plv] at hn hA hA' ⊢
  have hB := (((Below.refl w.heap.size w).alloc (Nat.le_refl _) (.cells #[.int .i64 x0, .int .i64 x1, .slice ad zs.length cap] 31)).alloc (by simp) (.cells #[.int .i64 x0, .int .i64 x1, (.slice ad' zs.length cap')] 31))
  have hE := hide (eqIntS_rd _ _ zs _ hn ⟨ad, cap, rfl, hA.below hB⟩ ⟨ad', cap', rfl, hA'.below hB⟩)
  replace hB := hide hB
  clear hA hA'
  go_enter Try.func38, Try.ntmps38
  go_wp2_with fail
  refine (unhide hE).mono ?_
  rintro e w1 ⟨rfl, hu⟩
  replace hu := hide ((Upd.of_below (unhide hB) 0 0).trans hu)
  clear hE
  go_wp2
  go_ret
  exact ⟨rfl, unhide hu⟩

set_option maxHeartbeats 1000000 in
theorem markPlane_own {w : World} {a b : Nat} {v : Value} {d : Pl} (k : Nat) (hL : (Pls d).length ≤ 1048576) (hk : k ≤ 1099511627776) (hv : OwnPl w a b v d) :
    Calls Try.prog 39 #[v, .int .i64 k] w fun e w' => e = .returned (.int .i64 ((k + PlCount d : Nat) : Int)) ∧ OwnPl w' a b v (PlMarked k d) ∧ Upd a b w w' := by
  obtain ⟨vl, rfl, hv⟩ := hv
  obtain ⟨x0, x1, zs⟩ := d
  simp only [Pls, Plv, PlCount, PlMarked] at hL hv ⊢
  have hB := Upd.of_below ((Below.refl w.heap.size w).alloc (Nat.le_refl _) (.cells #[.int .i64 x0, .int .i64 x1, vl] 31)) a b
  have hv1 := hv.keep (Upd.of_below ((Below.refl w.heap.size w).alloc (Nat.le_refl _) (.cells #[.int .i64 x0, .int .i64 x1, vl] 31)) 0 0)
  have hM := hide (markIntS_own a b vl k zs _ hL hk hv1)
  replace hB := hide hB
  clear hv1 hv
  go_enter Try.func39, Try.ntmps39
  go_wp2_with fail
  refine (unhide hM).mono ?_
  rintro e' w1 ⟨rfl, ho, hu⟩
  replace hu := hide ((unhide hB).trans hu)
  replace ho := hide ho
  clear hM
  go_wp2
  go_ret
  exact ⟨rfl, ⟨vl, rfl, unhide ho⟩, unhide hu⟩

set_option maxHeartbeats 1000000 in
theorem heldPlane_own {w : World} {a b : Nat} {v : Value} {d : Pl} (k : Nat) (hL : (Pls d).length ≤ 1048576) (hk : k ≤ 1099511627776) (hv : OwnPl w a b v (PlMarked k d)) :
    Calls Try.prog 40 #[v, .int .i64 k] w fun e w' => e = .returned (.int .i64 ((k + PlCount d : Nat) : Int)) ∧ Upd 0 0 w w' := by
  obtain ⟨vl, rfl, hv⟩ := hv
  obtain ⟨x0, x1, zs⟩ := d
  simp only [Pls, Plv, PlCount, PlMarked] at hL hv ⊢
  have hB := Upd.of_below ((Below.refl w.heap.size w).alloc (Nat.le_refl _) (.cells #[.int .i64 x0, .int .i64 x1, vl] 31)) 0 0
  have hv1 := hv.keep hB
  have hM := hide (heldIntS_own a b vl k zs.length _ hL hk hv1)
  replace hB := hide hB
  clear hv1 hv
  go_enter Try.func40, Try.ntmps40
  go_wp2_with fail
  refine (unhide hM).mono ?_
  rintro e' w1 ⟨rfl, hw⟩
  subst hw
  clear hM
  go_wp2
  go_ret
  exact ⟨rfl, unhide hB⟩
end Go.Proofs.Ytkeplngifceegaa
