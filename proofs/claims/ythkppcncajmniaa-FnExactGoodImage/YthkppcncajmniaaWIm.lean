/- Images as arguments and answers: four numbers and a list; the walks of the laws' own helpers on them. -/
import Derived.Test.YthkppcncajmniaaWSzI
import Derived.Deep.RegionHeld3
namespace Go.Proofs.Ythkppcncajmniaa
open Go.RowKit

abbrev Im := Int × Int × Int × Int × List Int
abbrev imv (d : Im) (vl : Value) : Value := .agg #[.int .i64 d.1, .int .i64 d.2.1, .int .i64 d.2.2.1, .int .i64 d.2.2.2.1, vl]
abbrev imc (d : Im) (vl : Value) : List Value := [.int .i64 d.1, .int .i64 d.2.1, .int .i64 d.2.2.1, .int .i64 d.2.2.2.1, vl]
abbrev ims (d : Im) : List Int := d.2.2.2.2
def RdIm (w : World) (v : Value) (d : Im) : Prop := ∃ vl, v = imv d vl ∧ RdI w vl (ims d)
def OwnIm (w : World) (a b : Nat) (v : Value) (d : Im) : Prop := ∃ vl, v = imv d vl ∧ OwnI w a b vl (ims d)
theorem OwnIm.rd {w : World} {a b : Nat} {v : Value} {d : Im} (h : OwnIm w a b v d) : RdIm w v d := by
  obtain ⟨vl, rfl, h⟩ := h
  exact ⟨vl, rfl, h.rd⟩
theorem RdIm.below {w w' : World} {v : Value} {d : Im} (h : RdIm w v d) (hb : Below w.heap.size w w') : RdIm w' v d := by
  obtain ⟨vl, rfl, h⟩ := h
  exact ⟨vl, rfl, h.below hb⟩
theorem OwnIm.upd {w w' : World} {a b c e : Nat} {v : Value} {d : Im} (h : OwnIm w a b v d) (u : Upd c e w w') (hd : b ≤ c ∨ e ≤ a) : OwnIm w' a b v d := by
  obtain ⟨vl, rfl, h⟩ := h
  exact ⟨vl, rfl, h.upd u hd⟩
theorem OwnIm.keep {w w' : World} {a b : Nat} {v : Value} {d : Im} (h : OwnIm w a b v d) (u : Upd 0 0 w w') : OwnIm w' a b v d := h.upd u (.inr (Nat.zero_le _))
theorem OwnIm.form {w : World} {a b : Nat} {v : Value} {d : Im} (h : OwnIm w a b v d) : ∃ ad cap, v = imv d (.slice ad (ims d).length cap) := by
  obtain ⟨vl, rfl, h⟩ := h
  obtain ⟨ad, cap, rfl, _⟩ := h.rd
  exact ⟨ad, cap, rfl⟩
/-- All numbers fit. -/
def InIm (d : Im) : Prop := (-9223372036854775808 ≤ d.1 ∧ d.1 ≤ 9223372036854775807) ∧ (-9223372036854775808 ≤ d.2.1 ∧ d.2.1 ≤ 9223372036854775807) ∧ (-9223372036854775808 ≤ d.2.2.1 ∧ d.2.2.1 ≤ 9223372036854775807) ∧ (-9223372036854775808 ≤ d.2.2.2.1 ∧ d.2.2.2.1 ≤ 9223372036854775807) ∧ InI (ims d)
def imCount (d : Im) : Nat := (ims d).length
def imMarked (k : Nat) (d : Im) : Im := (d.1, d.2.1, d.2.2.1, d.2.2.2.1, marks k (ims d).length)

set_option maxHeartbeats 1000000 in
theorem szImage_any (x0 x1 x2 x3 : Int) (ad : Option Addr) (n cap : Nat) (left : Int) (w : World) (h0 : 0 ≤ left) (h1 : left ≤ 1099511627776) (hn : n ≤ 9223372036854775807) :
    Calls Try.prog 4 #[.agg #[.int .i64 x0, .int .i64 x1, .int .i64 x2, .int .i64 x3, .slice ad n cap], .int .i64 left] w fun e w' => e = .returned (.int .i64 (if left < n then -1 else left - n)) ∧ Upd 0 0 w w' := by
  have hS := hide (fun W => szIntS_any ad n cap left W h0 h1 hn)
  have hB := hide (Upd.of_below ((Below.refl w.heap.size w).alloc (Nat.le_refl _) (.cells #[.int .i64 x0, .int .i64 x1, .int .i64 x2, .int .i64 x3, .slice ad n cap] 24)) 0 0)
  by_cases hlt : left < n
  · rw [if_pos hlt] at hS ⊢
    go_enter Try.func4, Try.ntmps4
    go_wp2_with fail
    refine (unhide hS _).mono ?_
    rintro e w1 ⟨rfl, rfl⟩
    go_wp2
    go_ret
    exact ⟨rfl, unhide hB⟩
  · rw [if_neg hlt] at hS ⊢
    have q : decide (left - (n : Int) < 0) = false := by simp; omega
    go_enter Try.func4, Try.ntmps4
    go_wp2_with fail
    refine (unhide hS _).mono ?_
    rintro e w1 ⟨rfl, rfl⟩
    go_wp2
    go_ret
    exact ⟨rfl, unhide hB⟩

set_option maxHeartbeats 2000000 in
set_option maxRecDepth 100000 in
theorem toImage_own (v : Value) (d : Im) (w : World) (hn : (ims d).length ≤ 1048576) (hv : RdIm w v d) :
    Calls Try.prog 6 #[v] w fun e w' => ∃ u, e = .returned u ∧ OwnIm w' w.heap.size w'.heap.size u d ∧ Upd 0 0 w w' := by
  obtain ⟨vl, rfl, h⟩ := hv
  obtain ⟨ad, cap, rfl, hA⟩ := h
  obtain ⟨x0, x1, x2, x3, zs⟩ := d
  simp only [ims, imv] at hn hA ⊢
  have hB' := (((Below.refl w.heap.size w).alloc (Nat.le_refl _) (.cells #[.int .i64 x0, .int .i64 x1, .int .i64 x2, .int .i64 x3, .slice ad zs.length cap] 24)).alloc (by simp) (.cells #[.int .i64 0, .int .i64 0, .int .i64 0, .int .i64 0, .slice none 0 0] 27)).alloc (by simp; omega) (.cells #[.int .i64 x0, .int .i64 x1, .int .i64 x2, .int .i64 x3, .slice none 0 0] 27)
  have hT := hide (toIntS_own ad cap zs _ hn (hA.below hB'))
  replace hB' := hide hB'
  clear hA
  go_enter Try.func6, Try.ntmps6
  go_wp2_with fail
  refine (unhide hT).mono ?_
  rintro e w1 ⟨u, rfl, ho, hu⟩
  obtain ⟨hc, hf⟩ := bcellU hu
  obtain ⟨ad', cap', rfl, _⟩ := ho.rd
  have hsz := hu.size
  simp at hsz
  replace ho := hide ho
  have huB := hide ((Upd.of_below (unhide hB') 0 0).trans hu)
  clear hT hu hB'
  go_wp2
  have hbl := (unhide huB).none
  refine bodyPost_ret (v := .agg #[.int .i64 x0, .int .i64 x1, .int .i64 x2, .int .i64 x3, .slice ad' zs.length cap']) (by simp [results, Try.results6, go_sem, hc]) rfl ⟨_, rfl, ⟨_, rfl, own_mono ((((((unhide ho).set (by simp) _ _).set (by simp) _ _).set (by simp) _ _).set (by simp) _ _).set (by simp) _ _ |>.set (by simp) _ _) (by simp; omega) (by simp)⟩, Upd.of_below (((((((hbl.setCell (by simp; omega) _).setCell (by simp) _).setCell (by simp) _).setCell (by simp) _).setCell (by simp) _).setCell (by simp) _)) 0 0⟩

set_option maxHeartbeats 2000000 in
set_option maxRecDepth 100000 in
theorem eqImage_rd (u v : Value) (d : Im) (w : World) (hn : (ims d).length ≤ 1048576) (hu : RdIm w u d) (hv : RdIm w v d) :
    Calls Try.prog 8 #[u, v] w fun e w' => e = .returned (.bool true) ∧ Upd 0 0 w w' := by
  obtain ⟨ul, rfl, hu⟩ := hu
  obtain ⟨vl, rfl, hv⟩ := hv
  obtain ⟨x0, x1, x2, x3, zs⟩ := d
  obtain ⟨ad, cap, rfl, hA⟩ := hu
  obtain ⟨ad', cap', rfl, hA'⟩ := hv
  simp only [ims, imv] at hn hA hA' ⊢
  have hB := (((Below.refl w.heap.size w).alloc (Nat.le_refl _) (.cells #[.int .i64 x0, .int .i64 x1, .int .i64 x2, .int .i64 x3, .slice ad zs.length cap] 27)).alloc (by simp) (.cells #[.int .i64 x0, .int .i64 x1, .int .i64 x2, .int .i64 x3, .slice ad' zs.length cap'] 27))
  have hE := hide (eqIntS_rd _ _ zs _ hn ⟨ad, cap, rfl, hA.below hB⟩ ⟨ad', cap', rfl, hA'.below hB⟩)
  replace hB := hide hB
  clear hA hA'
  go_enter Try.func8, Try.ntmps8
  go_wp2_with fail
  refine (unhide hE).mono ?_
  rintro e w1 ⟨rfl, hu⟩
  replace hu := hide ((Upd.of_below (unhide hB) 0 0).trans hu)
  clear hE
  go_wp2
  go_ret
  exact ⟨rfl, unhide hu⟩

end Go.Proofs.Ythkppcncajmniaa
