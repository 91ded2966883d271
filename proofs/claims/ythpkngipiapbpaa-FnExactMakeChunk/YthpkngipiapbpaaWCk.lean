/- Chunks as arguments and answers; the walks of the laws' own helpers on them. -/
import Derived.Test.YthpkngipiapbpaaWIm
import Derived.Test.YthpkngipiapbpaaWByts
import Derived.Deep.RegionHeld3
namespace Go.Proofs.Ythpkngipiapbpaa
open Go.RowKit

abbrev Ck := ByteArray × List Int
abbrev Ckv (d : Ck) (vl : Value) : Value := .agg #[.string d.1, vl]
abbrev Cks (d : Ck) : List Int := d.2
def RdCk (w : World) (v : Value) (d : Ck) : Prop := ∃ vl, v = Ckv d vl ∧ RdY w vl (Cks d)
def OwnCk (w : World) (a b : Nat) (v : Value) (d : Ck) : Prop := ∃ vl, v = Ckv d vl ∧ OwnY w a b vl (Cks d)
theorem OwnCk.rd {w : World} {a b : Nat} {v : Value} {d : Ck} (h : OwnCk w a b v d) : RdCk w v d := by
  obtain ⟨vl, rfl, h⟩ := h
  exact ⟨vl, rfl, h.rd⟩
theorem RdCk.below {w w' : World} {v : Value} {d : Ck} (h : RdCk w v d) (hb : Below w.heap.size w w') : RdCk w' v d := by
  obtain ⟨vl, rfl, h⟩ := h
  exact ⟨vl, rfl, h.below hb⟩
theorem OwnCk.upd {w w' : World} {a b c e : Nat} {v : Value} {d : Ck} (h : OwnCk w a b v d) (u : Upd c e w w') (hd : b ≤ c ∨ e ≤ a) : OwnCk w' a b v d := by
  obtain ⟨vl, rfl, h⟩ := h
  exact ⟨vl, rfl, h.upd u hd⟩
theorem OwnCk.keep {w w' : World} {a b : Nat} {v : Value} {d : Ck} (h : OwnCk w a b v d) (u : Upd 0 0 w w') : OwnCk w' a b v d := h.upd u (.inr (Nat.zero_le _))
theorem OwnCk.form {w : World} {a b : Nat} {v : Value} {d : Ck} (h : OwnCk w a b v d) : ∃ ad cap, v = Ckv d (.slice ad (Cks d).length cap) := by
  obtain ⟨vl, rfl, h⟩ := h
  obtain ⟨ad, cap, rfl, _⟩ := h.rd
  exact ⟨ad, cap, rfl⟩
def CkCount (d : Ck) : Nat := (Cks d).length
def CkMarked (k : Nat) (d : Ck) : Ck := (d.1, marksB k (Cks d).length)
/-- All numbers fit. -/
def InCk (d : Ck) : Prop := d.1.size ≤ 9223372036854775807 ∧ InB d.2

set_option maxHeartbeats 1000000 in
theorem szByteS_any (ad : Option Addr) (n cap : Nat) (left : Int) (w : World) (h0 : 0 ≤ left) (h1 : left ≤ 1099511627776) (hn : n ≤ 9223372036854775807) :
    Calls Try.prog 13 #[.slice ad n cap, .int .i64 left] w fun e w' => e = .returned (.int .i64 (if left < n then -1 else left - n)) ∧ w' = w := by
  by_cases hlt : left < n
  · rw [if_pos hlt]
    go_enter Try.func13, Try.ntmps13
    go_wp2
    go_ret
    exact ⟨rfl, rfl⟩
  · rw [if_neg hlt]
    go_enter Try.func13, Try.ntmps13
    go_wp2
    go_ret
    exact ⟨rfl, rfl⟩

set_option maxHeartbeats 2000000 in
theorem szChunk_any (x0 : ByteArray) (ad : Option Addr) (n cap : Nat) (left : Int) (w : World) (h0 : 0 ≤ left) (h1 : left ≤ 1099511627776) (hb0 : x0.size ≤ 9223372036854775807) (hb1 : n ≤ 9223372036854775807) :
    Calls Try.prog 4 #[.agg #[.string x0, .slice ad n cap], .int .i64 left] w fun e w' => e = .returned (.int .i64 (if left < ((x0.size + n : Nat) : Int) then -1 else left - ((x0.size + n : Nat) : Int))) ∧ Upd 0 0 w w' := by
  have hB := hide (Upd.of_below ((Below.refl w.heap.size w).alloc (Nat.le_refl _) (.cells #[.string x0, .slice ad n cap] 24)) 0 0)
  by_cases hlt0 : left < ((x0.size : Nat) : Int)
  · rw [if_pos (by omega)]
    have q0 : decide (left - ((x0.size : Nat) : Int) < 0) = true := by simp; omega
    go_enter Try.func4, Try.ntmps4
    go_wp2
    go_ret
    exact ⟨by first | rfl | exact ret_int (by omega), unhide hB⟩
  · skip
    by_cases hlt1 : left < ((x0.size + n : Nat) : Int)
    · rw [if_pos (by omega)]
      have q0 : decide (left - ((x0.size : Nat) : Int) < 0) = false := by simp; omega
      have hS := hide (fun W => szByteS_any ad n cap (left - ((x0.size : Nat) : Int)) W (by omega) (by omega) hb1)
      rw [if_pos (by omega)] at hS
      go_enter Try.func4, Try.ntmps4
      go_wp2_with fail
      refine (unhide hS _).mono ?_
      rintro e w1 ⟨rfl, rfl⟩
      go_wp2
      go_ret
      exact ⟨by first | rfl | exact ret_int (by omega), unhide hB⟩
    · skip
      rw [if_neg (by omega)]
      have q0 : decide (left - ((x0.size : Nat) : Int) < 0) = false := by simp; omega
      have hS := hide (fun W => szByteS_any ad n cap (left - ((x0.size : Nat) : Int)) W (by omega) (by omega) hb1)
      rw [if_neg (by omega)] at hS
      have q1 : decide (left - ((x0.size : Nat) : Int) - ((n : Nat) : Int) < 0) = false := by simp; omega
      go_enter Try.func4, Try.ntmps4
      go_wp2_with fail
      refine (unhide hS _).mono ?_
      rintro e w1 ⟨rfl, rfl⟩
      go_wp2
      go_ret
      exact ⟨by first | rfl | exact ret_int (by omega), unhide hB⟩

set_option maxHeartbeats 2000000 in
set_option maxRecDepth 100000 in
theorem toChunk_own (v : Value) (d : Ck) (w : World) (hn : (Cks d).length ≤ 1048576) (hv : RdCk w v d) :
    Calls Try.prog 6 #[v] w fun e w' => ∃ u, e = .returned u ∧ OwnCk w' w.heap.size w'.heap.size u d ∧ Upd 0 0 w w' := by
  obtain ⟨vl, rfl, h⟩ := hv
  obtain ⟨ad, cap, rfl, hA⟩ := h
  obtain ⟨x0, zs⟩ := d
  simp only [Cks, Ckv] at hn hA ⊢
  have hB' := (((Below.refl w.heap.size w).alloc (Nat.le_refl _) (.cells #[.string x0, .slice ad zs.length cap] 24)).alloc (by simp) (.cells #[.string ⟨#[]⟩, .slice none 0 0] 27)).alloc (by simp; omega) (.cells #[.string x0, .slice none 0 0] 27)
  have hT := hide (toByteY_own ad cap zs _ hn (hA.below hB'))
  replace hB' := hide hB'
  clear hA
  go_enter Try.func6, Try.ntmps6
  go_wp2_with fail
  refine (unhide hT).mono ?_
  rintro e w1 ⟨u, rfl, ho, hu⟩
  obtain ⟨hc, hf⟩ := bcellU hu
  obtain ⟨ad', cap', rfl, _⟩ := ho.rd
  have hsz := hu.size
  simp at hsz
  replace ho := hide ho
  have huB := hide ((Upd.of_below (unhide hB') 0 0).trans hu)
  clear hT hu hB'
  go_wp2
  have hbl := (unhide huB).none
  refine bodyPost_ret (v := .agg #[.string x0, (.slice ad' zs.length cap')]) (by simp [results, Try.results6, go_sem, hc]) rfl ⟨_, rfl, ⟨_, rfl, own_mono ((((unhide ho).set (by first | (simp; done) | (simp; omega)) _ _).set (by first | (simp; done) | (simp; omega)) _ _).set (by first | (simp; done) | (simp; omega)) _ _) (by simp; omega) (by simp)⟩, Upd.of_below (((hbl.setCell (by first | (simp; done) | (simp; omega)) _).setCell (by first | (simp; done) | (simp; omega)) _).setCell (by first | (simp; done) | (simp; omega)) _) 0 0⟩

set_option maxHeartbeats 2000000 in
set_option maxRecDepth 100000 in
theorem eqChunk_rd (u v : Value) (d : Ck) (w : World) (hn : (Cks d).length ≤ 1048576) (hu : RdCk w u d) (hv : RdCk w v d) :
    Calls Try.prog 9 #[u, v] w fun e w' => e = .returned (.bool true) ∧ Upd 0 0 w w' := by
  obtain ⟨ul, rfl, hu⟩ := hu
  obtain ⟨vl, rfl, hv⟩ := hv
  obtain ⟨x0, zs⟩ := d
  obtain ⟨ad, cap, rfl, hA⟩ := hu
  obtain ⟨ad', cap', rfl, hA'⟩ := hv
  simp only [Cks, Ckv] at hn hA hA' ⊢
  have hB := (((Below.refl w.heap.size w).alloc (Nat.le_refl _) (.cells #[.string x0, .slice ad zs.length cap] 27)).alloc (by simp) (.cells #[.string x0, (.slice ad' zs.length cap')] 27))
  have hE := hide (eqByteY_rd _ _ zs _ hn ⟨ad, cap, rfl, hA.below hB⟩ ⟨ad', cap', rfl, hA'.below hB⟩)
  replace hB := hide hB
  clear hA hA'
  go_enter Try.func9, Try.ntmps9
  go_wp2_with fail
  refine (unhide hE).mono ?_
  rintro e w1 ⟨rfl, hu⟩
  replace hu := hide ((Upd.of_below (unhide hB) 0 0).trans hu)
  clear hE
  go_wp2
  go_ret
  exact ⟨rfl, unhide hu⟩

set_option maxHeartbeats 1000000 in
theorem markChunk_own {w : World} {a b : Nat} {v : Value} {d : Ck} (k : Nat) (hL : (Cks d).length ≤ 1048576) (hk : k ≤ 1099511627776) (hv : OwnCk w a b v d) :
    Calls Try.prog 10 #[v, .int .i64 k] w fun e w' => e = .returned (.int .i64 ((k + CkCount d : Nat) : Int)) ∧ OwnCk w' a b v (CkMarked k d) ∧ Upd a b w w' := by
  obtain ⟨vl, rfl, hv⟩ := hv
  obtain ⟨x0, zs⟩ := d
  simp only [Cks, Ckv, CkCount, CkMarked] at hL hv ⊢
  have hB := Upd.of_below ((Below.refl w.heap.size w).alloc (Nat.le_refl _) (.cells #[.string x0, vl] 27)) a b
  have hv1 := hv.keep (Upd.of_below ((Below.refl w.heap.size w).alloc (Nat.le_refl _) (.cells #[.string x0, vl] 27)) 0 0)
  have hM := hide (markByteY_own a b vl k zs _ hL hk hv1)
  replace hB := hide hB
  clear hv1 hv
  go_enter Try.func10, Try.ntmps10
  go_wp2_with fail
  refine (unhide hM).mono ?_
  rintro e' w1 ⟨rfl, ho, hu⟩
  replace hu := hide ((unhide hB).trans hu)
  replace ho := hide ho
  clear hM
  go_wp2
  go_ret
  exact ⟨rfl, ⟨vl, rfl, unhide ho⟩, unhide hu⟩

end Go.Proofs.Ythpkngipiapbpaa
