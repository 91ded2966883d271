/- The walks of the laws' own helpers on byte strings: a copy, whether two are equal, marksB. -/
import Derived.Test.YtpofmcepjmbmcaaWOwn
namespace Go.Proofs.Ytpofmcepjmbmcaa
open Go.RowKit

def byts (zs : List Int) : List Value := zs.map (.int .u8)
theorem byts_length (zs : List Int) : (byts zs).length = zs.length := by simp [byts]
abbrev OwnY (w : World) (a b : Nat) (v : Value) (zs : List Int) : Prop := Own 5 1 w a b v zs.length (byts zs)
abbrev ArgY (w : World) (ad : Option Addr) (zs : List Int) : Prop := ReadK .u8 w ad zs
/-- A byte string as a value that can be read. -/
def RdY (w : World) (v : Value) (zs : List Int) : Prop := ∃ ad cap, v = .slice ad zs.length cap ∧ ArgY w ad zs
theorem RdY.below {w w' : World} {v : Value} {zs : List Int} (h : RdY w v zs) (hb : Below w.heap.size w w') : RdY w' v zs := by
  obtain ⟨ad, cap, e, h⟩ := h
  exact ⟨ad, cap, e, h.below hb⟩
theorem OwnY.rd {w : World} {a b : Nat} {v : Value} {zs : List Int} (h : OwnY w a b v zs) : RdY w v zs := readK_of_own h

def partY (zs : List Int) (k : Nat) : List Value := byts (zs.take k) ++ List.replicate (zs.length - k) (.int .u8 0)
theorem partY_zero (zs : List Int) : partY zs 0 = List.replicate zs.length (.int .u8 0) := by unfold partY byts; simp
theorem partY_all (zs : List Int) : partY zs zs.length = byts zs := by unfold partY byts; simp
theorem partY_set (zs : List Int) (k : Nat) (h : k < zs.length) : (partY zs k).set k (.int .u8 (zs.getD k 0)) = partY zs (k + 1) := by
  unfold partY byts
  rw [take_snoc_getD zs 0 k h, List.map_append, List.set_append, if_neg (by simp; omega), List.append_assoc]
  congr 1
  have : zs.length - k = (zs.length - (k + 1)) + 1 := by omega
  rw [this, List.replicate_succ]
  simp [Nat.min_eq_left (Nat.le_of_lt h)]
theorem partY_length (zs : List Int) (k : Nat) (h : k ≤ zs.length) : (partY zs k).length = zs.length := by unfold partY byts; simp; omega

end Go.Proofs.Ytpofmcepjmbmcaa
