/- Plain: rows of samples taken out of bytes. -/
import Derived.Test.YthndnehadkgibaaPlainI
import Derived.Test.YthndnehadkgibaaPlainT
import Derived.Test.YthndnehadkgibaaWInts
namespace Go.Proofs.Ythndnehadkgibaa
open Go.RowKit

def upL (zs : List Int) (D M : Nat) : List Int := (List.range M).map fun i => ((highTo zs (i * D) D : Nat) : Int)
@[simp] theorem upL_length (zs : List Int) (D M : Nat) : (upL zs D M).length = M := by simp [upL]
theorem upL_at (zs : List Int) (D M k : Nat) (h : k < M) : (upL zs D M).getD k 0 = ((highTo zs (k * D) D : Nat) : Int) := by
  unfold upL
  rw [List.getD_eq_getElem?_getD, List.getElem?_map, List.getElem?_range h]; rfl
def upOk (zs : List Int) (m d : Int) : Prop := depthOk d = true ∧ 0 ≤ m ∧ m ≤ 4096 ∧ m * d ≤ 8 * zs.length
noncomputable def upF (zs : List Int) (m d : Int) : List Int := open Classical in if upOk zs m d then upL zs d.toNat m.toNat else []
theorem upF_yes {zs : List Int} {M D : Nat} (h : upOk zs M D) : upF zs M D = upL zs D M := by unfold upF; rw [if_pos h]; rfl
theorem upF_no {zs : List Int} {m d : Int} (h : ¬ upOk zs m d) : upF zs m d = [] := by unfold upF; exact if_neg h
theorem upF_len (zs : List Int) (m d : Int) : (upF zs m d).length ≤ 1048576 := by
  by_cases h : upOk zs m d
  · unfold upF; rw [if_pos h, upL_length]; have := h.2.2.1; omega
  · rw [upF_no h]; simp
theorem high16 (zs : List Int) (p D : Nat) (h : D ≤ 16) : highTo zs p D < 65536 := by
  have h1 := highTo_lt zs p D
  have h2 : 2 ^ D ≤ 2 ^ 16 := Nat.pow_le_pow_right (by omega) h
  omega
end Go.Proofs.Ythndnehadkgibaa
