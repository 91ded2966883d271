/- Chunks, plainly: a number in four bytes, what a name is, the bytes of a chunk; no program is named here. -/
import Derived.Test.YthpkngipiapbpaaDoorPlain
import Derived.Test.YthpkngipiapbpaaDoorPlainP
import Derived.Test.YthpkngipiapbpaaDoorWFields
namespace Go.Proofs.YthpkngipiapbpaaDoor
open Go.RowKit

def four (n : Nat) : List Nat := [n / 16777216 % 256, n / 65536 % 256, n / 256 % 256, n % 256]
theorem byte_step (v : Nat) (zs : List Nat) (d : Nat) (hd : d % 8 = 0) (h32 : d + 8 ≤ 32) (hz : (ft true v 32 [] 0 d) = zs) (hl : zs.length = d / 8) :
    ft true v 32 [] 0 (d + 8) = zs ++ [v / 2 ^ (24 - d) % 256] := by
  have h := ft_chunk (h := true) (v := v) (n := 32) (zs := []) (L := 0) (inv_nil true) d 7 (by omega) (by omega)
  rw [hz] at h
  have ho : opn zs (0 + d) = zs ++ [0] := by unfold opn; rw [if_pos (by omega)]
  rw [ho] at h
  have hi : (0 + d) / 8 = zs.length := by omega
  rw [hi] at h
  rw [h, List.set_append, if_neg (by omega)]
  have e0 : (zs ++ [0]).getD zs.length 0 = 0 := getD_snoc_last zs 0
  rw [e0]
  have e1 : (0 + d) % 8 = 0 := by omega
  rw [e1]
  simp [chunk, cex, show 32 - d - 8 = 24 - d by omega]
theorem packF_four (n : Nat) : packF true [(32, (n : Int))] = four n := by
  rw [packF_good _ _ (by simp) (by intro j hj; simp at hj; subst hj; unfold okF; simp)]
  have hp : (packTo true [(32, (n : Int))] [(32, (n : Int))].length).1 = ft true n 32 [] 0 32 := by
    simp [packTo, packStep]
  refine hp.trans ?_
  have h1 := byte_step n [] 0 rfl (by omega) rfl rfl
  have h2 := byte_step n _ 8 rfl (by omega) h1 rfl
  have h3 := byte_step n _ 16 rfl (by omega) h2 rfl
  have h4 := byte_step n _ 24 rfl (by omega) h3 rfl
  rw [h4]
  unfold four
  simp
theorem four_length (n : Nat) : (four n).length = 4 := rfl

/-- The bytes of a text. -/
def strB (s : ByteArray) : List Int := s.data.toList.map fun b => (b.toNat : Int)
theorem strB_length (s : ByteArray) : (strB s).length = s.size := by simp [strB]
theorem strB_getD (s : ByteArray) (k : Nat) (h : k < s.size) : (strB s).getD k 0 = ((s[k]'h).toNat : Int) := by
  unfold strB
  rw [List.getD_eq_getElem?_getD, List.getElem?_map, List.getElem?_eq_getElem (by simpa using h)]
  rfl
def letterI (x : Int) : Bool := (decide (97 ≤ x) && decide (x ≤ 122)) || (decide (65 ≤ x) && decide (x ≤ 90))
def nameOk (s : ByteArray) : Prop := s.size = 4 ∧ ∀ k, k < s.size → letterI ((strB s).getD k 0) = true
noncomputable def nameB (s : ByteArray) : Bool := open Classical in decide (nameOk s)
theorem nameB_yes {s : ByteArray} (h : nameOk s) : nameB s = true := by unfold nameB; simpa using h
theorem nameB_no {s : ByteArray} (h : ¬ nameOk s) : nameB s = false := by unfold nameB; simpa using h
theorem crcF_nat (zs : List Int) : ∃ n : Nat, crcF zs = (n : Int) ∧ n < 4294967296 := by
  have h := crcTo_lt zs zs.length
  refine ⟨4294967295 - crcTo zs zs.length, ?_, by omega⟩
  unfold crcF; omega
noncomputable def chunkF (s : ByteArray) (zs : List Int) : List Int :=
  open Classical in if nameOk s ∧ zs.length ≤ 60000 then (four zs.length).map (fun n : Nat => (n : Int)) ++ (strB s ++ zs) ++ (four (crcF (strB s ++ zs)).toNat).map (fun n : Nat => (n : Int)) else []
theorem chunkF_len (s : ByteArray) (zs : List Int) : (chunkF s zs).length ≤ 1048576 := by
  unfold chunkF; split
  · rename_i h
    simp [strB_length, four_length]; have := h.1.1; omega
  · simp
theorem chunkF_yes {s : ByteArray} {zs : List Int} (h1 : nameOk s) (h2 : zs.length ≤ 60000) (n : Nat) (hn : crcF (strB s ++ zs) = (n : Int)) :
    chunkF s zs = (four zs.length).map (fun n : Nat => (n : Int)) ++ (strB s ++ zs) ++ (four n).map (fun n : Nat => (n : Int)) := by
  unfold chunkF; rw [if_pos ⟨h1, h2⟩, hn, Int.toNat_natCast]
theorem chunkF_name {s : ByteArray} {zs : List Int} (h1 : ¬ nameOk s) : chunkF s zs = [] := by unfold chunkF; rw [if_neg (fun h => h1 h.1)]
theorem chunkF_long {s : ByteArray} {zs : List Int} (h2 : ¬ zs.length ≤ 60000) : chunkF s zs = [] := by unfold chunkF; rw [if_neg (fun h => h2 h.2)]
end Go.Proofs.YthpkngipiapbpaaDoor
