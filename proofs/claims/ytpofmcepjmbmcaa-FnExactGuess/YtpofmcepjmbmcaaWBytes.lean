/- The walks of the laws' own helpers on byte strings: a copy, and whether two are equal. -/
import Derived.Test.YtpofmcepjmbmcaaRows
import Derived.Test.YtpofmcepjmbmcaaPlain
import Derived.WalkKit
import Derived.WalkSpells
import Derived.WalkLawsBesides
import Derived.BigQuiet
import Derived.Deep.QuietTactic
namespace Go.Proofs.Ytpofmcepjmbmcaa
open Go.RowKit

theorem below_drewN {B : Nat} {a w : World} (h : Below B a w) (n : Nat) : Below B a (w.drewN n) := h.trans ⟨rfl, rfl, rfl, Nat.le_refl _, fun _ _ => rfl⟩
theorem infoB : (Try.prog.info? 5).map (fun i => (i.zero, i.size, i.bytes)) = some (some (.int .u8 0), 1, 1) := by kernel_rfl

/-- What a byte string is, as the walks hand it on: its bytes, all in range, in the cells of a block. -/
def BytesAt (w : World) (b off : Nat) (zs : List Int) : Prop := ∀ j, j < zs.length → w.cell? ⟨b, off + j, none⟩ = some (.int .u8 (zs.getD j 0))
def InB (zs : List Int) : Prop := ∀ j, 0 ≤ zs.getD j 0 ∧ zs.getD j 0 < 256

theorem getD_map_int (zs : List Int) (k : IntKind) (j : Nat) (h : j < zs.length) : (zs.map (Value.int k))[j]? = some (.int k (zs.getD j 0)) := by
  rw [List.getElem?_map, List.getD_eq_getElem?_getD, List.getElem?_eq_getElem h]; rfl

def partCopy (zs : List Int) (k : Nat) : List Value := (zs.take k).map (Value.int .u8) ++ List.replicate (zs.length - k) (.int .u8 0)
theorem partCopy_zero (zs : List Int) : partCopy zs 0 = List.replicate zs.length (.int .u8 0) := by unfold partCopy; simp
theorem partCopy_all (zs : List Int) : partCopy zs zs.length = zs.map (.int .u8) := by unfold partCopy; simp
theorem partCopy_set (zs : List Int) (k : Nat) (h : k < zs.length) : (partCopy zs k).set k (.int .u8 (zs.getD k 0)) = partCopy zs (k + 1) := by
  unfold partCopy
  rw [take_snoc_getD zs 0 k h, List.map_append, List.set_append, if_neg (by simp; omega), List.append_assoc]
  congr 1
  have : zs.length - k = (zs.length - (k + 1)) + 1 := by omega
  rw [this, List.replicate_succ]
  simp [Nat.min_eq_left (Nat.le_of_lt h)]

end Go.Proofs.Ytpofmcepjmbmcaa
