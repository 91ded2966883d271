/- Plain: a plane in other sides. -/
import Derived.Test.YtocoeodoihdkgaaPlainSh
import Derived.Test.YtocoeodoihdkgaaWShA
namespace Go.Proofs.Ytocoeodoihdkgaa
open Go.RowKit

/-- Where a sample comes from, in parts of 256. -/
def fromF (x old new : Nat) : Nat := (2 * x + 1) * old * 256 / (2 * new) - 128
/-- A sample, the nearest one where there is none. -/
def nearF (zs : List Int) (W H x y : Nat) : Int := zs.getD (min y (H - 1) * W + min x (W - 1)) 0
def topF (zs : List Int) (W H s j : Nat) : Int := (256 - ((s % 256 : Nat) : Int)) * nearF zs W H (s / 256) j + ((s % 256 : Nat) : Int) * nearF zs W H (s / 256 + 1) j
def blendF (zs : List Int) (W H s t : Nat) : Int := ((256 - ((t % 256 : Nat) : Int)) * topF zs W H s (t / 256) + ((t % 256 : Nat) : Int) * topF zs W H s (t / 256 + 1) + 32768) / 65536
def resizeL (zs : List Int) (W H w h k : Nat) : List Int := (List.range k).map fun i => blendF zs W H (fromF (i % w) W w) (fromF (i / w) H h)
theorem resizeL_zero (zs : List Int) (W H w h : Nat) : resizeL zs W H w h 0 = [] := rfl
theorem resizeL_succ (zs : List Int) (W H w h k : Nat) : resizeL zs W H w h (k + 1) = resizeL zs W H w h k ++ [blendF zs W H (fromF (k % w) W w) (fromF (k / w) H h)] := by
  unfold resizeL; rw [List.range_succ, List.map_append]; rfl
@[simp] theorem resizeL_length (zs : List Int) (W H w h k : Nat) : (resizeL zs W H w h k).length = k := by simp [resizeL]
theorem mul_bd {a b m n : Int} (a0 : 0 ≤ a) (a1 : a ≤ m) (b0 : 0 ≤ b) (b1 : b ≤ n) : 0 ≤ a * b ∧ a * b ≤ m * n :=
  ⟨Int.mul_nonneg a0 b0, Int.mul_le_mul a1 b1 b0 (Int.le_trans a0 a1)⟩
theorem nearF_bd {zs : List Int} (h : SmpOk zs 8) (W H x y : Nat) : 0 ≤ nearF zs W H x y ∧ nearF zs W H x y ≤ 255 := smp_bd h _
theorem fromF_bd {x W w : Nat} (hx : x < w) (hW : W ≤ 512) : fromF x W w ≤ 131072 := by
  unfold fromF
  have h0 : W * 256 ≤ 131072 := by omega
  have h1 : (2 * x + 1) * W * 256 ≤ (2 * w) * 131072 := by
    rw [Nat.mul_assoc]
    exact Nat.mul_le_mul (by omega) h0
  have h2 : (2 * x + 1) * W * 256 / (2 * w) ≤ 131072 := Nat.div_le_of_le_mul h1
  generalize (2 * x + 1) * W * 256 / (2 * w) = q at h2
  omega
theorem topF_bd {zs : List Int} (h : SmpOk zs 8) (W H s j : Nat) : 0 ≤ topF zs W H s j ∧ topF zs W H s j ≤ 65280 := by
  have a := nearF_bd h W H (s / 256) j
  have b := nearF_bd h W H (s / 256 + 1) j
  unfold topF
  generalize nearF zs W H (s / 256) j = p at a
  generalize nearF zs W H (s / 256 + 1) j = q at b
  have hf : s % 256 < 256 := Nat.mod_lt _ (by omega)
  generalize s % 256 = f at hf
  have h1 : (256 - (f : Int)) * p ≤ (256 - (f : Int)) * 255 := Int.mul_le_mul_of_nonneg_left a.2 (by omega)
  have h2 : (f : Int) * q ≤ (f : Int) * 255 := Int.mul_le_mul_of_nonneg_left b.2 (by omega)
  have h3 : 0 ≤ (256 - (f : Int)) * p := Int.mul_nonneg (by omega) a.1
  have h4 : 0 ≤ (f : Int) * q := Int.mul_nonneg (by omega) b.1
  generalize (256 - (f : Int)) * p = P at h1 h3
  generalize (f : Int) * q = Q at h2 h4
  omega
/-- What Resize answers. -/
noncomputable def resizeF (d : Pl) (w h : Int) : Pl :=
  open Classical in if GoodPl d ∧ SidesOk w h then (w, h, resizeL d.2.2 d.1.toNat d.2.1.toNat w.toNat h.toNat (w.toNat * h.toNat)) else (0, 0, [])
theorem resizeF_yes {d : Pl} {w h : Int} (a : GoodPl d) (b : SidesOk w h) : resizeF d w h = (w, h, resizeL d.2.2 d.1.toNat d.2.1.toNat w.toNat h.toNat (w.toNat * h.toNat)) := by
  unfold resizeF; rw [if_pos ⟨a, b⟩]
theorem resizeF_no {d : Pl} {w h : Int} (a : ¬ (GoodPl d ∧ SidesOk w h)) : resizeF d w h = (0, 0, []) := by
  unfold resizeF; rw [if_neg a]
theorem resizeF_len (d : Pl) (w h : Int) : (resizeF d w h).2.2.length ≤ 1048576 := by
  by_cases a : GoodPl d ∧ SidesOk w h
  · rw [resizeF_yes a.1 a.2]
    simp only [resizeL_length]
    obtain ⟨h1, h2, _⟩ := a.2
    exact Nat.le_trans (Nat.mul_le_mul (show w.toNat ≤ 512 by omega) (show h.toNat ≤ 512 by omega)) (by omega)
  · rw [resizeF_no a]; simp
end Go.Proofs.Ytocoeodoihdkgaa
