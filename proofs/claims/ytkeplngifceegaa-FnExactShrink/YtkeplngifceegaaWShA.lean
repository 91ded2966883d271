/- The program's samples of a plane, and means of them. -/
import Derived.Test.YtkeplngifceegaaPlainSh
import Derived.Test.YtkeplngifceegaaWUpd2
import Derived.Test.YtkeplngifceegaaWHeld
import Derived.Test.YtkeplngifceegaaWSzI
namespace Go.Proofs.Ytkeplngifceegaa
open Go.RowKit

/-- A good plane's facts, in natural numbers. -/
structure PlOk (W H : Nat) (zs : List Int) : Prop where
  w : 1 ≤ W ∧ W ≤ 512
  h : 1 ≤ H ∧ H ≤ 512
  l : zs.length = W * H
  m : W * H ≤ 4096
  s : SmpOk zs 8
theorem GoodPl.nat {a b : Int} {zs : List Int} (h : GoodPl (a, b, zs)) : ∃ W H : Nat, a = W ∧ b = H ∧ PlOk W H zs := by
  obtain ⟨⟨h1, h2, h3⟩, hl, hs⟩ := h
  simp only at h1 h2 h3 hl hs
  obtain ⟨W, rfl⟩ := Int.eq_ofNat_of_zero_le (show 0 ≤ a by omega)
  obtain ⟨H, rfl⟩ := Int.eq_ofNat_of_zero_le (show 0 ≤ b by omega)
  have e : (W : Int) * (H : Int) = ((W * H : Nat) : Int) := by simp
  exact ⟨W, H, rfl, rfl, ⟨by omega, by omega, by omega, by omega, hs⟩⟩
theorem PlOk.at_lt {W H : Nat} {zs : List Int} (h : PlOk W H zs) {x y : Nat} (hx : x < W) (hy : y < H) : y * W + x < zs.length ∧ y * W ≤ 4096 := by
  have h1 : (y + 1) * W ≤ H * W := Nat.mul_le_mul hy (Nat.le_refl _)
  have h2 := h.m
  rw [h.l, Nat.mul_comm W H]
  rw [Nat.mul_comm W H] at h2
  rw [Nat.add_mul, Nat.one_mul] at h1
  omega

set_option maxHeartbeats 4000000 in
set_option maxRecDepth 100000 in
theorem implPlAt (W H x y : Nat) (ad : Option Addr) (cap : Nat) (zs : List Int) (w : World) (hp : PlOk W H zs) (hx : x < W) (hy : y < H) (hA : ArgI w ad zs) :
    Calls Try.prog 79 #[.agg #[.int .i64 (W : Int), .int .i64 (H : Int), .slice ad zs.length cap], .int .i64 (x : Int), .int .i64 (y : Int)] w fun e w' => e = .returned (.int .i64 (zs.getD (y * W + x) 0)) ∧ Upd 0 0 w w' := by
  obtain ⟨hlt, hyW⟩ := hp.at_lt hx hy
  obtain ⟨p, hpe⟩ : ∃ p, y * W = p := ⟨_, rfl⟩
  have e1 : (y : Int) * (W : Int) = (p : Int) := by rw [← hpe]; simp
  rw [hpe] at hlt hyW ⊢
  have hB := (Below.refl w.heap.size w).alloc (Nat.le_refl _) (.cells #[.int .i64 (W : Int), .int .i64 (H : Int), .slice ad zs.length cap] 31)
  have hU := hide (Upd.of_below hB 0 0)
  obtain ⟨bb, off, rfl, hbl, hcl⟩ := (hA.below hB) (ne_of_lt_length hlt)
  have hck := hcl (p + x) hlt
  generalize zs.getD (p + x) 0 = v at hck ⊢
  have hWs := hp.w
  have hlen : zs.length ≤ 4096 := by have := hp.l; have := hp.m; omega
  clear hcl hbl hA hB hp hpe
  have k1 : (0 : Int) ≤ (p : Int) + (x : Int) := by omega
  have k2 : (p : Int) + (x : Int) < (zs.length : Int) := by omega
  have k3 : ((p : Int) + (x : Int)).toNat = p + x := by omega
  go_enter Try.func79, Try.ntmps79
  go_wp2
  go_ret
  exact ⟨rfl, unhide hU⟩
end Go.Proofs.Ytkeplngifceegaa
