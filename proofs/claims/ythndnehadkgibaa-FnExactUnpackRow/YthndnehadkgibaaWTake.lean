/- The walks of TakeLow and TakeHigh: the specification's. -/
import Derived.Test.YthndnehadkgibaaPlainT
import Derived.Test.YthndnehadkgibaaWNum3
namespace Go.Proofs.Ythndnehadkgibaa
open Go.RowKit

set_option maxHeartbeats 1000000 in
set_option maxRecDepth 100000 in
theorem specBitLow (b off len cap : Nat) (zs : List Int) (i : Nat) (w : World) (hlen : zs.length = len) (hz : InB zs) (hc : BytesAt w b off zs) (hn : len ≤ 1048576) (hi : i < 8 * len) :
    Calls Try.prog 75 #[.slice (some ⟨b, off, none⟩) len cap, .int .i64 i, .bool false] w fun e w' => e = .returned (.int .u64 (bitLow zs i : Nat)) ∧ w' = w := by
  subst hlen
  have hck := hc (i / 8) (by omega)
  have hzk := hz (i / 8)
  have hx : ∃ x : Nat, zs.getD (i / 8) 0 = (x : Int) ∧ x < 256 ∧ byteAt zs (i / 8) = x := ⟨(zs.getD (i / 8) 0).toNat, by omega, by omega, rfl⟩
  obtain ⟨x, hx1, hx2, hx3⟩ := hx
  rw [hx1] at hck
  have hB : bitLow zs i = x / 2 ^ (i % 8) % 2 := by unfold bitLow; rw [hx3]
  replace hB := hide hB
  clear hzk hx1 hx3 hz hc
  go_enter Try.func75, Try.ntmps75
  go_wp2
  go_ret
  exact ⟨ret_int (by rw [unhide hB]; exact bit_of_u8 x _ hx2), rfl⟩
set_option maxHeartbeats 1000000 in
set_option maxRecDepth 100000 in
theorem specBitHigh (b off len cap : Nat) (zs : List Int) (i : Nat) (w : World) (hlen : zs.length = len) (hz : InB zs) (hc : BytesAt w b off zs) (hn : len ≤ 1048576) (hi : i < 8 * len) :
    Calls Try.prog 75 #[.slice (some ⟨b, off, none⟩) len cap, .int .i64 i, .bool true] w fun e w' => e = .returned (.int .u64 (bitHigh zs i : Nat)) ∧ w' = w := by
  subst hlen
  have hck := hc (i / 8) (by omega)
  have hzk := hz (i / 8)
  have hx : ∃ x : Nat, zs.getD (i / 8) 0 = (x : Int) ∧ x < 256 ∧ byteAt zs (i / 8) = x := ⟨(zs.getD (i / 8) 0).toNat, by omega, by omega, rfl⟩
  obtain ⟨x, hx1, hx2, hx3⟩ := hx
  rw [hx1] at hck
  have hB : bitHigh zs i = x / 2 ^ (7 - i % 8) % 2 := by unfold bitHigh; rw [hx3]
  replace hB := hide hB
  clear hzk hx1 hx3 hz hc
  go_enter Try.func75, Try.ntmps75
  go_wp2
  go_ret
  exact ⟨ret_int (by rw [unhide hB]; exact bit_of_u8 x _ hx2), rfl⟩

set_option maxHeartbeats 1000000 in
set_option maxRecDepth 100000 in
theorem specTakeLowIn (b off len cap : Nat) (zs : List Int) (p n : Nat) (w : World) (hlen : zs.length = len) (hz : InB zs) (hc : BytesAt w b off zs) (hm : len ≤ 1048576) (hbl : b < w.heap.size) (hn : n ≤ 64) (hi : p + n ≤ 8 * len) :
    Calls Try.prog 67 #[.slice (some ⟨b, off, none⟩) len cap, .int .i64 p, .int .i64 n, .bool false] w fun e w' => e = .returned (.agg #[.bool true, .int .u64 (lowTo zs p n : Nat), .int .i64 ((p + n : Nat) : Int)]) ∧ Below w.heap.size w w' := by
  subst hlen
  replace hz := hide hz
  have hc1 : BytesAt (w.alloc (.cells #[.bool false, .int .u64 0, .int .i64 0] 92)) b off zs := fun j hj => by
    rw [World.cell?_alloc_past _ _ _ hbl]; exact hc j hj
  replace hc1 := hide hc1
  clear hc
  have q1 : decide ((n : Int) < 0) = false := by simp
  have q2 : decide ((64 : Int) < (n : Int)) = false := by simp; omega
  have q3 : decide ((p : Int) < 0) = false := by simp
  have q4 : decide (8 * (zs.length : Int) < (p : Int)) = false := by simp; omega
  have q5 : decide (8 * (zs.length : Int) - (p : Int) < (n : Int)) = false := by simp; omega
  go_enter Try.func67, Try.ntmps67
  go_wp2
  go_loopw [9, 10] (fun a i wr => ∃ k : Nat, k ≤ n ∧ a = .int .u64 (lowTo zs p k : Nat) ∧ i = .int .i64 k ∧ wr = (w.alloc (.cells #[.bool false, .int .u64 0, .int .i64 0] 92))) (fun _ i _ => n - (intOf i).toNat)
  case atStart => exact ⟨0, Nat.zero_le _, rfl, rfl, rfl⟩
  case round =>
    obtain ⟨k, hk, rfl, rfl, rfl⟩ := hrel
    by_cases hlt : k < n
    · have HB := hide (or_bit (lowTo zs p k) (bitLow zs (p + k)) k (lowTo_lt zs p k) (by unfold bitLow; omega) (by omega))
      go_wp2_with (go_at_call 75; refine (specBitLow b off zs.length cap zs (p + k) _ rfl (unhide hz) (unhide hc1) hm (by omega)).mono ?_; rintro e w' ⟨rfl, rfl⟩)
      go_roundw
      case rel => exact ⟨k + 1, by omega, by rw [unhide HB]; rfl, by go_num, by trivial⟩
      case measure => simp [intOf]; omega
    · have hkl : k = n := by omega
      subst hkl
      go_wp2
      exact bodyPost_ret (v := .agg #[.bool true, .int .u64 (lowTo zs p k : Nat), .int .i64 ((p + k : Nat) : Int)]) (by simp [results, Try.results67, go_sem]) rfl ⟨rfl, (Below.refl _ _).alloc (Nat.le_refl _) _⟩
end Go.Proofs.Ythndnehadkgibaa
