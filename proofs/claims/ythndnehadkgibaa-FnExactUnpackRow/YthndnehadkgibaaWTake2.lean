/- The walks of TakeLow and TakeHigh: the specification's, high order, and where nothing can be taken. -/
import Derived.Test.YthndnehadkgibaaWTake
namespace Go.Proofs.Ythndnehadkgibaa
open Go.RowKit

set_option maxHeartbeats 1000000 in
set_option maxRecDepth 100000 in
theorem specTakeHighIn (b off len cap : Nat) (zs : List Int) (p n : Nat) (w : World) (hlen : zs.length = len) (hz : InB zs) (hc : BytesAt w b off zs) (hm : len ≤ 1048576) (hbl : b < w.heap.size) (hn : n ≤ 64) (hi : p + n ≤ 8 * len) :
    Calls Try.prog 67 #[.slice (some ⟨b, off, none⟩) len cap, .int .i64 p, .int .i64 n, .bool true] w fun e w' => e = .returned (.agg #[.bool true, .int .u64 (highTo zs p n : Nat), .int .i64 ((p + n : Nat) : Int)]) ∧ Below w.heap.size w w' := by
  subst hlen
  replace hz := hide hz
  have hc1 : BytesAt (w.alloc (.cells #[.bool false, .int .u64 0, .int .i64 0] 92)) b off zs := fun j hj => by
    rw [World.cell?_alloc_past _ _ _ hbl]; exact hc j hj
  replace hc1 := hide hc1
  clear hc
  have q1 : decide ((n : Int) < 0) = false := by simp
  have q2 : decide ((64 : Int) < (n : Int)) = false := by simp; omega
  have q3 : decide ((p : Int) < 0) = false := by simp
  have q4 : decide (8 * (zs.length : Int) < (p : Int)) = false := by simp; omega
  have q5 : decide (8 * (zs.length : Int) - (p : Int) < (n : Int)) = false := by simp; omega
  go_enter Try.func67, Try.ntmps67
  go_wp2
  go_loopw [9, 10] (fun a i wr => ∃ k : Nat, k ≤ n ∧ a = .int .u64 (highTo zs p k : Nat) ∧ i = .int .i64 k ∧ wr = (w.alloc (.cells #[.bool false, .int .u64 0, .int .i64 0] 92))) (fun _ i _ => n - (intOf i).toNat)
  case atStart => exact ⟨0, Nat.zero_le _, rfl, rfl, rfl⟩
  case round =>
    obtain ⟨k, hk, rfl, rfl, rfl⟩ := hrel
    by_cases hlt : k < n
    · have HB := hide (twice_bit (highTo zs p k) (bitHigh zs (p + k)) k (highTo_lt zs p k) (by unfold bitHigh; omega) (by omega))
      go_wp2_with (go_at_call 75; refine (specBitHigh b off zs.length cap zs (p + k) _ rfl (unhide hz) (unhide hc1) hm (by omega)).mono ?_; rintro e w' ⟨rfl, rfl⟩)
      go_roundw
      case rel => exact ⟨k + 1, by omega, by rw [unhide HB]; rfl, by go_num, by trivial⟩
      case measure => simp [intOf]; omega
    · have hkl : k = n := by omega
      subst hkl
      go_wp2
      exact bodyPost_ret (v := .agg #[.bool true, .int .u64 (highTo zs p k : Nat), .int .i64 ((p + k : Nat) : Int)]) (by simp [results, Try.results67, go_sem]) rfl ⟨rfl, (Below.refl _ _).alloc (Nat.le_refl _) _⟩

set_option maxHeartbeats 1000000 in
set_option maxRecDepth 100000 in
theorem specTakeBad (ad : Option Addr) (len cap : Nat) (p n : Int) (hgh : Bool) (w : World) (hm : len ≤ 1048576) (h : ¬ (0 ≤ n ∧ n ≤ 64 ∧ 0 ≤ p ∧ p ≤ 8 * len - n)) :
    Calls Try.prog 67 #[.slice ad len cap, .int .i64 p, .int .i64 n, .bool hgh] w fun e w' => e = .returned (.agg #[.bool false, .int .u64 0, .int .i64 0]) ∧ Below w.heap.size w w' := by
  by_cases h1 : n < 0
  · clear h
    have q1 : decide ((n : Int) < 0) = true := by simp; omega
    go_enter Try.func67, Try.ntmps67
    go_wp2
    exact bodyPost_ret (v := .agg #[.bool false, .int .u64 0, .int .i64 0]) (by simp [results, Try.results67, go_sem]) rfl ⟨rfl, (Below.refl _ _).alloc (Nat.le_refl _) _⟩
  have q1 : decide ((n : Int) < 0) = false := by simp; omega
  by_cases h2 : 64 < n
  · clear h
    have q2 : decide ((64 : Int) < (n : Int)) = true := by simp; omega
    go_enter Try.func67, Try.ntmps67
    go_wp2
    exact bodyPost_ret (v := .agg #[.bool false, .int .u64 0, .int .i64 0]) (by simp [results, Try.results67, go_sem]) rfl ⟨rfl, (Below.refl _ _).alloc (Nat.le_refl _) _⟩
  have q2 : decide ((64 : Int) < (n : Int)) = false := by simp; omega
  by_cases h3 : p < 0
  · clear h
    have q3 : decide ((p : Int) < 0) = true := by simp; omega
    go_enter Try.func67, Try.ntmps67
    go_wp2
    exact bodyPost_ret (v := .agg #[.bool false, .int .u64 0, .int .i64 0]) (by simp [results, Try.results67, go_sem]) rfl ⟨rfl, (Below.refl _ _).alloc (Nat.le_refl _) _⟩
  have q3 : decide ((p : Int) < 0) = false := by simp; omega
  by_cases h4 : 8 * (len : Int) < p
  · clear h
    have q4 : decide (8 * (len : Int) < (p : Int)) = true := by simp; omega
    go_enter Try.func67, Try.ntmps67
    go_wp2
    exact bodyPost_ret (v := .agg #[.bool false, .int .u64 0, .int .i64 0]) (by simp [results, Try.results67, go_sem]) rfl ⟨rfl, (Below.refl _ _).alloc (Nat.le_refl _) _⟩
  have q4 : decide (8 * (len : Int) < (p : Int)) = false := by simp; omega
  have h5 : 8 * (len : Int) - p < n := by omega
  clear h
  have q5 : decide (8 * (len : Int) - (p : Int) < (n : Int)) = true := by simp; omega
  go_enter Try.func67, Try.ntmps67
  go_wp2
  exact bodyPost_ret (v := .agg #[.bool false, .int .u64 0, .int .i64 0]) (by simp [results, Try.results67, go_sem]) rfl ⟨rfl, (Below.refl _ _).alloc (Nat.le_refl _) _⟩
end Go.Proofs.Ythndnehadkgibaa
