/- The walks of Crc and Adler on a byte string as it came in; a byte of a string, round about. -/
import Derived.Test.YtjndkhkkgdcghaaWCrc2
import Derived.Test.YtjndkhkkgdcghaaWBytes2
namespace Go.Proofs.Ytjndkhkkgdcghaa
open Go.RowKit

set_option maxHeartbeats 1000000 in
set_option maxRecDepth 100000 in
theorem implAdlerE (ad : Option Addr) (cap : Nat) (w : World) :
    Calls Try.prog 32 #[.slice ad 0 cap] w fun e w' => e = .returned (.int .u32 (adlerF [])) ∧ w' = w := by
  go_enter Try.func32, Try.ntmps32
  go_wp2
  go_loop [3, 4, 9] (fun a c i => a = .int .u32 1 ∧ c = .int .u32 0 ∧ i = .int .i64 0) (fun _ _ _ => 0)
  case atStart => exact ⟨rfl, rfl, rfl⟩
  case round =>
    obtain ⟨rfl, rfl, rfl⟩ := hrel
    go_wp2
    go_ret
    exact ⟨ret_int (by decide +kernel), rfl⟩

set_option maxHeartbeats 1000000 in
set_option maxRecDepth 100000 in
theorem specAdlerE (ad : Option Addr) (cap : Nat) (w : World) :
    Calls Try.prog 33 #[.slice ad 0 cap] w fun e w' => e = .returned (.int .u32 (adlerF [])) ∧ w' = w := by
  go_enter Try.func33, Try.ntmps33
  go_wp2
  go_loop [3, 4, 9] (fun a c i => a = .int .u32 1 ∧ c = .int .u32 0 ∧ i = .int .i64 0) (fun _ _ _ => 0)
  case atStart => exact ⟨rfl, rfl, rfl⟩
  case round =>
    obtain ⟨rfl, rfl, rfl⟩ := hrel
    go_wp2
    go_ret
    exact ⟨ret_int (by decide +kernel), rfl⟩

set_option maxHeartbeats 1000000 in
set_option maxRecDepth 100000 in
theorem specCrcE (ad : Option Addr) (cap : Nat) (w : World) :
    Calls Try.prog 31 #[.slice ad 0 cap] w fun e w' => e = .returned (.int .u32 (crcF [])) ∧ w' = w := by
  go_enter Try.func31, Try.ntmps31
  go_wp2
  go_loop [3, 10] (fun a i => a = .int .u32 4294967295 ∧ i = .int .i64 0) (fun _ _ => 0)
  case atStart => exact ⟨rfl, rfl⟩
  case round =>
    obtain ⟨rfl, rfl⟩ := hrel
    go_wp2
    go_ret
    exact ⟨ret_int (by decide +kernel), rfl⟩

set_option maxHeartbeats 1000000 in
set_option maxRecDepth 1000000 in
theorem implCrcE (ad : Option Addr) (cap : Nat) (w : World) :
    Calls Try.prog 30 #[.slice ad 0 cap] w fun e w' => e = .returned (.int .u32 (crcF [])) ∧ Below w.heap.size w w' := by
  obtain ⟨z, hz0, hzz⟩ := zeroT
  go_enter Try.func30, Try.ntmps30
  go_wp2_with fail
  refine (implCrcTable w).mono ?_
  rintro e w1 ⟨cs, rfl, hcs, hb1⟩
  have hs1 := hcs.1
  have hsc := run_storeCells_new (P := Try.prog) w1 67 z cs (by rw [hcs.1]; exact sizeT) (by rw [hcs.1, hz0.1]) hcs.2.1
  go_wp2_with fail
  clear hsc hzz hs1
  have hbel : Below w.heap.size w (w1.alloc (.cells cs 67)) := hb1.alloc hb1.size _
  generalize w1.alloc (.cells cs 67) = w2 at hbel ⊢
  go_wp2
  go_loop [4, 10] (fun a i => a = .int .u32 4294967295 ∧ i = .int .i64 0) (fun _ _ => 0)
  case atStart => exact ⟨rfl, rfl⟩
  case round =>
    obtain ⟨rfl, rfl⟩ := hrel
    go_wp2
    go_ret
    exact ⟨ret_int (by decide +kernel), hbel⟩

theorem implCrcArg (ad : Option Addr) (cap : Nat) (zs : List Int) (w : World) (h : ArgB w ad zs) (hn : zs.length ≤ 1048576) :
    Calls Try.prog 30 #[.slice ad zs.length cap] w fun e w' => e = .returned (.int .u32 (crcF zs)) ∧ Below w.heap.size w w' := by
  by_cases hne : zs = []
  · subst hne
    exact implCrcE ad cap w
  · obtain ⟨b, off, rfl, hl, hc⟩ := h.2 hne
    exact implCrc b off zs.length cap zs w rfl (by omega) hl h.1 hc

theorem specCrcArg (ad : Option Addr) (cap : Nat) (zs : List Int) (w : World) (h : ArgB w ad zs) (hn : zs.length ≤ 1048576) :
    Calls Try.prog 31 #[.slice ad zs.length cap] w fun e w' => e = .returned (.int .u32 (crcF zs)) ∧ Below w.heap.size w w' := by
  by_cases hne : zs = []
  · subst hne
    exact (specCrcE ad cap w).mono fun e w' ⟨he, hw⟩ => ⟨he, by subst hw; exact Below.refl _ _⟩
  · obtain ⟨b, off, rfl, hl, hc⟩ := h.2 hne
    exact (specCrc b off zs.length cap zs w rfl (by omega) h.1 hc).mono fun e w' ⟨he, hw⟩ => ⟨he, by subst hw; exact Below.refl _ _⟩

theorem implAdlerArg (ad : Option Addr) (cap : Nat) (zs : List Int) (w : World) (h : ArgB w ad zs) (hn : zs.length ≤ 1048576) :
    Calls Try.prog 32 #[.slice ad zs.length cap] w fun e w' => e = .returned (.int .u32 (adlerF zs)) ∧ Below w.heap.size w w' := by
  by_cases hne : zs = []
  · subst hne
    exact (implAdlerE ad cap w).mono fun e w' ⟨he, hw⟩ => ⟨he, by subst hw; exact Below.refl _ _⟩
  · obtain ⟨b, off, rfl, hl, hc⟩ := h.2 hne
    exact (implAdler b off zs.length cap zs w rfl (by omega) h.1 hc).mono fun e w' ⟨he, hw⟩ => ⟨he, by subst hw; exact Below.refl _ _⟩

theorem specAdlerArg (ad : Option Addr) (cap : Nat) (zs : List Int) (w : World) (h : ArgB w ad zs) (hn : zs.length ≤ 1048576) :
    Calls Try.prog 33 #[.slice ad zs.length cap] w fun e w' => e = .returned (.int .u32 (adlerF zs)) ∧ Below w.heap.size w w' := by
  by_cases hne : zs = []
  · subst hne
    exact (specAdlerE ad cap w).mono fun e w' ⟨he, hw⟩ => ⟨he, by subst hw; exact Below.refl _ _⟩
  · obtain ⟨b, off, rfl, hl, hc⟩ := h.2 hne
    exact (specAdler b off zs.length cap zs w rfl (by omega) h.1 hc).mono fun e w' ⟨he, hw⟩ => ⟨he, by subst hw; exact Below.refl _ _⟩

set_option maxHeartbeats 1000000 in
theorem wByteIn (ad : Option Addr) (cap : Nat) (zs : List Int) (i : Int) (w : World) (h : ArgB w ad zs) (hn : zs.length ≤ 1048576) (h0 : 0 ≤ i) (h1 : i ≤ 1000) :
    Calls Try.prog 34 #[.slice ad zs.length cap, .int .i64 i] w fun e w' => ∃ x : Int, e = .returned (.int .i64 x) ∧ 0 ≤ x ∧ x < 256 ∧ w' = w := by
  by_cases hne : zs = []
  · subst hne
    clear h
    go_enter Try.func34, Try.ntmps34
    go_wp2
    go_ret
    exact ⟨0, rfl, by omega, by omega, rfl⟩
  · obtain ⟨b, off, rfl, hl, hc⟩ := h.2 hne
    have hpos : 0 < zs.length := List.length_pos_iff.2 hne
    have hposI : (0 : Int) < zs.length := by omega
    have hq : ((zs.length : Int) == 0) = false := beq_eq_false_iff_ne.2 (by omega)
    obtain ⟨k, hk⟩ : ∃ k : Nat, i % (zs.length : Int) = (k : Int) := ⟨(i % (zs.length : Int)).toNat, by have := Int.emod_nonneg i (show (zs.length : Int) ≠ 0 by omega); omega⟩
    have hkl : k < zs.length := by have := Int.emod_lt_of_pos i hposI; omega
    have hck := hc k hkl
    have hzk := h.1 k
    generalize zs.getD k 0 = x at hck hzk
    clear h hc
    go_enter Try.func34, Try.ntmps34
    go_wp2
    go_ret
    exact ⟨x, rfl, hzk.1, hzk.2, rfl⟩
end Go.Proofs.Ytjndkhkkgdcghaa
