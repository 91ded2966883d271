/- The walks of Crc and Adler on a byte string as it came in; a byte of a string, round about. -/
import Derived.Test.YthpkngipiapbpaaWCrc2
import Derived.Test.YthpkngipiapbpaaWBytes2
namespace Go.Proofs.Ythpkngipiapbpaa
open Go.RowKit

set_option maxHeartbeats 1000000 in
set_option maxRecDepth 100000 in
theorem specCrcE (ad : Option Addr) (cap : Nat) (w : World) :
    Calls Try.prog 16 #[.slice ad 0 cap] w fun e w' => e = .returned (.int .u32 (crcF [])) ∧ w' = w := by
  go_enter Try.func16, Try.ntmps16
  go_wp2
  go_loop [3, 10] (fun a i => a = .int .u32 4294967295 ∧ i = .int .i64 0) (fun _ _ => 0)
  case atStart => exact ⟨rfl, rfl⟩
  case round =>
    obtain ⟨rfl, rfl⟩ := hrel
    go_wp2
    go_ret
    exact ⟨ret_int (by decide +kernel), rfl⟩

set_option maxHeartbeats 1000000 in
set_option maxRecDepth 1000000 in
theorem implCrcE (ad : Option Addr) (cap : Nat) (w : World) :
    Calls Try.prog 21 #[.slice ad 0 cap] w fun e w' => e = .returned (.int .u32 (crcF [])) ∧ Below w.heap.size w w' := by
  obtain ⟨z, hz0, hzz⟩ := zeroT
  go_enter Try.func21, Try.ntmps21
  go_wp2_with fail
  refine (implCrcTable w).mono ?_
  rintro e w1 ⟨cs, rfl, hcs, hb1⟩
  have hs1 := hcs.1
  have hsc := run_storeCells_new (P := Try.prog) w1 50 z cs (by rw [hcs.1]; exact sizeT) (by rw [hcs.1, hz0.1]) hcs.2.1
  go_wp2_with fail
  clear hsc hzz hs1
  have hbel : Below w.heap.size w (w1.alloc (.cells cs 50)) := hb1.alloc hb1.size _
  generalize w1.alloc (.cells cs 50) = w2 at hbel ⊢
  go_wp2
  go_loop [4, 10] (fun a i => a = .int .u32 4294967295 ∧ i = .int .i64 0) (fun _ _ => 0)
  case atStart => exact ⟨rfl, rfl⟩
  case round =>
    obtain ⟨rfl, rfl⟩ := hrel
    go_wp2
    go_ret
    exact ⟨ret_int (by decide +kernel), hbel⟩

theorem implCrcArg (ad : Option Addr) (cap : Nat) (zs : List Int) (w : World) (h : ArgB w ad zs) (hn : zs.length ≤ 1048576) :
    Calls Try.prog 21 #[.slice ad zs.length cap] w fun e w' => e = .returned (.int .u32 (crcF zs)) ∧ Below w.heap.size w w' := by
  by_cases hne : zs = []
  · subst hne
    exact implCrcE ad cap w
  · obtain ⟨b, off, rfl, hl, hc⟩ := h.2 hne
    exact implCrc b off zs.length cap zs w rfl (by omega) hl h.1 hc

theorem specCrcArg (ad : Option Addr) (cap : Nat) (zs : List Int) (w : World) (h : ArgB w ad zs) (hn : zs.length ≤ 1048576) :
    Calls Try.prog 16 #[.slice ad zs.length cap] w fun e w' => e = .returned (.int .u32 (crcF zs)) ∧ Below w.heap.size w w' := by
  by_cases hne : zs = []
  · subst hne
    exact (specCrcE ad cap w).mono fun e w' ⟨he, hw⟩ => ⟨he, by subst hw; exact Below.refl _ _⟩
  · obtain ⟨b, off, rfl, hl, hc⟩ := h.2 hne
    exact (specCrc b off zs.length cap zs w rfl (by omega) h.1 hc).mono fun e w' ⟨he, hw⟩ => ⟨he, by subst hw; exact Below.refl _ _⟩

end Go.Proofs.Ythpkngipiapbpaa
