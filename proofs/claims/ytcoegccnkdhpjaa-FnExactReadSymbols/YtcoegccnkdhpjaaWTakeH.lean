/- The walk of one bit out of bytes: the specification's. -/
import Derived.Test.YtcoegccnkdhpjaaPlainT
import Derived.Test.YtcoegccnkdhpjaaWBytes2
namespace Go.Proofs.Ytcoegccnkdhpjaa
open Go.RowKit

set_option maxHeartbeats 1000000 in
set_option maxRecDepth 100000 in
theorem specBitLow (b off len cap : Nat) (zs : List Int) (i : Nat) (w : World) (hlen : zs.length = len) (hz : InB zs) (hc : BytesAt w b off zs) (hn : len ≤ 1048576) (hi : i < 8 * len) :
    Calls Try.prog 83 #[.slice (some ⟨b, off, none⟩) len cap, .int .i64 i, .bool false] w fun e w' => e = .returned (.int .u64 (bitLow zs i : Nat)) ∧ w' = w := by
  subst hlen
  have hck := hc (i / 8) (by omega)
  have hzk := hz (i / 8)
  have hx : ∃ x : Nat, zs.getD (i / 8) 0 = (x : Int) ∧ x < 256 ∧ byteAt zs (i / 8) = x := ⟨(zs.getD (i / 8) 0).toNat, by omega, by omega, rfl⟩
  obtain ⟨x, hx1, hx2, hx3⟩ := hx
  rw [hx1] at hck
  have hB : bitLow zs i = x / 2 ^ (i % 8) % 2 := by unfold bitLow; rw [hx3]
  replace hB := hide hB
  clear hzk hx1 hx3 hz hc
  go_enter Try.func83, Try.ntmps83
  go_wp2
  go_ret
  exact ⟨ret_int (by rw [unhide hB]; exact bit_of_u8 x _ hx2), rfl⟩
set_option maxHeartbeats 1000000 in
set_option maxRecDepth 100000 in
theorem specBitHigh (b off len cap : Nat) (zs : List Int) (i : Nat) (w : World) (hlen : zs.length = len) (hz : InB zs) (hc : BytesAt w b off zs) (hn : len ≤ 1048576) (hi : i < 8 * len) :
    Calls Try.prog 83 #[.slice (some ⟨b, off, none⟩) len cap, .int .i64 i, .bool true] w fun e w' => e = .returned (.int .u64 (bitHigh zs i : Nat)) ∧ w' = w := by
  subst hlen
  have hck := hc (i / 8) (by omega)
  have hzk := hz (i / 8)
  have hx : ∃ x : Nat, zs.getD (i / 8) 0 = (x : Int) ∧ x < 256 ∧ byteAt zs (i / 8) = x := ⟨(zs.getD (i / 8) 0).toNat, by omega, by omega, rfl⟩
  obtain ⟨x, hx1, hx2, hx3⟩ := hx
  rw [hx1] at hck
  have hB : bitHigh zs i = x / 2 ^ (7 - i % 8) % 2 := by unfold bitHigh; rw [hx3]
  replace hB := hide hB
  clear hzk hx1 hx3 hz hc
  go_enter Try.func83, Try.ntmps83
  go_wp2
  go_ret
  exact ⟨ret_int (by rw [unhide hB]; exact bit_of_u8 x _ hx2), rfl⟩

end Go.Proofs.Ytcoegccnkdhpjaa
