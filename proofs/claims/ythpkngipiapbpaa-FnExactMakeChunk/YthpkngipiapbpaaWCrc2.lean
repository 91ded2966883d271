/- The walk of Crc by its table. -/
import Derived.Test.YthpkngipiapbpaaWCrc
namespace Go.Proofs.Ythpkngipiapbpaa
open Go.RowKit

set_option maxHeartbeats 1000000 in
set_option maxRecDepth 1000000 in
theorem implCrc (b off len cap : Nat) (zs : List Int) (w : World) (hlen : zs.length = len) (hreach : len ≤ 140737488351232) (hbl : b < w.heap.size)
    (hz : ∀ j, 0 ≤ zs.getD j 0 ∧ zs.getD j 0 < 256) (hc : ∀ j, j < len → w.cell? ⟨b, off + j, none⟩ = some (.int .u8 (zs.getD j 0))) :
    Calls Try.prog 21 #[.slice (some ⟨b, off, none⟩) len cap] w fun e w' => e = .returned (.int .u32 (crcF zs)) ∧ Below w.heap.size w w' := by
  subst hlen
  replace hc := hide hc
  obtain ⟨z, hz0, hzz⟩ := zeroT
  go_enter Try.func21, Try.ntmps21
  go_wp2_with fail
  refine (implCrcTable w).mono ?_
  rintro e w1 ⟨cs, rfl, hcs, hb1⟩
  have hs1 := hcs.1
  have hsc := run_storeCells_new (P := Try.prog) w1 50 z cs (by rw [hcs.1]; exact sizeT) (by rw [hcs.1, hz0.1]) hcs.2.1
  go_wp2_with fail
  clear hsc hzz hs1
  have hd : ∀ j, j < zs.length → (w1.alloc (.cells cs 50)).cell? ⟨b, off + j, none⟩ = some (.int .u8 (zs.getD j 0)) := fun j hj => by
    rw [World.cell?_alloc_past _ _ _ (by have := hb1.size; simp; omega), hb1.cell (by simpa using hbl)]; exact unhide hc j hj
  have ht : ∀ j, j < 256 → (w1.alloc (.cells cs 50)).cell? ⟨w1.heap.size, j, none⟩ = some (.int .u32 (crcIt 8 j : Nat)) := fun j hj => by
    rw [World.cell?_alloc_at _ _ _ _ rfl]; exact hcs.2.2 j hj
  have hbel : Below w.heap.size w (w1.alloc (.cells cs 50)) := hb1.alloc hb1.size _
  generalize w1.alloc (.cells cs 50) = w2 at hd ht hbel ⊢
  replace hd := hide hd
  replace ht := hide ht
  go_wp2
  go_loop [4, 10] (fun a i => ∃ k : Nat, k ≤ zs.length ∧ a = .int .u32 (crcTo zs k : Nat) ∧ i = .int .i64 k) (fun _ i => zs.length - (intOf i).toNat)
  case atStart => exact ⟨0, Nat.zero_le _, rfl, rfl⟩
  case round =>
    obtain ⟨k, hk, rfl, rfl⟩ := hrel
    have hb := crcTo_lt zs k
    by_cases hlt : k < zs.length
    · have hzk := hz k
      have hck := unhide hd k hlt
      have H1 := crcTo_succ zs k hlt
      generalize zs.getD k 0 = x at hzk hck H1
      obtain ⟨x, rfl⟩ := Int.eq_ofNat_of_zero_le hzk.1
      generalize crcTo zs k = r at hb H1
      replace H1 := hide H1
      have hyl : (r % 256) ^^^ x < 256 := Nat.xor_lt_two_pow (n := 8) (by omega) (by omega)
      have hx8 := u8_xor_nat (r % 256) x (by omega) (by omega)
      have ht' := unhide ht (r % 256 ^^^ x) hyl
      have htb := crcIt_lt 8 (r % 256 ^^^ x) (by omega)
      have HT := crc_table r x
      generalize r % 256 ^^^ x = y at hx8 ht' htb HT hyl
      have HX := u32_xor_nat (r / 256) (crcIt 8 y) (by omega) htb
      rw [← HT] at HX
      clear HT
      generalize crcIt 8 y = t at HX ht' htb
      rw [show ((r % 256 : Nat) : Int) = (r : Int) % 256 by omega] at hx8
      rw [show ((r / 256 : Nat) : Int) = (r : Int) / 256 by omega] at HX
      replace HX := hide HX
      go_wp2
      go_round
      case rel => exact ⟨k + 1, by omega, by rw [unhide HX, unhide H1]; simp only [Int.toNat_natCast]; rw [Nat.mod_eq_of_lt (show x < 256 by omega)], by go_num⟩
      case measure => simp [intOf]; omega
    · have hkl : k = zs.length := by omega
      subst hkl
      have HN := hide (crcF_bits zs)
      go_wp2
      go_ret
      exact ⟨ret_int (unhide HN), hbel⟩
end Go.Proofs.Ythpkngipiapbpaa
