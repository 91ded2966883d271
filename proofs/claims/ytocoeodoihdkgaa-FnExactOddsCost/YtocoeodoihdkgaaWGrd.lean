/- How many bits a number has; grades: the program's walk. -/
import Derived.Test.YtocoeodoihdkgaaPlainT
import Derived.Test.YtocoeodoihdkgaaWOwn2
import Derived.Test.YtocoeodoihdkgaaWRsE
import Derived.Lib.Strings
import Derived.Lib.Slices
import Derived.Lib.Small
import Derived.Lib.Walk
import Derived.Lib.BitFns
namespace Go.Proofs.Ytocoeodoihdkgaa
open Go.RowKit

/-- The bits of a number of which all but the last eight are shifted away. -/
theorem len_of (x q : Int) (s : Nat) (h0 : 0 ≤ x) (h1 : x ≤ 18446744073709551615) (hq : q.toNat = x.toNat / 2 ^ s) (hl : 2 ^ s ≤ x.toNat) (q0 : 0 ≤ q) (q1 : q ≤ 255) :
    (s : Int) + Lib.len8 q = Lib.bitLen x.toNat := by
  rw [Lib.len8_of q q0 q1, hq, Lib.bitLen_shift s x.toNat hl (show x.toNat < 18446744073709551616 by omega)]
  omega
theorem len_bd (q : Int) (q0 : 0 ≤ q) (q1 : q ≤ 255) : 0 ≤ Lib.len8 q ∧ Lib.len8 q ≤ 8 := by
  rw [Lib.len8_of q q0 q1]
  have := Lib.bitLen_le8' q q0 q1
  omega
set_option maxHeartbeats 4000000 in
set_option maxRecDepth 100000 in
theorem implLen64c111 (x : Int) (w : World) (h0 : 0 ≤ x) (h1 : x ≤ 18446744073709551615) (_c1 : 4294967296 ≤ x) (_c2 : 65536 ≤ x / 4294967296) (_c3 : 256 ≤ x / 4294967296 / 65536) :
    Calls Try.prog 122 #[.int .u64 x] w fun e w' => e = .returned (.int .i64 (Lib.bitLen x.toNat)) ∧ w' = w := by
  obtain ⟨q, hq⟩ : ∃ q : Int, q = x / 4294967296 / 65536 / 256 := ⟨_, rfl⟩
  have q0 : 0 ≤ q := by omega
  have q1 : q ≤ 255 := by omega
  have hv : (56 : Int) + Lib.len8 q = Lib.bitLen x.toNat := len_of x q 56 h0 h1 (by rw [hq]; show _ = x.toNat / 72057594037927936; omega) (by show 72057594037927936 ≤ x.toNat; omega) q0 q1
  rw [← hv]
  have hb := len_bd q q0 q1
  have hix := fun W => Lib.run_index_len8tab (P := Try.prog) W 9 .u8 q (by kernel_rfl) q0 q1
  have hw : IntKind.u8.wrap q = q := by simp [IntKind.wrap, IntKind.bits, IntKind.signed]; omega
  clear hv
  generalize Lib.len8 q = r at hb hix ⊢
  go_enter Try.func122, Try.ntmps122
  go_upto_region 10 with fail
  rw [← hq]
  clear hq _c1 _c2 _c3 h0 h1
  go_wp2
  go_ret
  exact ⟨ret_int (by omega), rfl⟩
set_option maxHeartbeats 4000000 in
set_option maxRecDepth 100000 in
theorem implLen64c110 (x : Int) (w : World) (h0 : 0 ≤ x) (h1 : x ≤ 18446744073709551615) (_c1 : 4294967296 ≤ x) (_c2 : 65536 ≤ x / 4294967296) (_c3 : x / 4294967296 / 65536 < 256) :
    Calls Try.prog 122 #[.int .u64 x] w fun e w' => e = .returned (.int .i64 (Lib.bitLen x.toNat)) ∧ w' = w := by
  obtain ⟨q, hq⟩ : ∃ q : Int, q = x / 4294967296 / 65536 := ⟨_, rfl⟩
  have q0 : 0 ≤ q := by omega
  have q1 : q ≤ 255 := by omega
  have hv : (48 : Int) + Lib.len8 q = Lib.bitLen x.toNat := len_of x q 48 h0 h1 (by rw [hq]; show _ = x.toNat / 281474976710656; omega) (by show 281474976710656 ≤ x.toNat; omega) q0 q1
  rw [← hv]
  have hb := len_bd q q0 q1
  have hix := fun W => Lib.run_index_len8tab (P := Try.prog) W 9 .u8 q (by kernel_rfl) q0 q1
  have hw : IntKind.u8.wrap q = q := by simp [IntKind.wrap, IntKind.bits, IntKind.signed]; omega
  clear hv
  generalize Lib.len8 q = r at hb hix ⊢
  go_enter Try.func122, Try.ntmps122
  go_upto_region 10 with fail
  rw [← hq]
  clear hq _c1 _c2 _c3 h0 h1
  go_wp2
  go_ret
  exact ⟨ret_int (by omega), rfl⟩
set_option maxHeartbeats 4000000 in
set_option maxRecDepth 100000 in
theorem implLen64c101 (x : Int) (w : World) (h0 : 0 ≤ x) (h1 : x ≤ 18446744073709551615) (_c1 : 4294967296 ≤ x) (_c2 : x / 4294967296 < 65536) (_c3 : 256 ≤ x / 4294967296) :
    Calls Try.prog 122 #[.int .u64 x] w fun e w' => e = .returned (.int .i64 (Lib.bitLen x.toNat)) ∧ w' = w := by
  obtain ⟨q, hq⟩ : ∃ q : Int, q = x / 4294967296 / 256 := ⟨_, rfl⟩
  have q0 : 0 ≤ q := by omega
  have q1 : q ≤ 255 := by omega
  have hv : (40 : Int) + Lib.len8 q = Lib.bitLen x.toNat := len_of x q 40 h0 h1 (by rw [hq]; show _ = x.toNat / 1099511627776; omega) (by show 1099511627776 ≤ x.toNat; omega) q0 q1
  rw [← hv]
  have hb := len_bd q q0 q1
  have hix := fun W => Lib.run_index_len8tab (P := Try.prog) W 9 .u8 q (by kernel_rfl) q0 q1
  have hw : IntKind.u8.wrap q = q := by simp [IntKind.wrap, IntKind.bits, IntKind.signed]; omega
  clear hv
  generalize Lib.len8 q = r at hb hix ⊢
  go_enter Try.func122, Try.ntmps122
  go_upto_region 10 with fail
  rw [← hq]
  clear hq _c1 _c2 _c3 h0 h1
  go_wp2
  go_ret
  exact ⟨ret_int (by omega), rfl⟩
set_option maxHeartbeats 4000000 in
set_option maxRecDepth 100000 in
theorem implLen64c100 (x : Int) (w : World) (h0 : 0 ≤ x) (h1 : x ≤ 18446744073709551615) (_c1 : 4294967296 ≤ x) (_c2 : x / 4294967296 < 65536) (_c3 : x / 4294967296 < 256) :
    Calls Try.prog 122 #[.int .u64 x] w fun e w' => e = .returned (.int .i64 (Lib.bitLen x.toNat)) ∧ w' = w := by
  obtain ⟨q, hq⟩ : ∃ q : Int, q = x / 4294967296 := ⟨_, rfl⟩
  have q0 : 0 ≤ q := by omega
  have q1 : q ≤ 255 := by omega
  have hv : (32 : Int) + Lib.len8 q = Lib.bitLen x.toNat := len_of x q 32 h0 h1 (by rw [hq]; show _ = x.toNat / 4294967296; omega) (by show 4294967296 ≤ x.toNat; omega) q0 q1
  rw [← hv]
  have hb := len_bd q q0 q1
  have hix := fun W => Lib.run_index_len8tab (P := Try.prog) W 9 .u8 q (by kernel_rfl) q0 q1
  have hw : IntKind.u8.wrap q = q := by simp [IntKind.wrap, IntKind.bits, IntKind.signed]; omega
  clear hv
  generalize Lib.len8 q = r at hb hix ⊢
  go_enter Try.func122, Try.ntmps122
  go_upto_region 10 with fail
  rw [← hq]
  clear hq _c1 _c2 _c3 h0 h1
  go_wp2
  go_ret
  exact ⟨ret_int (by omega), rfl⟩
set_option maxHeartbeats 4000000 in
set_option maxRecDepth 100000 in
theorem implLen64c011 (x : Int) (w : World) (h0 : 0 ≤ x) (h1 : x ≤ 18446744073709551615) (_c1 : x < 4294967296) (_c2 : 65536 ≤ x) (_c3 : 256 ≤ x / 65536) :
    Calls Try.prog 122 #[.int .u64 x] w fun e w' => e = .returned (.int .i64 (Lib.bitLen x.toNat)) ∧ w' = w := by
  obtain ⟨q, hq⟩ : ∃ q : Int, q = x / 65536 / 256 := ⟨_, rfl⟩
  have q0 : 0 ≤ q := by omega
  have q1 : q ≤ 255 := by omega
  have hv : (24 : Int) + Lib.len8 q = Lib.bitLen x.toNat := len_of x q 24 h0 h1 (by rw [hq]; show _ = x.toNat / 16777216; omega) (by show 16777216 ≤ x.toNat; omega) q0 q1
  rw [← hv]
  have hb := len_bd q q0 q1
  have hix := fun W => Lib.run_index_len8tab (P := Try.prog) W 9 .u8 q (by kernel_rfl) q0 q1
  have hw : IntKind.u8.wrap q = q := by simp [IntKind.wrap, IntKind.bits, IntKind.signed]; omega
  clear hv
  generalize Lib.len8 q = r at hb hix ⊢
  go_enter Try.func122, Try.ntmps122
  go_upto_region 10 with fail
  rw [← hq]
  clear hq _c1 _c2 _c3 h0 h1
  go_wp2
  go_ret
  exact ⟨ret_int (by omega), rfl⟩
set_option maxHeartbeats 4000000 in
set_option maxRecDepth 100000 in
theorem implLen64c010 (x : Int) (w : World) (h0 : 0 ≤ x) (h1 : x ≤ 18446744073709551615) (_c1 : x < 4294967296) (_c2 : 65536 ≤ x) (_c3 : x / 65536 < 256) :
    Calls Try.prog 122 #[.int .u64 x] w fun e w' => e = .returned (.int .i64 (Lib.bitLen x.toNat)) ∧ w' = w := by
  obtain ⟨q, hq⟩ : ∃ q : Int, q = x / 65536 := ⟨_, rfl⟩
  have q0 : 0 ≤ q := by omega
  have q1 : q ≤ 255 := by omega
  have hv : (16 : Int) + Lib.len8 q = Lib.bitLen x.toNat := len_of x q 16 h0 h1 (by rw [hq]; show _ = x.toNat / 65536; omega) (by show 65536 ≤ x.toNat; omega) q0 q1
  rw [← hv]
  have hb := len_bd q q0 q1
  have hix := fun W => Lib.run_index_len8tab (P := Try.prog) W 9 .u8 q (by kernel_rfl) q0 q1
  have hw : IntKind.u8.wrap q = q := by simp [IntKind.wrap, IntKind.bits, IntKind.signed]; omega
  clear hv
  generalize Lib.len8 q = r at hb hix ⊢
  go_enter Try.func122, Try.ntmps122
  go_upto_region 10 with fail
  rw [← hq]
  clear hq _c1 _c2 _c3 h0 h1
  go_wp2
  go_ret
  exact ⟨ret_int (by omega), rfl⟩
set_option maxHeartbeats 4000000 in
set_option maxRecDepth 100000 in
theorem implLen64c001 (x : Int) (w : World) (h0 : 0 ≤ x) (h1 : x ≤ 18446744073709551615) (_c1 : x < 4294967296) (_c2 : x < 65536) (_c3 : 256 ≤ x) :
    Calls Try.prog 122 #[.int .u64 x] w fun e w' => e = .returned (.int .i64 (Lib.bitLen x.toNat)) ∧ w' = w := by
  obtain ⟨q, hq⟩ : ∃ q : Int, q = x / 256 := ⟨_, rfl⟩
  have q0 : 0 ≤ q := by omega
  have q1 : q ≤ 255 := by omega
  have hv : (8 : Int) + Lib.len8 q = Lib.bitLen x.toNat := len_of x q 8 h0 h1 (by rw [hq]; show _ = x.toNat / 256; omega) (by show 256 ≤ x.toNat; omega) q0 q1
  rw [← hv]
  have hb := len_bd q q0 q1
  have hix := fun W => Lib.run_index_len8tab (P := Try.prog) W 9 .u8 q (by kernel_rfl) q0 q1
  have hw : IntKind.u8.wrap q = q := by simp [IntKind.wrap, IntKind.bits, IntKind.signed]; omega
  clear hv
  generalize Lib.len8 q = r at hb hix ⊢
  go_enter Try.func122, Try.ntmps122
  go_upto_region 10 with fail
  rw [← hq]
  clear hq _c1 _c2 _c3 h0 h1
  go_wp2
  go_ret
  exact ⟨ret_int (by omega), rfl⟩
set_option maxHeartbeats 4000000 in
set_option maxRecDepth 100000 in
theorem implLen64c000 (x : Int) (w : World) (h0 : 0 ≤ x) (h1 : x ≤ 18446744073709551615) (_c1 : x < 4294967296) (_c2 : x < 65536) (_c3 : x < 256) :
    Calls Try.prog 122 #[.int .u64 x] w fun e w' => e = .returned (.int .i64 (Lib.bitLen x.toNat)) ∧ w' = w := by
  obtain ⟨q, hq⟩ : ∃ q : Int, q = x := ⟨_, rfl⟩
  have q0 : 0 ≤ q := by omega
  have q1 : q ≤ 255 := by omega
  have hv : (0 : Int) + Lib.len8 q = Lib.bitLen x.toNat := by have e : q.toNat = x.toNat := (by omega); have e2 := Lib.len8_of q q0 q1; rw [e] at e2; omega
  rw [← hv]
  have hb := len_bd q q0 q1
  have hix := fun W => Lib.run_index_len8tab (P := Try.prog) W 9 .u8 q (by kernel_rfl) q0 q1
  have hw : IntKind.u8.wrap q = q := by simp [IntKind.wrap, IntKind.bits, IntKind.signed]; omega
  clear hv
  generalize Lib.len8 q = r at hb hix ⊢
  go_enter Try.func122, Try.ntmps122
  go_upto_region 10 with fail
  rw [← hq]
  clear hq _c1 _c2 _c3 h0 h1
  go_wp2
  go_ret
  exact ⟨ret_int (by omega), rfl⟩
theorem implLen64 (x : Int) (w : World) (h0 : 0 ≤ x) (h1 : x ≤ 18446744073709551615) :
    Calls Try.prog 122 #[.int .u64 x] w fun e w' => e = .returned (.int .i64 (Lib.bitLen x.toNat)) ∧ w' = w := by
  rcases Int.lt_or_le x 4294967296 with c1 | c1
  · rcases Int.lt_or_le x 65536 with c2 | c2
    · rcases Int.lt_or_le x 256 with c3 | c3
      · exact implLen64c000 x w h0 h1 c1 c2 c3
      · exact implLen64c001 x w h0 h1 c1 c2 c3
    · rcases Int.lt_or_le (x / 65536) 256 with c3 | c3
      · exact implLen64c010 x w h0 h1 c1 c2 c3
      · exact implLen64c011 x w h0 h1 c1 c2 c3
  · rcases Int.lt_or_le (x / 4294967296) 65536 with c2 | c2
    · rcases Int.lt_or_le (x / 4294967296) 256 with c3 | c3
      · exact implLen64c100 x w h0 h1 c1 c2 c3
      · exact implLen64c101 x w h0 h1 c1 c2 c3
    · rcases Int.lt_or_le (x / 4294967296 / 65536) 256 with c3 | c3
      · exact implLen64c110 x w h0 h1 c1 c2 c3
      · exact implLen64c111 x w h0 h1 c1 c2 c3
set_option maxHeartbeats 1000000 in
theorem implLen (x : Int) (w : World) (h0 : 0 ≤ x) (h1 : x ≤ 18446744073709551615) :
    Calls Try.prog 111 #[.int .u64 x] w fun e w' => e = .returned (.int .i64 (Lib.bitLen x.toNat)) ∧ w' = w := by
  have h := hide (implLen64 x w h0 h1)
  go_enter Try.func111, Try.ntmps111
  go_wp2_with fail
  refine (unhide h).mono ?_
  rintro e w' ⟨rfl, rfl⟩
  go_wp2
  go_ret
  exact ⟨rfl, rfl⟩
set_option maxHeartbeats 1000000 in
theorem implDistP (p : Int) (w : World) (h0 : 0 ≤ p) (h1 : p ≤ 9223372036854775807) :
    Calls Try.prog 112 #[.int .i64 p, .int .i64 0] w fun e w' => e = .returned (.int .i64 p) ∧ w' = w := by
  go_enter Try.func112, Try.ntmps112
  go_wp2
  all_goals
    go_ret
    exact ⟨ret_int (by omega), rfl⟩
set_option maxHeartbeats 1000000 in
theorem implSizeOf (p : Int) (w : World) (h0 : 0 ≤ p) (h1 : p ≤ 9223372036854775807) :
    Calls Try.prog 73 #[.int .i64 p] w fun e w' => e = .returned (.int .i64 (Lib.bitLen p.toNat)) ∧ w' = w := by
  have hd := hide (implDistP p w h0 h1)
  have h := hide (implLen p w h0 (by omega))
  go_enter Try.func73, Try.ntmps73
  go_wp2_with fail
  refine (unhide hd).mono ?_
  rintro e w' ⟨rfl, rfl⟩
  go_wp2_with fail
  refine (unhide h).mono ?_
  rintro e w' ⟨rfl, rfl⟩
  go_wp2
  go_ret
  exact ⟨rfl, rfl⟩
def GrdOk (p q : Int) : Prop := 0 ≤ p ∧ 0 ≤ q ∧ q ≤ 15
def gradeF (p q : Int) : Int := if p < 0 then 0 else if q < 0 then 0 else if 15 < q then 0 else max 0 (min 12 (((Lib.bitLen p.toNat : Int) + 1) / 2 - q))
theorem bitLen_64 (p : Int) (h1 : p ≤ 9223372036854775807) : Lib.bitLen p.toNat ≤ 64 := by
  refine Lib.bitLen_le _ 64 (Nat.le_refl _) ?_
  show p.toNat < 18446744073709551616
  omega
end Go.Proofs.Ytocoeodoihdkgaa
