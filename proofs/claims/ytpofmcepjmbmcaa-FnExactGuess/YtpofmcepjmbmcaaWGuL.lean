/- Guesses: the samples that are told by a function: the program's four. -/
import Derived.Test.YtpofmcepjmbmcaaWGuK
namespace Go.Proofs.Ytpofmcepjmbmcaa
open Go.RowKit

theorem implMeanCell (i j m : Int) (g : Nat) (w : World) (h : w.cell? ⟨g, 0, none⟩ = some (.int .i64 m)) :
    Calls Try.prog 106 #[.int .i64 i, .int .i64 j, .pointer (some ⟨g, 0, none⟩)] w fun e w' => e = .returned (.int .i64 m) ∧ Upd 0 0 w w' := by
  go_enter Try.func106, Try.ntmps106
  go_wp2
  go_ret
  exact ⟨rfl, Upd.refl 0 0 _⟩
set_option maxHeartbeats 2000000 in
theorem implLeftCell (size c j : Int) (v2 : Value) (ad : Option Addr) (cap i g : Nat) (xs : List Int) (w : World) (hi : i < xs.length) (hA : ArgI w ad xs) (h : Held w g [.int .i64 size, .slice ad xs.length cap, v2, .int .i64 c]) :
    Calls Try.prog 107 #[.int .i64 (i : Int), .int .i64 j, .pointer (some ⟨g, 0, none⟩)] w fun e w' => e = .returned (.int .i64 (xs.getD i 0)) ∧ Upd 0 0 w w' := by
  obtain ⟨bb, off, rfl, hbl, hcl⟩ := hA (ne_of_lt_length hi)
  have hck := hcl i hi
  have c1 := h.2 1 _ rfl
  have cl := h.1
  generalize xs.getD i 0 = x at hck ⊢
  have k1 : (0 : Int) ≤ (i : Int) := by omega
  have k2 : (i : Int) < (xs.length : Int) := by omega
  clear hcl hbl h hA
  go_enter Try.func107, Try.ntmps107
  go_wp2
  go_ret
  exact ⟨rfl, Upd.refl 0 0 _⟩
set_option maxHeartbeats 2000000 in
theorem implAboveCell (size c i : Int) (v1 : Value) (ad : Option Addr) (cap j g : Nat) (ys : List Int) (w : World) (hj : j < ys.length) (hA : ArgI w ad ys) (h : Held w g [.int .i64 size, v1, .slice ad ys.length cap, .int .i64 c]) :
    Calls Try.prog 108 #[.int .i64 i, .int .i64 (j : Int), .pointer (some ⟨g, 0, none⟩)] w fun e w' => e = .returned (.int .i64 (ys.getD j 0)) ∧ Upd 0 0 w w' := by
  obtain ⟨bb, off, rfl, hbl, hcl⟩ := hA (ne_of_lt_length hj)
  have hck := hcl j hj
  have c2 := h.2 2 _ rfl
  have cl := h.1
  generalize ys.getD j 0 = x at hck ⊢
  have k1 : (0 : Int) ≤ (j : Int) := by omega
  have k2 : (j : Int) < (ys.length : Int) := by omega
  clear hcl hbl h hA
  go_enter Try.func108, Try.ntmps108
  go_wp2
  go_ret
  exact ⟨rfl, Upd.refl 0 0 _⟩
set_option maxHeartbeats 4000000 in
set_option maxRecDepth 100000 in
theorem implSlopeCell (size c : Int) (ad ad' : Option Addr) (cap cap' i j g : Nat) (xs ys : List Int) (w : World) (hi : i < xs.length) (hj : j < ys.length) (hc : 0 ≤ c ∧ c ≤ 255) (hx : InR 0 255 xs) (hy : InR 0 255 ys) (hA : ArgI w ad xs) (hA' : ArgI w ad' ys)
    (h : Held w g [.int .i64 size, .slice ad xs.length cap, .slice ad' ys.length cap', .int .i64 c]) :
    Calls Try.prog 109 #[.int .i64 (i : Int), .int .i64 (j : Int), .pointer (some ⟨g, 0, none⟩)] w fun e w' => e = .returned (.int .i64 (clipF (xs.getD i 0 + ys.getD j 0 - c))) ∧ Upd 0 0 w w' := by
  obtain ⟨bb, off, rfl, hbl, hcl⟩ := hA (ne_of_lt_length hi)
  obtain ⟨bb', off', rfl, hbl', hcl'⟩ := hA' (ne_of_lt_length hj)
  have hck := hcl i hi
  have hck' := hcl' j hj
  have hr := hx i hi
  have hr' := hy j hj
  have c1 := h.2 1 _ rfl
  have c2 := h.2 2 _ rfl
  have c3 := h.2 3 _ rfl
  have cl := h.1
  generalize xs.getD i 0 = x at hck hr ⊢
  generalize ys.getD j 0 = y at hck' hr' ⊢
  obtain ⟨q1, q2⟩ := hr
  obtain ⟨q3, q4⟩ := hr'
  obtain ⟨q5, q6⟩ := hc
  have hC := hide (fun W => implClipSample (x + y - c) W)
  have w1 : IntKind.i64.wrap (x + y) = x + y := by simp [IntKind.wrap, IntKind.bits, IntKind.signed]; omega
  have w2 : IntKind.i64.wrap (x + y - c) = x + y - c := by simp [IntKind.wrap, IntKind.bits, IntKind.signed]; omega
  have k1 : (0 : Int) ≤ (i : Int) := by omega
  have k2 : (i : Int) < (xs.length : Int) := by omega
  have k3 : (0 : Int) ≤ (j : Int) := by omega
  have k4 : (j : Int) < (ys.length : Int) := by omega
  generalize clipF (x + y - c) = z at hC ⊢
  clear hcl hbl h hA hcl' hbl' hA' hx hy
  go_enter Try.func109, Try.ntmps109
  go_upto_region 1 with fail
  refine wp_region_still_lit (by kernel_rfl) (by kernel_rfl) ?_
  iterate 14 still_step
  still_call (unhide hC _)
  still_step
  refine wpStill_nil ?_
  go_wp2
  go_ret
  exact ⟨rfl, (Upd.refl 0 0 w).drewN 1⟩
end Go.Proofs.Ytpofmcepjmbmcaa
