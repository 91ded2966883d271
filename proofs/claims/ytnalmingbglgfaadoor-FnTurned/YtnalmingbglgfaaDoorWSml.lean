/- The specification's Small, and the drawing of a block. -/
import Derived.Test.YtnalmingbglgfaaDoorWDb
import Derived.Test.YtnalmingbglgfaaDoorPlainTn
import Derived.Deep.DeepCutAuto
namespace Go.Proofs.YtnalmingbglgfaaDoor
open Go.RowKit

set_option maxHeartbeats 4000000 in
theorem specDrawForward (ad : Option Addr) (cap : Nat) (zs : List Int) (w : World) (h : ArgB w ad zs) (hl : zs.length ≤ 1048576) :
    Calls Tryd.prog 7 #[.slice ad zs.length cap] w fun e w' => ∃ v xs, e = .returned v ∧ (xs.length = 64 ∨ xs.length = 63) ∧ InR (-32769) 32768 xs ∧ RdI w' v xs ∧ Below w.heap.size w w' := by
  have hS := hide (specL8Drawn ad cap zs w h hl)
  clear h
  go_enter Tryd.func7, Tryd.ntmps7
  go_wp2_with fail
  refine (unhide hS).mono ?_
  rintro e w1 ⟨v, xs, rfl, h1, h2, h3, h7⟩
  obtain ⟨ad3, cap3, rfl, hA3⟩ := h3
  have hr3 := hide (show RdI w1 (.slice ad3 xs.length cap3) xs from ⟨ad3, cap3, rfl, hA3⟩)
  replace h1 := hide h1
  replace h2 := hide h2
  replace h7 := hide h7
  clear hS hA3
  go_wp2
  go_ret
  exact ⟨_, xs, rfl, unhide h1, unhide h2, unhide hr3, unhide h7⟩
theorem smallL_snoc (xs : List Int) (k : Nat) (h : k < xs.length) : smallL (xs.take (k + 1)) = smallL (xs.take k) ++ [(xs.getD k 0).tmod 256] := by
  unfold smallL
  rw [take_snoc_getD xs 0 k h, List.map_append]; rfl
set_option maxHeartbeats 8000000 in
set_option maxRecDepth 100000 in
theorem specSmall (v : Value) (xs : List Int) (w : World) (hn : xs.length ≤ 64) (hR : InR (-32769) 32768 xs) (hv : RdI w v xs) :
    Calls Tryd.prog 6 #[v, .int .i64 255] w fun e w' => ∃ u, e = .returned u ∧ OwnI w' w.heap.size w'.heap.size u (smallL xs) ∧ Upd 0 0 w w' := by
  obtain ⟨ad, cap, rfl, hA⟩ := hv
  replace hA := hide hA
  replace hR := hide hR
  go_enter Tryd.func6, Tryd.ntmps6
  go_wp2
  have hrow0 : Hid (w.ownsRow w.heap.size 3 1 (.slice none 0 0) 0 (ints [])) := hide (World.ownsRow_nil _ _ _ _)
  go_loopw [5, 10] (fun s i wr => ∃ (k : Nat) (ad2 : Option Addr) (cp : Nat) (L : List Int), s = .slice ad2 L.length cp ∧ i = .int .i64 (k : Int) ∧ k ≤ xs.length ∧ Hid (L = smallL (xs.take k)) ∧ Hid (wr.ownsRow w.heap.size 3 1 (.slice ad2 L.length cp) L.length (ints L)) ∧ Hid (Below w.heap.size w wr)) (fun _ i _ => xs.length - (intOf i).toNat)
  case atStart => exact ⟨0, none, 0, [], rfl, rfl, by omega, hide rfl, hrow0, hide (Below.refl _ _)⟩
  case round =>
    clear hrow0
    obtain ⟨k, ad2, cp, L, rfl, rfl, hk, hL, hrow, hbel⟩ := hrel
    by_cases hlt : k < xs.length
    · obtain ⟨bb, off, rfl, hbl, hcl⟩ := (unhide hA) (ne_of_lt_length hlt)
      have hck : wr.cell? ⟨bb, off + k, none⟩ = some (.int .i64 (xs.getD k 0)) := ((unhide hbel).cell (by simpa using hbl)).trans (hcl k hlt)
      have hxb := (unhide hR) k hlt
      have hs : Hid (smallL (xs.take (k + 1)) = L ++ [(xs.getD k 0).tmod 256]) := hide (by rw [unhide hL]; exact smallL_snoc xs k hlt)
      have hln : L.length ≤ 64 := by rw [unhide hL]; unfold smallL; rw [List.length_map, List.length_take]; omega
      clear hcl hbl hL
      generalize xs.getD k 0 = x at hck hxb hs
      obtain ⟨x0, x1⟩ := hxb
      have hxt : -32769 ≤ x.tmod 256 ∧ x.tmod 256 ≤ 32768 := by
        rcases Int.le_total 0 x with h | h
        · rw [Int.tmod_eq_emod_of_nonneg h]; omega
        · have e : x = -(-x) := by omega
          rw [e, Int.neg_tmod, Int.tmod_eq_emod_of_nonneg (by omega)]; omega
      obtain ⟨X, hX⟩ : ∃ X, x.tmod 256 = X := ⟨_, rfl⟩
      rw [hX] at hs hxt
      obtain ⟨y0, y1⟩ := hxt
      have hs2 := hide (unhide hs).symm
      have hu5 := Upd.of_below ((Below.refl wr.heap.size wr).alloc (Nat.le_refl _) (.cells #[.int .i64 X] 3)) 0 0
      have kB5 := hide (below_upd (unhide hbel) hu5 (Nat.le_refl _) (.inr (Nat.le_refl _)))
      have hO5 := hide ((Own.of (unhide hrow)).keep hu5).1
      have hnk := heldF_new wr [.int .i64 X] 3
      have hrn : Hid (RdJ (wr.alloc (.cells #[.int .i64 X] 3)) (.slice (some ⟨wr.heap.size, 0, none⟩) 1 1) [X]) := hide (.inr ⟨wr.heap.size, 0, 1, rfl, by simp, fun j hj => by
        have hj0 : j = 0 := by simp at hj; omega
        subst hj0
        exact hnk.1.2 0 _ rfl⟩)
      have hsz : w.heap.size ≤ wr.heap.size := (unhide hbel).size
      clear hu5 hnk hrow hs
      go_upto_region 5 with fail
      go_wp2_with (at_builtin; go_loud (refine wpList_appI rfl (.tmp 14) (.tmp 19) rfl w.heap.size (.slice ad2 L.length cp) L rfl (unhide hO5) _ [X] rfl (unhide hrn) (by simp; omega) (by simp; omega) ?_; intro v6 w6 ho6 hg6 _; have hu6 := upd_of_grownI hg6 (unhide hO5); have kB6 := hide (below_upd (unhide kB5) hu6 (Nat.le_refl _) (.inl (Nat.le_refl _))); obtain ⟨ad6, cp6, rfl, _⟩ := readK_of_own (Own.of ho6); replace ho6 := hide ho6; clear hu6 hg6))
      go_roundw
      case rel => exact ⟨k + 1, ad6, cp6, L ++ [X], by simp, by go_num, by omega, hs2, ho6, kB6⟩
      case measure => simp [intOf]; omega
    · have hkl : k = xs.length := by omega
      subst hkl
      have ho := hide (Own.of (unhide hrow))
      have hL2 : Hid (L = smallL xs) := hide (by rw [unhide hL, List.take_length])
      go_wp2
      go_ret
      exact ⟨_, rfl, by rw [← unhide hL2]; exact unhide ho, Upd.of_below (unhide hbel) 0 0⟩
end Go.Proofs.YtnalmingbglgfaaDoor
