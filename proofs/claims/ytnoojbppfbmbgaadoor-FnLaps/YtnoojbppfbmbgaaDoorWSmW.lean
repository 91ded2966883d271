/- The specification's Small of drawn samples. -/
import Derived.Test.YtnoojbppfbmbgaaDoorPlainLi
import Derived.Test.YtnoojbppfbmbgaaDoorWAppI
import Derived.Test.YtnoojbppfbmbgaaDoorWHeld
import Derived.Test.YtnoojbppfbmbgaaDoorWOwn2
import Derived.Deep.DeepCutAuto
namespace Go.Proofs.YtnoojbppfbmbgaaDoor
open Go.RowKit

def smallWA (xs : List Int) : List Int := xs.map (fun n => n.tmod 8192)
theorem smallWA_snoc (xs : List Int) (k : Nat) (h : k < xs.length) : smallWA (xs.take (k + 1)) = smallWA (xs.take k) ++ [(xs.getD k 0).tmod 8192] := by
  unfold smallWA
  rw [take_snoc_getD xs 0 k h, List.map_append]; rfl
set_option maxHeartbeats 8000000 in
set_option maxRecDepth 100000 in
theorem specSmallWA (v : Value) (xs : List Int) (w : World) (hn : xs.length ≤ 64) (hR : InR (-33554432) 33554432 xs) (hv : RdI w v xs) :
    Calls Tryd.prog 10 #[v, .int .i64 8191] w fun e w' => ∃ u, e = .returned u ∧ OwnI w' w.heap.size w'.heap.size u (smallWA xs) ∧ Upd 0 0 w w' := by
  obtain ⟨ad, cap, rfl, hA⟩ := hv
  replace hA := hide hA
  replace hR := hide hR
  go_enter Tryd.func10, Tryd.ntmps10
  go_wp2
  have hrow0 : Hid (w.ownsRow w.heap.size 3 1 (.slice none 0 0) 0 (ints [])) := hide (World.ownsRow_nil _ _ _ _)
  go_loopw [5, 10] (fun s i wr => ∃ (k : Nat) (ad2 : Option Addr) (cp : Nat) (L : List Int), s = .slice ad2 L.length cp ∧ i = .int .i64 (k : Int) ∧ k ≤ xs.length ∧ Hid (L = smallWA (xs.take k)) ∧ Hid (wr.ownsRow w.heap.size 3 1 (.slice ad2 L.length cp) L.length (ints L)) ∧ Hid (Below w.heap.size w wr)) (fun _ i _ => xs.length - (intOf i).toNat)
  case atStart => exact ⟨0, none, 0, [], rfl, rfl, by omega, hide rfl, hrow0, hide (Below.refl _ _)⟩
  case round =>
    clear hrow0
    obtain ⟨k, ad2, cp, L, rfl, rfl, hk, hL, hrow, hbel⟩ := hrel
    by_cases hlt : k < xs.length
    · obtain ⟨bb, off, rfl, hbl, hcl⟩ := (unhide hA) (ne_of_lt_length hlt)
      have hck : wr.cell? ⟨bb, off + k, none⟩ = some (.int .i64 (xs.getD k 0)) := ((unhide hbel).cell (by simpa using hbl)).trans (hcl k hlt)
      have hxb := (unhide hR) k hlt
      have hs : Hid (smallWA (xs.take (k + 1)) = L ++ [(xs.getD k 0).tmod 8192]) := hide (by rw [unhide hL]; exact smallWA_snoc xs k hlt)
      have hln : L.length ≤ 64 := by rw [unhide hL]; unfold smallWA; rw [List.length_map, List.length_take]; omega
      clear hcl hbl hL
      generalize xs.getD k 0 = x at hck hxb hs
      obtain ⟨x0, x1⟩ := hxb
      have hxt : -33554432 ≤ x.tmod 8192 ∧ x.tmod 8192 ≤ 33554432 := by
        rcases Int.le_total 0 x with h | h
        · rw [Int.tmod_eq_emod_of_nonneg h]; omega
        · have e : x = -(-x) := by omega
          rw [e, Int.neg_tmod, Int.tmod_eq_emod_of_nonneg (by omega)]; omega
      obtain ⟨X, hX⟩ : ∃ X, x.tmod 8192 = X := ⟨_, rfl⟩
      rw [hX] at hs hxt
      obtain ⟨y0, y1⟩ := hxt
      have hs2 := hide (unhide hs).symm
      have hu5 := Upd.of_below ((Below.refl wr.heap.size wr).alloc (Nat.le_refl _) (.cells #[.int .i64 X] 3)) 0 0
      have kB5 := hide (below_upd (unhide hbel) hu5 (Nat.le_refl _) (.inr (Nat.le_refl _)))
      have hO5 := hide ((Own.of (unhide hrow)).keep hu5).1
      have hnk := heldF_new wr [.int .i64 X] 3
      have hrn : Hid (RdJ (wr.alloc (.cells #[.int .i64 X] 3)) (.slice (some ⟨wr.heap.size, 0, none⟩) 1 1) [X]) := hide (.inr ⟨wr.heap.size, 0, 1, rfl, by simp, fun j hj => by
        have hj0 : j = 0 := by simp at hj; omega
        subst hj0
        exact hnk.1.2 0 _ rfl⟩)
      have hsz : w.heap.size ≤ wr.heap.size := (unhide hbel).size
      clear hu5 hnk hrow hs
      go_upto_region 5 with fail
      go_wp2_with (at_builtin; go_loud (refine wpList_appI rfl (.tmp 14) (.tmp 19) rfl w.heap.size (.slice ad2 L.length cp) L rfl (unhide hO5) _ [X] rfl (unhide hrn) (by simp; omega) (by simp; omega) ?_; intro v6 w6 ho6 hg6 _; have hu6 := upd_of_grownI hg6 (unhide hO5); have kB6 := hide (below_upd (unhide kB5) hu6 (Nat.le_refl _) (.inl (Nat.le_refl _))); obtain ⟨ad6, cp6, rfl, _⟩ := readK_of_own (Own.of ho6); replace ho6 := hide ho6; clear hu6 hg6))
      go_roundw
      case rel => exact ⟨k + 1, ad6, cp6, L ++ [X], by simp, by go_num, by omega, hs2, ho6, kB6⟩
      case measure => simp [intOf]; omega
    · have hkl : k = xs.length := by omega
      subst hkl
      have ho := hide (Own.of (unhide hrow))
      have hL2 : Hid (L = smallWA xs) := hide (by rw [unhide hL, List.take_length])
      go_wp2
      go_ret
      exact ⟨_, rfl, by rw [← unhide hL2]; exact unhide ho, Upd.of_below (unhide hbel) 0 0⟩
def smallWB (xs : List Int) : List Int := xs.map (fun n => n.tmod 16384)
theorem smallWB_snoc (xs : List Int) (k : Nat) (h : k < xs.length) : smallWB (xs.take (k + 1)) = smallWB (xs.take k) ++ [(xs.getD k 0).tmod 16384] := by
  unfold smallWB
  rw [take_snoc_getD xs 0 k h, List.map_append]; rfl
set_option maxHeartbeats 8000000 in
set_option maxRecDepth 100000 in
theorem specSmallWB (v : Value) (xs : List Int) (w : World) (hn : xs.length ≤ 64) (hR : InR (-33554432) 33554432 xs) (hv : RdI w v xs) :
    Calls Tryd.prog 10 #[v, .int .i64 16383] w fun e w' => ∃ u, e = .returned u ∧ OwnI w' w.heap.size w'.heap.size u (smallWB xs) ∧ Upd 0 0 w w' := by
  obtain ⟨ad, cap, rfl, hA⟩ := hv
  replace hA := hide hA
  replace hR := hide hR
  go_enter Tryd.func10, Tryd.ntmps10
  go_wp2
  have hrow0 : Hid (w.ownsRow w.heap.size 3 1 (.slice none 0 0) 0 (ints [])) := hide (World.ownsRow_nil _ _ _ _)
  go_loopw [5, 10] (fun s i wr => ∃ (k : Nat) (ad2 : Option Addr) (cp : Nat) (L : List Int), s = .slice ad2 L.length cp ∧ i = .int .i64 (k : Int) ∧ k ≤ xs.length ∧ Hid (L = smallWB (xs.take k)) ∧ Hid (wr.ownsRow w.heap.size 3 1 (.slice ad2 L.length cp) L.length (ints L)) ∧ Hid (Below w.heap.size w wr)) (fun _ i _ => xs.length - (intOf i).toNat)
  case atStart => exact ⟨0, none, 0, [], rfl, rfl, by omega, hide rfl, hrow0, hide (Below.refl _ _)⟩
  case round =>
    clear hrow0
    obtain ⟨k, ad2, cp, L, rfl, rfl, hk, hL, hrow, hbel⟩ := hrel
    by_cases hlt : k < xs.length
    · obtain ⟨bb, off, rfl, hbl, hcl⟩ := (unhide hA) (ne_of_lt_length hlt)
      have hck : wr.cell? ⟨bb, off + k, none⟩ = some (.int .i64 (xs.getD k 0)) := ((unhide hbel).cell (by simpa using hbl)).trans (hcl k hlt)
      have hxb := (unhide hR) k hlt
      have hs : Hid (smallWB (xs.take (k + 1)) = L ++ [(xs.getD k 0).tmod 16384]) := hide (by rw [unhide hL]; exact smallWB_snoc xs k hlt)
      have hln : L.length ≤ 64 := by rw [unhide hL]; unfold smallWB; rw [List.length_map, List.length_take]; omega
      clear hcl hbl hL
      generalize xs.getD k 0 = x at hck hxb hs
      obtain ⟨x0, x1⟩ := hxb
      have hxt : -33554432 ≤ x.tmod 16384 ∧ x.tmod 16384 ≤ 33554432 := by
        rcases Int.le_total 0 x with h | h
        · rw [Int.tmod_eq_emod_of_nonneg h]; omega
        · have e : x = -(-x) := by omega
          rw [e, Int.neg_tmod, Int.tmod_eq_emod_of_nonneg (by omega)]; omega
      obtain ⟨X, hX⟩ : ∃ X, x.tmod 16384 = X := ⟨_, rfl⟩
      rw [hX] at hs hxt
      obtain ⟨y0, y1⟩ := hxt
      have hs2 := hide (unhide hs).symm
      have hu5 := Upd.of_below ((Below.refl wr.heap.size wr).alloc (Nat.le_refl _) (.cells #[.int .i64 X] 3)) 0 0
      have kB5 := hide (below_upd (unhide hbel) hu5 (Nat.le_refl _) (.inr (Nat.le_refl _)))
      have hO5 := hide ((Own.of (unhide hrow)).keep hu5).1
      have hnk := heldF_new wr [.int .i64 X] 3
      have hrn : Hid (RdJ (wr.alloc (.cells #[.int .i64 X] 3)) (.slice (some ⟨wr.heap.size, 0, none⟩) 1 1) [X]) := hide (.inr ⟨wr.heap.size, 0, 1, rfl, by simp, fun j hj => by
        have hj0 : j = 0 := by simp at hj; omega
        subst hj0
        exact hnk.1.2 0 _ rfl⟩)
      have hsz : w.heap.size ≤ wr.heap.size := (unhide hbel).size
      clear hu5 hnk hrow hs
      go_upto_region 5 with fail
      go_wp2_with (at_builtin; go_loud (refine wpList_appI rfl (.tmp 14) (.tmp 19) rfl w.heap.size (.slice ad2 L.length cp) L rfl (unhide hO5) _ [X] rfl (unhide hrn) (by simp; omega) (by simp; omega) ?_; intro v6 w6 ho6 hg6 _; have hu6 := upd_of_grownI hg6 (unhide hO5); have kB6 := hide (below_upd (unhide kB5) hu6 (Nat.le_refl _) (.inl (Nat.le_refl _))); obtain ⟨ad6, cp6, rfl, _⟩ := readK_of_own (Own.of ho6); replace ho6 := hide ho6; clear hu6 hg6))
      go_roundw
      case rel => exact ⟨k + 1, ad6, cp6, L ++ [X], by simp, by go_num, by omega, hs2, ho6, kB6⟩
      case measure => simp [intOf]; omega
    · have hkl : k = xs.length := by omega
      subst hkl
      have ho := hide (Own.of (unhide hrow))
      have hL2 : Hid (L = smallWB xs) := hide (by rw [unhide hL, List.take_length])
      go_wp2
      go_ret
      exact ⟨_, rfl, by rw [← unhide hL2]; exact unhide ho, Upd.of_below (unhide hbel) 0 0⟩
end Go.Proofs.YtnoojbppfbmbgaaDoor
