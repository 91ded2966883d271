/- Guesses: the program's four guesses. -/
import Derived.Test.YtpofmcepjmbmcaaWGuM
namespace Go.Proofs.Ytpofmcepjmbmcaa
open Go.RowKit

theorem HeldF.belowG {B g : Nat} {cs : List Value} {w w' : World} (h : HeldF w g cs) (hb : Below B w w') (hg : g < B) : HeldF w' g cs := by
  have e := hb.block g hg
  exact ⟨⟨Nat.lt_of_lt_of_le h.1.1 hb.size, fun j u hj => (World.cell?_of_block (a := ⟨g, j, none⟩) e).trans (h.1.2 j u hj)⟩, fun j => (World.frozen?_of_block (a := ⟨g, j, none⟩) e).trans (h.2 j)⟩
set_option maxHeartbeats 8000000 in
set_option maxRecDepth 100000 in
theorem implGuessLeft (S : Nat) (c : Int) (ad ad2 : Option Addr) (cap cap2 : Nat) (xs ys : List Int) (w : World) (hS : S = 4 ∨ S = 8) (h1 : xs.length = S) (hA : ArgI w ad xs)  :
    Calls Try.prog 63 #[.agg #[.int .i64 (S : Int), .slice ad xs.length cap, .slice ad2 ys.length cap2, .int .i64 c]] w fun e w' => ∃ v, e = .returned v ∧ OwnI w' w.heap.size w'.heap.size v (cellsTo (fun q => xs.getD (q / S) 0) (S * S)) ∧ Upd 0 0 w w' := by
  have hB0 := (Below.refl w.heap.size w).alloc (Nat.le_refl _) (.cells #[.int .i64 (S : Int), .slice ad xs.length cap, .slice ad2 ys.length cap2, .int .i64 c] 94)
  have hsz : (w.alloc (.cells #[.int .i64 (S : Int), .slice ad xs.length cap, .slice ad2 ys.length cap2, .int .i64 c] 94)).heap.size = w.heap.size + 1 := by simp
  have hcs := heldF_new w [.int .i64 (S : Int), .slice ad xs.length cap, .slice ad2 ys.length cap2, .int .i64 c] 94
  change HeldF (w.alloc (.cells #[.int .i64 (S : Int), .slice ad xs.length cap, .slice ad2 ys.length cap2, .int .i64 c] 94)) _ _ at hcs
  replace hA := hA.below hB0

  have hC := implFilled S 107 c (.slice ad xs.length cap) (.slice ad2 ys.length cap2) (.pointer (some ⟨w.heap.size, 0, none⟩)) (fun q => xs.getD (q / S) 0) _ hS (fun a b W => by kernel_rfl) (fun W i j hW hi hj => by
    have e1 : (i * S + j) / S = i := by rw [Nat.mul_comm, Nat.mul_add_div (by omega), Nat.div_eq_of_lt hj]; rfl
    
    simp only [e1]
    exact (implLeftCell (S : Int) c (j : Int) (.slice ad2 ys.length cap2) ad cap i w.heap.size xs W (by omega) (hA.below hW) (hcs.belowG hW (by omega)).1))
  replace hC := hide hC
  have hU := hide (Upd.of_below hB0 0 0)
  replace hsz := hide hsz
  have t1 : ((xs.length : Int) == 0) = false := beq_eq_false_iff_ne.2 (by omega)
  have c0 := hcs.1.2 0 _ rfl
  have c1 := hcs.1.2 1 _ rfl
  have c2 := hcs.1.2 2 _ rfl
  have c3 := hcs.1.2 3 _ rfl
  have cl := hcs.1.1
  clear hB0 hcs hA  h1  hS
  go_enter Try.func63, Try.ntmps63
  go_wp2_with fail
  refine (unhide hC).mono ?_
  rintro e w2 ⟨v, rfl, ho, hu⟩
  have ho2 := hide (own_mono (a' := w.heap.size) ho (by rw [unhide hsz]; omega) (Nat.le_refl _))
  have hu2 := hide ((unhide hU).trans hu)
  clear ho hu hC
  go_wp2
  go_ret
  exact ⟨_, rfl, unhide ho2, unhide hu2⟩
set_option maxHeartbeats 8000000 in
set_option maxRecDepth 100000 in
theorem implGuessAbove (S : Nat) (c : Int) (ad ad2 : Option Addr) (cap cap2 : Nat) (xs ys : List Int) (w : World) (hS : S = 4 ∨ S = 8) (h2 : ys.length = S)  (hA2 : ArgI w ad2 ys) :
    Calls Try.prog 64 #[.agg #[.int .i64 (S : Int), .slice ad xs.length cap, .slice ad2 ys.length cap2, .int .i64 c]] w fun e w' => ∃ v, e = .returned v ∧ OwnI w' w.heap.size w'.heap.size v (cellsTo (fun q => ys.getD (q % S) 0) (S * S)) ∧ Upd 0 0 w w' := by
  have hB0 := (Below.refl w.heap.size w).alloc (Nat.le_refl _) (.cells #[.int .i64 (S : Int), .slice ad xs.length cap, .slice ad2 ys.length cap2, .int .i64 c] 94)
  have hsz : (w.alloc (.cells #[.int .i64 (S : Int), .slice ad xs.length cap, .slice ad2 ys.length cap2, .int .i64 c] 94)).heap.size = w.heap.size + 1 := by simp
  have hcs := heldF_new w [.int .i64 (S : Int), .slice ad xs.length cap, .slice ad2 ys.length cap2, .int .i64 c] 94
  change HeldF (w.alloc (.cells #[.int .i64 (S : Int), .slice ad xs.length cap, .slice ad2 ys.length cap2, .int .i64 c] 94)) _ _ at hcs

  replace hA2 := hA2.below hB0
  have hC := implFilled S 108 c (.slice ad xs.length cap) (.slice ad2 ys.length cap2) (.pointer (some ⟨w.heap.size, 0, none⟩)) (fun q => ys.getD (q % S) 0) _ hS (fun a b W => by kernel_rfl) (fun W i j hW hi hj => by
    
    have e2 : (i * S + j) % S = j := by rw [Nat.mul_comm, Nat.mul_add_mod, Nat.mod_eq_of_lt hj]
    simp only [e2]
    exact (implAboveCell (S : Int) c (i : Int) (.slice ad xs.length cap) ad2 cap2 j w.heap.size ys W (by omega) (hA2.below hW) (hcs.belowG hW (by omega)).1))
  replace hC := hide hC
  have hU := hide (Upd.of_below hB0 0 0)
  replace hsz := hide hsz
  have t1 : ((ys.length : Int) == 0) = false := beq_eq_false_iff_ne.2 (by omega)
  have c0 := hcs.1.2 0 _ rfl
  have c1 := hcs.1.2 1 _ rfl
  have c2 := hcs.1.2 2 _ rfl
  have c3 := hcs.1.2 3 _ rfl
  have cl := hcs.1.1
  clear hB0 hcs  hA2  h2 hS
  go_enter Try.func64, Try.ntmps64
  go_wp2_with fail
  refine (unhide hC).mono ?_
  rintro e w2 ⟨v, rfl, ho, hu⟩
  have ho2 := hide (own_mono (a' := w.heap.size) ho (by rw [unhide hsz]; omega) (Nat.le_refl _))
  have hu2 := hide ((unhide hU).trans hu)
  clear ho hu hC
  go_wp2
  go_ret
  exact ⟨_, rfl, unhide ho2, unhide hu2⟩
set_option maxHeartbeats 8000000 in
set_option maxRecDepth 100000 in
theorem implGuessSlope (S : Nat) (c : Int) (ad ad2 : Option Addr) (cap cap2 : Nat) (xs ys : List Int) (w : World) (hS : S = 4 ∨ S = 8) (h1 : xs.length = S) (h2 : ys.length = S) (hc : 0 ≤ c ∧ c ≤ 255) (hx : InR 0 255 xs) (hy : InR 0 255 ys) (hA : ArgI w ad xs) (hA2 : ArgI w ad2 ys) :
    Calls Try.prog 65 #[.agg #[.int .i64 (S : Int), .slice ad xs.length cap, .slice ad2 ys.length cap2, .int .i64 c]] w fun e w' => ∃ v, e = .returned v ∧ OwnI w' w.heap.size w'.heap.size v (cellsTo (fun q => clipF (xs.getD (q / S) 0 + ys.getD (q % S) 0 - c)) (S * S)) ∧ Upd 0 0 w w' := by
  have hB0 := (Below.refl w.heap.size w).alloc (Nat.le_refl _) (.cells #[.int .i64 (S : Int), .slice ad xs.length cap, .slice ad2 ys.length cap2, .int .i64 c] 94)
  have hsz : (w.alloc (.cells #[.int .i64 (S : Int), .slice ad xs.length cap, .slice ad2 ys.length cap2, .int .i64 c] 94)).heap.size = w.heap.size + 1 := by simp
  have hcs := heldF_new w [.int .i64 (S : Int), .slice ad xs.length cap, .slice ad2 ys.length cap2, .int .i64 c] 94
  change HeldF (w.alloc (.cells #[.int .i64 (S : Int), .slice ad xs.length cap, .slice ad2 ys.length cap2, .int .i64 c] 94)) _ _ at hcs
  replace hA := hA.below hB0
  replace hA2 := hA2.below hB0
  have hC := implFilled S 109 c (.slice ad xs.length cap) (.slice ad2 ys.length cap2) (.pointer (some ⟨w.heap.size, 0, none⟩)) (fun q => clipF (xs.getD (q / S) 0 + ys.getD (q % S) 0 - c)) _ hS (fun a b W => by kernel_rfl) (fun W i j hW hi hj => by
    have e1 : (i * S + j) / S = i := by rw [Nat.mul_comm, Nat.mul_add_div (by omega), Nat.div_eq_of_lt hj]; rfl
    have e2 : (i * S + j) % S = j := by rw [Nat.mul_comm, Nat.mul_add_mod, Nat.mod_eq_of_lt hj]
    simp only [e1, e2]
    exact (implSlopeCell (S : Int) c ad ad2 cap cap2 i j w.heap.size xs ys W (by omega) (by omega) hc hx hy (hA.below hW) (hA2.below hW) (hcs.belowG hW (by omega)).1))
  replace hC := hide hC
  have hU := hide (Upd.of_below hB0 0 0)
  replace hsz := hide hsz
  have t1 : ((xs.length : Int) == 0) = false := beq_eq_false_iff_ne.2 (by omega)
  have t2 : ((ys.length : Int) == 0) = false := beq_eq_false_iff_ne.2 (by omega)
  have c0 := hcs.1.2 0 _ rfl
  have c1 := hcs.1.2 1 _ rfl
  have c2 := hcs.1.2 2 _ rfl
  have c3 := hcs.1.2 3 _ rfl
  have cl := hcs.1.1
  clear hB0 hcs hA hA2 h1 h2 hS
  go_enter Try.func65, Try.ntmps65
  go_wp2_with fail
  refine (unhide hC).mono ?_
  rintro e w2 ⟨v, rfl, ho, hu⟩
  have ho2 := hide (own_mono (a' := w.heap.size) ho (by rw [unhide hsz]; omega) (Nat.le_refl _))
  have hu2 := hide ((unhide hU).trans hu)
  clear ho hu hC
  go_wp2
  go_ret
  exact ⟨_, rfl, unhide ho2, unhide hu2⟩
end Go.Proofs.Ytpofmcepjmbmcaa
