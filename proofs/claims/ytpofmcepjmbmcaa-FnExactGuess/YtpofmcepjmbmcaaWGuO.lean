/- Guesses: the program's guesses that lack what they need, and the mean. -/
import Derived.Test.YtpofmcepjmbmcaaWGuN
import Derived.Test.YtpofmcepjmbmcaaWGuJ
namespace Go.Proofs.Ytpofmcepjmbmcaa
open Go.RowKit

set_option maxHeartbeats 4000000 in
set_option maxRecDepth 100000 in
theorem implGuessLeftNo (S c : Int) (ad ad2 : Option Addr) (cap cap2 : Nat) (xs ys : List Int) (w : World) (h : xs.length = 0) :
    Calls Try.prog 63 #[.agg #[.int .i64 S, .slice ad xs.length cap, .slice ad2 ys.length cap2, .int .i64 c]] w fun e w' => e = .returned (.slice none 0 0) ∧ Upd 0 0 w w' := by
  have hU := hide (Upd.of_below ((Below.refl w.heap.size w).alloc (Nat.le_refl _) (.cells #[.int .i64 S, .slice ad xs.length cap, .slice ad2 ys.length cap2, .int .i64 c] 94)) 0 0)
  have hcs := heldF_new w [.int .i64 S, .slice ad xs.length cap, .slice ad2 ys.length cap2, .int .i64 c] 94
  change HeldF (w.alloc (.cells #[.int .i64 S, .slice ad xs.length cap, .slice ad2 ys.length cap2, .int .i64 c] 94)) _ _ at hcs
  have t1 : ((xs.length : Int) == 0) = true := by rw [beq_iff_eq]; omega
  have c1 := hcs.1.2 1 _ rfl
  have c2 := hcs.1.2 2 _ rfl
  have cl := hcs.1.1
  clear hcs h
  go_enter Try.func63, Try.ntmps63
  go_wp2
  go_ret
  exact ⟨rfl, unhide hU⟩
set_option maxHeartbeats 4000000 in
set_option maxRecDepth 100000 in
theorem implGuessAboveNo (S c : Int) (ad ad2 : Option Addr) (cap cap2 : Nat) (xs ys : List Int) (w : World) (h : ys.length = 0) :
    Calls Try.prog 64 #[.agg #[.int .i64 S, .slice ad xs.length cap, .slice ad2 ys.length cap2, .int .i64 c]] w fun e w' => e = .returned (.slice none 0 0) ∧ Upd 0 0 w w' := by
  have hU := hide (Upd.of_below ((Below.refl w.heap.size w).alloc (Nat.le_refl _) (.cells #[.int .i64 S, .slice ad xs.length cap, .slice ad2 ys.length cap2, .int .i64 c] 94)) 0 0)
  have hcs := heldF_new w [.int .i64 S, .slice ad xs.length cap, .slice ad2 ys.length cap2, .int .i64 c] 94
  change HeldF (w.alloc (.cells #[.int .i64 S, .slice ad xs.length cap, .slice ad2 ys.length cap2, .int .i64 c] 94)) _ _ at hcs
  have t1 : ((ys.length : Int) == 0) = true := by rw [beq_iff_eq]; omega
  have c1 := hcs.1.2 1 _ rfl
  have c2 := hcs.1.2 2 _ rfl
  have cl := hcs.1.1
  clear hcs h
  go_enter Try.func64, Try.ntmps64
  go_wp2
  go_ret
  exact ⟨rfl, unhide hU⟩
set_option maxHeartbeats 4000000 in
set_option maxRecDepth 100000 in
theorem implGuessSlopeANo (S c : Int) (ad ad2 : Option Addr) (cap cap2 : Nat) (xs ys : List Int) (w : World) (h : xs.length = 0) :
    Calls Try.prog 65 #[.agg #[.int .i64 S, .slice ad xs.length cap, .slice ad2 ys.length cap2, .int .i64 c]] w fun e w' => e = .returned (.slice none 0 0) ∧ Upd 0 0 w w' := by
  have hU := hide (Upd.of_below ((Below.refl w.heap.size w).alloc (Nat.le_refl _) (.cells #[.int .i64 S, .slice ad xs.length cap, .slice ad2 ys.length cap2, .int .i64 c] 94)) 0 0)
  have hcs := heldF_new w [.int .i64 S, .slice ad xs.length cap, .slice ad2 ys.length cap2, .int .i64 c] 94
  change HeldF (w.alloc (.cells #[.int .i64 S, .slice ad xs.length cap, .slice ad2 ys.length cap2, .int .i64 c] 94)) _ _ at hcs
  have t1 : ((xs.length : Int) == 0) = true := by rw [beq_iff_eq]; omega
  have c1 := hcs.1.2 1 _ rfl
  have c2 := hcs.1.2 2 _ rfl
  have cl := hcs.1.1
  clear hcs h
  go_enter Try.func65, Try.ntmps65
  go_wp2
  go_ret
  exact ⟨rfl, unhide hU⟩
set_option maxHeartbeats 4000000 in
set_option maxRecDepth 100000 in
theorem implGuessSlopeBNo (S c : Int) (ad ad2 : Option Addr) (cap cap2 : Nat) (xs ys : List Int) (w : World) (h0 : ¬ xs.length = 0) (h : ys.length = 0) :
    Calls Try.prog 65 #[.agg #[.int .i64 S, .slice ad xs.length cap, .slice ad2 ys.length cap2, .int .i64 c]] w fun e w' => e = .returned (.slice none 0 0) ∧ Upd 0 0 w w' := by
  have hU := hide (Upd.of_below ((Below.refl w.heap.size w).alloc (Nat.le_refl _) (.cells #[.int .i64 S, .slice ad xs.length cap, .slice ad2 ys.length cap2, .int .i64 c] 94)) 0 0)
  have hcs := heldF_new w [.int .i64 S, .slice ad xs.length cap, .slice ad2 ys.length cap2, .int .i64 c] 94
  change HeldF (w.alloc (.cells #[.int .i64 S, .slice ad xs.length cap, .slice ad2 ys.length cap2, .int .i64 c] 94)) _ _ at hcs
  have t0 : ((xs.length : Int) == 0) = false := beq_eq_false_iff_ne.2 (by omega)
  clear h0
  have t1 : ((ys.length : Int) == 0) = true := by rw [beq_iff_eq]; omega
  have c1 := hcs.1.2 1 _ rfl
  have c2 := hcs.1.2 2 _ rfl
  have cl := hcs.1.1
  clear hcs h
  go_enter Try.func65, Try.ntmps65
  go_wp2
  go_ret
  exact ⟨rfl, unhide hU⟩
set_option maxHeartbeats 8000000 in
set_option maxRecDepth 100000 in
theorem implGuessMean (S : Nat) (c : Int) (ad ad2 : Option Addr) (cap cap2 : Nat) (xs ys : List Int) (w : World) (hS : S = 4 ∨ S = 8) (hl : xs.length ≤ 8) (hl2 : ys.length ≤ 8) (hx : InR 0 255 xs) (hy : InR 0 255 ys) (hv : RdX w (.slice ad xs.length cap) xs) (hv2 : RdX w (.slice ad2 ys.length cap2) ys) :
    Calls Try.prog 62 #[.agg #[.int .i64 (S : Int), .slice ad xs.length cap, .slice ad2 ys.length cap2, .int .i64 c]] w fun e w' => ∃ v, e = .returned v ∧ OwnI w' w.heap.size w'.heap.size v (cellsTo (fun _ => guMean xs ys) (S * S)) ∧ Upd 0 0 w w' := by
  have hB0 := hide ((Below.refl w.heap.size w).alloc (Nat.le_refl _) (.cells #[.int .i64 (S : Int), .slice ad xs.length cap, .slice ad2 ys.length cap2, .int .i64 c] 94))
  have hcs := hide (heldF_new w [.int .i64 (S : Int), .slice ad xs.length cap, .slice ad2 ys.length cap2, .int .i64 c] 94)
  have hM := hide (fun W (hW : Below w.heap.size w W) => implMeanAround (S : Int) c (.slice ad xs.length cap) (.slice ad2 ys.length cap2) xs ys W hl hl2 hx hy (hv.below hW) (hv2.below hW))
  generalize guMean xs ys = r at hM ⊢
  clear hl hl2 hx hy hv hv2
  go_enter Try.func62, Try.ntmps62
  go_upto_region 1 with fail
  change Hid (HeldF (w.alloc (.cells #[.int .i64 (S : Int), .slice ad xs.length cap, .slice ad2 ys.length cap2, .int .i64 c] 94)) w.heap.size _) at hcs
  generalize w.alloc (.cells #[.int .i64 (S : Int), .slice ad xs.length cap, .slice ad2 ys.length cap2, .int .i64 c] 94) = w1 at hB0 hcs ⊢
  generalize hgf : w.heap.size = gf at hcs ⊢
  replace hgf := hide hgf
  have c0 := (unhide hcs).1.2 0 _ rfl
  have c1 := (unhide hcs).1.2 1 _ rfl
  have c2 := (unhide hcs).1.2 2 _ rfl
  have c3 := (unhide hcs).1.2 3 _ rfl
  have cl := (unhide hcs).1.1
  go_wp2_with fail
  refine (unhide hM _ (unhide hB0)).mono ?_
  rintro e w2 ⟨rfl, hu⟩
  replace hcs := hide ((unhide hcs).keep hu)
  replace hB0 := hide (below_upd (unhide hB0) hu (Nat.le_refl _) (.inr (Nat.zero_le _)))
  clear c0 c1 c2 c3 cl hM hu
  go_upto_region 2 with fail
  have hu3 := Upd.of_below ((Below.refl w2.heap.size w2).alloc (Nat.le_refl _) (.cells #[.int .i64 r] 3)) 0 0
  have hr := heldF_new w2 [.int .i64 r] 3
  change HeldF (w2.alloc (.cells #[.int .i64 r] 3)) _ _ at hr
  replace hcs := hide ((unhide hcs).keep hu3)
  have hB3 := hide (below_upd (unhide hB0) hu3 (Nat.le_refl _) (.inr (Nat.zero_le _)))
  clear hB0 hu3
  generalize w2.alloc (.cells #[.int .i64 r] 3) = w3 at hr hcs hB3 ⊢
  generalize w2.heap.size = g3 at hr ⊢
  have hC := hide (implFilled S 106 c (.slice ad xs.length cap) (.slice ad2 ys.length cap2) (.pointer (some ⟨g3, 0, none⟩)) (fun _ => r) w3 hS (fun a b W => by kernel_rfl) (fun W i j hW _ _ => implMeanCell (i : Int) (j : Int) r g3 W ((hr.belowG hW hr.1.1).1.2 0 _ rfl)))
  have c0 := (unhide hcs).1.2 0 _ rfl
  have c1 := (unhide hcs).1.2 1 _ rfl
  have c2 := (unhide hcs).1.2 2 _ rfl
  have c3 := (unhide hcs).1.2 3 _ rfl
  have cl := (unhide hcs).1.1
  clear hr hS hcs
  go_wp2_with fail
  refine (unhide hC).mono ?_
  rintro e w4 ⟨v, rfl, ho, hu⟩
  have hsz := (unhide hB3).size
  have ho2 := hide (own_mono (a' := w.heap.size) ho hsz (Nat.le_refl _))
  have hu2 := hide ((Upd.of_below (unhide hB3) 0 0).trans hu)
  clear ho hu hC hsz c0 c1 c2 c3 cl
  go_wp2
  go_ret
  exact ⟨_, rfl, unhide ho2, unhide hu2⟩
end Go.Proofs.Ytpofmcepjmbmcaa
