/- Guess answers as the specification at every mode, size, column, row and corner, and writes into neither list: the guesses by modes, the law, the row. -/
import Derived.Test.YtpofmcepjmbmcaaWGuN
import Derived.Test.YtpofmcepjmbmcaaWGuJ
import Derived.Test.YtpofmcepjmbmcaaWGuC
import Derived.ProofKit
import Derived.Test.YtpofmcepjmbmcaaPOpen
namespace Go.Proofs.Ytpofmcepjmbmcaa
open Go.RowKit

set_option maxHeartbeats 4000000 in
set_option maxRecDepth 100000 in
theorem implGuessLeftNo (S c : Int) (ad ad2 : Option Addr) (cap cap2 : Nat) (xs ys : List Int) (w : World) (h : xs.length = 0) :
    Calls Try.prog 63 #[.agg #[.int .i64 S, .slice ad xs.length cap, .slice ad2 ys.length cap2, .int .i64 c]] w fun e w' => e = .returned (.slice none 0 0) ∧ Upd 0 0 w w' := by
  have hU := hide (Upd.of_below ((Below.refl w.heap.size w).alloc (Nat.le_refl _) (.cells #[.int .i64 S, .slice ad xs.length cap, .slice ad2 ys.length cap2, .int .i64 c] 94)) 0 0)
  have hcs := heldF_new w [.int .i64 S, .slice ad xs.length cap, .slice ad2 ys.length cap2, .int .i64 c] 94
  change HeldF (w.alloc (.cells #[.int .i64 S, .slice ad xs.length cap, .slice ad2 ys.length cap2, .int .i64 c] 94)) _ _ at hcs
  have t1 : ((xs.length : Int) == 0) = true := by rw [beq_iff_eq]; omega
  have c1 := hcs.1.2 1 _ rfl
  have c2 := hcs.1.2 2 _ rfl
  have cl := hcs.1.1
  clear hcs h
  go_enter Try.func63, Try.ntmps63
  go_wp2
  go_ret
  exact ⟨rfl, unhide hU⟩
set_option maxHeartbeats 4000000 in
set_option maxRecDepth 100000 in
theorem implGuessAboveNo (S c : Int) (ad ad2 : Option Addr) (cap cap2 : Nat) (xs ys : List Int) (w : World) (h : ys.length = 0) :
    Calls Try.prog 64 #[.agg #[.int .i64 S, .slice ad xs.length cap, .slice ad2 ys.length cap2, .int .i64 c]] w fun e w' => e = .returned (.slice none 0 0) ∧ Upd 0 0 w w' := by
  have hU := hide (Upd.of_below ((Below.refl w.heap.size w).alloc (Nat.le_refl _) (.cells #[.int .i64 S, .slice ad xs.length cap, .slice ad2 ys.length cap2, .int .i64 c] 94)) 0 0)
  have hcs := heldF_new w [.int .i64 S, .slice ad xs.length cap, .slice ad2 ys.length cap2, .int .i64 c] 94
  change HeldF (w.alloc (.cells #[.int .i64 S, .slice ad xs.length cap, .slice ad2 ys.length cap2, .int .i64 c] 94)) _ _ at hcs
  have t1 : ((ys.length : Int) == 0) = true := by rw [beq_iff_eq]; omega
  have c1 := hcs.1.2 1 _ rfl
  have c2 := hcs.1.2 2 _ rfl
  have cl := hcs.1.1
  clear hcs h
  go_enter Try.func64, Try.ntmps64
  go_wp2
  go_ret
  exact ⟨rfl, unhide hU⟩
set_option maxHeartbeats 4000000 in
set_option maxRecDepth 100000 in
theorem implGuessSlopeANo (S c : Int) (ad ad2 : Option Addr) (cap cap2 : Nat) (xs ys : List Int) (w : World) (h : xs.length = 0) :
    Calls Try.prog 65 #[.agg #[.int .i64 S, .slice ad xs.length cap, .slice ad2 ys.length cap2, .int .i64 c]] w fun e w' => e = .returned (.slice none 0 0) ∧ Upd 0 0 w w' := by
  have hU := hide (Upd.of_below ((Below.refl w.heap.size w).alloc (Nat.le_refl _) (.cells #[.int .i64 S, .slice ad xs.length cap, .slice ad2 ys.length cap2, .int .i64 c] 94)) 0 0)
  have hcs := heldF_new w [.int .i64 S, .slice ad xs.length cap, .slice ad2 ys.length cap2, .int .i64 c] 94
  change HeldF (w.alloc (.cells #[.int .i64 S, .slice ad xs.length cap, .slice ad2 ys.length cap2, .int .i64 c] 94)) _ _ at hcs
  have t1 : ((xs.length : Int) == 0) = true := by rw [beq_iff_eq]; omega
  have c1 := hcs.1.2 1 _ rfl
  have c2 := hcs.1.2 2 _ rfl
  have cl := hcs.1.1
  clear hcs h
  go_enter Try.func65, Try.ntmps65
  go_wp2
  go_ret
  exact ⟨rfl, unhide hU⟩
set_option maxHeartbeats 4000000 in
set_option maxRecDepth 100000 in
theorem implGuessSlopeBNo (S c : Int) (ad ad2 : Option Addr) (cap cap2 : Nat) (xs ys : List Int) (w : World) (h0 : ¬ xs.length = 0) (h : ys.length = 0) :
    Calls Try.prog 65 #[.agg #[.int .i64 S, .slice ad xs.length cap, .slice ad2 ys.length cap2, .int .i64 c]] w fun e w' => e = .returned (.slice none 0 0) ∧ Upd 0 0 w w' := by
  have hU := hide (Upd.of_below ((Below.refl w.heap.size w).alloc (Nat.le_refl _) (.cells #[.int .i64 S, .slice ad xs.length cap, .slice ad2 ys.length cap2, .int .i64 c] 94)) 0 0)
  have hcs := heldF_new w [.int .i64 S, .slice ad xs.length cap, .slice ad2 ys.length cap2, .int .i64 c] 94
  change HeldF (w.alloc (.cells #[.int .i64 S, .slice ad xs.length cap, .slice ad2 ys.length cap2, .int .i64 c] 94)) _ _ at hcs
  have t0 : ((xs.length : Int) == 0) = false := beq_eq_false_iff_ne.2 (by omega)
  clear h0
  have t1 : ((ys.length : Int) == 0) = true := by rw [beq_iff_eq]; omega
  have c1 := hcs.1.2 1 _ rfl
  have c2 := hcs.1.2 2 _ rfl
  have cl := hcs.1.1
  clear hcs h
  go_enter Try.func65, Try.ntmps65
  go_wp2
  go_ret
  exact ⟨rfl, unhide hU⟩
set_option maxHeartbeats 8000000 in
set_option maxRecDepth 100000 in
theorem implGuessMean (S : Nat) (c : Int) (ad ad2 : Option Addr) (cap cap2 : Nat) (xs ys : List Int) (w : World) (hS : S = 4 ∨ S = 8) (hl : xs.length ≤ 8) (hl2 : ys.length ≤ 8) (hx : InR 0 255 xs) (hy : InR 0 255 ys) (hv : RdX w (.slice ad xs.length cap) xs) (hv2 : RdX w (.slice ad2 ys.length cap2) ys) :
    Calls Try.prog 62 #[.agg #[.int .i64 (S : Int), .slice ad xs.length cap, .slice ad2 ys.length cap2, .int .i64 c]] w fun e w' => ∃ v, e = .returned v ∧ OwnI w' w.heap.size w'.heap.size v (cellsTo (fun _ => guMean xs ys) (S * S)) ∧ Upd 0 0 w w' := by
  have hB0 := hide ((Below.refl w.heap.size w).alloc (Nat.le_refl _) (.cells #[.int .i64 (S : Int), .slice ad xs.length cap, .slice ad2 ys.length cap2, .int .i64 c] 94))
  have hcs := hide (heldF_new w [.int .i64 (S : Int), .slice ad xs.length cap, .slice ad2 ys.length cap2, .int .i64 c] 94)
  have hM := hide (fun W (hW : Below w.heap.size w W) => implMeanAround (S : Int) c (.slice ad xs.length cap) (.slice ad2 ys.length cap2) xs ys W hl hl2 hx hy (hv.below hW) (hv2.below hW))
  generalize guMean xs ys = r at hM ⊢
  clear hl hl2 hx hy hv hv2
  go_enter Try.func62, Try.ntmps62
  go_upto_region 1 with fail
  change Hid (HeldF (w.alloc (.cells #[.int .i64 (S : Int), .slice ad xs.length cap, .slice ad2 ys.length cap2, .int .i64 c] 94)) w.heap.size _) at hcs
  generalize w.alloc (.cells #[.int .i64 (S : Int), .slice ad xs.length cap, .slice ad2 ys.length cap2, .int .i64 c] 94) = w1 at hB0 hcs ⊢
  generalize hgf : w.heap.size = gf at hcs ⊢
  replace hgf := hide hgf
  have c0 := (unhide hcs).1.2 0 _ rfl
  have c1 := (unhide hcs).1.2 1 _ rfl
  have c2 := (unhide hcs).1.2 2 _ rfl
  have c3 := (unhide hcs).1.2 3 _ rfl
  have cl := (unhide hcs).1.1
  go_wp2_with fail
  refine (unhide hM _ (unhide hB0)).mono ?_
  rintro e w2 ⟨rfl, hu⟩
  replace hcs := hide ((unhide hcs).keep hu)
  replace hB0 := hide (below_upd (unhide hB0) hu (Nat.le_refl _) (.inr (Nat.zero_le _)))
  clear c0 c1 c2 c3 cl hM hu
  go_upto_region 2 with fail
  have hu3 := Upd.of_below ((Below.refl w2.heap.size w2).alloc (Nat.le_refl _) (.cells #[.int .i64 r] 3)) 0 0
  have hr := heldF_new w2 [.int .i64 r] 3
  change HeldF (w2.alloc (.cells #[.int .i64 r] 3)) _ _ at hr
  replace hcs := hide ((unhide hcs).keep hu3)
  have hB3 := hide (below_upd (unhide hB0) hu3 (Nat.le_refl _) (.inr (Nat.zero_le _)))
  clear hB0 hu3
  generalize w2.alloc (.cells #[.int .i64 r] 3) = w3 at hr hcs hB3 ⊢
  generalize w2.heap.size = g3 at hr ⊢
  have hC := hide (implFilled S 106 c (.slice ad xs.length cap) (.slice ad2 ys.length cap2) (.pointer (some ⟨g3, 0, none⟩)) (fun _ => r) w3 hS (fun a b W => by kernel_rfl) (fun W i j hW _ _ => implMeanCell (i : Int) (j : Int) r g3 W ((hr.belowG hW hr.1.1).1.2 0 _ rfl)))
  have c0 := (unhide hcs).1.2 0 _ rfl
  have c1 := (unhide hcs).1.2 1 _ rfl
  have c2 := (unhide hcs).1.2 2 _ rfl
  have c3 := (unhide hcs).1.2 3 _ rfl
  have cl := (unhide hcs).1.1
  clear hr hS hcs
  go_wp2_with fail
  refine (unhide hC).mono ?_
  rintro e w4 ⟨v, rfl, ho, hu⟩
  have hsz := (unhide hB3).size
  have ho2 := hide (own_mono (a' := w.heap.size) ho hsz (Nat.le_refl _))
  have hu2 := hide ((Upd.of_below (unhide hB3) 0 0).trans hu)
  clear ho hu hC hsz c0 c1 c2 c3 cl
  go_wp2
  go_ret
  exact ⟨_, rfl, unhide ho2, unhide hu2⟩
end Go.Proofs.Ytpofmcepjmbmcaa

namespace Go.Proofs.Ytpofmcepjmbmcaa
open Go.RowKit

set_option maxHeartbeats 8000000 in
set_option maxRecDepth 100000 in
theorem implGuessNoA (m S c : Int) (ad ad2 : Option Addr) (n1 n2 cap cap2 : Nat) (w : World) 
    (hI : ∀ W, Below w.heap.size w W → Calls Try.prog 61 #[.agg #[.int .i64 S, .slice ad n1 cap, .slice ad2 n2 cap2, .int .i64 c]] W fun e w' => e = .returned (.bool false) ∧ Upd 0 0 W w') :
    Calls Try.prog 21 #[.int .i64 m, .int .i64 S, .slice ad n1 cap, .slice ad2 n2 cap2, .int .i64 c] w fun e w' => e = .returned (.slice none 0 0) ∧ Upd 0 0 w w' := by
  have hB0 := hide ((Below.refl w.heap.size w).alloc (Nat.le_refl _) (.cells #[.int .i64 S, .slice ad n1 cap, .slice ad2 n2 cap2, .int .i64 c] 94))
  have hcs := hide (heldF_new w [.int .i64 S, .slice ad n1 cap, .slice ad2 n2 cap2, .int .i64 c] 94)
  replace hI := hide hI
  go_enter Try.func21, Try.ntmps21
  go_upto_region 2 with fail
  change Hid (HeldF (w.alloc (.cells #[.int .i64 S, .slice ad n1 cap, .slice ad2 n2 cap2, .int .i64 c] 94)) w.heap.size _) at hcs
  generalize w.alloc (.cells #[.int .i64 S, .slice ad n1 cap, .slice ad2 n2 cap2, .int .i64 c] 94) = w1 at hB0 hcs ⊢
  generalize hgf : w.heap.size = gf at hcs ⊢
  replace hgf := hide hgf
  have c0 := (unhide hcs).1.2 0 _ rfl
  have c1 := (unhide hcs).1.2 1 _ rfl
  have c2 := (unhide hcs).1.2 2 _ rfl
  have c3 := (unhide hcs).1.2 3 _ rfl
  have cl := (unhide hcs).1.1
  go_wp2_with fail
  refine (unhide hI _ (unhide hB0)).mono ?_
  rintro e w2 ⟨rfl, hu⟩
  replace hcs := hide ((unhide hcs).keep hu)
  replace hB0 := hide (below_upd (unhide hB0) hu (Nat.le_refl _) (.inr (Nat.zero_le _)))
  clear c0 c1 c2 c3 cl hI hu
  have hU := hide (Upd.of_below (unhide hB0) 0 0)
  clear hB0 hcs
  go_wp2
  go_ret
  exact ⟨rfl, unhide hU⟩
set_option maxHeartbeats 8000000 in
set_option maxRecDepth 100000 in
theorem implGuessNoB (m S c : Int) (ad ad2 : Option Addr) (n1 n2 cap cap2 : Nat) (w : World) (hm : m < 0)
    (hI : ∀ W, Below w.heap.size w W → Calls Try.prog 61 #[.agg #[.int .i64 S, .slice ad n1 cap, .slice ad2 n2 cap2, .int .i64 c]] W fun e w' => e = .returned (.bool true) ∧ Upd 0 0 W w') :
    Calls Try.prog 21 #[.int .i64 m, .int .i64 S, .slice ad n1 cap, .slice ad2 n2 cap2, .int .i64 c] w fun e w' => e = .returned (.slice none 0 0) ∧ Upd 0 0 w w' := by
  have t1 : decide (m < 0) = true := decide_eq_true hm
  clear hm
  have hB0 := hide ((Below.refl w.heap.size w).alloc (Nat.le_refl _) (.cells #[.int .i64 S, .slice ad n1 cap, .slice ad2 n2 cap2, .int .i64 c] 94))
  have hcs := hide (heldF_new w [.int .i64 S, .slice ad n1 cap, .slice ad2 n2 cap2, .int .i64 c] 94)
  replace hI := hide hI
  go_enter Try.func21, Try.ntmps21
  go_upto_region 2 with fail
  change Hid (HeldF (w.alloc (.cells #[.int .i64 S, .slice ad n1 cap, .slice ad2 n2 cap2, .int .i64 c] 94)) w.heap.size _) at hcs
  generalize w.alloc (.cells #[.int .i64 S, .slice ad n1 cap, .slice ad2 n2 cap2, .int .i64 c] 94) = w1 at hB0 hcs ⊢
  generalize hgf : w.heap.size = gf at hcs ⊢
  replace hgf := hide hgf
  have c0 := (unhide hcs).1.2 0 _ rfl
  have c1 := (unhide hcs).1.2 1 _ rfl
  have c2 := (unhide hcs).1.2 2 _ rfl
  have c3 := (unhide hcs).1.2 3 _ rfl
  have cl := (unhide hcs).1.1
  go_wp2_with fail
  refine (unhide hI _ (unhide hB0)).mono ?_
  rintro e w2 ⟨rfl, hu⟩
  replace hcs := hide ((unhide hcs).keep hu)
  replace hB0 := hide (below_upd (unhide hB0) hu (Nat.le_refl _) (.inr (Nat.zero_le _)))
  clear c0 c1 c2 c3 cl hI hu
  have hU := hide (Upd.of_below (unhide hB0) 0 0)
  clear hB0 hcs
  go_wp2
  go_ret
  exact ⟨rfl, unhide hU⟩
set_option maxHeartbeats 8000000 in
set_option maxRecDepth 100000 in
theorem implGuessNoC (m S c : Int) (ad ad2 : Option Addr) (n1 n2 cap cap2 : Nat) (w : World) (hm : 4 ≤ m)
    (hI : ∀ W, Below w.heap.size w W → Calls Try.prog 61 #[.agg #[.int .i64 S, .slice ad n1 cap, .slice ad2 n2 cap2, .int .i64 c]] W fun e w' => e = .returned (.bool true) ∧ Upd 0 0 W w') :
    Calls Try.prog 21 #[.int .i64 m, .int .i64 S, .slice ad n1 cap, .slice ad2 n2 cap2, .int .i64 c] w fun e w' => e = .returned (.slice none 0 0) ∧ Upd 0 0 w w' := by
  have t1 : decide (m < 0) = false := decide_eq_false (by omega)
  have t2 : decide (m ≥ 4) = true := decide_eq_true hm
  have t3 : decide (4 ≤ m) = true := decide_eq_true hm
  have hB0 := hide ((Below.refl w.heap.size w).alloc (Nat.le_refl _) (.cells #[.int .i64 S, .slice ad n1 cap, .slice ad2 n2 cap2, .int .i64 c] 94))
  have hcs := hide (heldF_new w [.int .i64 S, .slice ad n1 cap, .slice ad2 n2 cap2, .int .i64 c] 94)
  replace hI := hide hI
  go_enter Try.func21, Try.ntmps21
  go_upto_region 2 with fail
  change Hid (HeldF (w.alloc (.cells #[.int .i64 S, .slice ad n1 cap, .slice ad2 n2 cap2, .int .i64 c] 94)) w.heap.size _) at hcs
  generalize w.alloc (.cells #[.int .i64 S, .slice ad n1 cap, .slice ad2 n2 cap2, .int .i64 c] 94) = w1 at hB0 hcs ⊢
  generalize hgf : w.heap.size = gf at hcs ⊢
  replace hgf := hide hgf
  have c0 := (unhide hcs).1.2 0 _ rfl
  have c1 := (unhide hcs).1.2 1 _ rfl
  have c2 := (unhide hcs).1.2 2 _ rfl
  have c3 := (unhide hcs).1.2 3 _ rfl
  have cl := (unhide hcs).1.1
  go_wp2_with fail
  refine (unhide hI _ (unhide hB0)).mono ?_
  rintro e w2 ⟨rfl, hu⟩
  replace hcs := hide ((unhide hcs).keep hu)
  replace hB0 := hide (below_upd (unhide hB0) hu (Nat.le_refl _) (.inr (Nat.zero_le _)))
  clear c0 c1 c2 c3 cl hI hu
  have hU := hide (Upd.of_below (unhide hB0) 0 0)
  clear hB0 hcs
  go_wp2
  go_ret
  exact ⟨rfl, unhide hU⟩
set_option maxHeartbeats 8000000 in
set_option maxRecDepth 100000 in
theorem implGuessAt0 (S c : Int) (ad ad2 : Option Addr) (n1 n2 cap cap2 : Nat) (zs : List Int) (w : World)
    (hI : ∀ W, Below w.heap.size w W → Calls Try.prog 61 #[.agg #[.int .i64 S, .slice ad n1 cap, .slice ad2 n2 cap2, .int .i64 c]] W fun e w' => e = .returned (.bool true) ∧ Upd 0 0 W w')
    (hP : ∀ W, Below w.heap.size w W → Calls Try.prog 62 #[.agg #[.int .i64 S, .slice ad n1 cap, .slice ad2 n2 cap2, .int .i64 c]] W fun e w' => ∃ v, e = .returned v ∧ OwnI w' W.heap.size w'.heap.size v zs ∧ Upd 0 0 W w') :
    Calls Try.prog 21 #[.int .i64 0, .int .i64 S, .slice ad n1 cap, .slice ad2 n2 cap2, .int .i64 c] w fun e w' => ∃ v, e = .returned v ∧ OwnI w' w.heap.size w'.heap.size v zs ∧ Upd 0 0 w w' := by
  have hB0 := hide ((Below.refl w.heap.size w).alloc (Nat.le_refl _) (.cells #[.int .i64 S, .slice ad n1 cap, .slice ad2 n2 cap2, .int .i64 c] 94))
  have hcs := hide (heldF_new w [.int .i64 S, .slice ad n1 cap, .slice ad2 n2 cap2, .int .i64 c] 94)
  replace hI := hide hI
  replace hP := hide hP
  go_enter Try.func21, Try.ntmps21
  go_upto_region 2 with fail
  change Hid (HeldF (w.alloc (.cells #[.int .i64 S, .slice ad n1 cap, .slice ad2 n2 cap2, .int .i64 c] 94)) w.heap.size _) at hcs
  generalize w.alloc (.cells #[.int .i64 S, .slice ad n1 cap, .slice ad2 n2 cap2, .int .i64 c] 94) = w1 at hB0 hcs ⊢
  generalize hgf : w.heap.size = gf at hcs ⊢
  replace hgf := hide hgf
  have c0 := (unhide hcs).1.2 0 _ rfl
  have c1 := (unhide hcs).1.2 1 _ rfl
  have c2 := (unhide hcs).1.2 2 _ rfl
  have c3 := (unhide hcs).1.2 3 _ rfl
  have cl := (unhide hcs).1.1
  go_wp2_with fail
  refine (unhide hI _ (unhide hB0)).mono ?_
  rintro e w2 ⟨rfl, hu⟩
  replace hcs := hide ((unhide hcs).keep hu)
  replace hB0 := hide (below_upd (unhide hB0) hu (Nat.le_refl _) (.inr (Nat.zero_le _)))
  clear c0 c1 c2 c3 cl hI hu
  have c0 := (unhide hcs).1.2 0 _ rfl
  have c1 := (unhide hcs).1.2 1 _ rfl
  have c2 := (unhide hcs).1.2 2 _ rfl
  have c3 := (unhide hcs).1.2 3 _ rfl
  have cl := (unhide hcs).1.1
  clear hcs
  go_upto_region 5 with fail
  have hB3 := hide ((unhide hB0).trans (((Below.refl w2.heap.size w2).alloc (Nat.le_refl _) (.cells #[.func (.func 62) #[.agg #[.int .i64 S, .slice ad n1 cap, .slice ad2 n2 cap2, .int .i64 c]] #[], .func (.func 63) #[.agg #[.int .i64 S, .slice ad n1 cap, .slice ad2 n2 cap2, .int .i64 c]] #[], .func (.func 64) #[.agg #[.int .i64 S, .slice ad n1 cap, .slice ad2 n2 cap2, .int .i64 c]] #[], .func (.func 65) #[.agg #[.int .i64 S, .slice ad n1 cap, .slice ad2 n2 cap2, .int .i64 c]] #[]] 97)).mono (unhide hB0).size))
  go_wp2_with fail
  refine (unhide hP _ (unhide hB3)).mono ?_
  rintro e w4 ⟨v, rfl, ho, hu⟩
  have ho2 := hide (own_mono (a' := w.heap.size) ho (unhide hB3).size (Nat.le_refl _))
  have hu2 := hide ((Upd.of_below (unhide hB3) 0 0).trans hu)
  clear ho hu hP hB3 hB0 c0 c1 c2 c3 cl
  go_wp2
  go_ret
  exact ⟨_, rfl, unhide ho2, unhide hu2⟩
set_option maxHeartbeats 8000000 in
set_option maxRecDepth 100000 in
theorem implGuessAt1 (S c : Int) (ad ad2 : Option Addr) (n1 n2 cap cap2 : Nat) (zs : List Int) (w : World)
    (hI : ∀ W, Below w.heap.size w W → Calls Try.prog 61 #[.agg #[.int .i64 S, .slice ad n1 cap, .slice ad2 n2 cap2, .int .i64 c]] W fun e w' => e = .returned (.bool true) ∧ Upd 0 0 W w')
    (hP : ∀ W, Below w.heap.size w W → Calls Try.prog 63 #[.agg #[.int .i64 S, .slice ad n1 cap, .slice ad2 n2 cap2, .int .i64 c]] W fun e w' => ∃ v, e = .returned v ∧ OwnI w' W.heap.size w'.heap.size v zs ∧ Upd 0 0 W w') :
    Calls Try.prog 21 #[.int .i64 1, .int .i64 S, .slice ad n1 cap, .slice ad2 n2 cap2, .int .i64 c] w fun e w' => ∃ v, e = .returned v ∧ OwnI w' w.heap.size w'.heap.size v zs ∧ Upd 0 0 w w' := by
  have hB0 := hide ((Below.refl w.heap.size w).alloc (Nat.le_refl _) (.cells #[.int .i64 S, .slice ad n1 cap, .slice ad2 n2 cap2, .int .i64 c] 94))
  have hcs := hide (heldF_new w [.int .i64 S, .slice ad n1 cap, .slice ad2 n2 cap2, .int .i64 c] 94)
  replace hI := hide hI
  replace hP := hide hP
  go_enter Try.func21, Try.ntmps21
  go_upto_region 2 with fail
  change Hid (HeldF (w.alloc (.cells #[.int .i64 S, .slice ad n1 cap, .slice ad2 n2 cap2, .int .i64 c] 94)) w.heap.size _) at hcs
  generalize w.alloc (.cells #[.int .i64 S, .slice ad n1 cap, .slice ad2 n2 cap2, .int .i64 c] 94) = w1 at hB0 hcs ⊢
  generalize hgf : w.heap.size = gf at hcs ⊢
  replace hgf := hide hgf
  have c0 := (unhide hcs).1.2 0 _ rfl
  have c1 := (unhide hcs).1.2 1 _ rfl
  have c2 := (unhide hcs).1.2 2 _ rfl
  have c3 := (unhide hcs).1.2 3 _ rfl
  have cl := (unhide hcs).1.1
  go_wp2_with fail
  refine (unhide hI _ (unhide hB0)).mono ?_
  rintro e w2 ⟨rfl, hu⟩
  replace hcs := hide ((unhide hcs).keep hu)
  replace hB0 := hide (below_upd (unhide hB0) hu (Nat.le_refl _) (.inr (Nat.zero_le _)))
  clear c0 c1 c2 c3 cl hI hu
  have c0 := (unhide hcs).1.2 0 _ rfl
  have c1 := (unhide hcs).1.2 1 _ rfl
  have c2 := (unhide hcs).1.2 2 _ rfl
  have c3 := (unhide hcs).1.2 3 _ rfl
  have cl := (unhide hcs).1.1
  clear hcs
  go_upto_region 5 with fail
  have hB3 := hide ((unhide hB0).trans (((Below.refl w2.heap.size w2).alloc (Nat.le_refl _) (.cells #[.func (.func 62) #[.agg #[.int .i64 S, .slice ad n1 cap, .slice ad2 n2 cap2, .int .i64 c]] #[], .func (.func 63) #[.agg #[.int .i64 S, .slice ad n1 cap, .slice ad2 n2 cap2, .int .i64 c]] #[], .func (.func 64) #[.agg #[.int .i64 S, .slice ad n1 cap, .slice ad2 n2 cap2, .int .i64 c]] #[], .func (.func 65) #[.agg #[.int .i64 S, .slice ad n1 cap, .slice ad2 n2 cap2, .int .i64 c]] #[]] 97)).mono (unhide hB0).size))
  go_wp2_with fail
  refine (unhide hP _ (unhide hB3)).mono ?_
  rintro e w4 ⟨v, rfl, ho, hu⟩
  have ho2 := hide (own_mono (a' := w.heap.size) ho (unhide hB3).size (Nat.le_refl _))
  have hu2 := hide ((Upd.of_below (unhide hB3) 0 0).trans hu)
  clear ho hu hP hB3 hB0 c0 c1 c2 c3 cl
  go_wp2
  go_ret
  exact ⟨_, rfl, unhide ho2, unhide hu2⟩
set_option maxHeartbeats 8000000 in
set_option maxRecDepth 100000 in
theorem implGuessAt2 (S c : Int) (ad ad2 : Option Addr) (n1 n2 cap cap2 : Nat) (zs : List Int) (w : World)
    (hI : ∀ W, Below w.heap.size w W → Calls Try.prog 61 #[.agg #[.int .i64 S, .slice ad n1 cap, .slice ad2 n2 cap2, .int .i64 c]] W fun e w' => e = .returned (.bool true) ∧ Upd 0 0 W w')
    (hP : ∀ W, Below w.heap.size w W → Calls Try.prog 64 #[.agg #[.int .i64 S, .slice ad n1 cap, .slice ad2 n2 cap2, .int .i64 c]] W fun e w' => ∃ v, e = .returned v ∧ OwnI w' W.heap.size w'.heap.size v zs ∧ Upd 0 0 W w') :
    Calls Try.prog 21 #[.int .i64 2, .int .i64 S, .slice ad n1 cap, .slice ad2 n2 cap2, .int .i64 c] w fun e w' => ∃ v, e = .returned v ∧ OwnI w' w.heap.size w'.heap.size v zs ∧ Upd 0 0 w w' := by
  have hB0 := hide ((Below.refl w.heap.size w).alloc (Nat.le_refl _) (.cells #[.int .i64 S, .slice ad n1 cap, .slice ad2 n2 cap2, .int .i64 c] 94))
  have hcs := hide (heldF_new w [.int .i64 S, .slice ad n1 cap, .slice ad2 n2 cap2, .int .i64 c] 94)
  replace hI := hide hI
  replace hP := hide hP
  go_enter Try.func21, Try.ntmps21
  go_upto_region 2 with fail
  change Hid (HeldF (w.alloc (.cells #[.int .i64 S, .slice ad n1 cap, .slice ad2 n2 cap2, .int .i64 c] 94)) w.heap.size _) at hcs
  generalize w.alloc (.cells #[.int .i64 S, .slice ad n1 cap, .slice ad2 n2 cap2, .int .i64 c] 94) = w1 at hB0 hcs ⊢
  generalize hgf : w.heap.size = gf at hcs ⊢
  replace hgf := hide hgf
  have c0 := (unhide hcs).1.2 0 _ rfl
  have c1 := (unhide hcs).1.2 1 _ rfl
  have c2 := (unhide hcs).1.2 2 _ rfl
  have c3 := (unhide hcs).1.2 3 _ rfl
  have cl := (unhide hcs).1.1
  go_wp2_with fail
  refine (unhide hI _ (unhide hB0)).mono ?_
  rintro e w2 ⟨rfl, hu⟩
  replace hcs := hide ((unhide hcs).keep hu)
  replace hB0 := hide (below_upd (unhide hB0) hu (Nat.le_refl _) (.inr (Nat.zero_le _)))
  clear c0 c1 c2 c3 cl hI hu
  have c0 := (unhide hcs).1.2 0 _ rfl
  have c1 := (unhide hcs).1.2 1 _ rfl
  have c2 := (unhide hcs).1.2 2 _ rfl
  have c3 := (unhide hcs).1.2 3 _ rfl
  have cl := (unhide hcs).1.1
  clear hcs
  go_upto_region 5 with fail
  have hB3 := hide ((unhide hB0).trans (((Below.refl w2.heap.size w2).alloc (Nat.le_refl _) (.cells #[.func (.func 62) #[.agg #[.int .i64 S, .slice ad n1 cap, .slice ad2 n2 cap2, .int .i64 c]] #[], .func (.func 63) #[.agg #[.int .i64 S, .slice ad n1 cap, .slice ad2 n2 cap2, .int .i64 c]] #[], .func (.func 64) #[.agg #[.int .i64 S, .slice ad n1 cap, .slice ad2 n2 cap2, .int .i64 c]] #[], .func (.func 65) #[.agg #[.int .i64 S, .slice ad n1 cap, .slice ad2 n2 cap2, .int .i64 c]] #[]] 97)).mono (unhide hB0).size))
  go_wp2_with fail
  refine (unhide hP _ (unhide hB3)).mono ?_
  rintro e w4 ⟨v, rfl, ho, hu⟩
  have ho2 := hide (own_mono (a' := w.heap.size) ho (unhide hB3).size (Nat.le_refl _))
  have hu2 := hide ((Upd.of_below (unhide hB3) 0 0).trans hu)
  clear ho hu hP hB3 hB0 c0 c1 c2 c3 cl
  go_wp2
  go_ret
  exact ⟨_, rfl, unhide ho2, unhide hu2⟩
set_option maxHeartbeats 8000000 in
set_option maxRecDepth 100000 in
theorem implGuessAt3 (S c : Int) (ad ad2 : Option Addr) (n1 n2 cap cap2 : Nat) (zs : List Int) (w : World)
    (hI : ∀ W, Below w.heap.size w W → Calls Try.prog 61 #[.agg #[.int .i64 S, .slice ad n1 cap, .slice ad2 n2 cap2, .int .i64 c]] W fun e w' => e = .returned (.bool true) ∧ Upd 0 0 W w')
    (hP : ∀ W, Below w.heap.size w W → Calls Try.prog 65 #[.agg #[.int .i64 S, .slice ad n1 cap, .slice ad2 n2 cap2, .int .i64 c]] W fun e w' => ∃ v, e = .returned v ∧ OwnI w' W.heap.size w'.heap.size v zs ∧ Upd 0 0 W w') :
    Calls Try.prog 21 #[.int .i64 3, .int .i64 S, .slice ad n1 cap, .slice ad2 n2 cap2, .int .i64 c] w fun e w' => ∃ v, e = .returned v ∧ OwnI w' w.heap.size w'.heap.size v zs ∧ Upd 0 0 w w' := by
  have hB0 := hide ((Below.refl w.heap.size w).alloc (Nat.le_refl _) (.cells #[.int .i64 S, .slice ad n1 cap, .slice ad2 n2 cap2, .int .i64 c] 94))
  have hcs := hide (heldF_new w [.int .i64 S, .slice ad n1 cap, .slice ad2 n2 cap2, .int .i64 c] 94)
  replace hI := hide hI
  replace hP := hide hP
  go_enter Try.func21, Try.ntmps21
  go_upto_region 2 with fail
  change Hid (HeldF (w.alloc (.cells #[.int .i64 S, .slice ad n1 cap, .slice ad2 n2 cap2, .int .i64 c] 94)) w.heap.size _) at hcs
  generalize w.alloc (.cells #[.int .i64 S, .slice ad n1 cap, .slice ad2 n2 cap2, .int .i64 c] 94) = w1 at hB0 hcs ⊢
  generalize hgf : w.heap.size = gf at hcs ⊢
  replace hgf := hide hgf
  have c0 := (unhide hcs).1.2 0 _ rfl
  have c1 := (unhide hcs).1.2 1 _ rfl
  have c2 := (unhide hcs).1.2 2 _ rfl
  have c3 := (unhide hcs).1.2 3 _ rfl
  have cl := (unhide hcs).1.1
  go_wp2_with fail
  refine (unhide hI _ (unhide hB0)).mono ?_
  rintro e w2 ⟨rfl, hu⟩
  replace hcs := hide ((unhide hcs).keep hu)
  replace hB0 := hide (below_upd (unhide hB0) hu (Nat.le_refl _) (.inr (Nat.zero_le _)))
  clear c0 c1 c2 c3 cl hI hu
  have c0 := (unhide hcs).1.2 0 _ rfl
  have c1 := (unhide hcs).1.2 1 _ rfl
  have c2 := (unhide hcs).1.2 2 _ rfl
  have c3 := (unhide hcs).1.2 3 _ rfl
  have cl := (unhide hcs).1.1
  clear hcs
  go_upto_region 5 with fail
  have hB3 := hide ((unhide hB0).trans (((Below.refl w2.heap.size w2).alloc (Nat.le_refl _) (.cells #[.func (.func 62) #[.agg #[.int .i64 S, .slice ad n1 cap, .slice ad2 n2 cap2, .int .i64 c]] #[], .func (.func 63) #[.agg #[.int .i64 S, .slice ad n1 cap, .slice ad2 n2 cap2, .int .i64 c]] #[], .func (.func 64) #[.agg #[.int .i64 S, .slice ad n1 cap, .slice ad2 n2 cap2, .int .i64 c]] #[], .func (.func 65) #[.agg #[.int .i64 S, .slice ad n1 cap, .slice ad2 n2 cap2, .int .i64 c]] #[]] 97)).mono (unhide hB0).size))
  go_wp2_with fail
  refine (unhide hP _ (unhide hB3)).mono ?_
  rintro e w4 ⟨v, rfl, ho, hu⟩
  have ho2 := hide (own_mono (a' := w.heap.size) ho (unhide hB3).size (Nat.le_refl _))
  have hu2 := hide ((Upd.of_below (unhide hB3) 0 0).trans hu)
  clear ho hu hP hB3 hB0 c0 c1 c2 c3 cl
  go_wp2
  go_ret
  exact ⟨_, rfl, unhide ho2, unhide hu2⟩
end Go.Proofs.Ytpofmcepjmbmcaa

namespace Go.Proofs.Ytpofmcepjmbmcaa
open Go.RowKit

theorem cellsTo_gu (mode : Int) (S : Nat) (xs ys : List Int) (c : Int) (f : Nat → Int) (h : ∀ q, f q = guCell mode S xs ys c q) : cellsTo f (S * S) = guL mode S xs ys c := by
  unfold cellsTo guL
  rw [show f = guCell mode S xs ys c from funext h]
theorem guB_good {mode size : Int} {xs ys : List Int} {c : Int} (h : guGood size xs ys c = false) : guB mode size xs ys c = false := by
  cases e : guB mode size xs ys c
  · rfl
  · exfalso
    unfold guB at e
    unfold guGood guSide at h
    simp only [Bool.and_eq_true, decide_eq_true_eq] at e
    obtain ⟨⟨⟨⟨⟨_, e1⟩, e2⟩, e3⟩, e4⟩, _⟩ := e
    rw [decide_eq_true e1, decide_eq_true e2, e3, e4] at h
    simp at h
theorem guB_mode {mode size : Int} {xs ys : List Int} {c : Int} (h : ¬ (0 ≤ mode ∧ mode ≤ 3)) : guB mode size xs ys c = false := by unfold guB; rw [decide_eq_false h]; simp
set_option maxHeartbeats 4000000 in
theorem implGuess (mode size : Int) (v1 : Value) (xs : List Int) (v2 : Value) (ys : List Int) (c : Int) (w : World) (_m0 : -9223372036854775808 ≤ mode) (_m1 : mode ≤ 9223372036854775807) (_s0 : -9223372036854775808 ≤ size) (_s1 : size ≤ 9223372036854775807) (hn : xs.length ≤ 1048576) (_hR : InI xs) (hv : RdX w v1 xs) (hn' : ys.length ≤ 1048576) (_hR' : InI ys) (hv' : RdX w v2 ys) (_c0 : -9223372036854775808 ≤ c) (_c1 : c ≤ 9223372036854775807) :
    Calls Try.prog 21 #[.int .i64 mode, .int .i64 size, v1, v2, .int .i64 c] w fun e w' => ∃ u, e = .returned u ∧ OwnI w' w.heap.size w'.heap.size u (guF mode size xs ys c) ∧ Upd 0 0 w w' := by
  have hI := fun W (hW : Below w.heap.size w W) => implIsGood size c v1 v2 xs ys W hn (hv.below hW).rd hn' (hv'.below hW).rd
  obtain ⟨ad, cap, rfl, hA⟩ := hv.rd
  obtain ⟨ad2, cap2, rfl, hA2⟩ := hv'.rd
  have nil : ∀ {e : Ending} {w' : World}, e = .returned (.slice none 0 0) ∧ Upd 0 0 w w' → ∃ u, e = .returned u ∧ OwnI w' w.heap.size w'.heap.size u [] ∧ Upd 0 0 w w' := fun ⟨h1, h2⟩ => ⟨_, h1, own_nilI _ _ _, h2⟩
  cases hg : guGood size xs ys c
  · rw [guF_no (guB_good hg)]
    rw [hg] at hI
    exact (implGuessNoA mode size c ad ad2 xs.length ys.length cap cap2 w hI).mono fun e w' h => nil h
  rw [hg] at hI
  by_cases hm0 : mode < 0
  · rw [guF_no (guB_mode (by omega))]
    exact (implGuessNoB mode size c ad ad2 xs.length ys.length cap cap2 w hm0 hI).mono fun e w' h => nil h
  by_cases hm4 : 4 ≤ mode
  · rw [guF_no (guB_mode (by omega))]
    exact (implGuessNoC mode size c ad ad2 xs.length ys.length cap cap2 w hm4 hI).mono fun e w' h => nil h
  unfold guGood at hg
  simp only [Bool.and_eq_true, decide_eq_true_eq] at hg
  obtain ⟨⟨⟨hs, hx⟩, hy⟩, hc⟩ := hg
  have hB := guB_of (show 0 ≤ mode ∧ mode ≤ 3 by omega) hs hc hx hy
  obtain ⟨_, q1, q2, q3, q4, _⟩ := guOk_of hs hc hx hy
  obtain ⟨S, rfl⟩ : ∃ S : Nat, size = (S : Int) := ⟨size.toNat, by omega⟩
  have hS : S = 4 ∨ S = 8 := by omega
  rw [Int.toNat_natCast] at q1 q2
  have noL : ∀ {f : FuncId} {a : Array Value} {W : World}, (Calls Try.prog f a W fun e w' => e = .returned (.slice none 0 0) ∧ Upd 0 0 W w') → Calls Try.prog f a W fun e w' => ∃ v, e = .returned v ∧ OwnI w' W.heap.size w'.heap.size v [] ∧ Upd 0 0 W w' := fun h => h.mono fun e w' h => ⟨_, h.1, own_nilI _ _ _, h.2⟩
  rcases (show mode = 0 ∨ mode = 1 ∨ mode = 2 ∨ mode = 3 by omega) with rfl | rfl | rfl | rfl
  · rw [guF_yes (by rw [hB]; rfl), Int.toNat_natCast, ← cellsTo_gu 0 S xs ys c (fun _ => guMean xs ys) (fun q => by simp [guCell])]
    exact implGuessAt0 S c ad ad2 xs.length ys.length cap cap2 _ w hI (fun W hW => implGuessMean S c ad ad2 cap cap2 xs ys W hS (by omega) (by omega) q3 q4 (hv.below hW) (hv'.below hW))
  · by_cases h1 : xs.length = 0
    · rw [guF_no (by rw [hB]; simp [guLackB, h1])]
      exact implGuessAt1 S c ad ad2 xs.length ys.length cap cap2 _ w hI (fun W hW => noL (implGuessLeftNo S c ad ad2 cap cap2 xs ys W h1))
    · rw [guF_yes (by rw [hB]; simp [guLackB, h1]), Int.toNat_natCast, ← cellsTo_gu 1 S xs ys c (fun q => xs.getD (q / S) 0) (fun q => by simp [guCell])]
      exact implGuessAt1 S c ad ad2 xs.length ys.length cap cap2 _ w hI (fun W hW => implGuessLeft S c ad ad2 cap cap2 xs ys W hS (by omega) (hA.below hW))
  · by_cases h2 : ys.length = 0
    · rw [guF_no (by rw [hB]; simp [guLackB, h2])]
      exact implGuessAt2 S c ad ad2 xs.length ys.length cap cap2 _ w hI (fun W hW => noL (implGuessAboveNo S c ad ad2 cap cap2 xs ys W h2))
    · rw [guF_yes (by rw [hB]; simp [guLackB, h2]), Int.toNat_natCast, ← cellsTo_gu 2 S xs ys c (fun q => ys.getD (q % S) 0) (fun q => by simp [guCell])]
      exact implGuessAt2 S c ad ad2 xs.length ys.length cap cap2 _ w hI (fun W hW => implGuessAbove S c ad ad2 cap cap2 xs ys W hS (by omega) (hA2.below hW))
  · by_cases h1 : xs.length = 0
    · rw [guF_no (by rw [hB]; simp [guLackB, h1])]
      exact implGuessAt3 S c ad ad2 xs.length ys.length cap cap2 _ w hI (fun W hW => noL (implGuessSlopeANo S c ad ad2 cap cap2 xs ys W h1))
    · by_cases h2 : ys.length = 0
      · rw [guF_no (by rw [hB]; simp [guLackB, h2])]
        exact implGuessAt3 S c ad ad2 xs.length ys.length cap cap2 _ w hI (fun W hW => noL (implGuessSlopeBNo S c ad ad2 cap cap2 xs ys W h1 h2))
      · rw [guF_yes (by rw [hB]; simp [guLackB, h1, h2]), Int.toNat_natCast, ← cellsTo_gu 3 S xs ys c (fun q => clipF (xs.getD (q / S) 0 + ys.getD (q % S) 0 - c)) (fun q => by simp [guCell])]
        exact implGuessAt3 S c ad ad2 xs.length ys.length cap cap2 _ w hI (fun W hW => implGuessSlope S c ad ad2 cap cap2 xs ys W hS (by omega) (by omega) hc q3 q4 (hA.below hW) (hA2.below hW))
end Go.Proofs.Ytpofmcepjmbmcaa

namespace Go.Proofs.Ytpofmcepjmbmcaa
open Go.RowKit

set_option maxHeartbeats 1000000 in
theorem lawGuess_long2 (n0 : Int) (n1 : Int) (ad2 : Option Addr) (cap2 : Nat) (zs2 : List Int) (ad3 : Option Addr) (cap3 : Nat) (zs3 : List Int) (n4 : Int) (w : World)  (_hn2 : 1048576 < zs2.length) :
    Calls Try.prog 5 #[.int .i64 n0, .int .i64 n1, .slice ad2 zs2.length cap2, .slice ad3 zs3.length cap3, .int .i64 n4] w fun e w' => e = .returned (.bool true) ∧ Below w.heap.size w w' := by
  go_enter Try.func5, Try.ntmps5
  go_wp2
  go_ret
  exact ⟨rfl, Below.refl _ _⟩

set_option maxHeartbeats 1000000 in
theorem lawGuess_long3 (n0 : Int) (n1 : Int) (ad2 : Option Addr) (cap2 : Nat) (zs2 : List Int) (ad3 : Option Addr) (cap3 : Nat) (zs3 : List Int) (n4 : Int) (w : World) (_hn2 : zs2.length ≤ 1048576) (_hn3 : 1048576 < zs3.length) :
    Calls Try.prog 5 #[.int .i64 n0, .int .i64 n1, .slice ad2 zs2.length cap2, .slice ad3 zs3.length cap3, .int .i64 n4] w fun e w' => e = .returned (.bool true) ∧ Below w.heap.size w w' := by
  go_enter Try.func5, Try.ntmps5
  go_wp2
  go_ret
  exact ⟨rfl, Below.refl _ _⟩

set_option maxHeartbeats 4000000 in
set_option maxRecDepth 100000 in
theorem lawGuess_short (n0 : Int) (n1 : Int) (ad2 : Option Addr) (cap2 : Nat) (zs2 : List Int) (ad3 : Option Addr) (cap3 : Nat) (zs3 : List Int) (n4 : Int) (w : World)   (hn2 : zs2.length ≤ 1048576) (hn3 : zs3.length ≤ 1048576) (hl0 : -9223372036854775808 ≤ n0) (hh0 : n0 ≤ 9223372036854775807) (hl1 : -9223372036854775808 ≤ n1) (hh1 : n1 ≤ 9223372036854775807) (hA2 : ArgI w ad2 zs2) (hR2 : InI zs2) (hA3 : ArgI w ad3 zs3) (hR3 : InI zs3) (hl4 : -9223372036854775808 ≤ n4) (hh4 : n4 ≤ 9223372036854775807) :
    Calls Try.prog 5 #[.int .i64 n0, .int .i64 n1, .slice ad2 zs2.length cap2, .slice ad3 zs3.length cap3, .int .i64 n4] w fun e w' => e = .returned (.bool true) ∧ Below w.heap.size w w' := by
  replace hA2 := hide hA2
  replace hR2 := hide hR2
  replace hA3 := hide hA3
  replace hR3 := hide hR3
  have hL := hide (guF_len n0 n1 zs2 zs3 n4)
  have hB := hide (Below.refl w.heap.size w)
  go_enter Try.func5, Try.ntmps5
  go_wp2_with fail
  refine (toIntS_own ad2 cap2 zs2 w hn2 ((unhide hA2).below (unhide hB))).mono ?_
  rintro e w1 ⟨vy2_w0, rfl, ho, hu⟩
  replace hB := hide (below_upd (unhide hB) hu (Nat.le_refl _) (.inr (Nat.le_refl _)))
  have hs1 : Hid (w.heap.size ≤ w1.heap.size) := hide hu.size
  have y2_w0 := hide ho
  clear hu ho
  go_wp2_with fail
  refine (toIntS_own ad3 cap3 zs3 w1 hn3 ((unhide hA3).below (unhide hB))).mono ?_
  rintro e w2 ⟨vy3_w0, rfl, ho, hu⟩
  replace y2_w0 := hide ((unhide y2_w0).keep hu)
  replace hB := hide (below_upd (unhide hB) hu (Nat.le_refl _) (.inr (Nat.le_refl _)))
  have hs2 : Hid (w1.heap.size ≤ w2.heap.size) := hide hu.size
  have y3_w0 := hide ho
  clear hu ho
  go_wp2_with fail
  refine (specGuess n0 n1 vy2_w0 zs2 vy3_w0 zs3 n4 w2  hl0 hh0 hl1 hh1 hn2 (unhide hR2) (OwnI.rd (unhide y2_w0)) hn3 (unhide hR3) (OwnI.rd (unhide y3_w0)) hl4 hh4).mono ?_
  rintro e w3 ⟨vr0, rfl, ho, hu⟩
  replace y2_w0 := hide ((unhide y2_w0).keep hu)
  replace y3_w0 := hide ((unhide y3_w0).keep hu)
  replace hB := hide (below_upd (unhide hB) hu (Nat.le_refl _) (.inr (Nat.le_refl _)))
  have hs3 : Hid (w2.heap.size ≤ w3.heap.size) := hide hu.size
  have r0 := hide ho
  clear hu ho
  clear y2_w0 y3_w0
  go_wp2_with fail
  refine (toIntS_own ad2 cap2 zs2 w3 hn2 ((unhide hA2).below (unhide hB))).mono ?_
  rintro e w4 ⟨vx2, rfl, ho, hu⟩
  replace r0 := hide ((unhide r0).keep hu)
  replace hB := hide (below_upd (unhide hB) hu (Nat.le_refl _) (.inr (Nat.le_refl _)))
  have hs4 : Hid (w3.heap.size ≤ w4.heap.size) := hide hu.size
  have x2 := hide ho
  clear hu ho
  go_wp2_with fail
  refine (toIntS_own ad3 cap3 zs3 w4 hn3 ((unhide hA3).below (unhide hB))).mono ?_
  rintro e w5 ⟨vx3, rfl, ho, hu⟩
  replace r0 := hide ((unhide r0).keep hu)
  replace x2 := hide ((unhide x2).keep hu)
  replace hB := hide (below_upd (unhide hB) hu (Nat.le_refl _) (.inr (Nat.le_refl _)))
  have hs5 : Hid (w4.heap.size ≤ w5.heap.size) := hide hu.size
  have x3 := hide ho
  clear hu ho
  go_wp2_with fail
  refine (implGuess n0 n1 vx2 zs2 vx3 zs3 n4 w5  hl0 hh0 hl1 hh1 hn2 (unhide hR2) (rdX_of_own (unhide x2)) hn3 (unhide hR3) (rdX_of_own (unhide x3)) hl4 hh4).mono ?_
  rintro e w6 ⟨vr1, rfl, ho, hu⟩
  replace r0 := hide ((unhide r0).keep hu)
  replace x2 := hide ((unhide x2).keep hu)
  replace x3 := hide ((unhide x3).keep hu)
  replace hB := hide (below_upd (unhide hB) hu (Nat.le_refl _) (.inr (Nat.le_refl _)))
  have hs6 : Hid (w5.heap.size ≤ w6.heap.size) := hide hu.size
  have r1 := hide ho
  clear hu ho
  go_wp2_with fail
  refine (eqIntS_rd vr1 vr0 (guF n0 n1 zs2 zs3 n4) w6 (unhide hL) (OwnI.rd (unhide r1)) (OwnI.rd (unhide r0))).mono ?_
  rintro e w7 ⟨rfl, hu⟩
  replace r0 := hide ((unhide r0).keep hu)
  replace x2 := hide ((unhide x2).keep hu)
  replace x3 := hide ((unhide x3).keep hu)
  replace r1 := hide ((unhide r1).keep hu)
  replace hB := hide (below_upd (unhide hB) hu (Nat.le_refl _) (.inr (Nat.le_refl _)))
  have hs7 : Hid (w6.heap.size ≤ w7.heap.size) := hide hu.size
  clear hu
  go_wp2_with fail
  refine (toIntS_own ad2 cap2 zs2 w7 hn2 ((unhide hA2).below (unhide hB))).mono ?_
  rintro e w8 ⟨vz2, rfl, ho, hu⟩
  replace r0 := hide ((unhide r0).keep hu)
  replace x2 := hide ((unhide x2).keep hu)
  replace x3 := hide ((unhide x3).keep hu)
  replace r1 := hide ((unhide r1).keep hu)
  replace hB := hide (below_upd (unhide hB) hu (Nat.le_refl _) (.inr (Nat.le_refl _)))
  have hs8 : Hid (w7.heap.size ≤ w8.heap.size) := hide hu.size
  have z2 := hide ho
  clear hu ho
  go_wp2_with fail
  refine (eqIntS_rd vx2 vz2 zs2 w8 hn2 (OwnI.rd (unhide x2)) (OwnI.rd (unhide z2))).mono ?_
  rintro e w9 ⟨rfl, hu⟩
  replace r0 := hide ((unhide r0).keep hu)
  replace x2 := hide ((unhide x2).keep hu)
  replace x3 := hide ((unhide x3).keep hu)
  replace r1 := hide ((unhide r1).keep hu)
  replace z2 := hide ((unhide z2).keep hu)
  replace hB := hide (below_upd (unhide hB) hu (Nat.le_refl _) (.inr (Nat.le_refl _)))
  have hs9 : Hid (w8.heap.size ≤ w9.heap.size) := hide hu.size
  clear hu
  clear z2
  go_wp2_with fail
  refine (toIntS_own ad3 cap3 zs3 w9 hn3 ((unhide hA3).below (unhide hB))).mono ?_
  rintro e w10 ⟨vz3, rfl, ho, hu⟩
  replace r0 := hide ((unhide r0).keep hu)
  replace x2 := hide ((unhide x2).keep hu)
  replace x3 := hide ((unhide x3).keep hu)
  replace r1 := hide ((unhide r1).keep hu)
  replace hB := hide (below_upd (unhide hB) hu (Nat.le_refl _) (.inr (Nat.le_refl _)))
  have hs10 : Hid (w9.heap.size ≤ w10.heap.size) := hide hu.size
  have z3 := hide ho
  clear hu ho
  go_wp2_with fail
  refine (eqIntS_rd vx3 vz3 zs3 w10 hn3 (OwnI.rd (unhide x3)) (OwnI.rd (unhide z3))).mono ?_
  rintro e w11 ⟨rfl, hu⟩
  replace r0 := hide ((unhide r0).keep hu)
  replace x2 := hide ((unhide x2).keep hu)
  replace x3 := hide ((unhide x3).keep hu)
  replace r1 := hide ((unhide r1).keep hu)
  replace z3 := hide ((unhide z3).keep hu)
  replace hB := hide (below_upd (unhide hB) hu (Nat.le_refl _) (.inr (Nat.le_refl _)))
  have hs11 : Hid (w10.heap.size ≤ w11.heap.size) := hide hu.size
  clear hu
  clear z3
  go_wp2_with fail
  refine (markIntS_own (w3.heap.size) (w4.heap.size) vx2 (1) zs2 w11 hn2 (by omega) (unhide x2)).mono ?_
  rintro e w12 ⟨rfl, ho, hu⟩
  replace r0 := hide ((unhide r0).upd hu (by have := unhide hs1; have := unhide hs2; have := unhide hs3; have := unhide hs4; have := unhide hs5; have := unhide hs6; have := unhide hs7; have := unhide hs8; have := unhide hs9; have := unhide hs10; have := unhide hs11; omega))
  replace x3 := hide ((unhide x3).upd hu (by have := unhide hs1; have := unhide hs2; have := unhide hs3; have := unhide hs4; have := unhide hs5; have := unhide hs6; have := unhide hs7; have := unhide hs8; have := unhide hs9; have := unhide hs10; have := unhide hs11; omega))
  replace r1 := hide ((unhide r1).upd hu (by have := unhide hs1; have := unhide hs2; have := unhide hs3; have := unhide hs4; have := unhide hs5; have := unhide hs6; have := unhide hs7; have := unhide hs8; have := unhide hs9; have := unhide hs10; have := unhide hs11; omega))
  replace hB := hide (below_upd (unhide hB) hu (Nat.le_refl _) (by have := unhide hs1; have := unhide hs2; have := unhide hs3; have := unhide hs4; have := unhide hs5; have := unhide hs6; have := unhide hs7; have := unhide hs8; have := unhide hs9; have := unhide hs10; have := unhide hs11; omega))
  replace x2 := hide ho
  have hs12 : Hid (w11.heap.size ≤ w12.heap.size) := hide hu.size
  clear hu ho
  go_wp2_with fail
  refine (markIntS_own (w4.heap.size) (w5.heap.size) vx3 (1 + zs2.length) zs3 w12 hn3 (by omega) (unhide x3)).mono ?_
  rintro e w13 ⟨rfl, ho, hu⟩
  replace r0 := hide ((unhide r0).upd hu (by have := unhide hs1; have := unhide hs2; have := unhide hs3; have := unhide hs4; have := unhide hs5; have := unhide hs6; have := unhide hs7; have := unhide hs8; have := unhide hs9; have := unhide hs10; have := unhide hs11; have := unhide hs12; omega))
  replace x2 := hide ((unhide x2).upd hu (by have := unhide hs1; have := unhide hs2; have := unhide hs3; have := unhide hs4; have := unhide hs5; have := unhide hs6; have := unhide hs7; have := unhide hs8; have := unhide hs9; have := unhide hs10; have := unhide hs11; have := unhide hs12; omega))
  replace r1 := hide ((unhide r1).upd hu (by have := unhide hs1; have := unhide hs2; have := unhide hs3; have := unhide hs4; have := unhide hs5; have := unhide hs6; have := unhide hs7; have := unhide hs8; have := unhide hs9; have := unhide hs10; have := unhide hs11; have := unhide hs12; omega))
  replace hB := hide (below_upd (unhide hB) hu (Nat.le_refl _) (by have := unhide hs1; have := unhide hs2; have := unhide hs3; have := unhide hs4; have := unhide hs5; have := unhide hs6; have := unhide hs7; have := unhide hs8; have := unhide hs9; have := unhide hs10; have := unhide hs11; have := unhide hs12; omega))
  replace x3 := hide ho
  have hs13 : Hid (w12.heap.size ≤ w13.heap.size) := hide hu.size
  clear hu ho
  have hk0 : ¬ (((1 + zs2.length + zs3.length : Nat) : Int) < 0) := by omega
  go_wp2_with fail
  refine (eqIntS_rd vr1 vr0 (guF n0 n1 zs2 zs3 n4) w13 (unhide hL) (OwnI.rd (unhide r1)) (OwnI.rd (unhide r0))).mono ?_
  rintro e w14 ⟨rfl, hu⟩
  replace r0 := hide ((unhide r0).keep hu)
  replace x2 := hide ((unhide x2).keep hu)
  replace x3 := hide ((unhide x3).keep hu)
  replace r1 := hide ((unhide r1).keep hu)
  replace hB := hide (below_upd (unhide hB) hu (Nat.le_refl _) (.inr (Nat.le_refl _)))
  have hs14 : Hid (w13.heap.size ≤ w14.heap.size) := hide hu.size
  clear hu
  clear x2 x3
  go_wp2_with fail
  refine (markIntS_own (w5.heap.size) (w6.heap.size) vr1 (1) (guF n0 n1 zs2 zs3 n4) w14 (unhide hL) (by omega) (unhide r1)).mono ?_
  rintro e w15 ⟨rfl, ho, hu⟩
  replace r0 := hide ((unhide r0).upd hu (by have := unhide hs1; have := unhide hs2; have := unhide hs3; have := unhide hs4; have := unhide hs5; have := unhide hs6; have := unhide hs7; have := unhide hs8; have := unhide hs9; have := unhide hs10; have := unhide hs11; have := unhide hs12; have := unhide hs13; have := unhide hs14; omega))
  replace hB := hide (below_upd (unhide hB) hu (Nat.le_refl _) (by have := unhide hs1; have := unhide hs2; have := unhide hs3; have := unhide hs4; have := unhide hs5; have := unhide hs6; have := unhide hs7; have := unhide hs8; have := unhide hs9; have := unhide hs10; have := unhide hs11; have := unhide hs12; have := unhide hs13; have := unhide hs14; omega))
  replace r1 := hide ho
  have hs15 : Hid (w14.heap.size ≤ w15.heap.size) := hide hu.size
  clear hu ho
  go_wp2_with fail
  refine (upd_of_same (heldIntS_own (w5.heap.size) (w6.heap.size) vr1 1 (guF n0 n1 zs2 zs3 n4).length w15 (unhide hL) (by omega) (unhide r1))).mono ?_
  rintro e w16 ⟨rfl, hu⟩
  replace r0 := hide ((unhide r0).keep hu)
  replace r1 := hide ((unhide r1).keep hu)
  replace hB := hide (below_upd (unhide hB) hu (Nat.le_refl _) (.inr (Nat.le_refl _)))
  have hs16 : Hid (w15.heap.size ≤ w16.heap.size) := hide hu.size
  clear hu
  have hq0 : ¬ (((1 + (guF n0 n1 zs2 zs3 n4).length : Nat) : Int) < 0) := by omega
  go_wp2_with fail
  refine (toIntS_own ad2 cap2 zs2 w16 hn2 ((unhide hA2).below (unhide hB))).mono ?_
  rintro e w17 ⟨vy2_h0, rfl, ho, hu⟩
  replace r0 := hide ((unhide r0).keep hu)
  replace r1 := hide ((unhide r1).keep hu)
  replace hB := hide (below_upd (unhide hB) hu (Nat.le_refl _) (.inr (Nat.le_refl _)))
  have hs17 : Hid (w16.heap.size ≤ w17.heap.size) := hide hu.size
  have y2_h0 := hide ho
  clear hu ho
  go_wp2_with fail
  refine (toIntS_own ad3 cap3 zs3 w17 hn3 ((unhide hA3).below (unhide hB))).mono ?_
  rintro e w18 ⟨vy3_h0, rfl, ho, hu⟩
  replace r0 := hide ((unhide r0).keep hu)
  replace r1 := hide ((unhide r1).keep hu)
  replace y2_h0 := hide ((unhide y2_h0).keep hu)
  replace hB := hide (below_upd (unhide hB) hu (Nat.le_refl _) (.inr (Nat.le_refl _)))
  have hs18 : Hid (w17.heap.size ≤ w18.heap.size) := hide hu.size
  have y3_h0 := hide ho
  clear hu ho
  go_wp2_with fail
  refine (implGuess n0 n1 vy2_h0 zs2 vy3_h0 zs3 n4 w18  hl0 hh0 hl1 hh1 hn2 (unhide hR2) (rdX_of_own (unhide y2_h0)) hn3 (unhide hR3) (rdX_of_own (unhide y3_h0)) hl4 hh4).mono ?_
  rintro e w19 ⟨vr2, rfl, ho, hu⟩
  replace r0 := hide ((unhide r0).keep hu)
  replace r1 := hide ((unhide r1).keep hu)
  replace y2_h0 := hide ((unhide y2_h0).keep hu)
  replace y3_h0 := hide ((unhide y3_h0).keep hu)
  replace hB := hide (below_upd (unhide hB) hu (Nat.le_refl _) (.inr (Nat.le_refl _)))
  have hs19 : Hid (w18.heap.size ≤ w19.heap.size) := hide hu.size
  have r2 := hide ho
  clear hu ho
  clear y2_h0 y3_h0
  go_wp2_with fail
  refine (eqIntS_rd vr2 vr0 (guF n0 n1 zs2 zs3 n4) w19 (unhide hL) (OwnI.rd (unhide r2)) (OwnI.rd (unhide r0))).mono ?_
  rintro e w20 ⟨rfl, hu⟩
  replace r0 := hide ((unhide r0).keep hu)
  replace r1 := hide ((unhide r1).keep hu)
  replace r2 := hide ((unhide r2).keep hu)
  replace hB := hide (below_upd (unhide hB) hu (Nat.le_refl _) (.inr (Nat.le_refl _)))
  have hs20 : Hid (w19.heap.size ≤ w20.heap.size) := hide hu.size
  clear hu
  go_wp2_with fail
  refine (upd_of_same (heldIntS_own (w5.heap.size) (w6.heap.size) vr1 1 (guF n0 n1 zs2 zs3 n4).length w20 (unhide hL) (by omega) (unhide r1))).mono ?_
  rintro e w21 ⟨rfl, hu⟩
  replace r0 := hide ((unhide r0).keep hu)
  replace r1 := hide ((unhide r1).keep hu)
  replace r2 := hide ((unhide r2).keep hu)
  replace hB := hide (below_upd (unhide hB) hu (Nat.le_refl _) (.inr (Nat.le_refl _)))
  have hs21 : Hid (w20.heap.size ≤ w21.heap.size) := hide hu.size
  clear hu
  go_wp2_with fail
  go_ret
  exact ⟨rfl, unhide hB⟩

theorem lawGuess (n0 : Int) (n1 : Int) (ad2 : Option Addr) (cap2 : Nat) (zs2 : List Int) (ad3 : Option Addr) (cap3 : Nat) (zs3 : List Int) (n4 : Int) (w : World)   (hl0 : -9223372036854775808 ≤ n0) (hh0 : n0 ≤ 9223372036854775807) (hl1 : -9223372036854775808 ≤ n1) (hh1 : n1 ≤ 9223372036854775807) (hA2 : ArgI w ad2 zs2) (hR2 : InI zs2) (hA3 : ArgI w ad3 zs3) (hR3 : InI zs3) (hl4 : -9223372036854775808 ≤ n4) (hh4 : n4 ≤ 9223372036854775807) :
    Calls Try.prog 5 #[.int .i64 n0, .int .i64 n1, .slice ad2 zs2.length cap2, .slice ad3 zs3.length cap3, .int .i64 n4] w fun e w' => e = .returned (.bool true) ∧ Below w.heap.size w w' := by
  by_cases h2 : 1048576 < zs2.length
  · exact lawGuess_long2 n0 n1 ad2 cap2 zs2 ad3 cap3 zs3 n4 w  h2
  by_cases h3 : 1048576 < zs3.length
  · exact lawGuess_long3 n0 n1 ad2 cap2 zs2 ad3 cap3 zs3 n4 w (by omega) h3
  exact lawGuess_short n0 n1 ad2 cap2 zs2 ad3 cap3 zs3 n4 w  (by omega) (by omega) hl0 hh0 hl1 hh1 hA2 hR2 hA3 hR3 hl4 hh4
end Go.Proofs.Ytpofmcepjmbmcaa

namespace Go.Proofs.Ytpofmcepjmbmcaa
open Go.RowKit Go.ChangeShapes

theorem trodAll_five {H : Type} {enc : TypeId × Value → H} {P : Program} {w : World} {base : Nat} {spare : Nat → Bool} {held : Bool} {t t' t'' t3 t4 : TypeId} {args : Array Value} {ds : List (DataW H)} {ps : List MemPlace} (h : DataW.TrodAll enc P w base spare held [t, t', t'', t3, t4] args.toList ds ps) :
    ∃ v v' v'' v3 v4 d d' d'' d3 d4 p p' p'' p3 p4, args = #[v, v', v'', v3, v4] ∧ ds = [d, d', d'', d3, d4] ∧ ps = p ++ p' ++ p'' ++ p3 ++ p4 ∧ DataW.Trod enc P w base spare held t v d p ∧ DataW.Trod enc P w base spare held t' v' d' p' ∧ DataW.Trod enc P w base spare held t'' v'' d'' p'' ∧ DataW.Trod enc P w base spare held t3 v3 d3 p3 ∧ DataW.Trod enc P w base spare held t4 v4 d4 p4 := by
  obtain ⟨v, vs, d, ds', p, q, hargs, rfl, rfl, hd, hrest⟩ := trodAll_cons h
  obtain ⟨v', v'', v3, v4, d', d'', d3, d4, p', p'', p3, p4, e1, rfl, rfl, h1, h2, h3, h4⟩ := trodAll_four (args := vs.toArray) (by simpa using hrest)
  have e2 : vs = [v', v'', v3, v4] := by have := congrArg Array.toList e1; simpa using this
  subst e2
  exact ⟨v, v', v'', v3, v4, d, d', d'', d3, d4, p, p', p'', p3, p4, by cases args; simp_all, rfl, by simp, hd, h1, h2, h3, h4⟩
theorem trodAll_mk5 {H : Type} {enc : TypeId × Value → H} {P : Program} {w : World} {base : Nat} {spare : Nat → Bool} {held : Bool} {t t' t'' t3 t4 : TypeId} {v v' v'' v3 v4 : Value} {d d' d'' d3 d4 : DataW H} {p p' p'' p3 p4 : List MemPlace} (h : DataW.Trod enc P w base spare held t v d p) (h' : DataW.Trod enc P w base spare held t' v' d' p')
    (h'' : DataW.Trod enc P w base spare held t'' v'' d'' p'') (h3 : DataW.Trod enc P w base spare held t3 v3 d3 p3) (h4 : DataW.Trod enc P w base spare held t4 v4 d4 p4) : DataW.TrodAll enc P w base spare held [t, t', t'', t3, t4] [v, v', v'', v3, v4] [d, d', d'', d3, d4] (p ++ (p' ++ (p'' ++ (p3 ++ p4)))) := ⟨p, p' ++ (p'' ++ (p3 ++ p4)), h, trodAll_mk4 h' h'' h3 h4, rfl⟩
end Go.Proofs.Ytpofmcepjmbmcaa

namespace Go.Proofs.Ytpofmcepjmbmcaa
open Go.ChangeShapes Go.WideShapes Go.ChangeAt Go.RowKit

set_option maxRecDepth 100000 in
theorem lawGuess_lifted (os : Os) (started : os.Started) (H : Type) (enc : TypeId × Value → H) :
    ReturnsInHanded {} Try.checked os 5 .any (Rows.fnExactGuessSpec.pre6 enc Try.prog Try.f5 Rows.fnExactGuessRow.domain false) (Rows.fnExactGuessSpec.post enc Try.prog Try.f5 false true false false) := by
  refine returnsInHanded_of_change (C := Try.checked) Try.own started (by kernel_rfl) Try.func5
    (ChangeSpec.witness6 (enc := enc) (C := Try.checked) false ⟨#[], #[.int .i64 0, .int .i64 0, .slice none 0 0, .slice none 0 0, .int .i64 0], []⟩ 8 (by kernel_rfl) (by kernel_rfl) (by kernel_rfl) (by kernel_rfl)) ?_
  intro W base args ds gs before hval0 hW hcnd _
  have hval : ∀ (j : Nat) t v, Try.f5.params[j]? = some t → args[j]? = some v → Value.okWide Try.prog W .any base t v := hval0
  have hW' := hW
  obtain ⟨p, q, hA0, hV, rfl, hfz, hnd⟩ := hW
  have hA : DataW.TrodAll enc Try.prog W 0 (fun _ => true) true Try.f5.params.toList args.toList ds p := hA0
  rw [Try.params5] at hA hval
  obtain ⟨v0, v1, v2, v3, v4, d0, d1, d2, d3, d4, p0, p1, p2, p3, p4, rfl, rfl, rfl, h0, h1, h2, h3, h4⟩ := trodAll_five hA
  obtain ⟨rfl, rfl⟩ := trodVars_none hV
  clear hA0 hval0
  simp only [List.append_nil] at hW'
  have hlt : ∀ x ∈ p0 ++ p1 ++ p2 ++ p3 ++ p4, x.block < W.heap.size := fun x hx => by simpa using hW'.lt x (by simpa using hx)
  obtain ⟨a0, rfl, rfl, rfl, wa0⟩ := open_int Try.underlying3 (hval 0 3 v0 rfl rfl) h0
  obtain ⟨a1, rfl, rfl, rfl, wa1⟩ := open_int Try.underlying3 (hval 1 3 v1 rfl rfl) h1
  obtain ⟨ad2, cap2, zs2, rfl, hb2, hr2⟩ := open_intl (hval 2 29 v2 rfl rfl) h2 (fun x hx => hlt x (by simp [hx]))
  obtain ⟨ad3, cap3, zs3, rfl, hb3, hr3⟩ := open_intl (hval 3 29 v3 rfl rfl) h3 (fun x hx => hlt x (by simp [hx]))
  obtain ⟨a4, rfl, rfl, rfl, wa4⟩ := open_int Try.underlying3 (hval 4 3 v4 rfl rfl) h4
  refine (lawGuess a0 a1 ad2 cap2 zs2 ad3 cap3 zs3 a4 W  (i64_of_wf wa0).1 (i64_of_wf wa0).2 (i64_of_wf wa1).1 (i64_of_wf wa1).2 hb2 hr2 hb3 hr3 (i64_of_wf wa4).1 (i64_of_wf wa4).2).mono fun e W' ⟨he, hg⟩ => ?_
  subst he
  refine ⟨_, rfl, _, _, _, [], _, [], hW', trodAll_mk1 (shut_bool Try.underlying4 _), trodAll_mk5 (shut_int Try.underlying3 wa0) (shut_int Try.underlying3 wa1) (Below.trod Try.laidOut (by kernel_rfl) (of_decide_eq_true (by kernel_rfl)) h2 hg (fun x hx => hlt x (by simp [hx]))) (Below.trod Try.laidOut (by kernel_rfl) (of_decide_eq_true (by kernel_rfl)) h3 hg (fun x hx => hlt x (by simp [hx]))) (shut_int Try.underlying3 wa4), rfl, hg.frame _, fun h => by cases h⟩

theorem lawGuess_holds : Rows.FnExactGuessSaid :=
  OpenClaim.holds_of_wide 5 Try.f5 rfl rfl rfl rfl rfl rfl rfl ⟨rfl, rfl, rfl, rfl, rfl⟩ rfl rfl rfl rfl rfl (by kernel_rfl) Try.func5 (by kernel_rfl)
    (of_decide_eq_true (by kernel_rfl)) (by unfold Func.isWrapper; first | (rw [if_pos (by decide +kernel)]; kernel_rfl) | (rw [if_neg (by decide +kernel)]; exact ⟨rfl, rfl⟩))
    (fun os started H enc _ => lawGuess_lifted os started H enc)
#print axioms lawGuess_holds
end Go.Proofs.Ytpofmcepjmbmcaa
