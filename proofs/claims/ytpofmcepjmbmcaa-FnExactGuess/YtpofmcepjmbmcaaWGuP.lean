/- Guesses: Guess, the program. -/
import Derived.Test.YtpofmcepjmbmcaaWGuO
namespace Go.Proofs.Ytpofmcepjmbmcaa
open Go.RowKit

set_option maxHeartbeats 8000000 in
set_option maxRecDepth 100000 in
theorem implGuessNoA (m S c : Int) (ad ad2 : Option Addr) (n1 n2 cap cap2 : Nat) (w : World) 
    (hI : ∀ W, Below w.heap.size w W → Calls Try.prog 61 #[.agg #[.int .i64 S, .slice ad n1 cap, .slice ad2 n2 cap2, .int .i64 c]] W fun e w' => e = .returned (.bool false) ∧ Upd 0 0 W w') :
    Calls Try.prog 21 #[.int .i64 m, .int .i64 S, .slice ad n1 cap, .slice ad2 n2 cap2, .int .i64 c] w fun e w' => e = .returned (.slice none 0 0) ∧ Upd 0 0 w w' := by
  have hB0 := hide ((Below.refl w.heap.size w).alloc (Nat.le_refl _) (.cells #[.int .i64 S, .slice ad n1 cap, .slice ad2 n2 cap2, .int .i64 c] 94))
  have hcs := hide (heldF_new w [.int .i64 S, .slice ad n1 cap, .slice ad2 n2 cap2, .int .i64 c] 94)
  replace hI := hide hI
  go_enter Try.func21, Try.ntmps21
  go_upto_region 2 with fail
  change Hid (HeldF (w.alloc (.cells #[.int .i64 S, .slice ad n1 cap, .slice ad2 n2 cap2, .int .i64 c] 94)) w.heap.size _) at hcs
  generalize w.alloc (.cells #[.int .i64 S, .slice ad n1 cap, .slice ad2 n2 cap2, .int .i64 c] 94) = w1 at hB0 hcs ⊢
  generalize hgf : w.heap.size = gf at hcs ⊢
  replace hgf := hide hgf
  have c0 := (unhide hcs).1.2 0 _ rfl
  have c1 := (unhide hcs).1.2 1 _ rfl
  have c2 := (unhide hcs).1.2 2 _ rfl
  have c3 := (unhide hcs).1.2 3 _ rfl
  have cl := (unhide hcs).1.1
  go_wp2_with fail
  refine (unhide hI _ (unhide hB0)).mono ?_
  rintro e w2 ⟨rfl, hu⟩
  replace hcs := hide ((unhide hcs).keep hu)
  replace hB0 := hide (below_upd (unhide hB0) hu (Nat.le_refl _) (.inr (Nat.zero_le _)))
  clear c0 c1 c2 c3 cl hI hu
  have hU := hide (Upd.of_below (unhide hB0) 0 0)
  clear hB0 hcs
  go_wp2
  go_ret
  exact ⟨rfl, unhide hU⟩
set_option maxHeartbeats 8000000 in
set_option maxRecDepth 100000 in
theorem implGuessNoB (m S c : Int) (ad ad2 : Option Addr) (n1 n2 cap cap2 : Nat) (w : World) (hm : m < 0)
    (hI : ∀ W, Below w.heap.size w W → Calls Try.prog 61 #[.agg #[.int .i64 S, .slice ad n1 cap, .slice ad2 n2 cap2, .int .i64 c]] W fun e w' => e = .returned (.bool true) ∧ Upd 0 0 W w') :
    Calls Try.prog 21 #[.int .i64 m, .int .i64 S, .slice ad n1 cap, .slice ad2 n2 cap2, .int .i64 c] w fun e w' => e = .returned (.slice none 0 0) ∧ Upd 0 0 w w' := by
  have t1 : decide (m < 0) = true := decide_eq_true hm
  clear hm
  have hB0 := hide ((Below.refl w.heap.size w).alloc (Nat.le_refl _) (.cells #[.int .i64 S, .slice ad n1 cap, .slice ad2 n2 cap2, .int .i64 c] 94))
  have hcs := hide (heldF_new w [.int .i64 S, .slice ad n1 cap, .slice ad2 n2 cap2, .int .i64 c] 94)
  replace hI := hide hI
  go_enter Try.func21, Try.ntmps21
  go_upto_region 2 with fail
  change Hid (HeldF (w.alloc (.cells #[.int .i64 S, .slice ad n1 cap, .slice ad2 n2 cap2, .int .i64 c] 94)) w.heap.size _) at hcs
  generalize w.alloc (.cells #[.int .i64 S, .slice ad n1 cap, .slice ad2 n2 cap2, .int .i64 c] 94) = w1 at hB0 hcs ⊢
  generalize hgf : w.heap.size = gf at hcs ⊢
  replace hgf := hide hgf
  have c0 := (unhide hcs).1.2 0 _ rfl
  have c1 := (unhide hcs).1.2 1 _ rfl
  have c2 := (unhide hcs).1.2 2 _ rfl
  have c3 := (unhide hcs).1.2 3 _ rfl
  have cl := (unhide hcs).1.1
  go_wp2_with fail
  refine (unhide hI _ (unhide hB0)).mono ?_
  rintro e w2 ⟨rfl, hu⟩
  replace hcs := hide ((unhide hcs).keep hu)
  replace hB0 := hide (below_upd (unhide hB0) hu (Nat.le_refl _) (.inr (Nat.zero_le _)))
  clear c0 c1 c2 c3 cl hI hu
  have hU := hide (Upd.of_below (unhide hB0) 0 0)
  clear hB0 hcs
  go_wp2
  go_ret
  exact ⟨rfl, unhide hU⟩
set_option maxHeartbeats 8000000 in
set_option maxRecDepth 100000 in
theorem implGuessNoC (m S c : Int) (ad ad2 : Option Addr) (n1 n2 cap cap2 : Nat) (w : World) (hm : 4 ≤ m)
    (hI : ∀ W, Below w.heap.size w W → Calls Try.prog 61 #[.agg #[.int .i64 S, .slice ad n1 cap, .slice ad2 n2 cap2, .int .i64 c]] W fun e w' => e = .returned (.bool true) ∧ Upd 0 0 W w') :
    Calls Try.prog 21 #[.int .i64 m, .int .i64 S, .slice ad n1 cap, .slice ad2 n2 cap2, .int .i64 c] w fun e w' => e = .returned (.slice none 0 0) ∧ Upd 0 0 w w' := by
  have t1 : decide (m < 0) = false := decide_eq_false (by omega)
  have t2 : decide (m ≥ 4) = true := decide_eq_true hm
  have t3 : decide (4 ≤ m) = true := decide_eq_true hm
  have hB0 := hide ((Below.refl w.heap.size w).alloc (Nat.le_refl _) (.cells #[.int .i64 S, .slice ad n1 cap, .slice ad2 n2 cap2, .int .i64 c] 94))
  have hcs := hide (heldF_new w [.int .i64 S, .slice ad n1 cap, .slice ad2 n2 cap2, .int .i64 c] 94)
  replace hI := hide hI
  go_enter Try.func21, Try.ntmps21
  go_upto_region 2 with fail
  change Hid (HeldF (w.alloc (.cells #[.int .i64 S, .slice ad n1 cap, .slice ad2 n2 cap2, .int .i64 c] 94)) w.heap.size _) at hcs
  generalize w.alloc (.cells #[.int .i64 S, .slice ad n1 cap, .slice ad2 n2 cap2, .int .i64 c] 94) = w1 at hB0 hcs ⊢
  generalize hgf : w.heap.size = gf at hcs ⊢
  replace hgf := hide hgf
  have c0 := (unhide hcs).1.2 0 _ rfl
  have c1 := (unhide hcs).1.2 1 _ rfl
  have c2 := (unhide hcs).1.2 2 _ rfl
  have c3 := (unhide hcs).1.2 3 _ rfl
  have cl := (unhide hcs).1.1
  go_wp2_with fail
  refine (unhide hI _ (unhide hB0)).mono ?_
  rintro e w2 ⟨rfl, hu⟩
  replace hcs := hide ((unhide hcs).keep hu)
  replace hB0 := hide (below_upd (unhide hB0) hu (Nat.le_refl _) (.inr (Nat.zero_le _)))
  clear c0 c1 c2 c3 cl hI hu
  have hU := hide (Upd.of_below (unhide hB0) 0 0)
  clear hB0 hcs
  go_wp2
  go_ret
  exact ⟨rfl, unhide hU⟩
set_option maxHeartbeats 8000000 in
set_option maxRecDepth 100000 in
theorem implGuessAt0 (S c : Int) (ad ad2 : Option Addr) (n1 n2 cap cap2 : Nat) (zs : List Int) (w : World)
    (hI : ∀ W, Below w.heap.size w W → Calls Try.prog 61 #[.agg #[.int .i64 S, .slice ad n1 cap, .slice ad2 n2 cap2, .int .i64 c]] W fun e w' => e = .returned (.bool true) ∧ Upd 0 0 W w')
    (hP : ∀ W, Below w.heap.size w W → Calls Try.prog 62 #[.agg #[.int .i64 S, .slice ad n1 cap, .slice ad2 n2 cap2, .int .i64 c]] W fun e w' => ∃ v, e = .returned v ∧ OwnI w' W.heap.size w'.heap.size v zs ∧ Upd 0 0 W w') :
    Calls Try.prog 21 #[.int .i64 0, .int .i64 S, .slice ad n1 cap, .slice ad2 n2 cap2, .int .i64 c] w fun e w' => ∃ v, e = .returned v ∧ OwnI w' w.heap.size w'.heap.size v zs ∧ Upd 0 0 w w' := by
  have hB0 := hide ((Below.refl w.heap.size w).alloc (Nat.le_refl _) (.cells #[.int .i64 S, .slice ad n1 cap, .slice ad2 n2 cap2, .int .i64 c] 94))
  have hcs := hide (heldF_new w [.int .i64 S, .slice ad n1 cap, .slice ad2 n2 cap2, .int .i64 c] 94)
  replace hI := hide hI
  replace hP := hide hP
  go_enter Try.func21, Try.ntmps21
  go_upto_region 2 with fail
  change Hid (HeldF (w.alloc (.cells #[.int .i64 S, .slice ad n1 cap, .slice ad2 n2 cap2, .int .i64 c] 94)) w.heap.size _) at hcs
  generalize w.alloc (.cells #[.int .i64 S, .slice ad n1 cap, .slice ad2 n2 cap2, .int .i64 c] 94) = w1 at hB0 hcs ⊢
  generalize hgf : w.heap.size = gf at hcs ⊢
  replace hgf := hide hgf
  have c0 := (unhide hcs).1.2 0 _ rfl
  have c1 := (unhide hcs).1.2 1 _ rfl
  have c2 := (unhide hcs).1.2 2 _ rfl
  have c3 := (unhide hcs).1.2 3 _ rfl
  have cl := (unhide hcs).1.1
  go_wp2_with fail
  refine (unhide hI _ (unhide hB0)).mono ?_
  rintro e w2 ⟨rfl, hu⟩
  replace hcs := hide ((unhide hcs).keep hu)
  replace hB0 := hide (below_upd (unhide hB0) hu (Nat.le_refl _) (.inr (Nat.zero_le _)))
  clear c0 c1 c2 c3 cl hI hu
  have c0 := (unhide hcs).1.2 0 _ rfl
  have c1 := (unhide hcs).1.2 1 _ rfl
  have c2 := (unhide hcs).1.2 2 _ rfl
  have c3 := (unhide hcs).1.2 3 _ rfl
  have cl := (unhide hcs).1.1
  clear hcs
  go_upto_region 5 with fail
  have hB3 := hide ((unhide hB0).trans (((Below.refl w2.heap.size w2).alloc (Nat.le_refl _) (.cells #[.func (.func 62) #[.agg #[.int .i64 S, .slice ad n1 cap, .slice ad2 n2 cap2, .int .i64 c]] #[], .func (.func 63) #[.agg #[.int .i64 S, .slice ad n1 cap, .slice ad2 n2 cap2, .int .i64 c]] #[], .func (.func 64) #[.agg #[.int .i64 S, .slice ad n1 cap, .slice ad2 n2 cap2, .int .i64 c]] #[], .func (.func 65) #[.agg #[.int .i64 S, .slice ad n1 cap, .slice ad2 n2 cap2, .int .i64 c]] #[]] 97)).mono (unhide hB0).size))
  go_wp2_with fail
  refine (unhide hP _ (unhide hB3)).mono ?_
  rintro e w4 ⟨v, rfl, ho, hu⟩
  have ho2 := hide (own_mono (a' := w.heap.size) ho (unhide hB3).size (Nat.le_refl _))
  have hu2 := hide ((Upd.of_below (unhide hB3) 0 0).trans hu)
  clear ho hu hP hB3 hB0 c0 c1 c2 c3 cl
  go_wp2
  go_ret
  exact ⟨_, rfl, unhide ho2, unhide hu2⟩
set_option maxHeartbeats 8000000 in
set_option maxRecDepth 100000 in
theorem implGuessAt1 (S c : Int) (ad ad2 : Option Addr) (n1 n2 cap cap2 : Nat) (zs : List Int) (w : World)
    (hI : ∀ W, Below w.heap.size w W → Calls Try.prog 61 #[.agg #[.int .i64 S, .slice ad n1 cap, .slice ad2 n2 cap2, .int .i64 c]] W fun e w' => e = .returned (.bool true) ∧ Upd 0 0 W w')
    (hP : ∀ W, Below w.heap.size w W → Calls Try.prog 63 #[.agg #[.int .i64 S, .slice ad n1 cap, .slice ad2 n2 cap2, .int .i64 c]] W fun e w' => ∃ v, e = .returned v ∧ OwnI w' W.heap.size w'.heap.size v zs ∧ Upd 0 0 W w') :
    Calls Try.prog 21 #[.int .i64 1, .int .i64 S, .slice ad n1 cap, .slice ad2 n2 cap2, .int .i64 c] w fun e w' => ∃ v, e = .returned v ∧ OwnI w' w.heap.size w'.heap.size v zs ∧ Upd 0 0 w w' := by
  have hB0 := hide ((Below.refl w.heap.size w).alloc (Nat.le_refl _) (.cells #[.int .i64 S, .slice ad n1 cap, .slice ad2 n2 cap2, .int .i64 c] 94))
  have hcs := hide (heldF_new w [.int .i64 S, .slice ad n1 cap, .slice ad2 n2 cap2, .int .i64 c] 94)
  replace hI := hide hI
  replace hP := hide hP
  go_enter Try.func21, Try.ntmps21
  go_upto_region 2 with fail
  change Hid (HeldF (w.alloc (.cells #[.int .i64 S, .slice ad n1 cap, .slice ad2 n2 cap2, .int .i64 c] 94)) w.heap.size _) at hcs
  generalize w.alloc (.cells #[.int .i64 S, .slice ad n1 cap, .slice ad2 n2 cap2, .int .i64 c] 94) = w1 at hB0 hcs ⊢
  generalize hgf : w.heap.size = gf at hcs ⊢
  replace hgf := hide hgf
  have c0 := (unhide hcs).1.2 0 _ rfl
  have c1 := (unhide hcs).1.2 1 _ rfl
  have c2 := (unhide hcs).1.2 2 _ rfl
  have c3 := (unhide hcs).1.2 3 _ rfl
  have cl := (unhide hcs).1.1
  go_wp2_with fail
  refine (unhide hI _ (unhide hB0)).mono ?_
  rintro e w2 ⟨rfl, hu⟩
  replace hcs := hide ((unhide hcs).keep hu)
  replace hB0 := hide (below_upd (unhide hB0) hu (Nat.le_refl _) (.inr (Nat.zero_le _)))
  clear c0 c1 c2 c3 cl hI hu
  have c0 := (unhide hcs).1.2 0 _ rfl
  have c1 := (unhide hcs).1.2 1 _ rfl
  have c2 := (unhide hcs).1.2 2 _ rfl
  have c3 := (unhide hcs).1.2 3 _ rfl
  have cl := (unhide hcs).1.1
  clear hcs
  go_upto_region 5 with fail
  have hB3 := hide ((unhide hB0).trans (((Below.refl w2.heap.size w2).alloc (Nat.le_refl _) (.cells #[.func (.func 62) #[.agg #[.int .i64 S, .slice ad n1 cap, .slice ad2 n2 cap2, .int .i64 c]] #[], .func (.func 63) #[.agg #[.int .i64 S, .slice ad n1 cap, .slice ad2 n2 cap2, .int .i64 c]] #[], .func (.func 64) #[.agg #[.int .i64 S, .slice ad n1 cap, .slice ad2 n2 cap2, .int .i64 c]] #[], .func (.func 65) #[.agg #[.int .i64 S, .slice ad n1 cap, .slice ad2 n2 cap2, .int .i64 c]] #[]] 97)).mono (unhide hB0).size))
  go_wp2_with fail
  refine (unhide hP _ (unhide hB3)).mono ?_
  rintro e w4 ⟨v, rfl, ho, hu⟩
  have ho2 := hide (own_mono (a' := w.heap.size) ho (unhide hB3).size (Nat.le_refl _))
  have hu2 := hide ((Upd.of_below (unhide hB3) 0 0).trans hu)
  clear ho hu hP hB3 hB0 c0 c1 c2 c3 cl
  go_wp2
  go_ret
  exact ⟨_, rfl, unhide ho2, unhide hu2⟩
set_option maxHeartbeats 8000000 in
set_option maxRecDepth 100000 in
theorem implGuessAt2 (S c : Int) (ad ad2 : Option Addr) (n1 n2 cap cap2 : Nat) (zs : List Int) (w : World)
    (hI : ∀ W, Below w.heap.size w W → Calls Try.prog 61 #[.agg #[.int .i64 S, .slice ad n1 cap, .slice ad2 n2 cap2, .int .i64 c]] W fun e w' => e = .returned (.bool true) ∧ Upd 0 0 W w')
    (hP : ∀ W, Below w.heap.size w W → Calls Try.prog 64 #[.agg #[.int .i64 S, .slice ad n1 cap, .slice ad2 n2 cap2, .int .i64 c]] W fun e w' => ∃ v, e = .returned v ∧ OwnI w' W.heap.size w'.heap.size v zs ∧ Upd 0 0 W w') :
    Calls Try.prog 21 #[.int .i64 2, .int .i64 S, .slice ad n1 cap, .slice ad2 n2 cap2, .int .i64 c] w fun e w' => ∃ v, e = .returned v ∧ OwnI w' w.heap.size w'.heap.size v zs ∧ Upd 0 0 w w' := by
  have hB0 := hide ((Below.refl w.heap.size w).alloc (Nat.le_refl _) (.cells #[.int .i64 S, .slice ad n1 cap, .slice ad2 n2 cap2, .int .i64 c] 94))
  have hcs := hide (heldF_new w [.int .i64 S, .slice ad n1 cap, .slice ad2 n2 cap2, .int .i64 c] 94)
  replace hI := hide hI
  replace hP := hide hP
  go_enter Try.func21, Try.ntmps21
  go_upto_region 2 with fail
  change Hid (HeldF (w.alloc (.cells #[.int .i64 S, .slice ad n1 cap, .slice ad2 n2 cap2, .int .i64 c] 94)) w.heap.size _) at hcs
  generalize w.alloc (.cells #[.int .i64 S, .slice ad n1 cap, .slice ad2 n2 cap2, .int .i64 c] 94) = w1 at hB0 hcs ⊢
  generalize hgf : w.heap.size = gf at hcs ⊢
  replace hgf := hide hgf
  have c0 := (unhide hcs).1.2 0 _ rfl
  have c1 := (unhide hcs).1.2 1 _ rfl
  have c2 := (unhide hcs).1.2 2 _ rfl
  have c3 := (unhide hcs).1.2 3 _ rfl
  have cl := (unhide hcs).1.1
  go_wp2_with fail
  refine (unhide hI _ (unhide hB0)).mono ?_
  rintro e w2 ⟨rfl, hu⟩
  replace hcs := hide ((unhide hcs).keep hu)
  replace hB0 := hide (below_upd (unhide hB0) hu (Nat.le_refl _) (.inr (Nat.zero_le _)))
  clear c0 c1 c2 c3 cl hI hu
  have c0 := (unhide hcs).1.2 0 _ rfl
  have c1 := (unhide hcs).1.2 1 _ rfl
  have c2 := (unhide hcs).1.2 2 _ rfl
  have c3 := (unhide hcs).1.2 3 _ rfl
  have cl := (unhide hcs).1.1
  clear hcs
  go_upto_region 5 with fail
  have hB3 := hide ((unhide hB0).trans (((Below.refl w2.heap.size w2).alloc (Nat.le_refl _) (.cells #[.func (.func 62) #[.agg #[.int .i64 S, .slice ad n1 cap, .slice ad2 n2 cap2, .int .i64 c]] #[], .func (.func 63) #[.agg #[.int .i64 S, .slice ad n1 cap, .slice ad2 n2 cap2, .int .i64 c]] #[], .func (.func 64) #[.agg #[.int .i64 S, .slice ad n1 cap, .slice ad2 n2 cap2, .int .i64 c]] #[], .func (.func 65) #[.agg #[.int .i64 S, .slice ad n1 cap, .slice ad2 n2 cap2, .int .i64 c]] #[]] 97)).mono (unhide hB0).size))
  go_wp2_with fail
  refine (unhide hP _ (unhide hB3)).mono ?_
  rintro e w4 ⟨v, rfl, ho, hu⟩
  have ho2 := hide (own_mono (a' := w.heap.size) ho (unhide hB3).size (Nat.le_refl _))
  have hu2 := hide ((Upd.of_below (unhide hB3) 0 0).trans hu)
  clear ho hu hP hB3 hB0 c0 c1 c2 c3 cl
  go_wp2
  go_ret
  exact ⟨_, rfl, unhide ho2, unhide hu2⟩
set_option maxHeartbeats 8000000 in
set_option maxRecDepth 100000 in
theorem implGuessAt3 (S c : Int) (ad ad2 : Option Addr) (n1 n2 cap cap2 : Nat) (zs : List Int) (w : World)
    (hI : ∀ W, Below w.heap.size w W → Calls Try.prog 61 #[.agg #[.int .i64 S, .slice ad n1 cap, .slice ad2 n2 cap2, .int .i64 c]] W fun e w' => e = .returned (.bool true) ∧ Upd 0 0 W w')
    (hP : ∀ W, Below w.heap.size w W → Calls Try.prog 65 #[.agg #[.int .i64 S, .slice ad n1 cap, .slice ad2 n2 cap2, .int .i64 c]] W fun e w' => ∃ v, e = .returned v ∧ OwnI w' W.heap.size w'.heap.size v zs ∧ Upd 0 0 W w') :
    Calls Try.prog 21 #[.int .i64 3, .int .i64 S, .slice ad n1 cap, .slice ad2 n2 cap2, .int .i64 c] w fun e w' => ∃ v, e = .returned v ∧ OwnI w' w.heap.size w'.heap.size v zs ∧ Upd 0 0 w w' := by
  have hB0 := hide ((Below.refl w.heap.size w).alloc (Nat.le_refl _) (.cells #[.int .i64 S, .slice ad n1 cap, .slice ad2 n2 cap2, .int .i64 c] 94))
  have hcs := hide (heldF_new w [.int .i64 S, .slice ad n1 cap, .slice ad2 n2 cap2, .int .i64 c] 94)
  replace hI := hide hI
  replace hP := hide hP
  go_enter Try.func21, Try.ntmps21
  go_upto_region 2 with fail
  change Hid (HeldF (w.alloc (.cells #[.int .i64 S, .slice ad n1 cap, .slice ad2 n2 cap2, .int .i64 c] 94)) w.heap.size _) at hcs
  generalize w.alloc (.cells #[.int .i64 S, .slice ad n1 cap, .slice ad2 n2 cap2, .int .i64 c] 94) = w1 at hB0 hcs ⊢
  generalize hgf : w.heap.size = gf at hcs ⊢
  replace hgf := hide hgf
  have c0 := (unhide hcs).1.2 0 _ rfl
  have c1 := (unhide hcs).1.2 1 _ rfl
  have c2 := (unhide hcs).1.2 2 _ rfl
  have c3 := (unhide hcs).1.2 3 _ rfl
  have cl := (unhide hcs).1.1
  go_wp2_with fail
  refine (unhide hI _ (unhide hB0)).mono ?_
  rintro e w2 ⟨rfl, hu⟩
  replace hcs := hide ((unhide hcs).keep hu)
  replace hB0 := hide (below_upd (unhide hB0) hu (Nat.le_refl _) (.inr (Nat.zero_le _)))
  clear c0 c1 c2 c3 cl hI hu
  have c0 := (unhide hcs).1.2 0 _ rfl
  have c1 := (unhide hcs).1.2 1 _ rfl
  have c2 := (unhide hcs).1.2 2 _ rfl
  have c3 := (unhide hcs).1.2 3 _ rfl
  have cl := (unhide hcs).1.1
  clear hcs
  go_upto_region 5 with fail
  have hB3 := hide ((unhide hB0).trans (((Below.refl w2.heap.size w2).alloc (Nat.le_refl _) (.cells #[.func (.func 62) #[.agg #[.int .i64 S, .slice ad n1 cap, .slice ad2 n2 cap2, .int .i64 c]] #[], .func (.func 63) #[.agg #[.int .i64 S, .slice ad n1 cap, .slice ad2 n2 cap2, .int .i64 c]] #[], .func (.func 64) #[.agg #[.int .i64 S, .slice ad n1 cap, .slice ad2 n2 cap2, .int .i64 c]] #[], .func (.func 65) #[.agg #[.int .i64 S, .slice ad n1 cap, .slice ad2 n2 cap2, .int .i64 c]] #[]] 97)).mono (unhide hB0).size))
  go_wp2_with fail
  refine (unhide hP _ (unhide hB3)).mono ?_
  rintro e w4 ⟨v, rfl, ho, hu⟩
  have ho2 := hide (own_mono (a' := w.heap.size) ho (unhide hB3).size (Nat.le_refl _))
  have hu2 := hide ((Upd.of_below (unhide hB3) 0 0).trans hu)
  clear ho hu hP hB3 hB0 c0 c1 c2 c3 cl
  go_wp2
  go_ret
  exact ⟨_, rfl, unhide ho2, unhide hu2⟩
end Go.Proofs.Ytpofmcepjmbmcaa
