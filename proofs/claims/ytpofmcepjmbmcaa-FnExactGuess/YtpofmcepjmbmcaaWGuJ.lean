/- Guesses: what is around a square is good: the program. -/
import Derived.Test.YtpofmcepjmbmcaaWGuI
namespace Go.Proofs.Ytpofmcepjmbmcaa
open Go.RowKit

theorem clipF_eqB (c : Int) : (clipF c == c) = decide (0 ≤ c ∧ c ≤ 255) := by
  rw [Bool.eq_iff_iff, beq_iff_eq, decide_eq_true_iff]
  unfold clipF
  split
  · constructor <;> intro h <;> omega
  · split
    · constructor <;> intro h <;> omega
    · constructor <;> intro h <;> omega
def guGood (size : Int) (xs ys : List Int) (c : Int) : Bool := decide (size = 4 ∨ size = 8) && guSide size xs && guSide size ys && decide (0 ≤ c ∧ c ≤ 255)
set_option maxHeartbeats 8000000 in
set_option maxRecDepth 100000 in
theorem implIsGood0 (size c : Int) (v1 v2 : Value) (w : World)
    (h1 : ∀ W, Calls Try.prog 101 #[.int .i64 size] W fun e w' => e = .returned (.bool false) ∧ w' = W) :
    Calls Try.prog 61 #[.agg #[.int .i64 size, v1, v2, .int .i64 c]] w fun e w' => e = .returned (.bool false) ∧ Upd 0 0 w w' := by
  have hB := hide ((Below.refl w.heap.size w).alloc (Nat.le_refl _) (.cells #[.int .i64 size, v1, v2, .int .i64 c] 94))
  have hcs := hide (held_new w [.int .i64 size, v1, v2, .int .i64 c] 94)
  replace h1 := hide h1
  go_enter Try.func61, Try.ntmps61
  go_upto_region 1 with fail
  change Hid (Held (w.alloc (.cells #[.int .i64 size, v1, v2, .int .i64 c] 94)) w.heap.size _) at hcs
  generalize w.alloc (.cells #[.int .i64 size, v1, v2, .int .i64 c] 94) = w2 at hB hcs ⊢
  generalize hgf : w.heap.size = gf at hcs ⊢
  replace hgf := hide hgf
  have c0 := fun x : UpdT w2 => ((unhide hcs).updT x).2 0 _ rfl
  have c1 := fun x : UpdT w2 => ((unhide hcs).updT x).2 1 _ rfl
  have c2 := fun x : UpdT w2 => ((unhide hcs).updT x).2 2 _ rfl
  have c3 := fun x : UpdT w2 => ((unhide hcs).updT x).2 3 _ rfl
  have cl := fun x : UpdT w2 => ((unhide hcs).updT x).1
  refine wq_region_upd (by kernel_rfl) (by kernel_rfl) ?_
  iterate 2
    refine WQ.step (fun K hK => ?_)
    go_simp
    refine hK _ ?_
    clear hK K
  refine WQ.step (fun K hK => ?_)
  go_simp
  apply Exists.intro
  refine ⟨fun _ => ?_, hK _ ?_⟩
  (go_at_call 101; exact Calls.updT_same _ (unhide h1 _))
  clear hK K
  iterate 21
    refine WQ.step (fun K hK => ?_)
    go_simp
    refine hK _ ?_
    clear hK K
  refine WQ.nil ?_
  rintro _ ⟨x, rfl⟩
  clear c0 c1 c2 c3 cl
  have hx := hide x.upd
  generalize x.to = w3 at hx ⊢
  go_wp2
  go_ret
  exact ⟨by first | rfl | simp, Upd.of_below (below_upd (unhide hB) (unhide hx) (Nat.le_refl _) (.inr (Nat.zero_le _))) 0 0⟩
set_option maxHeartbeats 8000000 in
set_option maxRecDepth 100000 in
theorem implIsGood1 (size c : Int) (v1 v2 : Value) (w : World)
    (h1 : ∀ W, Calls Try.prog 101 #[.int .i64 size] W fun e w' => e = .returned (.bool true) ∧ w' = W)
    (h2 : ∀ W, Below w.heap.size w W → Calls Try.prog 102 #[.agg #[.int .i64 size, v1, v2, .int .i64 c], v1] W fun e w' => e = .returned (.bool false) ∧ Upd 0 0 W w') :
    Calls Try.prog 61 #[.agg #[.int .i64 size, v1, v2, .int .i64 c]] w fun e w' => e = .returned (.bool false) ∧ Upd 0 0 w w' := by
  have hB := hide ((Below.refl w.heap.size w).alloc (Nat.le_refl _) (.cells #[.int .i64 size, v1, v2, .int .i64 c] 94))
  have hcs := hide (held_new w [.int .i64 size, v1, v2, .int .i64 c] 94)
  replace h1 := hide h1
  replace h2 := hide h2
  go_enter Try.func61, Try.ntmps61
  go_upto_region 1 with fail
  change Hid (Held (w.alloc (.cells #[.int .i64 size, v1, v2, .int .i64 c] 94)) w.heap.size _) at hcs
  generalize w.alloc (.cells #[.int .i64 size, v1, v2, .int .i64 c] 94) = w2 at hB hcs ⊢
  generalize hgf : w.heap.size = gf at hcs ⊢
  replace hgf := hide hgf
  have c0 := fun x : UpdT w2 => ((unhide hcs).updT x).2 0 _ rfl
  have c1 := fun x : UpdT w2 => ((unhide hcs).updT x).2 1 _ rfl
  have c2 := fun x : UpdT w2 => ((unhide hcs).updT x).2 2 _ rfl
  have c3 := fun x : UpdT w2 => ((unhide hcs).updT x).2 3 _ rfl
  have cl := fun x : UpdT w2 => ((unhide hcs).updT x).1
  have k2 := hide (fun x : UpdT w2 => unhide h2 x.to (below_upd (unhide hB) x.upd (Nat.le_refl _) (.inr (Nat.zero_le _))))
  refine wq_region_upd (by kernel_rfl) (by kernel_rfl) ?_
  iterate 2
    refine WQ.step (fun K hK => ?_)
    go_simp
    refine hK _ ?_
    clear hK K
  refine WQ.step (fun K hK => ?_)
  go_simp
  apply Exists.intro
  refine ⟨fun _ => ?_, hK _ ?_⟩
  (go_at_call 101; exact Calls.updT_same _ (unhide h1 _))
  clear hK K
  iterate 4
    refine WQ.step (fun K hK => ?_)
    go_simp
    refine hK _ ?_
    clear hK K
  refine WQ.step (fun K hK => ?_)
  go_simp
  apply Exists.intro
  refine ⟨fun _ => ?_, hK _ ?_⟩
  (go_at_call 102; exact Calls.updT _ (unhide k2 _))
  clear hK K
  iterate 16
    refine WQ.step (fun K hK => ?_)
    go_simp
    refine hK _ ?_
    clear hK K
  refine WQ.nil ?_
  rintro _ ⟨x, rfl⟩
  clear c0 c1 c2 c3 cl
  have hx := hide x.upd
  generalize x.to = w3 at hx ⊢
  go_wp2
  go_ret
  exact ⟨by first | rfl | simp, Upd.of_below (below_upd (unhide hB) (unhide hx) (Nat.le_refl _) (.inr (Nat.zero_le _))) 0 0⟩
set_option maxHeartbeats 8000000 in
set_option maxRecDepth 100000 in
theorem implIsGood2 (size c : Int) (v1 v2 : Value) (w : World)
    (h1 : ∀ W, Calls Try.prog 101 #[.int .i64 size] W fun e w' => e = .returned (.bool true) ∧ w' = W)
    (h2 : ∀ W, Below w.heap.size w W → Calls Try.prog 102 #[.agg #[.int .i64 size, v1, v2, .int .i64 c], v1] W fun e w' => e = .returned (.bool true) ∧ Upd 0 0 W w')
    (h3 : ∀ W, Below w.heap.size w W → Calls Try.prog 102 #[.agg #[.int .i64 size, v1, v2, .int .i64 c], v2] W fun e w' => e = .returned (.bool false) ∧ Upd 0 0 W w') :
    Calls Try.prog 61 #[.agg #[.int .i64 size, v1, v2, .int .i64 c]] w fun e w' => e = .returned (.bool false) ∧ Upd 0 0 w w' := by
  have hB := hide ((Below.refl w.heap.size w).alloc (Nat.le_refl _) (.cells #[.int .i64 size, v1, v2, .int .i64 c] 94))
  have hcs := hide (held_new w [.int .i64 size, v1, v2, .int .i64 c] 94)
  replace h1 := hide h1
  replace h2 := hide h2
  replace h3 := hide h3
  go_enter Try.func61, Try.ntmps61
  go_upto_region 1 with fail
  change Hid (Held (w.alloc (.cells #[.int .i64 size, v1, v2, .int .i64 c] 94)) w.heap.size _) at hcs
  generalize w.alloc (.cells #[.int .i64 size, v1, v2, .int .i64 c] 94) = w2 at hB hcs ⊢
  generalize hgf : w.heap.size = gf at hcs ⊢
  replace hgf := hide hgf
  have c0 := fun x : UpdT w2 => ((unhide hcs).updT x).2 0 _ rfl
  have c1 := fun x : UpdT w2 => ((unhide hcs).updT x).2 1 _ rfl
  have c2 := fun x : UpdT w2 => ((unhide hcs).updT x).2 2 _ rfl
  have c3 := fun x : UpdT w2 => ((unhide hcs).updT x).2 3 _ rfl
  have cl := fun x : UpdT w2 => ((unhide hcs).updT x).1
  have k2 := hide (fun x : UpdT w2 => unhide h2 x.to (below_upd (unhide hB) x.upd (Nat.le_refl _) (.inr (Nat.zero_le _))))
  have k3 := hide (fun x : UpdT w2 => unhide h3 x.to (below_upd (unhide hB) x.upd (Nat.le_refl _) (.inr (Nat.zero_le _))))
  refine wq_region_upd (by kernel_rfl) (by kernel_rfl) ?_
  iterate 2
    refine WQ.step (fun K hK => ?_)
    go_simp
    refine hK _ ?_
    clear hK K
  refine WQ.step (fun K hK => ?_)
  go_simp
  apply Exists.intro
  refine ⟨fun _ => ?_, hK _ ?_⟩
  (go_at_call 101; exact Calls.updT_same _ (unhide h1 _))
  clear hK K
  iterate 4
    refine WQ.step (fun K hK => ?_)
    go_simp
    refine hK _ ?_
    clear hK K
  refine WQ.step (fun K hK => ?_)
  go_simp
  apply Exists.intro
  refine ⟨fun _ => ?_, hK _ ?_⟩
  (go_at_call 102; exact Calls.updT _ (unhide k2 _))
  clear hK K
  iterate 5
    refine WQ.step (fun K hK => ?_)
    go_simp
    refine hK _ ?_
    clear hK K
  refine WQ.step (fun K hK => ?_)
  go_simp
  apply Exists.intro
  refine ⟨fun _ => ?_, hK _ ?_⟩
  (go_at_call 102; exact Calls.updT _ (unhide k3 _))
  clear hK K
  iterate 10
    refine WQ.step (fun K hK => ?_)
    go_simp
    refine hK _ ?_
    clear hK K
  refine WQ.nil ?_
  rintro _ ⟨x, rfl⟩
  clear c0 c1 c2 c3 cl
  have hx := hide x.upd
  generalize x.to = w3 at hx ⊢
  go_wp2
  go_ret
  exact ⟨by first | rfl | simp, Upd.of_below (below_upd (unhide hB) (unhide hx) (Nat.le_refl _) (.inr (Nat.zero_le _))) 0 0⟩
set_option maxHeartbeats 8000000 in
set_option maxRecDepth 100000 in
theorem implIsGood3 (size c : Int) (v1 v2 : Value) (w : World)
    (h1 : ∀ W, Calls Try.prog 101 #[.int .i64 size] W fun e w' => e = .returned (.bool true) ∧ w' = W)
    (h2 : ∀ W, Below w.heap.size w W → Calls Try.prog 102 #[.agg #[.int .i64 size, v1, v2, .int .i64 c], v1] W fun e w' => e = .returned (.bool true) ∧ Upd 0 0 W w')
    (h3 : ∀ W, Below w.heap.size w W → Calls Try.prog 102 #[.agg #[.int .i64 size, v1, v2, .int .i64 c], v2] W fun e w' => e = .returned (.bool true) ∧ Upd 0 0 W w') :
    Calls Try.prog 61 #[.agg #[.int .i64 size, v1, v2, .int .i64 c]] w fun e w' => e = .returned (.bool (clipF c == c)) ∧ Upd 0 0 w w' := by
  have hB := hide ((Below.refl w.heap.size w).alloc (Nat.le_refl _) (.cells #[.int .i64 size, v1, v2, .int .i64 c] 94))
  have hcs := hide (held_new w [.int .i64 size, v1, v2, .int .i64 c] 94)
  replace h1 := hide h1
  replace h2 := hide h2
  replace h3 := hide h3
  have h4 := hide (fun W => implClipSample c W)
  go_enter Try.func61, Try.ntmps61
  go_upto_region 1 with fail
  change Hid (Held (w.alloc (.cells #[.int .i64 size, v1, v2, .int .i64 c] 94)) w.heap.size _) at hcs
  generalize w.alloc (.cells #[.int .i64 size, v1, v2, .int .i64 c] 94) = w2 at hB hcs ⊢
  generalize hgf : w.heap.size = gf at hcs ⊢
  replace hgf := hide hgf
  have c0 := fun x : UpdT w2 => ((unhide hcs).updT x).2 0 _ rfl
  have c1 := fun x : UpdT w2 => ((unhide hcs).updT x).2 1 _ rfl
  have c2 := fun x : UpdT w2 => ((unhide hcs).updT x).2 2 _ rfl
  have c3 := fun x : UpdT w2 => ((unhide hcs).updT x).2 3 _ rfl
  have cl := fun x : UpdT w2 => ((unhide hcs).updT x).1
  have k2 := hide (fun x : UpdT w2 => unhide h2 x.to (below_upd (unhide hB) x.upd (Nat.le_refl _) (.inr (Nat.zero_le _))))
  have k3 := hide (fun x : UpdT w2 => unhide h3 x.to (below_upd (unhide hB) x.upd (Nat.le_refl _) (.inr (Nat.zero_le _))))
  refine wq_region_upd (by kernel_rfl) (by kernel_rfl) ?_
  iterate 2
    refine WQ.step (fun K hK => ?_)
    go_simp
    refine hK _ ?_
    clear hK K
  refine WQ.step (fun K hK => ?_)
  go_simp
  apply Exists.intro
  refine ⟨fun _ => ?_, hK _ ?_⟩
  (go_at_call 101; exact Calls.updT_same _ (unhide h1 _))
  clear hK K
  iterate 4
    refine WQ.step (fun K hK => ?_)
    go_simp
    refine hK _ ?_
    clear hK K
  refine WQ.step (fun K hK => ?_)
  go_simp
  apply Exists.intro
  refine ⟨fun _ => ?_, hK _ ?_⟩
  (go_at_call 102; exact Calls.updT _ (unhide k2 _))
  clear hK K
  iterate 5
    refine WQ.step (fun K hK => ?_)
    go_simp
    refine hK _ ?_
    clear hK K
  refine WQ.step (fun K hK => ?_)
  go_simp
  apply Exists.intro
  refine ⟨fun _ => ?_, hK _ ?_⟩
  (go_at_call 102; exact Calls.updT _ (unhide k3 _))
  clear hK K
  iterate 4
    refine WQ.step (fun K hK => ?_)
    go_simp
    refine hK _ ?_
    clear hK K
  refine WQ.step (fun K hK => ?_)
  go_simp
  apply Exists.intro
  refine ⟨fun _ => ?_, hK _ ?_⟩
  (go_at_call 103; exact Calls.updT_same _ (unhide h4 _))
  clear hK K
  iterate 5
    refine WQ.step (fun K hK => ?_)
    go_simp
    refine hK _ ?_
    clear hK K
  refine WQ.nil ?_
  rintro _ ⟨x, rfl⟩
  clear c0 c1 c2 c3 cl
  have hx := hide x.upd
  generalize x.to = w3 at hx ⊢
  go_wp2
  go_ret
  exact ⟨by first | rfl | simp, Upd.of_below (below_upd (unhide hB) (unhide hx) (Nat.le_refl _) (.inr (Nat.zero_le _))) 0 0⟩
set_option maxHeartbeats 1000000 in
theorem implIsGood (size c : Int) (v1 v2 : Value) (xs ys : List Int) (w : World) (hn : xs.length ≤ 1048576) (hv : RdI w v1 xs) (hn' : ys.length ≤ 1048576) (hv' : RdI w v2 ys) :
    Calls Try.prog 61 #[.agg #[.int .i64 size, v1, v2, .int .i64 c]] w fun e w' => e = .returned (.bool (guGood size xs ys c)) ∧ Upd 0 0 w w' := by
  have h1 := fun W => implGoodSize size W
  have h2 := fun W (hB : Below w.heap.size w W) => implGoodSide size c v1 v2 v1 xs W hn (hv.below hB)
  have h3 := fun W (hB : Below w.heap.size w W) => implGoodSide size c v1 v2 v2 ys W hn' (hv'.below hB)
  unfold guGood
  rw [← clipF_eqB]
  cases e1 : decide (size = 4 ∨ size = 8)
  · rw [e1] at h1
    exact implIsGood0 size c v1 v2 w h1
  rw [e1] at h1
  cases e2 : guSide size xs
  · rw [e2] at h2
    exact implIsGood1 size c v1 v2 w h1 h2
  rw [e2] at h2
  cases e3 : guSide size ys
  · rw [e3] at h3
    exact implIsGood2 size c v1 v2 w h1 h2 h3
  rw [e3] at h3
  exact implIsGood3 size c v1 v2 w h1 h2 h3
end Go.Proofs.Ytpofmcepjmbmcaa
