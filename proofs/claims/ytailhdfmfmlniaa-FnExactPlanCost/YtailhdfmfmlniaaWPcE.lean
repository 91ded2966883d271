/- Which cuts may be: the program's walk. -/
import Derived.Test.YtailhdfmfmlniaaWPcD
namespace Go.Proofs.Ytailhdfmfmlniaa
open Go.RowKit

set_option maxHeartbeats 8000000 in
set_option maxRecDepth 100000 in
theorem implMayCut (o p : Int) (N : Nat) (v : Value) (w : World) (ho : 0 ≤ o ∧ o ≤ 4) (hoN : o ≤ (N : Int)) (hN : N ≤ 1048576) (hv : ∃ ad n cap, v = .slice ad n cap) :
    Calls Try.prog 132 #[.agg #[.int .i64 o, .int .i64 p, v], .int .i64 (N : Int)] w fun e w' => e = .returned (.bool (decide (CutOk o p N))) ∧ Upd 0 0 w w' := by
  obtain ⟨ad, n, cap, rfl⟩ := hv
  have hU := hide (Upd.of_below ((Below.refl w.heap.size w).alloc (Nat.le_refl _) (.cells #[.int .i64 o, .int .i64 p, .slice ad n cap] 45)) 0 0)
  have hbx := hide (heldF_new w (pacD o p (.slice ad n cap)) 45)
  by_cases h4 : p < 0
  · rw [decide_eq_false (fun h : CutOk o p N => by have := h.2.2.1; omega)]
    have np : ¬ (0 ≤ p) := by omega
    go_enter Try.func132, Try.ntmps132
    go_upto_region 1 with fail
    change Hid (HeldF (w.alloc (.cells #[.int .i64 o, .int .i64 p, .slice ad n cap] 45)) w.heap.size (pacD o p (.slice ad n cap))) at hbx
    generalize w.alloc (.cells #[.int .i64 o, .int .i64 p, .slice ad n cap] 45) = w0 at hbx hU ⊢
    have c0 := fun x : UpdT w0 => ((unhide hbx).1.updT x).2 0 _ rfl
    have c1 := fun x : UpdT w0 => ((unhide hbx).1.updT x).2 1 _ rfl
    refine wq_region_upd (by kernel_rfl) (by kernel_rfl) ?_
    iterate 26
      refine WQ.step (fun K hK => ?_)
      go_simp
      refine hK _ ?_
      clear hK K
    refine WQ.nil ?_
    rintro _ ⟨x, rfl⟩
    have hx := x.upd
    clear c0 c1
    generalize x.to = w3 at hx ⊢
    replace hU := hide ((unhide hU).trans hx)
    clear hx
    go_wp2
    go_ret
    exact ⟨by first | rfl | simp | (simp; done), unhide hU⟩
  by_cases h5 : 4 < p
  · rw [decide_eq_false (fun h : CutOk o p N => by have := h.2.2.1; omega)]
    have np : 0 ≤ p := by omega
    have np4 : ¬ (p ≤ 4) := by omega
    go_enter Try.func132, Try.ntmps132
    go_upto_region 1 with fail
    change Hid (HeldF (w.alloc (.cells #[.int .i64 o, .int .i64 p, .slice ad n cap] 45)) w.heap.size (pacD o p (.slice ad n cap))) at hbx
    generalize w.alloc (.cells #[.int .i64 o, .int .i64 p, .slice ad n cap] 45) = w0 at hbx hU ⊢
    have c0 := fun x : UpdT w0 => ((unhide hbx).1.updT x).2 0 _ rfl
    have c1 := fun x : UpdT w0 => ((unhide hbx).1.updT x).2 1 _ rfl
    refine wq_region_upd (by kernel_rfl) (by kernel_rfl) ?_
    iterate 26
      refine WQ.step (fun K hK => ?_)
      go_simp
      refine hK _ ?_
      clear hK K
    refine WQ.nil ?_
    rintro _ ⟨x, rfl⟩
    have hx := x.upd
    clear c0 c1
    generalize x.to = w3 at hx ⊢
    replace hU := hide ((unhide hU).trans hx)
    clear hx
    go_wp2
    go_ret
    exact ⟨by first | rfl | simp | (simp; done), unhide hU⟩
  obtain ⟨P, rfl⟩ := Int.eq_ofNat_of_zero_le (show 0 ≤ p by omega)
  have hb : decide (CutOk o (P : Int) N) = decide (CutN o (2 ^ P) N) := by rw [decide_eq_decide]; exact cutOk_of o P N ho hoN (by omega)
  rw [hb]
  clear hb
  obtain ⟨o1, o2⟩ := ho
  rcases (show P = 0 ∨ P = 1 ∨ P = 2 ∨ P = 3 ∨ P = 4 by omega) with e | e | e | e | e <;> subst e
  · by_cases hm : N % 1 = 0
    · have hc : decide (CutN o (2 ^ 0) N) = decide (o ≤ ((N / 1 : Nat) : Int)) := by rw [decide_eq_decide]; exact ⟨fun h => h.2, fun h => ⟨hm, h⟩⟩
      rw [hc]
      clear hc
      have qm : ((N : Int) % 1 == 0) = true := by rw [beq_iff_eq]; omega
      have wq : IntKind.i64.wrap 1 = 1 := by decide
      have tq : (N : Int).tmod 1 = (N : Int) % 1 := Int.tmod_eq_emod_of_nonneg (by omega)
      go_enter Try.func132, Try.ntmps132
      go_upto_region 1 with fail
      change Hid (HeldF (w.alloc (.cells #[.int .i64 o, .int .i64 ((0 : Nat) : Int), .slice ad n cap] 45)) w.heap.size (pacD o ((0 : Nat) : Int) (.slice ad n cap))) at hbx
      generalize w.alloc (.cells #[.int .i64 o, .int .i64 ((0 : Nat) : Int), .slice ad n cap] 45) = w0 at hbx hU ⊢
      have c0 := fun x : UpdT w0 => ((unhide hbx).1.updT x).2 0 _ rfl
      have c1 := fun x : UpdT w0 => ((unhide hbx).1.updT x).2 1 _ rfl
      refine wq_region_upd (by kernel_rfl) (by kernel_rfl) ?_
      iterate 26
        refine WQ.step (fun K hK => ?_)
        go_simp
        refine hK _ ?_
        clear hK K
      refine WQ.nil ?_
      rintro _ ⟨x, rfl⟩
      have hx := x.upd
      clear c0 c1
      generalize x.to = w3 at hx ⊢
      replace hU := hide ((unhide hU).trans hx)
      clear hx
      go_wp2
      go_ret
      exact ⟨by first | rfl | simp | (simp; done), unhide hU⟩
    · exact absurd (Nat.mod_one N) hm
  · by_cases hm : N % 2 = 0
    · have hc : decide (CutN o (2 ^ 1) N) = decide (o ≤ ((N / 2 : Nat) : Int)) := by rw [decide_eq_decide]; exact ⟨fun h => h.2, fun h => ⟨hm, h⟩⟩
      rw [hc]
      clear hc
      have qm : ((N : Int) % 2 == 0) = true := by rw [beq_iff_eq]; omega
      have wq : IntKind.i64.wrap 2 = 2 := by decide
      have tq : (N : Int).tmod 2 = (N : Int) % 2 := Int.tmod_eq_emod_of_nonneg (by omega)
      go_enter Try.func132, Try.ntmps132
      go_upto_region 1 with fail
      change Hid (HeldF (w.alloc (.cells #[.int .i64 o, .int .i64 ((1 : Nat) : Int), .slice ad n cap] 45)) w.heap.size (pacD o ((1 : Nat) : Int) (.slice ad n cap))) at hbx
      generalize w.alloc (.cells #[.int .i64 o, .int .i64 ((1 : Nat) : Int), .slice ad n cap] 45) = w0 at hbx hU ⊢
      have c0 := fun x : UpdT w0 => ((unhide hbx).1.updT x).2 0 _ rfl
      have c1 := fun x : UpdT w0 => ((unhide hbx).1.updT x).2 1 _ rfl
      refine wq_region_upd (by kernel_rfl) (by kernel_rfl) ?_
      iterate 26
        refine WQ.step (fun K hK => ?_)
        go_simp
        refine hK _ ?_
        clear hK K
      refine WQ.nil ?_
      rintro _ ⟨x, rfl⟩
      have hx := x.upd
      clear c0 c1
      generalize x.to = w3 at hx ⊢
      replace hU := hide ((unhide hU).trans hx)
      clear hx
      go_wp2
      go_ret
      exact ⟨by first | rfl | simp | (simp; done), unhide hU⟩
    · rw [decide_eq_false (cutN_no (o := o) (q := 2 ^ 1) hm)]
      have qm : ((N : Int) % 2 == 0) = false := by rw [beq_eq_false_iff_ne]; omega
      have wq : IntKind.i64.wrap 2 = 2 := by decide
      have tq : (N : Int).tmod 2 = (N : Int) % 2 := Int.tmod_eq_emod_of_nonneg (by omega)
      go_enter Try.func132, Try.ntmps132
      go_upto_region 1 with fail
      change Hid (HeldF (w.alloc (.cells #[.int .i64 o, .int .i64 ((1 : Nat) : Int), .slice ad n cap] 45)) w.heap.size (pacD o ((1 : Nat) : Int) (.slice ad n cap))) at hbx
      generalize w.alloc (.cells #[.int .i64 o, .int .i64 ((1 : Nat) : Int), .slice ad n cap] 45) = w0 at hbx hU ⊢
      have c0 := fun x : UpdT w0 => ((unhide hbx).1.updT x).2 0 _ rfl
      have c1 := fun x : UpdT w0 => ((unhide hbx).1.updT x).2 1 _ rfl
      refine wq_region_upd (by kernel_rfl) (by kernel_rfl) ?_
      iterate 26
        refine WQ.step (fun K hK => ?_)
        go_simp
        refine hK _ ?_
        clear hK K
      refine WQ.nil ?_
      rintro _ ⟨x, rfl⟩
      have hx := x.upd
      clear c0 c1
      generalize x.to = w3 at hx ⊢
      replace hU := hide ((unhide hU).trans hx)
      clear hx
      go_wp2
      go_ret
      exact ⟨by first | rfl | simp | (simp; done), unhide hU⟩
  · by_cases hm : N % 4 = 0
    · have hc : decide (CutN o (2 ^ 2) N) = decide (o ≤ ((N / 4 : Nat) : Int)) := by rw [decide_eq_decide]; exact ⟨fun h => h.2, fun h => ⟨hm, h⟩⟩
      rw [hc]
      clear hc
      have qm : ((N : Int) % 4 == 0) = true := by rw [beq_iff_eq]; omega
      have wq : IntKind.i64.wrap 4 = 4 := by decide
      have tq : (N : Int).tmod 4 = (N : Int) % 4 := Int.tmod_eq_emod_of_nonneg (by omega)
      go_enter Try.func132, Try.ntmps132
      go_upto_region 1 with fail
      change Hid (HeldF (w.alloc (.cells #[.int .i64 o, .int .i64 ((2 : Nat) : Int), .slice ad n cap] 45)) w.heap.size (pacD o ((2 : Nat) : Int) (.slice ad n cap))) at hbx
      generalize w.alloc (.cells #[.int .i64 o, .int .i64 ((2 : Nat) : Int), .slice ad n cap] 45) = w0 at hbx hU ⊢
      have c0 := fun x : UpdT w0 => ((unhide hbx).1.updT x).2 0 _ rfl
      have c1 := fun x : UpdT w0 => ((unhide hbx).1.updT x).2 1 _ rfl
      refine wq_region_upd (by kernel_rfl) (by kernel_rfl) ?_
      iterate 26
        refine WQ.step (fun K hK => ?_)
        go_simp
        refine hK _ ?_
        clear hK K
      refine WQ.nil ?_
      rintro _ ⟨x, rfl⟩
      have hx := x.upd
      clear c0 c1
      generalize x.to = w3 at hx ⊢
      replace hU := hide ((unhide hU).trans hx)
      clear hx
      go_wp2
      go_ret
      exact ⟨by first | rfl | simp | (simp; done), unhide hU⟩
    · rw [decide_eq_false (cutN_no (o := o) (q := 2 ^ 2) hm)]
      have qm : ((N : Int) % 4 == 0) = false := by rw [beq_eq_false_iff_ne]; omega
      have wq : IntKind.i64.wrap 4 = 4 := by decide
      have tq : (N : Int).tmod 4 = (N : Int) % 4 := Int.tmod_eq_emod_of_nonneg (by omega)
      go_enter Try.func132, Try.ntmps132
      go_upto_region 1 with fail
      change Hid (HeldF (w.alloc (.cells #[.int .i64 o, .int .i64 ((2 : Nat) : Int), .slice ad n cap] 45)) w.heap.size (pacD o ((2 : Nat) : Int) (.slice ad n cap))) at hbx
      generalize w.alloc (.cells #[.int .i64 o, .int .i64 ((2 : Nat) : Int), .slice ad n cap] 45) = w0 at hbx hU ⊢
      have c0 := fun x : UpdT w0 => ((unhide hbx).1.updT x).2 0 _ rfl
      have c1 := fun x : UpdT w0 => ((unhide hbx).1.updT x).2 1 _ rfl
      refine wq_region_upd (by kernel_rfl) (by kernel_rfl) ?_
      iterate 26
        refine WQ.step (fun K hK => ?_)
        go_simp
        refine hK _ ?_
        clear hK K
      refine WQ.nil ?_
      rintro _ ⟨x, rfl⟩
      have hx := x.upd
      clear c0 c1
      generalize x.to = w3 at hx ⊢
      replace hU := hide ((unhide hU).trans hx)
      clear hx
      go_wp2
      go_ret
      exact ⟨by first | rfl | simp | (simp; done), unhide hU⟩
  · by_cases hm : N % 8 = 0
    · have hc : decide (CutN o (2 ^ 3) N) = decide (o ≤ ((N / 8 : Nat) : Int)) := by rw [decide_eq_decide]; exact ⟨fun h => h.2, fun h => ⟨hm, h⟩⟩
      rw [hc]
      clear hc
      have qm : ((N : Int) % 8 == 0) = true := by rw [beq_iff_eq]; omega
      have wq : IntKind.i64.wrap 8 = 8 := by decide
      have tq : (N : Int).tmod 8 = (N : Int) % 8 := Int.tmod_eq_emod_of_nonneg (by omega)
      go_enter Try.func132, Try.ntmps132
      go_upto_region 1 with fail
      change Hid (HeldF (w.alloc (.cells #[.int .i64 o, .int .i64 ((3 : Nat) : Int), .slice ad n cap] 45)) w.heap.size (pacD o ((3 : Nat) : Int) (.slice ad n cap))) at hbx
      generalize w.alloc (.cells #[.int .i64 o, .int .i64 ((3 : Nat) : Int), .slice ad n cap] 45) = w0 at hbx hU ⊢
      have c0 := fun x : UpdT w0 => ((unhide hbx).1.updT x).2 0 _ rfl
      have c1 := fun x : UpdT w0 => ((unhide hbx).1.updT x).2 1 _ rfl
      refine wq_region_upd (by kernel_rfl) (by kernel_rfl) ?_
      iterate 26
        refine WQ.step (fun K hK => ?_)
        go_simp
        refine hK _ ?_
        clear hK K
      refine WQ.nil ?_
      rintro _ ⟨x, rfl⟩
      have hx := x.upd
      clear c0 c1
      generalize x.to = w3 at hx ⊢
      replace hU := hide ((unhide hU).trans hx)
      clear hx
      go_wp2
      go_ret
      exact ⟨by first | rfl | simp | (simp; done), unhide hU⟩
    · rw [decide_eq_false (cutN_no (o := o) (q := 2 ^ 3) hm)]
      have qm : ((N : Int) % 8 == 0) = false := by rw [beq_eq_false_iff_ne]; omega
      have wq : IntKind.i64.wrap 8 = 8 := by decide
      have tq : (N : Int).tmod 8 = (N : Int) % 8 := Int.tmod_eq_emod_of_nonneg (by omega)
      go_enter Try.func132, Try.ntmps132
      go_upto_region 1 with fail
      change Hid (HeldF (w.alloc (.cells #[.int .i64 o, .int .i64 ((3 : Nat) : Int), .slice ad n cap] 45)) w.heap.size (pacD o ((3 : Nat) : Int) (.slice ad n cap))) at hbx
      generalize w.alloc (.cells #[.int .i64 o, .int .i64 ((3 : Nat) : Int), .slice ad n cap] 45) = w0 at hbx hU ⊢
      have c0 := fun x : UpdT w0 => ((unhide hbx).1.updT x).2 0 _ rfl
      have c1 := fun x : UpdT w0 => ((unhide hbx).1.updT x).2 1 _ rfl
      refine wq_region_upd (by kernel_rfl) (by kernel_rfl) ?_
      iterate 26
        refine WQ.step (fun K hK => ?_)
        go_simp
        refine hK _ ?_
        clear hK K
      refine WQ.nil ?_
      rintro _ ⟨x, rfl⟩
      have hx := x.upd
      clear c0 c1
      generalize x.to = w3 at hx ⊢
      replace hU := hide ((unhide hU).trans hx)
      clear hx
      go_wp2
      go_ret
      exact ⟨by first | rfl | simp | (simp; done), unhide hU⟩
  · by_cases hm : N % 16 = 0
    · have hc : decide (CutN o (2 ^ 4) N) = decide (o ≤ ((N / 16 : Nat) : Int)) := by rw [decide_eq_decide]; exact ⟨fun h => h.2, fun h => ⟨hm, h⟩⟩
      rw [hc]
      clear hc
      have qm : ((N : Int) % 16 == 0) = true := by rw [beq_iff_eq]; omega
      have wq : IntKind.i64.wrap 16 = 16 := by decide
      have tq : (N : Int).tmod 16 = (N : Int) % 16 := Int.tmod_eq_emod_of_nonneg (by omega)
      go_enter Try.func132, Try.ntmps132
      go_upto_region 1 with fail
      change Hid (HeldF (w.alloc (.cells #[.int .i64 o, .int .i64 ((4 : Nat) : Int), .slice ad n cap] 45)) w.heap.size (pacD o ((4 : Nat) : Int) (.slice ad n cap))) at hbx
      generalize w.alloc (.cells #[.int .i64 o, .int .i64 ((4 : Nat) : Int), .slice ad n cap] 45) = w0 at hbx hU ⊢
      have c0 := fun x : UpdT w0 => ((unhide hbx).1.updT x).2 0 _ rfl
      have c1 := fun x : UpdT w0 => ((unhide hbx).1.updT x).2 1 _ rfl
      refine wq_region_upd (by kernel_rfl) (by kernel_rfl) ?_
      iterate 26
        refine WQ.step (fun K hK => ?_)
        go_simp
        refine hK _ ?_
        clear hK K
      refine WQ.nil ?_
      rintro _ ⟨x, rfl⟩
      have hx := x.upd
      clear c0 c1
      generalize x.to = w3 at hx ⊢
      replace hU := hide ((unhide hU).trans hx)
      clear hx
      go_wp2
      go_ret
      exact ⟨by first | rfl | simp | (simp; done), unhide hU⟩
    · rw [decide_eq_false (cutN_no (o := o) (q := 2 ^ 4) hm)]
      have qm : ((N : Int) % 16 == 0) = false := by rw [beq_eq_false_iff_ne]; omega
      have wq : IntKind.i64.wrap 16 = 16 := by decide
      have tq : (N : Int).tmod 16 = (N : Int) % 16 := Int.tmod_eq_emod_of_nonneg (by omega)
      go_enter Try.func132, Try.ntmps132
      go_upto_region 1 with fail
      change Hid (HeldF (w.alloc (.cells #[.int .i64 o, .int .i64 ((4 : Nat) : Int), .slice ad n cap] 45)) w.heap.size (pacD o ((4 : Nat) : Int) (.slice ad n cap))) at hbx
      generalize w.alloc (.cells #[.int .i64 o, .int .i64 ((4 : Nat) : Int), .slice ad n cap] 45) = w0 at hbx hU ⊢
      have c0 := fun x : UpdT w0 => ((unhide hbx).1.updT x).2 0 _ rfl
      have c1 := fun x : UpdT w0 => ((unhide hbx).1.updT x).2 1 _ rfl
      refine wq_region_upd (by kernel_rfl) (by kernel_rfl) ?_
      iterate 26
        refine WQ.step (fun K hK => ?_)
        go_simp
        refine hK _ ?_
        clear hK K
      refine WQ.nil ?_
      rintro _ ⟨x, rfl⟩
      have hx := x.upd
      clear c0 c1
      generalize x.to = w3 at hx ⊢
      replace hU := hide ((unhide hU).trans hx)
      clear hx
      go_wp2
      go_ret
      exact ⟨by first | rfl | simp | (simp; done), unhide hU⟩
end Go.Proofs.Ytailhdfmfmlniaa
