/- Which plans may tell a list: the program's walk. -/
import Derived.Test.YtailhdfmfmlniaaWPcE
namespace Go.Proofs.Ytailhdfmfmlniaa
open Go.RowKit

theorem pow16D (P : Nat) (h : P ≤ 4) : (1 : Int) ≤ 2 ^ P ∧ (2 : Int) ^ P ≤ 16 := by
  rcases (show P = 0 ∨ P = 1 ∨ P = 2 ∨ P = 3 ∨ P = 4 by omega) with e | e | e | e | e <;> subst e <;> decide
noncomputable def tellB (o p : Int) (ks : List Int) (N : Nat) : Bool := decide (CutOk o p N) && (decide ((ks.length : Int) = 2 ^ p.toNat) && inRB 0 25 ks)
theorem tellB_noC {o p : Int} {ks : List Int} {N : Nat} (h : ¬ CutOk o p N) : tellB o p ks N = false := by unfold tellB; rw [decide_eq_false h]; rfl
theorem tellB_yesC {o p : Int} {ks : List Int} {N : Nat} (h : CutOk o p N) : tellB o p ks N = (decide ((ks.length : Int) = 2 ^ p.toNat) && inRB 0 25 ks) := by unfold tellB; rw [decide_eq_true h]; rfl
set_option maxHeartbeats 16000000 in
set_option maxRecDepth 100000 in
theorem implMayTell (o p : Int) (ks : List Int) (N : Nat) (ad : Option Addr) (cap : Nat) (w : World) (hN : N ≤ 1048576) (hk : ks.length ≤ 1048576) (hA : ArgI w ad ks) :
    Calls Try.prog 92 #[.agg #[.int .i64 o, .int .i64 p, .slice ad ks.length cap], .int .i64 (N : Int)] w fun e w' => e = .returned (.bool (tellB o p ks N)) ∧ Upd 0 0 w w' := by
  have hU := hide (Upd.of_below ((Below.refl w.heap.size w).alloc (Nat.le_refl _) (.cells #[.int .i64 o, .int .i64 p, .slice ad ks.length cap] 45)) 0 0)
  have hbx := hide (heldF_new w (pacD o p (.slice ad ks.length cap)) 45)
  have h1 := hide (fun W => implMayOrder o p N (.slice ad ks.length cap) W ⟨_, _, _, rfl⟩)
  have h2 := hide (fun W (ho : 0 ≤ o ∧ o ≤ 4) (hoN : o ≤ (N : Int)) => implMayCut o p N (.slice ad ks.length cap) W ho hoN hN ⟨_, _, _, rfl⟩)
  have h3 := hide (fun W (u : Upd 0 0 w W) => implWithin ad cap ks 0 25 W hk (hA.below u.none))
  clear hA
  by_cases g1 : (0 ≤ o ∧ o ≤ 4) ∧ o ≤ (N : Int)
  case neg =>
    rw [tellB_noC (fun h => g1 ⟨h.1, h.2.1⟩)]
    rw [decide_eq_false g1] at h1
    clear g1 h2 h3
    go_enter Try.func92, Try.ntmps92
    go_upto_region 1 with fail
    change Hid (HeldF (w.alloc (.cells #[.int .i64 o, .int .i64 p, .slice ad ks.length cap] 45)) w.heap.size (pacD o p (.slice ad ks.length cap))) at hbx
    generalize w.alloc (.cells #[.int .i64 o, .int .i64 p, .slice ad ks.length cap] 45) = w0 at hbx hU ⊢
    have c0 := fun x : UpdT w0 => ((unhide hbx).1.updT x).2 0 _ rfl
    have c1 := fun x : UpdT w0 => ((unhide hbx).1.updT x).2 1 _ rfl
    have c2 := fun x : UpdT w0 => ((unhide hbx).1.updT x).2 2 _ rfl
    have cl := fun x : UpdT w0 => ((unhide hbx).1.updT x).1
    refine wq_region_upd (by kernel_rfl) (by kernel_rfl) ?_
    iterate 2
      refine WQ.step (fun K hK => ?_)
      go_simp
      refine hK _ ?_
      clear hK K
    refine WQ.step (fun K hK => ?_)
    go_simp
    refine ⟨.bool false, fun X => Calls.updT X (unhide h1 X.to), hK _ ?_⟩
    clear hK K
    iterate 20
      refine WQ.step (fun K hK => ?_)
      go_simp
      refine hK _ ?_
      clear hK K
    refine WQ.nil ?_
    rintro _ ⟨x, rfl⟩
    have hx := x.upd
    clear c0 c1 c2 cl
    generalize x.to = w3 at hx ⊢
    replace hU := hide ((unhide hU).trans hx)
    clear hx
    go_wp2
    go_ret
    exact ⟨rfl, unhide hU⟩
  rw [decide_eq_true g1] at h1
  replace h2 := hide (fun W => unhide h2 W g1.1 g1.2)
  clear g1
  by_cases g2 : CutOk o p N
  case neg =>
    rw [tellB_noC g2]
    rw [decide_eq_false g2] at h2
    clear g2 h3
    go_enter Try.func92, Try.ntmps92
    go_upto_region 1 with fail
    change Hid (HeldF (w.alloc (.cells #[.int .i64 o, .int .i64 p, .slice ad ks.length cap] 45)) w.heap.size (pacD o p (.slice ad ks.length cap))) at hbx
    generalize w.alloc (.cells #[.int .i64 o, .int .i64 p, .slice ad ks.length cap] 45) = w0 at hbx hU ⊢
    have c0 := fun x : UpdT w0 => ((unhide hbx).1.updT x).2 0 _ rfl
    have c1 := fun x : UpdT w0 => ((unhide hbx).1.updT x).2 1 _ rfl
    have c2 := fun x : UpdT w0 => ((unhide hbx).1.updT x).2 2 _ rfl
    have cl := fun x : UpdT w0 => ((unhide hbx).1.updT x).1
    refine wq_region_upd (by kernel_rfl) (by kernel_rfl) ?_
    iterate 2
      refine WQ.step (fun K hK => ?_)
      go_simp
      refine hK _ ?_
      clear hK K
    refine WQ.step (fun K hK => ?_)
    go_simp
    refine ⟨.bool true, fun X => Calls.updT X (unhide h1 X.to), hK _ ?_⟩
    clear hK K
    iterate 3
      refine WQ.step (fun K hK => ?_)
      go_simp
      refine hK _ ?_
      clear hK K
    refine WQ.step (fun K hK => ?_)
    go_simp
    refine ⟨.bool false, fun X => Calls.updT X (unhide h2 X.to), hK _ ?_⟩
    clear hK K
    iterate 16
      refine WQ.step (fun K hK => ?_)
      go_simp
      refine hK _ ?_
      clear hK K
    refine WQ.nil ?_
    rintro _ ⟨x, rfl⟩
    have hx := x.upd
    clear c0 c1 c2 cl
    generalize x.to = w3 at hx ⊢
    replace hU := hide ((unhide hU).trans hx)
    clear hx
    go_wp2
    go_ret
    exact ⟨rfl, unhide hU⟩
  rw [tellB_yesC g2]
  rw [decide_eq_true g2] at h2
  obtain ⟨P, rfl⟩ := Int.eq_ofNat_of_zero_le g2.2.2.1.1
  have hp := pow16D P (by have := g2.2.2.1.2; omega)
  rw [Int.toNat_natCast]
  have hw2 : IntKind.i64.wrap ((2 : Int) ^ P) = (2 : Int) ^ P := by simp [IntKind.wrap, IntKind.bits, IntKind.signed]; omega
  have hmin : min P 64 = P := by have := g2.2.2.1.2; omega
  clear g2
  by_cases g3 : (ks.length : Int) = 2 ^ P
  case neg =>
    rw [decide_eq_false g3]
    have q : ((ks.length : Int) == (2 : Int) ^ P) = false := by rw [beq_eq_false_iff_ne]; exact g3
    clear h3
    go_enter Try.func92, Try.ntmps92
    go_upto_region 1 with fail
    change Hid (HeldF (w.alloc (.cells #[.int .i64 o, .int .i64 (P : Int), .slice ad ks.length cap] 45)) w.heap.size (pacD o (P : Int) (.slice ad ks.length cap))) at hbx
    generalize w.alloc (.cells #[.int .i64 o, .int .i64 (P : Int), .slice ad ks.length cap] 45) = w0 at hbx hU ⊢
    have c0 := fun x : UpdT w0 => ((unhide hbx).1.updT x).2 0 _ rfl
    have c1 := fun x : UpdT w0 => ((unhide hbx).1.updT x).2 1 _ rfl
    have c2 := fun x : UpdT w0 => ((unhide hbx).1.updT x).2 2 _ rfl
    have cl := fun x : UpdT w0 => ((unhide hbx).1.updT x).1
    refine wq_region_upd (by kernel_rfl) (by kernel_rfl) ?_
    iterate 2
      refine WQ.step (fun K hK => ?_)
      go_simp
      refine hK _ ?_
      clear hK K
    refine WQ.step (fun K hK => ?_)
    go_simp
    refine ⟨.bool true, fun X => Calls.updT X (unhide h1 X.to), hK _ ?_⟩
    clear hK K
    iterate 3
      refine WQ.step (fun K hK => ?_)
      go_simp
      refine hK _ ?_
      clear hK K
    refine WQ.step (fun K hK => ?_)
    go_simp
    refine ⟨.bool true, fun X => Calls.updT X (unhide h2 X.to), hK _ ?_⟩
    clear hK K
    iterate 16
      refine WQ.step (fun K hK => ?_)
      go_simp
      refine hK _ ?_
      clear hK K
    refine WQ.nil ?_
    rintro _ ⟨x, rfl⟩
    have hx := x.upd
    clear c0 c1 c2 cl
    generalize x.to = w3 at hx ⊢
    replace hU := hide ((unhide hU).trans hx)
    clear hx
    go_wp2
    go_ret
    exact ⟨rfl, unhide hU⟩
  rw [decide_eq_true g3]
  have q : ((ks.length : Int) == (2 : Int) ^ P) = true := by rw [beq_iff_eq]; exact g3
  generalize inRB 0 25 ks = qq at h3 ⊢
  cases qq
  · skip
    go_enter Try.func92, Try.ntmps92
    go_upto_region 1 with fail
    change Hid (HeldF (w.alloc (.cells #[.int .i64 o, .int .i64 (P : Int), .slice ad ks.length cap] 45)) w.heap.size (pacD o (P : Int) (.slice ad ks.length cap))) at hbx
    generalize w.alloc (.cells #[.int .i64 o, .int .i64 (P : Int), .slice ad ks.length cap] 45) = w0 at hbx hU ⊢
    have c0 := fun x : UpdT w0 => ((unhide hbx).1.updT x).2 0 _ rfl
    have c1 := fun x : UpdT w0 => ((unhide hbx).1.updT x).2 1 _ rfl
    have c2 := fun x : UpdT w0 => ((unhide hbx).1.updT x).2 2 _ rfl
    have cl := fun x : UpdT w0 => ((unhide hbx).1.updT x).1
    have h4 := hide (fun X : UpdT w0 => unhide h3 X.to ((unhide hU).trans X.upd))
    refine wq_region_upd (by kernel_rfl) (by kernel_rfl) ?_
    iterate 2
      refine WQ.step (fun K hK => ?_)
      go_simp
      refine hK _ ?_
      clear hK K
    refine WQ.step (fun K hK => ?_)
    go_simp
    refine ⟨.bool true, fun X => Calls.updT X (unhide h1 X.to), hK _ ?_⟩
    clear hK K
    iterate 3
      refine WQ.step (fun K hK => ?_)
      go_simp
      refine hK _ ?_
      clear hK K
    refine WQ.step (fun K hK => ?_)
    go_simp
    refine ⟨.bool true, fun X => Calls.updT X (unhide h2 X.to), hK _ ?_⟩
    clear hK K
    iterate 13
      refine WQ.step (fun K hK => ?_)
      go_simp
      refine hK _ ?_
      clear hK K
    refine WQ.step (fun K hK => ?_)
    go_simp
    refine ⟨.bool false, fun X => Calls.updT X (unhide h4 X), hK _ ?_⟩
    clear hK K
    iterate 2
      refine WQ.step (fun K hK => ?_)
      go_simp
      refine hK _ ?_
      clear hK K
    refine WQ.nil ?_
    rintro _ ⟨x, rfl⟩
    have hx := x.upd
    clear c0 c1 c2 cl
    generalize x.to = w3 at hx ⊢
    replace hU := hide ((unhide hU).trans hx)
    clear hx
    go_wp2
    go_ret
    exact ⟨rfl, unhide hU⟩
  · skip
    go_enter Try.func92, Try.ntmps92
    go_upto_region 1 with fail
    change Hid (HeldF (w.alloc (.cells #[.int .i64 o, .int .i64 (P : Int), .slice ad ks.length cap] 45)) w.heap.size (pacD o (P : Int) (.slice ad ks.length cap))) at hbx
    generalize w.alloc (.cells #[.int .i64 o, .int .i64 (P : Int), .slice ad ks.length cap] 45) = w0 at hbx hU ⊢
    have c0 := fun x : UpdT w0 => ((unhide hbx).1.updT x).2 0 _ rfl
    have c1 := fun x : UpdT w0 => ((unhide hbx).1.updT x).2 1 _ rfl
    have c2 := fun x : UpdT w0 => ((unhide hbx).1.updT x).2 2 _ rfl
    have cl := fun x : UpdT w0 => ((unhide hbx).1.updT x).1
    have h4 := hide (fun X : UpdT w0 => unhide h3 X.to ((unhide hU).trans X.upd))
    refine wq_region_upd (by kernel_rfl) (by kernel_rfl) ?_
    iterate 2
      refine WQ.step (fun K hK => ?_)
      go_simp
      refine hK _ ?_
      clear hK K
    refine WQ.step (fun K hK => ?_)
    go_simp
    refine ⟨.bool true, fun X => Calls.updT X (unhide h1 X.to), hK _ ?_⟩
    clear hK K
    iterate 3
      refine WQ.step (fun K hK => ?_)
      go_simp
      refine hK _ ?_
      clear hK K
    refine WQ.step (fun K hK => ?_)
    go_simp
    refine ⟨.bool true, fun X => Calls.updT X (unhide h2 X.to), hK _ ?_⟩
    clear hK K
    iterate 13
      refine WQ.step (fun K hK => ?_)
      go_simp
      refine hK _ ?_
      clear hK K
    refine WQ.step (fun K hK => ?_)
    go_simp
    refine ⟨.bool true, fun X => Calls.updT X (unhide h4 X), hK _ ?_⟩
    clear hK K
    iterate 2
      refine WQ.step (fun K hK => ?_)
      go_simp
      refine hK _ ?_
      clear hK K
    refine WQ.nil ?_
    rintro _ ⟨x, rfl⟩
    have hx := x.upd
    clear c0 c1 c2 cl
    generalize x.to = w3 at hx ⊢
    replace hU := hide ((unhide hU).trans hx)
    clear hx
    go_wp2
    go_ret
    exact ⟨rfl, unhide hU⟩
end Go.Proofs.Ytailhdfmfmlniaa
