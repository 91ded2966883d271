/- Turn and Unturn: the specification's walks. -/
import Derived.Test.YtailhdfmfmlniaaWLiE
import Derived.Test.YtailhdfmfmlniaaWLiF
namespace Go.Proofs.Ytailhdfmfmlniaa
open Go.RowKit

theorem twoI_from {w w1 w2 : World} {va vb : Value} {A B : List Int} (h : TwoI w1 w2 va vb A B) (hs : w.heap.size ≤ w1.heap.size) : TwoI w w2 va vb A B := by
  obtain ⟨a1, b1, a2, b2, m1, m2, m3, m4, m5, h1, h2⟩ := h
  exact ⟨a1, b1, a2, b2, by omega, m2, by omega, m4, m5, h1, h2⟩
set_option maxHeartbeats 4000000 in
theorem specTurn (way : Int) (v0 : Value) (xs : List Int) (v1 : Value) (ys : List Int) (w : World) (_hl : -9223372036854775808 ≤ way) (_hh : way ≤ 9223372036854775807) (hn : xs.length ≤ 1048576) (_hR : InI xs) (hv : RdI w v0 xs) (hn' : ys.length ≤ 1048576) (_hR' : InI ys) (hv' : RdI w v1 ys) :
    Calls Try.prog 35 #[.int .i64 way, v0, v1] w fun e w' => ∃ va vb, e = .returned (.tuple #[va, vb]) ∧ TwoI w w' va vb (turF turA way xs ys) (turF turB way xs ys) ∧ Upd 0 0 w w' := by
  obtain ⟨ad, cap, rfl, hA⟩ := hv
  obtain ⟨ad', cap', rfl, hA'⟩ := hv'
  have hC := hide (fun W (h : ArgI W ad xs) => specL10List ad cap xs W hn h)
  have hC' := hide (fun W (h : ArgI W ad' ys) => specL10List ad' cap' ys W hn' h)
  have hE := hide (fun W (hp : PairOk (-67108864) 67108863 way xs ys) (h : ArgI W ad xs) (h' : ArgI W ad' ys) => specL10Turn way ad cap xs ad' cap' ys W hp.1 hp.2.2.1.1 hp.2.1.symm (fun j hj => by have := hp.2.2.1.2 j hj; omega) (fun j hj => by have := hp.2.2.2.2 j hj; omega) h h')
  replace hA := hide hA
  replace hA' := hide hA'
  by_cases g0 : way < 0
  · rw [turF_no (fun h => by have := h.1.1; omega), turF_no (fun h => by have := h.1.1; omega)]
    go_enter Try.func35, Try.ntmps35
    go_wp2
    go_ret2
    exact ⟨_, _, rfl, twoI_nil _ _ (Nat.le_refl _), Upd.refl 0 0 _⟩
  by_cases g3 : 2 < way
  · rw [turF_no (fun h => by have := h.1.2; omega), turF_no (fun h => by have := h.1.2; omega)]
    go_enter Try.func35, Try.ntmps35
    go_wp2
    go_ret2
    exact ⟨_, _, rfl, twoI_nil _ _ (Nat.le_refl _), Upd.refl 0 0 _⟩
  by_cases gl : xs.length = ys.length
  case neg =>
    have q : ((xs.length : Int) != (ys.length : Int)) = true := by rw [bne_iff_ne]; omega
    rw [turF_no (fun h => gl h.2.1), turF_no (fun h => gl h.2.1)]
    clear gl
    go_enter Try.func35, Try.ntmps35
    go_wp2
    go_ret2
    exact ⟨_, _, rfl, twoI_nil _ _ (Nat.le_refl _), Upd.refl 0 0 _⟩
  have q : ((xs.length : Int) != (ys.length : Int)) = false := by rw [bne_eq_false_iff_eq]; omega
  have hY : Hid (lsB (-67108864) 67108863 xs = true → lsB (-67108864) 67108863 ys = true → PairOk (-67108864) 67108863 way xs ys) := hide (fun h1 h2 => ⟨by omega, gl, lsB_iff.1 h1, lsB_iff.1 h2⟩)
  have hN1 : Hid (lsB (-67108864) 67108863 xs = false → turF turA way xs ys = [] ∧ turF turB way xs ys = []) := hide (fun h => ⟨turF_no (fun h' => by rw [lsB_yes h'.2.2.1] at h; cases h), turF_no (fun h' => by rw [lsB_yes h'.2.2.1] at h; cases h)⟩)
  have hN2 : Hid (lsB (-67108864) 67108863 ys = false → turF turA way xs ys = [] ∧ turF turB way xs ys = []) := hide (fun h => ⟨turF_no (fun h' => by rw [lsB_yes h'.2.2.2] at h; cases h), turF_no (fun h' => by rw [lsB_yes h'.2.2.2] at h; cases h)⟩)
  clear gl
  by_cases q1 : lsB (-67108864) 67108863 xs = true
  case neg =>
    rw [Bool.not_eq_true] at q1
    obtain ⟨e1, e2⟩ := unhide hN1 q1
    rw [q1] at hC
    rw [e1, e2]
    clear q1 hY hN1 hN2 e1 e2
    go_enter Try.func35, Try.ntmps35
    go_wp2_with fail
    refine (unhide hC _ (unhide hA)).mono ?_
    rintro e w1 ⟨rfl, hu⟩
    go_wp2
    go_ret2
    exact ⟨_, _, rfl, twoI_nil _ _ hu.size, hu⟩
  rw [q1] at hC
  by_cases q2 : lsB (-67108864) 67108863 ys = true
  case neg =>
    rw [Bool.not_eq_true] at q2
    obtain ⟨e1, e2⟩ := unhide hN2 q2
    rw [q2] at hC'
    rw [e1, e2]
    clear q1 q2 hY hN1 hN2 e1 e2
    go_enter Try.func35, Try.ntmps35
    go_wp2_with fail
    refine (unhide hC _ (unhide hA)).mono ?_
    rintro e w1 ⟨rfl, hu⟩
    have hA2' := hide ((unhide hA').below hu.none)
    replace hu := hide hu
    go_wp2_with fail
    refine (unhide hC' _ (unhide hA2')).mono ?_
    rintro e w2 ⟨rfl, hu2⟩
    go_wp2
    go_ret2
    exact ⟨_, _, rfl, twoI_nil _ _ ((unhide hu).trans hu2).size, (unhide hu).trans hu2⟩
  have hp := unhide hY q1 q2
  rw [q2] at hC'
  replace hE := hide (fun W => unhide hE W hp)
  rw [turF_yes hp, turF_yes hp]
  clear hp q1 q2 hY hN1 hN2
  go_enter Try.func35, Try.ntmps35
  go_wp2_with fail
  refine (unhide hC _ (unhide hA)).mono ?_
  rintro e w1 ⟨rfl, hu⟩
  have hA1 := hide ((unhide hA).below hu.none)
  have hA1' := hide ((unhide hA').below hu.none)
  replace hu := hide hu
  go_wp2_with fail
  refine (unhide hC' _ (unhide hA1')).mono ?_
  rintro e w2 ⟨rfl, hu2⟩
  have hA2 := hide ((unhide hA1).below hu2.none)
  have hA2' := hide ((unhide hA1').below hu2.none)
  replace hu := hide ((unhide hu).trans hu2)
  clear hu2
  go_wp2_with fail
  refine (unhide hE _ (unhide hA2) (unhide hA2')).mono ?_
  rintro e w3 ⟨va, vb, rfl, hT, hu3⟩
  have hT2 := hide (twoI_from hT (unhide hu).size)
  clear hT
  go_wp2
  go_ret2
  exact ⟨_, _, rfl, unhide hT2, (unhide hu).trans hu3⟩
set_option maxHeartbeats 4000000 in
theorem specUnturn (way : Int) (v0 : Value) (xs : List Int) (v1 : Value) (ys : List Int) (w : World) (_hl : -9223372036854775808 ≤ way) (_hh : way ≤ 9223372036854775807) (hn : xs.length ≤ 1048576) (_hR : InI xs) (hv : RdI w v0 xs) (hn' : ys.length ≤ 1048576) (_hR' : InI ys) (hv' : RdI w v1 ys) :
    Calls Try.prog 36 #[.int .i64 way, v0, v1] w fun e w' => ∃ va vb, e = .returned (.tuple #[va, vb]) ∧ TwoI w w' va vb (untF untA way xs ys) (untF untB way xs ys) ∧ Upd 0 0 w w' := by
  obtain ⟨ad, cap, rfl, hA⟩ := hv
  obtain ⟨ad', cap', rfl, hA'⟩ := hv'
  have hE := hide (fun (hw : 0 ≤ way ∧ way ≤ 2) (h4 : xs.length ≤ 4000) (hl : ys.length = xs.length) => specL10Unturn way ad cap xs ad' cap' ys w hw h4 hl hA hA')
  clear hA hA'
  by_cases g0 : way < 0
  · rw [untF_no (fun h => by have := h.1.1.1; omega), untF_no (fun h => by have := h.1.1.1; omega)]
    go_enter Try.func36, Try.ntmps36
    go_wp2
    go_ret2
    exact ⟨_, _, rfl, twoI_nil _ _ (Nat.le_refl _), Upd.refl 0 0 _⟩
  by_cases g3 : 2 < way
  · rw [untF_no (fun h => by have := h.1.1.2; omega), untF_no (fun h => by have := h.1.1.2; omega)]
    go_enter Try.func36, Try.ntmps36
    go_wp2
    go_ret2
    exact ⟨_, _, rfl, twoI_nil _ _ (Nat.le_refl _), Upd.refl 0 0 _⟩
  by_cases gl : xs.length = ys.length
  case neg =>
    have q : ((xs.length : Int) != (ys.length : Int)) = true := by rw [bne_iff_ne]; omega
    rw [untF_no (fun h => gl h.1.2.1), untF_no (fun h => gl h.1.2.1)]
    clear gl
    go_enter Try.func36, Try.ntmps36
    go_wp2
    go_ret2
    exact ⟨_, _, rfl, twoI_nil _ _ (Nat.le_refl _), Upd.refl 0 0 _⟩
  have q : ((xs.length : Int) != (ys.length : Int)) = false := by rw [bne_eq_false_iff_eq]; omega
  by_cases g4 : 4000 < xs.length
  · rw [untF_no (fun h => by have := h.1.2.2.1.1; omega), untF_no (fun h => by have := h.1.2.2.1.1; omega)]
    clear gl
    go_enter Try.func36, Try.ntmps36
    go_wp2
    go_ret2
    exact ⟨_, _, rfl, twoI_nil _ _ (Nat.le_refl _), Upd.refl 0 0 _⟩
  replace hE := hide (unhide hE (by omega) (by omega) gl.symm)
  clear gl
  go_enter Try.func36, Try.ntmps36
  go_wp2_with fail
  refine (unhide hE).mono ?_
  rintro e w1 ⟨va, vb, rfl, hT, hu⟩
  go_wp2
  go_ret2
  exact ⟨_, _, rfl, hT, hu⟩
end Go.Proofs.Ytailhdfmfmlniaa
