/- Turn and Unturn: the program's walks. -/
import Derived.Test.YtailhdfmfmlniaaWLiC
namespace Go.Proofs.Ytailhdfmfmlniaa
open Go.RowKit

theorem pairB_iff {lo hi way : Int} {xs ys : List Int} : pairB lo hi way xs ys = true ↔ PairOk lo hi way xs ys := by unfold pairB; simp
set_option maxHeartbeats 4000000 in
theorem implTurn (way : Int) (v0 : Value) (xs : List Int) (v1 : Value) (ys : List Int) (w : World) (_hl : -9223372036854775808 ≤ way) (_hh : way ≤ 9223372036854775807) (hn : xs.length ≤ 1048576) (_hR : InI xs) (hv : RdI w v0 xs) (hn' : ys.length ≤ 1048576) (_hR' : InI ys) (hv' : RdI w v1 ys) :
    Calls Try.prog 23 #[.int .i64 way, v0, v1] w fun e w' => ∃ va vb, e = .returned (.tuple #[va, vb]) ∧ TwoI w w' va vb (turF turA way xs ys) (turF turB way xs ys) ∧ Upd 0 0 w w' := by
  obtain ⟨ad, cap, rfl, hA⟩ := hv
  obtain ⟨ad', cap', rfl, hA'⟩ := hv'
  have hC := hide (fun W (h : ArgI W ad xs) (h' : ArgI W ad' ys) => implGoodPairs way ad cap xs ad' cap' ys 27 W (by omega) (by omega) hn hn' h h')
  rw [loB_27, hiB_27] at hC
  have hE := hide (fun W (hp : PairOk (-67108864) 67108863 way xs ys) (h : ArgI W ad xs) (h' : ArgI W ad' ys) => implEachTurned way ad cap xs ad' cap' ys W hp.1 hp.2.2.1.1 hp.2.1.symm (fun j hj => by have := hp.2.2.1.2 j hj; omega) (fun j hj => by have := hp.2.2.2.2 j hj; omega) h h')
  replace hA := hide hA
  replace hA' := hide hA'
  by_cases hp : PairOk (-67108864) 67108863 way xs ys
  · rw [pairB_yes hp] at hC
    rw [turF_yes hp, turF_yes hp]
    replace hE := hide (fun W => unhide hE W hp)
    clear hp
    go_enter Try.func23, Try.ntmps23
    go_wp2_with fail
    refine (unhide hC _ (unhide hA) (unhide hA')).mono ?_
    rintro e w1 ⟨rfl, hu⟩
    have hA2 := hide ((unhide hA).below hu.none)
    have hA2' := hide ((unhide hA').below hu.none)
    have hs := hide hu.size
    replace hu := hide hu
    go_wp2_with fail
    refine (unhide hE _ (unhide hA2) (unhide hA2')).mono ?_
    rintro e w2 ⟨va, vb, rfl, hT, hu2⟩
    have hT2 : Hid (TwoI w w2 va vb (two turA way xs ys) (two turB way xs ys)) := hide (by
      obtain ⟨a1, b1, a2, b2, m1, m2, m3, m4, m5, h1, h2⟩ := hT
      have := unhide hs
      exact ⟨a1, b1, a2, b2, by omega, m2, by omega, m4, m5, h1, h2⟩)
    clear hT
    go_wp2
    go_ret2
    exact ⟨_, _, rfl, unhide hT2, (unhide hu).trans hu2⟩
  · rw [pairB_no hp] at hC
    rw [turF_no hp, turF_no hp]
    clear hp hE
    go_enter Try.func23, Try.ntmps23
    go_wp2_with fail
    refine (unhide hC _ (unhide hA) (unhide hA')).mono ?_
    rintro e w1 ⟨rfl, hu⟩
    go_wp2
    go_ret2
    exact ⟨_, _, rfl, twoI_nil _ _ hu.size, hu⟩
theorem untOk_of {way : Int} {xs ys : List Int} (hp : PairOk (-268435456) 268435455 way xs ys) (h1 : lsB (-67108864) 67108863 (two untA way xs ys) = true) (h2 : lsB (-67108864) 67108863 (two untB way xs ys) = true) : UntOk way xs ys :=
  ⟨hp, (lsB_iff.1 h1).2, (lsB_iff.1 h2).2⟩
theorem untNo_A {way : Int} {xs ys : List Int} (h1 : lsB (-67108864) 67108863 (two untA way xs ys) = false) : ¬ UntOk way xs ys := fun h => by
  rw [lsB_yes ⟨by rw [two_length]; exact h.1.2.2.1.1, h.2.1⟩] at h1; cases h1
theorem untNo_B {way : Int} {xs ys : List Int} (h1 : lsB (-67108864) 67108863 (two untB way xs ys) = false) : ¬ UntOk way xs ys := fun h => by
  rw [lsB_yes ⟨by rw [two_length]; exact h.1.2.2.1.1, h.2.2⟩] at h1; cases h1
set_option maxHeartbeats 4000000 in
theorem implUnturn (way : Int) (v0 : Value) (xs : List Int) (v1 : Value) (ys : List Int) (w : World) (_hl : -9223372036854775808 ≤ way) (_hh : way ≤ 9223372036854775807) (hn : xs.length ≤ 1048576) (_hR : InI xs) (hv : RdI w v0 xs) (hn' : ys.length ≤ 1048576) (_hR' : InI ys) (hv' : RdI w v1 ys) :
    Calls Try.prog 24 #[.int .i64 way, v0, v1] w fun e w' => ∃ va vb, e = .returned (.tuple #[va, vb]) ∧ TwoI w w' va vb (untF untA way xs ys) (untF untB way xs ys) ∧ Upd 0 0 w w' := by
  obtain ⟨ad, cap, rfl, hA⟩ := hv
  obtain ⟨ad', cap', rfl, hA'⟩ := hv'
  have hC := hide (fun W (h : ArgI W ad xs) (h' : ArgI W ad' ys) => implGoodPairs way ad cap xs ad' cap' ys 29 W (by omega) (by omega) hn hn' h h')
  rw [loB_29, hiB_29] at hC
  have hE := hide (fun W (hp : PairOk (-268435456) 268435455 way xs ys) (h : ArgI W ad xs) (h' : ArgI W ad' ys) => implEachUnturned way ad cap xs ad' cap' ys W hp.1 hp.2.2.1.1 hp.2.1.symm (fun j hj => by have := hp.2.2.1.2 j hj; omega) (fun j hj => by have := hp.2.2.2.2 j hj; omega) h h')
  replace hA := hide hA
  replace hA' := hide hA'
  by_cases hp : PairOk (-268435456) 268435455 way xs ys
  case neg =>
    rw [pairB_no hp] at hC
    rw [untF_no (fun h => hp h.1), untF_no (fun h => hp h.1)]
    clear hp hE
    go_enter Try.func24, Try.ntmps24
    go_wp2_with fail
    refine (unhide hC _ (unhide hA) (unhide hA')).mono ?_
    rintro e w1 ⟨rfl, hu⟩
    go_wp2
    go_ret2
    exact ⟨_, _, rfl, twoI_nil _ _ hu.size, hu⟩
  rw [pairB_yes hp] at hC
  replace hE := hide (fun W => unhide hE W hp)
  have hlA : (two untA way xs ys).length ≤ 1048576 := by rw [two_length]; exact hn
  have hlB : (two untB way xs ys).length ≤ 1048576 := by rw [two_length]; exact hn
  have hY : Hid (lsB (-67108864) 67108863 (two untA way xs ys) = true → lsB (-67108864) 67108863 (two untB way xs ys) = true → untF untA way xs ys = two untA way xs ys ∧ untF untB way xs ys = two untB way xs ys) := hide (fun h1 h2 => ⟨untF_yes (untOk_of hp h1 h2), untF_yes (untOk_of hp h1 h2)⟩)
  have hN1 : Hid (lsB (-67108864) 67108863 (two untA way xs ys) = false → untF untA way xs ys = [] ∧ untF untB way xs ys = []) := hide (fun h1 => ⟨untF_no (untNo_A h1), untF_no (untNo_A h1)⟩)
  have hN2 : Hid (lsB (-67108864) 67108863 (two untB way xs ys) = false → untF untA way xs ys = [] ∧ untF untB way xs ys = []) := hide (fun h1 => ⟨untF_no (untNo_B h1), untF_no (untNo_B h1)⟩)
  clear hp
  generalize untF untA way xs ys = RA at hY hN1 hN2 ⊢
  generalize untF untB way xs ys = RB at hY hN1 hN2 ⊢
  generalize two untA way xs ys = A at hE hlA hY hN1 hN2
  generalize two untB way xs ys = B at hE hlB hY hN1 hN2
  go_enter Try.func24, Try.ntmps24
  go_wp2_with fail
  refine (unhide hC _ (unhide hA) (unhide hA')).mono ?_
  rintro e w1 ⟨rfl, hu⟩
  have hA2 := hide ((unhide hA).below hu.none)
  have hA2' := hide ((unhide hA').below hu.none)
  have hs := hide hu.size
  replace hu := hide hu
  go_wp2_with fail
  refine (unhide hE _ (unhide hA2) (unhide hA2')).mono ?_
  rintro e w2 ⟨va, vb, rfl, hT, hu2⟩
  obtain ⟨a1, b1, a2, b2, m1, m2, m3, m4, m5, h1, h2⟩ := hT
  obtain ⟨ad1, cap1, rfl, hR1⟩ := OwnI.rd h1
  obtain ⟨ad2, cap2, rfl, hR2⟩ := OwnI.rd h2
  have hG1 := hide (implGoodList ad1 cap1 A w2 hlA hR1)
  replace hu := hide ((unhide hu).trans hu2)
  have hs' : Hid (w.heap.size ≤ a1 ∧ w.heap.size ≤ a2) := hide (by have := unhide hs; omega)
  replace h1 := hide h1
  replace h2 := hide h2
  replace hR2 := hide hR2
  replace m2 := hide m2
  replace m4 := hide m4
  replace m5 := hide m5
  clear hu2 hR1 m1 m3
  by_cases q1 : lsB (-67108864) 67108863 A = true
  case neg =>
    rw [Bool.not_eq_true] at q1
    obtain ⟨e1, e2⟩ := unhide hN1 q1
    rw [q1] at hG1
    replace e1 := hide e1
    replace e2 := hide e2
    clear q1 hY hN1 hN2
    go_wp2_with fail
    refine (unhide hG1).mono ?_
    rintro e w3 ⟨rfl, hu3⟩
    go_wp2
    go_ret2
    rw [unhide e1, unhide e2]
    exact ⟨_, _, rfl, twoI_nil _ _ ((unhide hu).trans hu3).size, (unhide hu).trans hu3⟩
  rw [q1] at hG1
  go_wp2_with fail
  refine (unhide hG1).mono ?_
  rintro e w3 ⟨rfl, hu3⟩
  replace hu := hide ((unhide hu).trans hu3)
  have hG2 := hide (implGoodList ad2 cap2 B w3 hlB ((unhide hR2).below hu3.none))
  replace h1 := hide ((unhide h1).keep hu3)
  replace h2 := hide ((unhide h2).keep hu3)
  replace m2 : Hid (b1 ≤ w3.heap.size) := hide (by have := unhide m2; have := hu3.size; omega)
  replace m4 : Hid (b2 ≤ w3.heap.size) := hide (by have := unhide m4; have := hu3.size; omega)
  clear hu3
  by_cases q2 : lsB (-67108864) 67108863 B = true
  case neg =>
    rw [Bool.not_eq_true] at q2
    obtain ⟨e1, e2⟩ := unhide hN2 q2
    rw [q2] at hG2
    replace e1 := hide e1
    replace e2 := hide e2
    clear q1 q2 hY hN1 hN2
    go_wp2_with fail
    refine (unhide hG2).mono ?_
    rintro e w4 ⟨rfl, hu4⟩
    go_wp2
    go_ret2
    rw [unhide e1, unhide e2]
    exact ⟨_, _, rfl, twoI_nil _ _ ((unhide hu).trans hu4).size, (unhide hu).trans hu4⟩
  rw [q2] at hG2
  obtain ⟨e1, e2⟩ := unhide hY q1 q2
  replace e1 := hide e1
  replace e2 := hide e2
  clear q1 q2 hY hN1 hN2
  go_wp2_with fail
  refine (unhide hG2).mono ?_
  rintro e w4 ⟨rfl, hu4⟩
  have hT : Hid (TwoI w w4 (.slice ad1 A.length cap1) (.slice ad2 B.length cap2) A B) := hide ⟨a1, b1, a2, b2, (unhide hs').1, by have := unhide m2; have := hu4.size; omega, (unhide hs').2, by have := unhide m4; have := hu4.size; omega, unhide m5, (unhide h1).keep hu4, (unhide h2).keep hu4⟩
  go_wp2
  go_ret2
  rw [unhide e1, unhide e2]
  exact ⟨_, _, rfl, unhide hT, (unhide hu).trans hu4⟩
end Go.Proofs.Ytailhdfmfmlniaa
