/- slices.Equal of two lists of runs. -/
import Derived.Test.YtilmdbdgohfpcaaWRRn
import Derived.Test.YtilmdbdgohfpcaaWUpd
import Derived.Deep.DeepCutAuto
import Derived.Laws.StructEq
import Derived.KernelRfl
namespace Go.Proofs.Ytilmdbdgohfpcaa
open Go.RowKit

set_option maxRecDepth 100000 in
set_option maxHeartbeats 8000000 in
theorem equalRuns (u v : Value) (ps qs : List Rn) (w : World) (hn : ps.length ≤ 1048576) (hu : RdRn w u ps) (hv : RdRn w v qs) :
    Calls Try.prog 33 #[u, v] w fun e w' => e = .returned (.bool (decide (ps = qs))) ∧ Upd 0 0 w w' := by
  obtain ⟨ad, cap, rfl, hA⟩ := hu
  obtain ⟨ad', cap', rfl, hA'⟩ := hv
  replace hA := hide hA
  replace hA' := hide hA'
  by_cases hl : ps.length = qs.length
  case neg =>
    have hd : decide (ps = qs) = false := by
      rw [decide_eq_false_iff_not]; intro h; exact hl (by rw [h])
    rw [hd]
    have hlb : ¬ (ps.length : Int) = (qs.length : Int) := by omega
    clear hd
    go_enter Try.func33, Try.ntmps33
    go_wp2
    go_ret
    exact ⟨rfl, Upd.refl _ _ _⟩
  rw [← hl]
  go_enter Try.func33, Try.ntmps33
  go_wp2
  go_loopw [13] (fun i wr => ∃ k : Nat, k ≤ ps.length ∧ i = .int .i64 k ∧ Hid (∀ j, j < k → ps.getD j Rn0 = qs.getD j Rn0) ∧ Hid (Upd 0 0 w wr)) (fun i _ => ps.length - (intOf i).toNat)
  case atStart => exact ⟨0, Nat.zero_le _, rfl, hide (fun j hj => by omega), hide (Upd.refl _ _ _)⟩
  case round =>
    obtain ⟨k, hk, rfl, heq, hup⟩ := hrel
    by_cases hlt : k < ps.length
    · obtain ⟨b, off, rfl, hbl, hc⟩ := (unhide hA) (ne_of_lt_length hlt)
      obtain ⟨b', off', rfl, hbl', hc'⟩ := (unhide hA') (ne_of_lt_length (k := k) (by omega))
      have d0 := ((unhide hup).none.cell (p := ⟨b, off + k * 2, none⟩) (by simpa using hbl)).trans (hc k hlt).1
      have d1 := ((unhide hup).none.cell (p := ⟨b, off + k * 2 + 1, none⟩) (by simpa using hbl)).trans (hc k hlt).2
      have e0 := ((unhide hup).none.cell (p := ⟨b', off' + k * 2, none⟩) (by simpa using hbl')).trans (hc' k (by omega)).1
      have e1 := ((unhide hup).none.cell (p := ⟨b', off' + k * 2 + 1, none⟩) (by simpa using hbl')).trans (hc' k (by omega)).2
      generalize hf : ps.getD k Rn0 = f at d0 d1
      generalize hg : qs.getD k Rn0 = g at e0 e1
      replace hf := hide hf
      replace hg := hide hg
      obtain ⟨x0, x1⟩ := f
      obtain ⟨y0, y1⟩ := g
      simp only at d0 d1 e0 e1
      replace hc := hide hc
      replace hc' := hide hc'
      have kI : (0 : Int) ≤ (k : Int) := by omega
      have kL : (k : Int) < (ps.length : Int) := by omega
      go_upto_region 6 with fail
      have hgt := Try.eqGuardType54
      by_cases hx : x0 = y0
      · subst hx
        by_cases hy : x1 = y1
        · subst hy
          have heq2 : Hid (∀ j, j < k + 1 → ps.getD j Rn0 = qs.getD j Rn0) := hide (fun j hj => by
            by_cases e : j = k
            · subst e; rw [unhide hf, unhide hg]
            · exact unhide heq j (by omega))
          clear heq hf hg
          go_quiet (fail)
          go_wp2
          go_roundw
          case rel => exact ⟨k + 1, by omega, by go_num, heq2, hide ((unhide hup).drewN _)⟩
          case measure => simp [intOf]; omega
        · have hd : Hid (decide (ps = qs) = false) := hide (by
            rw [decide_eq_false_iff_not]
            intro h
            have h1 := unhide hf
            rw [h, unhide hg] at h1
            exact hy (congrArg Prod.snd h1).symm)
          clear heq hf hg
          go_quiet (fail)
          go_wp2
          go_ret
          exact ⟨by rw [unhide hd]; rfl, (unhide hup).drewN _⟩
      · have hd : Hid (decide (ps = qs) = false) := hide (by
          rw [decide_eq_false_iff_not]
          intro h
          have h1 := unhide hf
          rw [h, unhide hg] at h1
          exact hx (congrArg Prod.fst h1).symm)
        clear heq hf hg
        go_quiet (fail)
        go_wp2
        go_ret
        exact ⟨by rw [unhide hd]; rfl, (unhide hup).drewN _⟩
    · have hkl : k = ps.length := by omega
      subst hkl
      have hd : Hid (decide (ps = qs) = true) := by
        refine hide (decide_eq_true ?_)
        refine List.ext_getElem hl fun j h1 h2 => ?_
        have := unhide heq j h1
        rw [List.getD_eq_getElem?_getD, List.getD_eq_getElem?_getD, List.getElem?_eq_getElem h1, List.getElem?_eq_getElem h2] at this
        exact this
      clear heq
      go_wp2
      go_ret
      exact ⟨by rw [unhide hd]; rfl, unhide hup⟩
end Go.Proofs.Ytilmdbdgohfpcaa
