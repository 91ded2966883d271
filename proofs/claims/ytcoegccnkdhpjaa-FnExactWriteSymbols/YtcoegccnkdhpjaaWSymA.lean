/- The walk of WriteSymbols: the specification's. -/
import Derived.Test.YtcoegccnkdhpjaaPlainY
import Derived.Test.YtcoegccnkdhpjaaWWords
import Derived.Deep.RegionWith
namespace Go.Proofs.Ytcoegccnkdhpjaa
open Go.RowKit

theorem Sink.drew {w : World} {c : Nat} {o : Value} {zs : List Nat} {q : Int} (h : Sink w c o zs q) : Sink w.drew c o zs q := h
theorem own_nilY (w : World) (a b : Nat) : OwnY w a b (.slice none 0 0) [] := ⟨World.ownsRow_nil _ _ _ _, fun k hk => by simp [Value.ownBlock] at hk⟩

set_option maxHeartbeats 4000000 in
set_option maxRecDepth 1000000 in
theorem specWriteSymbols (v : Value) (zs : List Int) (u : Value) (ls : List Int) (w : World) (hn : zs.length ≤ 1048576) (hR : InI zs) (hv : RdI w v zs) (hn1 : ls.length ≤ 1048576) (_hR1 : InI ls) (hu0 : RdI w u ls) :
    Calls Try.prog 29 #[v, u] w fun e w' => ∃ u, e = .returned u ∧ OwnY w' w.heap.size w'.heap.size u (symsF zs ls) ∧ Upd 0 0 w w' := by
  have hK := hide (specCodeKind v zs w hn hR hv)
  by_cases hk : kindF zs = 0
  · have q0 : (kindF zs == 0) = true := by simpa using hk
    have hE := hide (symsF_no (zs := zs) (ls := ls) (fun h => h.1 hk))
    replace hk := hide hk
    clear hv
    obtain ⟨ad1, cap1, rfl, hA1⟩ := hu0
    clear hA1
    go_enter Try.func29, Try.ntmps29
    go_wp2_with fail
    refine (unhide hK).mono ?_
    rintro e w1 ⟨rfl, hu⟩
    clear hK
    replace hu := hide hu
    go_wp2
    go_ret
    refine ⟨_, rfl, ?_, unhide hu⟩
    rw [unhide hE]; exact own_nilY _ _ _
  · have q0 : (kindF zs == 0) = false := by simpa using hk
    have hg := hide (kindF_ne hk).1
    by_cases hm : 20000 < ls.length
    · have hE := hide (symsF_no (zs := zs) (ls := ls) (fun h => by have := h.2.1; omega))
      replace hk := hide hk
      obtain ⟨ad1, cap1, rfl, hA1⟩ := hu0
      clear hA1 hv
      go_enter Try.func29, Try.ntmps29
      go_wp2_with fail
      refine (unhide hK).mono ?_
      rintro e w1 ⟨rfl, hu⟩
      clear hK
      replace hu := hide hu
      go_wp2
      go_ret
      refine ⟨_, rfl, ?_, unhide hu⟩
      rw [unhide hE]; exact own_nilY _ _ _
    · have hE : Hid ((∀ j, j < ls.length → okS zs (ls.getD j 0)) → symsB zs ls = (packTo true (fldsOf zs ls) ls.length).1) := hide (fun h => symsB_yes ⟨hk, by omega, h⟩)
      have hBad : Hid (∀ k, k < ls.length → ¬ okS zs (ls.getD k 0) → symsF zs ls = []) := hide (fun k hk' hb => symsF_no (fun h => hb (h.2.2 k hk')))
      replace hk := hide hk
      have hv2 := hide hv
      obtain ⟨ad, cap, rfl, hA⟩ := hv
      obtain ⟨ad1, cap1, rfl, hA1⟩ := hu0
      have hn3 := (unhide hg).1
      replace hA := hide hA
      replace hA1 := hide hA1
      go_enter Try.func29, Try.ntmps29
      go_wp2_with fail
      refine (unhide hK).mono ?_
      rintro e w1 ⟨rfl, hu⟩
      clear hK
      replace hA := hide ((unhide hA).below hu.none)
      replace hA1 := hide ((unhide hA1).below hu.none)
      replace hv2 := hide ((unhide hv2).below hu.none)
      have hsz := hu.size
      replace hu := hide hu
      go_wp2_with fail
      refine (specL2Words _ zs w1 (unhide hg) (unhide hv2)).mono ?_
      rintro e w2 ⟨vw, rfl, ho, hu2⟩
      obtain ⟨adw, capw, rfl, hAw⟩ := OwnI.rd ho
      replace hA := hide ((unhide hA).below hu2.none)
      replace hA1 := hide ((unhide hA1).below hu2.none)
      have hsz2 := hu2.size
      replace hu := hide ((unhide hu).trans hu2)
      replace hAw := hide hAw
      clear ho hu2 hv2
      have hS0 := sink_new w2 true
      have hbC := (Below.refl w2.heap.size w2).alloc (Nat.le_refl _) (.cells #[.bool true, .slice none 0 0, .int .i64 0] 77)
      rw [wordsL_length]
      go_wp2
      generalize w2.alloc (.cells #[.bool true, .slice none 0 0, .int .i64 0] 77) = w3 at hS0 hbC ⊢
      replace hS0 := hide hS0
      have hcw : w.heap.size ≤ w2.heap.size := by omega
      go_loopw [23] (fun i wx => ∃ k : Nat, k ≤ ls.length ∧ i = .int .i64 k ∧ Hid (∀ j, j < k → okS zs (ls.getD j 0)) ∧ Sink wx w2.heap.size (.bool true) (packTo true (fldsOf zs ls) k).1 ((packTo true (fldsOf zs ls) k).2 : Int) ∧ Below w2.heap.size w2 wx) (fun i _ => ls.length - (intOf i).toNat)
      case atStart => exact ⟨0, Nat.zero_le _, rfl, fun j hj => by omega, unhide hS0, hbC⟩
      case round =>
        clear hbC hS0
        obtain ⟨k, hk', rfl, hok, hS, hbel⟩ := hrel
        by_cases hlt : k < ls.length
        · obtain ⟨b, off, rfl, hbl, hcl⟩ := (unhide hA1) (ne_of_lt_length hlt)
          have hck : wr.cell? ⟨b, off + k, none⟩ = some (Value.int .i64 (ls.getD k 0)) := (hbel.cell (by simpa using hbl)).trans (hcl k hlt)
          have hbad := hide (unhide hBad k hlt)
          have hOk : Hid (okS zs (ls.getD k 0) → ∀ j, j < k + 1 → okS zs (ls.getD j 0)) := hide (fun h j hj => by
            rcases Nat.lt_or_eq_of_le (Nat.le_of_lt_succ hj) with h' | h'
            · exact unhide hok j h'
            · subst h'; exact h)
          have hstep := hide (syms_step (zs := zs) hlt)
          have hinv := hide (syms_inv (unhide hg) ls k (by omega))
          clear hcl hbl
          generalize ls.getD k 0 = x at hck hbad hOk hstep
          by_cases h1 : x < 0
          · have hB := hide (unhide hbad (fun h => by have := h.1; omega))
            clear hbad hOk hstep hinv
            go_wp2
            go_ret
            refine ⟨_, rfl, ?_, (unhide hu).trans (Upd.of_below hbel 0 0)⟩
            rw [unhide hB]; exact own_nilY _ _ _
          · by_cases h2 : x < zs.length
            · obtain ⟨X, rfl⟩ := Int.eq_ofNat_of_zero_le (show 0 ≤ x by omega)
              have hX : X < zs.length := by omega
              have hXw : X < (wordsL zs).length := by simpa using hX
              obtain ⟨bz, offz, rfl, hbz, hcz⟩ := (unhide hA) (ne_of_lt_length hX)
              have hz : wr.cell? ⟨bz, offz + X, none⟩ = some (Value.int .i64 (zs.getD X 0)) := (hbel.cell (by simpa using hbz)).trans (hcz X hX)
              obtain ⟨bw, offw, rfl, hbw, hcw'⟩ := (unhide hAw) (ne_of_lt_length hXw)
              have hw : wr.cell? ⟨bw, offw + X, none⟩ = some (Value.int .i64 (wordOf zs X)) := by
                refine (hbel.cell (by simpa using hbw)).trans ((hcw' X hXw).trans ?_)
                unfold wordsL; rw [List.getD_eq_getElem?_getD, List.getElem?_map, List.getElem?_range hX]; rfl
              have hzb := okL_all (unhide hg) X
              have hwb := wordOf_bd (unhide hg) X
              rw [Int.toNat_natCast] at hstep
              obtain ⟨n, hzn⟩ := Int.eq_ofNat_of_zero_le hzb.1
              obtain ⟨p, hwp⟩ := Int.eq_ofNat_of_zero_le hwb.1
              have hn15 : n ≤ 15 := by have := hzb.2; omega
              have hp8 : p < 100000000 := by omega
              have hst := hide (unhide hstep n p hzn hwp)
              rw [hzn] at hz
              rw [hwp] at hw
              by_cases h3 : n = 0
              · subst h3
                have hB := hide (unhide hbad (fun h => h.2.2 (by rw [Int.toNat_natCast]; exact hzn)))
                clear hbad hOk hstep hinv hzn hwp hzb hwb hst hcz hcw' hbz hbw
                go_wp2
                go_ret
                refine ⟨_, rfl, ?_, (unhide hu).trans (Upd.of_below hbel 0 0)⟩
                rw [unhide hB]; exact own_nilY _ _ _
              · have hok2 := hide (unhide hOk ⟨by omega, by omega, by rw [Int.toNat_natCast, hzn]; omega⟩)
                have q3 : ((n : Int) == 0) = false := by simp; omega
                have hb0 := (unhide hinv).2
                have hP := hide (fun W (hs : Sink W w2.heap.size (.bool true) (packTo true (fldsOf zs ls) k).1 ((packTo true (fldsOf zs ls) k).2 : Int)) => specPut true _ _ p n w2.heap.size W (unhide hinv).1 (by omega) (by omega) (by omega) hs)
                have hSd := hide hS.drew
                have hwr := hide (show IntKind.u64.wrap (p : Int) = (p : Int) by rw [IntKind.wrap_u64]; omega)
                have hbd := hide hbel.drew
                clear hbad hOk hstep hinv hzn hwp hzb hwb hcz hcw' hbz hbw hS hbel
                go_wp2_with fail
                go_region_with (go_at_call 66; rw [unhide hwr]; refine (unhide hP _ ?_).mono ?_; exact unhide hSd; rintro e w5 ⟨rfl, hS2, hb2⟩)
                all_goals
                  rw [← (unhide hst).1, ← (unhide hst).2] at hS2
                  replace hb2 := hide ((unhide hbd).trans (hb2.mono (by omega)))
                  replace hS2 := hide hS2
                  clear hP hbd hSd
                  go_wp2
                  go_roundw
                  case rel => exact ⟨k + 1, by omega, by go_num, unhide hok2, unhide hS2, unhide hb2⟩
                  case measure => simp [intOf]; omega
            · have hB := hide (unhide hbad (fun h => by have := h.2.1; omega))
              clear hbad hOk hstep hinv
              go_wp2
              go_ret
              refine ⟨_, rfl, ?_, (unhide hu).trans (Upd.of_below hbel 0 0)⟩
              rw [unhide hB]; exact own_nilY _ _ _
        · have hkl : k = ls.length := by omega
          subst hkl
          have hEq := hide (unhide hE (unhide hok))
          obtain ⟨vs, hSS, hown⟩ := hS
          obtain ⟨s0, s1, s2, s3, s4, s5⟩ := hSS
          rw [← unhide hEq] at hown
          replace hown := hide (Own.of (ownsRow_base hown (show w.heap.size ≤ w2.heap.size + 1 by omega)))
          go_wp2
          go_ret
          refine ⟨_, rfl, ?_, (unhide hu).trans (Upd.of_below hbel 0 0)⟩
          unfold OwnY
          rw [symsF_length, symsF_byts]; exact unhide hown
end Go.Proofs.Ytcoegccnkdhpjaa
