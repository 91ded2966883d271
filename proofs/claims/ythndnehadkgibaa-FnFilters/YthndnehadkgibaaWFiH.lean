/- The walks of UnfilterRow: the program's. -/
import Derived.Test.YthndnehadkgibaaWFiF
import Derived.Deep.RegionHeld
namespace Go.Proofs.Ythndnehadkgibaa
open Go.RowKit

theorem own_nilUnfilter (w : World) (a b : Nat) : OwnY w a b (.slice none 0 0) [] := ⟨World.ownsRow_nil _ _ _ _, fun k hk => by simp [Value.ownBlock] at hk⟩

set_option maxHeartbeats 4000000 in
set_option maxRecDepth 1000000 in
theorem implUnfilterGood (kind step : Int) (u v : Value) (ab row : List Int) (w : World) (hk : filtOk kind step ab row) (ha : InB ab) (hr : InB row) (hu : RdY w u ab) (hv : RdY w v row) :
    Calls Try.prog 17 #[.int .i64 kind, .int .i64 step, u, v] w fun e w' => ∃ x, e = .returned x ∧ OwnY w' w.heap.size w'.heap.size x (unfTo kind step ab row row.length) ∧ Upd 0 0 w w' := by
  have hM := hide (implMakeGood kind step u v ab row w hk hu hv)
  have hln := hide (abF_len hk)
  have haF := hide (abF_inB (row := row) ha)
  obtain ⟨k1, k2, k3, k4, k5, _⟩ := hk
  have hv0 := hide hv
  obtain ⟨G, hg⟩ := gfn_form kind
  rw [hg] at hM
  replace hg := hide hg
  obtain ⟨ad, cap, rfl, hA⟩ := hu
  obtain ⟨ad', cap', rfl, hA'⟩ := hv
  obtain ⟨i0, hi0, hz0, hz1, hz2⟩ := info_parts infoB
  clear hA
  replace hA' := hide hA'
  replace hr := hide hr
  go_enter Try.func17, Try.ntmps17
  go_wp2_with fail
  refine (unhide hM).mono ?_
  rintro e w1 ⟨ae, ce, rfl, hRa, hb1⟩
  replace hRa := hide hRa
  clear hM
  have hB2 := (Below.refl w1.heap.size w1).alloc (Nat.le_refl _) (.cells #[.func (.func G) #[] #[], .int .i64 step, .slice ae row.length ce] 59)
  have c0 : (w1.alloc (.cells #[.func (.func G) #[] #[], .int .i64 step, .slice ae row.length ce] 59)).cell? ⟨w1.heap.size, 0, none⟩ = some (.func (.func G) #[] #[]) := by rw [World.cell?_alloc_at _ _ _ _ rfl]; rfl
  have c1 : (w1.alloc (.cells #[.func (.func G) #[] #[], .int .i64 step, .slice ae row.length ce] 59)).cell? ⟨w1.heap.size, 1, none⟩ = some (.int .i64 step) := by rw [World.cell?_alloc_at _ _ _ _ rfl]; rfl
  have c2 : (w1.alloc (.cells #[.func (.func G) #[] #[], .int .i64 step, .slice ae row.length ce] 59)).cell? ⟨w1.heap.size, 2, none⟩ = some (.slice ae row.length ce) := by rw [World.cell?_alloc_at _ _ _ _ rfl]; rfl
  have hs2 : (w1.alloc (.cells #[.func (.func G) #[] #[], .int .i64 step, .slice ae row.length ce] 59)).heap.size = w1.heap.size + 1 := by simp
  go_wp2_with (at_make; generalize w1.alloc (.cells #[.func (.func G) #[] #[], .int .i64 step, .slice ae row.length ce] 59) = w2 at hB2 c0 c1 c2 hs2 ⊢; refine wpList_make_full _ rfl _ _ 22 rfl w2.heap.size 5 i0 (.int .u8 0) 1 Try.underlying22 hi0 hz0 hz1 .i64 .i64 _ _ row.length rfl rfl (by omega) (by omega) (by rw [hz2]; omega) (by unfold maxLen; omega) (Nat.le_refl _) ?_; intro w3 hown hgrow)
  have hbk := hgrow.block w1.heap.size (by omega) (by simp)
  have hbel := hB2.grown hgrow (by omega) (by simp)
  have d0 := (World.cell?_of_block (a := ⟨w1.heap.size, 0, none⟩) hbk).trans c0
  have d1 := (World.cell?_of_block (a := ⟨w1.heap.size, 1, none⟩) hbk).trans c1
  have d2 := (World.cell?_of_block (a := ⟨w1.heap.size, 2, none⟩) hbk).trans c2
  rw [hs2] at hown
  have hown0 : w3.ownsRow (w1.heap.size + 1) 5 1 (.slice (some ⟨w1.heap.size + 1, 0, none⟩) row.length row.length) row.length (partY (unfTo kind step ab row row.length) 0) := by
    rw [partY_zero, unfTo_length]; simpa [toList_madeCells_one, Value.cells] using hown
  clear hown hgrow hbk c0 c1 c2 hB2 hs2
  go_loopw [29] (fun i wr => ∃ k : Nat, k ≤ row.length ∧ i = .int .i64 k ∧ wr.ownsRow (w1.heap.size + 1) 5 1 (.slice (some ⟨w1.heap.size + 1, 0, none⟩) row.length row.length) row.length (partY (unfTo kind step ab row row.length) k) ∧ wr.cell? ⟨w1.heap.size, 0, none⟩ = some (.func (.func G) #[] #[]) ∧ wr.cell? ⟨w1.heap.size, 1, none⟩ = some (.int .i64 step) ∧ wr.cell? ⟨w1.heap.size, 2, none⟩ = some (.slice ae row.length ce) ∧ Below w1.heap.size w1 wr) (fun i _ => row.length - (intOf i).toNat)
  case atStart => exact ⟨0, Nat.zero_le _, rfl, hown0, d0, d1, d2, hbel⟩
  case round =>
    clear hown0 hbel d0 d1 d2
    obtain ⟨k, hk, rfl, hown, d0, d1, d2, hbel⟩ := hrel
    by_cases hlt : k < row.length
    · obtain ⟨b, off, rfl, hbl, hc⟩ := (unhide hA') (ne_of_lt_length hlt)
      have hbw := hb1.trans (hbel.mono hb1.size)
      have hck : wr.cell? ⟨b, off + k, none⟩ = some (.int .u8 (row.getD k 0)) := (hbw.cell (by simpa using hbl)).trans (hc k hlt)
      have hps := partY_set (unfTo kind step ab row row.length) k (by simpa using hlt)
      rw [unfTo_at _ _ _ _ _ k hlt] at hps
      have hown' := hown
      rw [unfPart_part _ _ _ _ _ _ hk] at hown'
      have hrow : RdY wr (.slice (some ⟨w1.heap.size + 1, 0, none⟩) row.length row.length) (unfPart kind step ab row k row.length) := rdY_of_owns hown' (unfPart_length _ _ _ _ _ _ hk)
      have hpl := unfPart_length kind step ab row k row.length hk
      have hC := hide (implGuessAt kind step ae ce (abF ab row) _ (unfPart kind step ab row k row.length) k wr ⟨k1, k2⟩ ⟨k3, k4⟩ (by rw [hpl]; exact hlt) (by rw [hpl]; exact unhide hln) (by rw [hpl]; exact k5) (unhide haF) (unfPart_inB _ _ _ _ _ _) (by rw [hpl]; exact (unhide hRa).below hbel) hrow)
      rw [abF_g, unhide hg, unfPart_g _ _ _ _ _ _ k3, hpl] at hC
      clear hown' hrow hpl
      generalize gAt kind step ab (unfTo kind step ab row k) k = g at hps hC
      generalize row.getD k 0 = x at hck hps
      replace hps := hide hps
      clear hc hbl hbw
      go_wp2_with fail
      refine (unhide hC).mono ?_
      rintro e w4 ⟨rfl, hb4⟩
      have hown4 := ownsP_below hown hb4
      have hbel4 := hbel.trans (hb4.mono hbel.size)
      have hF : w1.heap.size < wr.heap.size := by have := (hown.lt (w1.heap.size + 1) rfl).2; omega
      have e0 := (hb4.cell (p := ⟨w1.heap.size, 0, none⟩) hF).trans d0
      have e1 := (hb4.cell (p := ⟨w1.heap.size, 1, none⟩) hF).trans d1
      have e2 := (hb4.cell (p := ⟨w1.heap.size, 2, none⟩) hF).trans d2
      have hdst : ∃ u, w4.cell? ⟨w1.heap.size + 1, k, none⟩ = some u := by
        rw [hown4.cellAt k (by omega)]; exact ⟨_, List.getElem?_eq_getElem (by have := hown4.1; omega)⟩
      obtain ⟨y, hdst⟩ := hdst
      have hfz := hown4.frozenAt k
      have hst := (hown4.stored k (.int .u8 ((x + g) % 256))).1
      rw [unhide hps] at hst
      have hb5 := hide (hbel4.setCell (p := ⟨w1.heap.size + 1, k, none⟩) (by simp) (.int .u8 ((x + g) % 256)))
      have g0 := hide ((World.cell?_setCell_far w4 ⟨w1.heap.size + 1, k, none⟩ ⟨w1.heap.size, 0, none⟩ (.int .u8 ((x + g) % 256)) (by simp)).trans e0)
      have g1 := hide ((World.cell?_setCell_far w4 ⟨w1.heap.size + 1, k, none⟩ ⟨w1.heap.size, 1, none⟩ (.int .u8 ((x + g) % 256)) (by simp)).trans e1)
      have g2 := hide ((World.cell?_setCell_far w4 ⟨w1.heap.size + 1, k, none⟩ ⟨w1.heap.size, 2, none⟩ (.int .u8 ((x + g) % 256)) (by simp)).trans e2)
      replace hst := hide hst
      clear hC hb4 hown hbel d0 d1 d2 hown4 hbel4 hck e0 e1 e2
      go_wp2
      go_roundw
      case rel => exact ⟨k + 1, by omega, by go_num, unhide hst, unhide g0, unhide g1, unhide g2, unhide hb5⟩
      case measure => simp [intOf]; omega
    · have hkl : k = row.length := by omega
      subst hkl
      have hpa := partY_all (unfTo kind step ab row row.length)
      rw [unfTo_length] at hpa
      rw [hpa] at hown
      have hsz := hb1.size
      have ho : OwnY wr w.heap.size wr.heap.size (.slice (some ⟨w1.heap.size + 1, 0, none⟩) row.length row.length) (unfTo kind step ab row row.length) := by
        unfold OwnY; rw [unfTo_length]; exact own_mono (Own.of hown) (by omega) (Nat.le_refl _)
      replace ho := hide ho
      have hbf := hide (hb1.trans (hbel.mono hb1.size))
      clear hown hpa d0 d1 d2
      go_wp2
      go_ret
      exact ⟨_, rfl, unhide ho, Upd.of_below (unhide hbf) 0 0⟩

set_option maxHeartbeats 4000000 in
theorem implUnfilterBad (kind step : Int) (u v : Value) (ab row : List Int) (w : World) (hna : ab.length ≤ 1048576) (hn : row.length ≤ 1048576) (hk : ¬ filtOk kind step ab row) (hu : RdY w u ab) (hv : RdY w v row) :
    Calls Try.prog 17 #[.int .i64 kind, .int .i64 step, u, v] w fun e w' => ∃ x, e = .returned x ∧ OwnY w' w.heap.size w'.heap.size x [] ∧ Upd 0 0 w w' := by
  have hM := hide (implMakeBad kind step u v ab row w hna hn hk hu hv)
  obtain ⟨ad, cap, rfl, hA⟩ := hu
  obtain ⟨ad', cap', rfl, hA'⟩ := hv
  clear hA hA' hk
  go_enter Try.func17, Try.ntmps17
  go_wp2_with fail
  refine (unhide hM).mono ?_
  rintro e w1 ⟨rfl, hb1⟩
  clear hM
  go_wp2
  go_ret
  exact ⟨_, rfl, own_nilUnfilter _ _ _, Upd.of_below (hb1.alloc hb1.size _) 0 0⟩

theorem implUnfilterRow (kind step : Int) (u : Value) (ab : List Int) (v : Value) (row : List Int) (w : World) (_hl : -9223372036854775808 ≤ kind) (_hh : kind ≤ 9223372036854775807) (_hl2 : -9223372036854775808 ≤ step) (_hh2 : step ≤ 9223372036854775807)
    (hna : ab.length ≤ 1048576) (ha : InB ab) (hu : RdY w u ab) (hn : row.length ≤ 1048576) (hr : InB row) (hv : RdY w v row) :
    Calls Try.prog 17 #[.int .i64 kind, .int .i64 step, u, v] w fun e w' => ∃ x, e = .returned x ∧ OwnY w' w.heap.size w'.heap.size x (unfF kind step ab row) ∧ Upd 0 0 w w' := by
  by_cases hk : filtOk kind step ab row
  · rw [unfF_yes hk]; exact implUnfilterGood kind step u v ab row w hk ha hr hu hv
  · rw [unfF_no hk]; exact implUnfilterBad kind step u v ab row w hna hn hk hu hv
end Go.Proofs.Ythndnehadkgibaa
