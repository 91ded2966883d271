/- The drawing of a block. -/
import Derived.Test.YtilmdbdgohfpcaaWScS
import Derived.Test.YtilmdbdgohfpcaaWDrT
import Derived.Test.YtilmdbdgohfpcaaPlainBl
namespace Go.Proofs.Ytilmdbdgohfpcaa
open Go.RowKit

theorem InR.set {lo hi : Int} {xs : List Int} (h : InR lo hi xs) {x : Int} (h0 : lo ≤ x ∧ x ≤ hi) (k : Nat) : InR lo hi (xs.set k x) := by
  intro j hj
  rw [List.length_set] at hj
  rw [List.getD_eq_getElem?_getD]
  by_cases e : k = j
  · subst e; rw [List.getElem?_set_self hj]; exact h0
  · rw [List.getElem?_set_ne e, ← List.getD_eq_getElem?_getD]; exact h j hj
theorem inR_zeros (lo hi : Int) (h : lo ≤ 0 ∧ 0 ≤ hi) (n : Nat) : InR lo hi (List.replicate n 0) := by
  intro j hj
  rw [List.getD_eq_getElem?_getD, List.getElem?_replicate]
  split <;> simp <;> omega
theorem OnlyAt.of_below {c : Nat} {w w' : World} (h : Below w.heap.size w w') : OnlyAt c w w' := ⟨h.os, h.tape, h.output, h.size, fun k hk _ => h.block k hk⟩
/-- What stands while 64 numbers are drawn into a row of the call's own. -/
structure DrSt (w wr : World) (c : Nat) (ad : Option Addr) (cap : Nat) (zs : List Int) (m : Nat) (xs : List Int) : Prop where
  len : xs.length = 64
  own : wr.ownsRow w.heap.size 3 1 (.slice (some ⟨w.heap.size, 0, none⟩) 64 64) 64 (ints xs)
  cur : CurIn wr c ad cap zs m
  only : OnlyAt c w wr
  cw : c < w.heap.size
  far : ∀ b' off, ad = some ⟨b', off, none⟩ → zs ≠ [] → b' < w.heap.size
theorem DrSt.pick {w wr wx : World} {c : Nat} {ad : Option Addr} {cap : Nat} {zs : List Int} {m m' : Nat} {xs : List Int} (h : DrSt w wr c ad cap zs m xs) (hc : CurIn wx c ad cap zs m') (ho : OnlyAt c wr wx) : DrSt w wx c ad cap zs m' xs :=
  ⟨h.len, owns_onlyI h.own (by have := h.cw; omega) ho, hc, h.only.trans ho, h.cw, h.far⟩
theorem DrSt.grown {w wr wx : World} {c : Nat} {ad : Option Addr} {cap : Nat} {zs : List Int} {m : Nat} {xs : List Int} (h : DrSt w wr c ad cap zs m xs) (hb : Below wr.heap.size wr wx) : DrSt w wx c ad cap zs m xs :=
  ⟨h.len, owns_onlyI h.own (show w.heap.size ≠ c by have := h.cw; omega) (OnlyAt.of_below hb), h.cur.grown hb, h.only.trans (OnlyAt.of_below hb), h.cw, h.far⟩
theorem DrSt.put {w wr : World} {c : Nat} {ad : Option Addr} {cap : Nat} {zs : List Int} {m : Nat} {xs : List Int} (h : DrSt w wr c ad cap zs m xs) (k : Nat) (x : Int) : DrSt w (wr.setCell ⟨w.heap.size, k, none⟩ (.int .i64 x)) c ad cap zs m (xs.set k x) :=
  ⟨by rw [List.length_set]; exact h.len, by have := (h.own.stored k (.int .i64 x)).1; rw [ints_set] at this; exact this,
    h.cur.setFar (by have := h.cw; omega) (fun b' off e hne => by have := h.far b' off e hne; omega), h.only.past (Nat.le_refl _), h.cw, h.far⟩
theorem DrSt.more {w wr : World} {c : Nat} {ad : Option Addr} {cap : Nat} {zs : List Int} {m m' : Nat} {xs : List Int} (h : DrSt w wr c ad cap zs m xs) (hm : m ≤ m') : DrSt w wr c ad cap zs m' xs :=
  ⟨h.len, h.own, h.cur.more hm, h.only, h.cw, h.far⟩
theorem DrSt.at {w wr : World} {c : Nat} {ad : Option Addr} {cap : Nat} {zs : List Int} {m : Nat} {xs : List Int} (h : DrSt w wr c ad cap zs m xs) {k : Nat} (hk : k < 64) : (∃ u, wr.cell? ⟨w.heap.size, k, none⟩ = some u) ∧ wr.frozen? ⟨w.heap.size, k, none⟩ = false :=
  ⟨by rw [h.own.cellAt k (by omega)]; exact ⟨_, List.getElem?_eq_getElem (by have := h.own.1; omega)⟩, h.own.frozenAt k⟩

set_option maxHeartbeats 16000000 in
set_option maxRecDepth 1000000 in
theorem curBlock (c : Nat) (ad : Option Addr) (cap : Nat) (zs : List Int) (m : Nat) (w : World) (h : CurIn w c ad cap zs m) (hm : m ≤ 1099511000000) (hl : zs.length ≤ 1048576) :
    Calls Try.prog 46 #[.pointer (some ⟨c, 0, none⟩)] w fun e w' => ∃ v xs, e = .returned v ∧ xs.length = 64 ∧ InR (-32768) 32767 xs ∧ OwnI w' w.heap.size w'.heap.size v xs ∧ CurIn w' c ad cap zs (m + 400) ∧ OnlyAt c w w' := by
  obtain ⟨i0, hi, hz0, hz1, hz2⟩ := info_parts infoI
  have hcl : c < w.heap.size := by obtain ⟨_, _, ⟨h0, _⟩, _⟩ := h; exact h0
  have hadl : ∀ b' off, ad = some ⟨b', off, none⟩ → zs ≠ [] → b' < w.heap.size := fun b' off e hne => by
    obtain ⟨_, _, ⟨_, _, _, _, _, _, _, hbs⟩, _⟩ := h
    obtain ⟨b2, off2, e2, hl2, _⟩ := hbs hne
    rw [e] at e2
    simp only [Option.some.injEq, Addr.mk.injEq, and_true] at e2
    omega
  replace hadl := hide hadl
  have hpick := hide (fun (m' : Nat) (n : Int) (W : World) (hc : CurIn W c ad cap zs m') (h1 : m' ≤ 1099511627000) (h2 : n ≤ 1000000) => curPickAny c ad cap zs m' n W hc h1 hl h2)
  have hone := hide (fun (m' : Nat) (W : World) (hc : CurIn W c ad cap zs m') (h1 : m' ≤ 1099511627000) => curOne c ad cap zs m' 7 W hc (by omega) hl (by omega) (by omega))
  replace h := hide h
  go_enter Try.func46, Try.ntmps46
  go_wp2_with (at_make; refine wpList_make_full _ rfl _ _ 23 rfl w.heap.size 3 i0 (.int .i64 0) 1 Try.underlying23 hi hz0 hz1 .i64 .i64 _ _ 64 rfl rfl (by omega) (by omega) (by rw [hz2]; omega) (by unfold maxLen; omega) (Nat.le_refl _) ?_; intro w1 hown hgrow)
  have hbel := (Below.refl w.heap.size w).grown hgrow (Nat.le_refl _) (by simp)
  have hD : DrSt w w1 c ad cap zs m (List.replicate 64 0) := ⟨by simp, by rw [ints_zeros]; simpa [toList_madeCells_one, Value.cells] using hown, (unhide h).grown hbel, OnlyAt.of_below hbel, hcl, unhide hadl⟩
  replace hD := hide hD
  clear hown hgrow hbel h hadl
  go_wp2_with fail
  refine (unhide hpick m 5 w1 (unhide hD).cur (by omega) (by omega)).mono ?_
  rintro e wq ⟨kd, rfl, kd0, kd1, hcq, hoq⟩
  replace kd1 := kd1 (by omega)
  replace hD := hide ((unhide hD).pick hcq hoq)
  clear hcq hoq
  go_wp2_with fail
  go_loopw [12] (fun i wr => ∃ k : Nat, ∃ xs : List Int, k ≤ 64 ∧ i = .int .i64 k ∧ Hid (InR (-32768) 32767 xs) ∧ Hid (DrSt w wr c ad cap zs (m + 3 + 4 * k) xs)) (fun i _ => 64 - (intOf i).toNat)
  case atStart => exact ⟨0, List.replicate 64 0, Nat.zero_le _, rfl, inR_zeros _ _ (by omega) 64, hD⟩
  case round =>
    clear hD
    obtain ⟨k, xs, hk, rfl, hR, hD⟩ := hrel
    by_cases hlt : k < 64
    · have hlt2 : (k : Int) < 64 := by omega
      rcases (show kd = 0 ∨ kd = 1 ∨ kd = 2 ∨ kd = 3 ∨ kd = 4 by omega) with e | e | e | e | e
      · subst e
        go_wp2_with fail
        refine (unhide hpick (m + 3 + 4 * k) 256 wr (unhide hD).cur (by omega) (by omega)).mono ?_
        rintro e wq ⟨pk, rfl, pk0, pk1, hcq, hoq⟩
        replace pk1 := pk1 (by omega)
        replace hD := hide ((unhide hD).pick hcq hoq)
        clear hcq hoq
        obtain ⟨⟨uu, hdst⟩, hfz⟩ := (unhide hD).at hlt
        have hst := hide ((unhide hD).put k (pk - 128))
        have hir := hide ((unhide hR).set (x := pk - 128) (by omega) k)
        clear hD
        go_wp2
        go_roundw
        case rel => exact ⟨k + 1, _, by omega, by go_num, hir, hide ((unhide hst).more (by omega))⟩
        case measure => simp [intOf]; omega
      · subst e
        go_wp2_with fail
        refine (unhide hone (m + 3 + 4 * k) wr (unhide hD).cur (by omega)).mono ?_
        rintro e wq ⟨b, rfl, hcq, hoq⟩
        replace hD := hide ((unhide hD).pick hcq hoq)
        clear hcq hoq
        cases b
        · go_wp2
          go_roundw
          case rel => exact ⟨k + 1, xs, by omega, by go_num, hR, hide ((unhide hD).more (by omega))⟩
          case measure => simp [intOf]; omega
        · have hDD := hD
          clear hD
          have hD := hDD
          clear hDD
          go_wp2_with fail
          refine (unhide hpick (m + 3 + 4 * k + 1) 60 wq (unhide hD).cur (by omega) (by omega)).mono ?_
          rintro e wp ⟨pk, rfl, pk0, pk1, hcq, hoq⟩
          replace pk1 := pk1 (by omega)
          replace hD := hide ((unhide hD).pick hcq hoq)
          clear hcq hoq
          obtain ⟨⟨uu, hdst⟩, hfz⟩ := (unhide hD).at hlt
          have hst := hide ((unhide hD).put k (pk - 30))
          have hir := hide ((unhide hR).set (x := pk - 30) (by omega) k)
          clear hD
          go_wp2
          go_roundw
          case rel => exact ⟨k + 1, _, by omega, by go_num, hir, hide ((unhide hst).more (by omega))⟩
          case measure => simp [intOf]; omega
      · subst e
        go_wp2_with fail
        refine (unhide hpick (m + 3 + 4 * k) 4096 wr (unhide hD).cur (by omega) (by omega)).mono ?_
        rintro e wq ⟨pk, rfl, pk0, pk1, hcq, hoq⟩
        replace pk1 := pk1 (by omega)
        replace hD := hide ((unhide hD).pick hcq hoq)
        clear hcq hoq
        obtain ⟨⟨uu, hdst⟩, hfz⟩ := (unhide hD).at hlt
        have hst := hide ((unhide hD).put k (pk - 2048))
        have hir := hide ((unhide hR).set (x := pk - 2048) (by omega) k)
        clear hD
        go_wp2
        go_roundw
        case rel => exact ⟨k + 1, _, by omega, by go_num, hir, hide ((unhide hst).more (by omega))⟩
        case measure => simp [intOf]; omega
      · subst e
        obtain ⟨⟨uu, hdst⟩, hfz⟩ := (unhide hD).at hlt
        have hst := hide ((unhide hD).put k ((k : Int) / 8 * 9 - (k : Int) % 8 * 7))
        have hir := hide ((unhide hR).set (x := (k : Int) / 8 * 9 - (k : Int) % 8 * 7) (by omega) k)
        clear hD
        go_wp2
        go_roundw
        case rel => exact ⟨k + 1, _, by omega, by go_num, hir, hide ((unhide hst).more (by omega))⟩
        case measure => simp [intOf]; omega
      · subst e
        have hB := (Below.refl wr.heap.size wr).alloc (Nat.le_refl _) (.cells #[.int .i64 (-32768), .int .i64 32767] 3)
        have hc := hide (heldF_new wr [.int .i64 (-32768), .int .i64 32767] 3)
        have hne : wr.heap.size ≠ c := by have := (unhide hD).cur; obtain ⟨_, _, ⟨h0, _⟩, _⟩ := this; omega
        replace hD := hide ((unhide hD).grown hB)
        clear hB
        go_wp2_with fail
        refine (unhide hpick (m + 3 + 4 * k) 2 _ (unhide hD).cur (by omega) (by omega)).mono ?_
        rintro e wq ⟨pk, rfl, pk0, pk1, hcq, hoq⟩
        replace pk1 := pk1 (by omega)
        replace hD := hide ((unhide hD).pick hcq hoq)
        replace hc := hide ((unhide hc).only hoq hne)
        clear hcq hoq
        rcases (show pk = 0 ∨ pk = 1 by omega) with e | e
        · subst e
          have k0 := (unhide hc).1.2 0 _ rfl
          obtain ⟨⟨uu, hdst⟩, hfz⟩ := (unhide hD).at hlt
          have hst := hide ((unhide hD).put k (-32768))
          have hir := hide ((unhide hR).set (x := -32768) (by omega) k)
          clear hD
          go_wp2
          go_roundw
          case rel => exact ⟨k + 1, _, by omega, by go_num, hir, hide ((unhide hst).more (by omega))⟩
          case measure => simp [intOf]; omega
        · subst e
          have k0 := (unhide hc).1.2 1 _ rfl
          obtain ⟨⟨uu, hdst⟩, hfz⟩ := (unhide hD).at hlt
          have hst := hide ((unhide hD).put k (32767))
          have hir := hide ((unhide hR).set (x := 32767) (by omega) k)
          clear hD
          go_wp2
          go_roundw
          case rel => exact ⟨k + 1, _, by omega, by go_num, hir, hide ((unhide hst).more (by omega))⟩
          case measure => simp [intOf]; omega
    · have hkl : k = 64 := by omega
      subst hkl
      by_cases hk1 : kd = 1
      · subst hk1
        go_wp2_with fail
        refine (unhide hpick (m + 3 + 4 * 64) 44 wr (unhide hD).cur (by omega) (by omega)).mono ?_
        rintro e wq ⟨pk, rfl, pk0, pk1, hcq, hoq⟩
        replace pk1 := pk1 (by omega)
        replace hD := hide ((unhide hD).pick hcq hoq)
        clear hcq hoq
        obtain ⟨P, rfl⟩ := Int.eq_ofNat_of_zero_le pk0
        go_wp2_with fail
        go_loopw [6] (fun i wr => ∃ k : Nat, ∃ xs : List Int, k ≤ 64 ∧ i = .int .i64 k ∧ Hid (InR (-32768) 32767 xs) ∧ Hid (DrSt w wr c ad cap zs (m + 3 + 4 * 64 + 3) xs)) (fun i _ => 64 - (intOf i).toNat)
        case atStart => exact ⟨20 + P, xs, by omega, by go_num, hR, hD⟩
        case round =>
          clear hD hR
          obtain ⟨k, xs, hk, rfl, hR, hD⟩ := hrel
          by_cases hlt : k < 64
          · have hlt2 : (k : Int) < 64 := by omega
            go_wp2_with fail
            refine (specScanOrder wr).mono ?_
            rintro e wq ⟨v, rfl, ho, hu⟩
            replace hD := hide ((unhide hD).grown hu.none)
            obtain ⟨a', cp', rfl, hA⟩ := readK_of_own ho
            rw [scanL_length]
            obtain ⟨b, off, rfl, hbl, hc⟩ := hA (ne_of_lt_length (k := k) (by rw [scanL_length]; exact hlt))
            have hck := hc k (by rw [scanL_length]; exact hlt)
            have hxb := scanL_bd k hlt
            generalize scanL.getD k 0 = x at hck hxb
            obtain ⟨x0, x1⟩ := hxb
            obtain ⟨X, rfl⟩ := Int.eq_ofNat_of_zero_le x0
            have hX64 : X < 64 := by omega
            obtain ⟨⟨uu, hdst⟩, hfz⟩ := (unhide hD).at hX64
            have hst := hide ((unhide hD).put X 0)
            have hir := hide ((unhide hR).set (x := 0) (by omega) X)
            clear hD ho hu hA hc
            go_wp2
            go_roundw
            case rel => exact ⟨k + 1, _, by omega, by go_num, hir, hst⟩
            case measure => simp [intOf]; omega
          · have hkl : k = 64 := by omega
            subst hkl
            have ho := hide (Own.of (unhide hD).own)
            go_wp2
            go_ret
            exact ⟨_, xs, rfl, (unhide hD).len, unhide hR, by unfold OwnI; rw [(unhide hD).len]; exact unhide ho, (unhide hD).cur.more (by omega), (unhide hD).only⟩
      · have hkb : (kd == 1) = false := beq_eq_false_iff_ne.2 hk1
        have ho := hide (Own.of (unhide hD).own)
        go_wp2
        go_ret
        exact ⟨_, xs, rfl, (unhide hD).len, unhide hR, by unfold OwnI; rw [(unhide hD).len]; exact unhide ho, (unhide hD).cur.more (by omega), (unhide hD).only⟩
end Go.Proofs.Ytilmdbdgohfpcaa
