/- Tones: drawn lists of numbers. -/
import Derived.Test.YtocoeodoihdkgaaWCurA
import Derived.Test.YtocoeodoihdkgaaWRowI
import Derived.Test.YtocoeodoihdkgaaWLiA
import Derived.Deep.DeepCutAuto
namespace Go.Proofs.Ytocoeodoihdkgaa
open Go.RowKit

set_option maxHeartbeats 2000000 in
/-- A number below n, for great n too. -/
theorem curPickBig (c : Nat) (ad : Option Addr) (cap : Nat) (zs : List Int) (m : Nat) (n : Int) (w : World) (h : CurIn w c ad cap zs m) (hm : m ≤ 1099511627000) (hl : zs.length ≤ 1048576) (hn2 : n ≤ 134217728) :
    Calls Try.prog 71 #[.pointer (some ⟨c, 0, none⟩), .int .i64 n] w fun e w' => ∃ x, e = .returned (.int .i64 x) ∧ 0 ≤ x ∧ (1 ≤ n → x < n) ∧ CurIn w' c ad cap zs (m + 3) ∧ OnlyAt c w w' := by
  by_cases h1 : n ≤ 1
  · have hc := hide (h.more (show m ≤ m + 3 by omega))
    clear h
    go_enter Try.func71, Try.ntmps71
    go_wp2
    go_ret
    exact ⟨0, rfl, by omega, fun h => by omega, unhide hc, OnlyAt.refl _ _⟩
  · by_cases h2 : n ≤ 200
    · refine (curPick c ad cap zs m n w h (by omega) hl (by omega) h2).mono ?_
      rintro e w' ⟨x, rfl, x0, x1, hc, ho⟩
      exact ⟨x, rfl, x0, fun _ => x1, hc.more (by omega), ho⟩
    · have hN := hide (curNextIn c ad cap zs m w h (by omega) hl)
      clear h
      by_cases h3 : n ≤ 50000
      · go_enter Try.func71, Try.ntmps71
        go_wp2_with fail
        refine (unhide hN).mono ?_
        rintro e w1 ⟨x, rfl, x0, x1, hc, ho⟩
        clear hN
        have hN2 := hide (curNextIn c ad cap zs (m + 1) w1 hc (by omega) hl)
        clear hc
        go_wp2_with fail
        refine (unhide hN2).mono ?_
        rintro e w2 ⟨y, rfl, y0, y1, hc2, ho2⟩
        have hc3 := hide (hc2.more (show m + 1 + 1 ≤ m + 3 by omega))
        have ho3 := hide (ho.trans ho2)
        clear hN2 hc2 ho ho2
        go_wp2
        go_ret
        exact ⟨_, rfl, Int.emod_nonneg _ (by omega), fun _ => Int.emod_lt_of_pos _ (by omega), unhide hc3, unhide ho3⟩
      · go_enter Try.func71, Try.ntmps71
        go_wp2_with fail
        refine (unhide hN).mono ?_
        rintro e w1 ⟨x, rfl, x0, x1, hc, ho⟩
        clear hN
        have hN2 := hide (curNextIn c ad cap zs (m + 1) w1 hc (by omega) hl)
        clear hc
        go_wp2_with fail
        refine (unhide hN2).mono ?_
        rintro e w2 ⟨y, rfl, y0, y1, hc2, ho2⟩
        have hN3 := hide (curNextIn c ad cap zs (m + 1 + 1) w2 hc2 (by omega) hl)
        clear hN2 hc2
        go_wp2_with fail
        refine (unhide hN3).mono ?_
        rintro e w3 ⟨z, rfl, z0, z1, hc3, ho3⟩
        have hc4 := hide (hc3.more (show m + 1 + 1 + 1 ≤ m + 3 by omega))
        have ho4 := hide ((ho.trans ho2).trans ho3)
        clear hN3 hc3 ho ho2 ho3
        go_wp2
        go_ret
        exact ⟨_, rfl, Int.emod_nonneg _ (by omega), fun _ => Int.emod_lt_of_pos _ (by omega), unhide hc4, unhide ho4⟩


theorem InR.setT {lo hi : Int} {xs : List Int} (h : InR lo hi xs) {x : Int} (h0 : lo ≤ x ∧ x ≤ hi) (k : Nat) : InR lo hi (xs.set k x) := by
  intro j hj
  rw [List.length_set] at hj
  rw [List.getD_eq_getElem?_getD]
  by_cases e : k = j
  · subst e; rw [List.getElem?_set_self hj]; exact h0
  · rw [List.getElem?_set_ne e, ← List.getD_eq_getElem?_getD]; exact h j hj
theorem inR_zerosT (lo hi : Int) (h : lo ≤ 0 ∧ 0 ≤ hi) (n : Nat) : InR lo hi (List.replicate n 0) := by
  intro j hj
  rw [List.getD_eq_getElem?_getD, List.getElem?_replicate]
  split <;> simp <;> omega
theorem OnlyAt.upd {c : Nat} {w w' : World} (h : OnlyAt c w w') : Upd c (c + 1) w w' := ⟨h.os, h.tape, h.output, h.size, fun k hk hn => h.block k hk (by omega)⟩
theorem OnlyAt.of_belowT {c : Nat} {w w' : World} (h : Below w.heap.size w w') : OnlyAt c w w' := ⟨h.os, h.tape, h.output, h.size, fun k hk _ => h.block k hk⟩
theorem ints_setT (xs : List Int) (k : Nat) (x : Int) : (ints xs).set k (.int .i64 x) = ints (xs.set k x) := by unfold ints; rw [List.map_set]
theorem OnlyAt.pastT {c g : Nat} {w w' : World} (h : OnlyAt c w w') (hg : w.heap.size ≤ g) {k : Nat} {u : Value} : OnlyAt c w (w'.setCell ⟨g, k, none⟩ u) :=
  ⟨h.os, h.tape, h.output, by simpa using h.size, fun j hj hjc => (Below.heap_setCell w' ⟨g, k, none⟩ u j (by simp; omega)).trans (h.block j hj hjc)⟩
/-- What stands while numbers are drawn into a row of the call's own. -/
structure ToSt (w wr : World) (c g n : Nat) (ad : Option Addr) (cap : Nat) (zs : List Int) (m : Nat) (xs : List Int) : Prop where
  len : xs.length = n
  own : RowI wr g n (ints xs)
  cur : CurIn wr c ad cap zs m
  only : OnlyAt c w wr
  cw : c < w.heap.size
  gw : w.heap.size ≤ g
  far : ∀ b' off, ad = some ⟨b', off, none⟩ → zs ≠ [] → b' < w.heap.size
theorem ToSt.pick {w wr wx : World} {c g n : Nat} {ad : Option Addr} {cap : Nat} {zs : List Int} {m m' : Nat} {xs : List Int} (h : ToSt w wr c g n ad cap zs m xs) (hc : CurIn wx c ad cap zs m') (ho : OnlyAt c wr wx) : ToSt w wx c g n ad cap zs m' xs :=
  ⟨h.len, h.own.upd ho.upd (.inr (by have := h.cw; have := h.gw; omega)), hc, h.only.trans ho, h.cw, h.gw, h.far⟩
theorem ToSt.put {w wr : World} {c g n : Nat} {ad : Option Addr} {cap : Nat} {zs : List Int} {m : Nat} {xs : List Int} (h : ToSt w wr c g n ad cap zs m xs) (k : Nat) (x : Int) : ToSt w (wr.setCell ⟨g, k, none⟩ (.int .i64 x)) c g n ad cap zs m (xs.set k x) :=
  ⟨by rw [List.length_set]; exact h.len, by have := h.own.set k (.int .i64 x); rwa [ints_setT] at this,
    h.cur.setFar (by have := h.cw; have := h.gw; omega) (fun b' off e hne => by have := h.far b' off e hne; have := h.gw; omega), h.only.pastT h.gw, h.cw, h.gw, h.far⟩
theorem ToSt.more {w wr : World} {c g n : Nat} {ad : Option Addr} {cap : Nat} {zs : List Int} {m m' : Nat} {xs : List Int} (h : ToSt w wr c g n ad cap zs m xs) (hm : m ≤ m') : ToSt w wr c g n ad cap zs m' xs :=
  ⟨h.len, h.own, h.cur.more hm, h.only, h.cw, h.gw, h.far⟩
theorem ToSt.at {w wr : World} {c g n : Nat} {ad : Option Addr} {cap : Nat} {zs : List Int} {m : Nat} {xs : List Int} (h : ToSt w wr c g n ad cap zs m xs) {k : Nat} (hk : k < n) : (∃ u, wr.cell? ⟨g, k, none⟩ = some u) ∧ wr.frozen? ⟨g, k, none⟩ = false :=
  ⟨h.own.has k hk, h.own.frozen k⟩
set_option maxHeartbeats 32000000 in
set_option maxRecDepth 1000000 in
theorem curTone (c : Nat) (ad : Option Addr) (cap : Nat) (zs : List Int) (m n b : Nat) (w : World) (h : CurIn w c ad cap zs m) (hm : m ≤ 1099510000000) (hl : zs.length ≤ 1048576) (hn : n ≤ 4001) (hb1 : 2 ≤ b) (hb2 : b ≤ 26) :
    Calls Try.prog 94 #[.pointer (some ⟨c, 0, none⟩), .int .i64 (n : Int), .int .i64 (b : Int)] w fun e w' => ∃ v xs, e = .returned v ∧ xs.length = n ∧ InR (-33554432) 33554432 xs ∧ OwnI w' w.heap.size w'.heap.size v xs ∧ CurIn w' c ad cap zs (m + 20000) ∧ OnlyAt c w w' := by
  obtain ⟨q, hq⟩ : ∃ q, b - 1 = q := ⟨_, rfl⟩
  have e1 : (b : Int) - 1 = (q : Int) := by omega
  have hw0 : IntKind.i64.wrap ((b : Int) - 1) = (q : Int) := by simp [IntKind.wrap, IntKind.bits, IntKind.signed]; omega
  have hqb : q ≤ 25 := by omega
  have hp := pow_small q (by omega)
  have hP25 : Hid ((2 : Int) ^ q ≤ 33554432 ∧ 1 ≤ (2 : Int) ^ q) := hide ⟨by
    have h1 : 2 ^ q ≤ 2 ^ 25 := Nat.pow_le_pow_right (by omega) hqb
    have e : ((2 ^ q : Nat) : Int) = (2 : Int) ^ q := by rw [Int.natCast_pow]; rfl
    have e25 : (2 : Nat) ^ 25 = 33554432 := by decide
    rw [e25] at h1
    omega, hp.1⟩
  have hcl : c < w.heap.size := by obtain ⟨_, _, ⟨h0, _⟩, _⟩ := h; exact h0
  have hadl : ∀ b' off, ad = some ⟨b', off, none⟩ → zs ≠ [] → b' < w.heap.size := fun b' off e hne => by
    obtain ⟨_, _, ⟨_, _, _, _, _, _, _, hbs⟩, _⟩ := h
    obtain ⟨b2, off2, e2, hl2, _⟩ := hbs hne
    rw [e] at e2
    simp only [Option.some.injEq, Addr.mk.injEq, and_true] at e2
    omega
  replace hadl := hide hadl
  obtain ⟨ob, hmk⟩ := mkRowI n (by omega)
  have hmk1 := fun X => (hmk X).1
  have hmk2 := hide (fun X => (hmk X).2)
  clear hmk
  have hpick := hide (fun (m' : Nat) (n : Int) (W : World) (hc : CurIn W c ad cap zs m') (h1 : m' ≤ 1099511627000) (h2 : n ≤ 134217728) => curPickBig c ad cap zs m' n W hc h1 hl h2)
  replace h := hide h
  go_enter Try.func94, Try.ntmps94
  go_upto_region 2 with fail
  have hP25' := unhide hP25
  clear hw0 e1 hqb hq hb1 hb2 hP25
  generalize (2 : Int) ^ q = P at hp hP25' ⊢
  obtain ⟨P2, P1⟩ := hP25'
  clear hp
  go_wp2_with fail
  refine (unhide hpick m 5 w (unhide h) (by omega) (by omega)).mono ?_
  rintro e w1 ⟨kd, rfl, kd0, kd1, hcq, hoq⟩
  replace kd1 := kd1 (by omega)
  have hsz1 := hoq.size
  replace hcq := hide hcq
  replace hoq := hide hoq
  clear h
  go_upto_region 4 with fail
  have hD : ToSt w (w1.alloc ob) c w1.heap.size n ad cap zs (m + 3) (List.replicate n 0) := ⟨by simp, by have := unhide hmk2 w1; unfold ints; simpa using this, (unhide hcq).grown ((Below.refl _ _).alloc (Nat.le_refl _) ob), (unhide hoq).trans (OnlyAt.of_belowT ((Below.refl _ _).alloc (Nat.le_refl _) ob)), hcl, hsz1, unhide hadl⟩
  replace hD := hide hD
  clear hmk1 hmk2 hcq hoq hadl
  obtain ⟨g, hg⟩ : ∃ g, w1.heap.size = g := ⟨_, rfl⟩
  have hgw : w.heap.size ≤ g := by omega
  rw [hg] at hD ⊢
  replace hg := hide hg
  clear hsz1
  generalize w1.alloc ob = W0 at hD ⊢
  go_wp2_with fail
  refine (unhide hpick (m + 3) (2 * P) W0 (unhide hD).cur (by omega) (by omega)).mono ?_
  rintro e w2 ⟨v0, rfl, v00, v01, hcq, hoq⟩
  replace v01 := v01 (by omega)
  replace hD := hide ((unhide hD).pick hcq hoq)
  clear hcq hoq
  go_wp2_with fail
  refine (unhide hpick (m + 3 + 3) 40 w2 (unhide hD).cur (by omega) (by omega)).mono ?_
  rintro e w3 ⟨s0, rfl, s00, s01, hcq, hoq⟩
  replace s01 := s01 (by omega)
  replace hD := hide ((unhide hD).pick hcq hoq)
  clear hcq hoq
  go_wp2_with fail
  go_loopw [10, 11, 12, 32] (fun v s _ i wr => ∃ k : Nat, ∃ xs : List Int, k ≤ n ∧ i = .int .i64 k ∧ Hid (InR (-33554432) 33554432 xs) ∧ Hid (ToSt w wr c g n ad cap zs (m + 3 + 3 + 3 + 3 * k) xs) ∧ ∃ x t : Int, v = .int .i64 x ∧ s = .int .i64 t ∧ (-P ≤ x ∧ x < P) ∧ (-20 ≤ t ∧ t ≤ 20)) (fun _ _ _ i _ => n - (intOf i).toNat)
  case atStart => exact ⟨0, List.replicate n 0, Nat.zero_le _, rfl, inR_zerosT _ _ (by omega) n, hD, _, _, rfl, rfl, by omega, by omega⟩
  case round =>
    clear hD v00 v01 s00 s01
    obtain ⟨k, xs, hk, rfl, hR, hD, x, t, rfl, rfl, ⟨x1, x2⟩, t1, t2⟩ := hrel
    by_cases hlt : k < n
    · have hlt2 : (k : Int) < (n : Int) := by omega
      have kI : (0 : Int) ≤ (k : Int) := by omega
      rcases (show kd = 0 ∨ kd = 1 ∨ kd = 2 ∨ kd = 3 ∨ kd = 4 by omega) with e | e | e | e | e
      · subst e
        go_wp2_with fail
        refine (unhide hpick (m + 3 + 3 + 3 + 3 * k) (2 * P) wr (unhide hD).cur (by omega) (by omega)).mono ?_
        rintro e wq ⟨pk, rfl, pk0, pk1, hcq, hoq⟩
        replace pk1 := pk1 (by omega)
        replace hD := hide ((unhide hD).pick hcq hoq)
        clear hcq hoq
        obtain ⟨⟨uu, hdst⟩, hfz⟩ := (unhide hD).at hlt
        have y1 : ¬ pk - P < -P := by omega
        have y2 : ¬ P ≤ pk - P := by omega
        have hst := hide ((unhide hD).put k (pk - P))
        have hir := hide ((unhide hR).setT (x := pk - P) (by omega) k)
        clear hD
        go_wp2
        all_goals
          go_roundw
          case rel => exact ⟨k + 1, _, by omega, by go_num, hir, hide ((unhide hst).more (by omega)), _, _, rfl, rfl, by omega, by omega⟩
          case measure => simp [intOf]; omega
      · subst e
        obtain ⟨⟨uu, hdst⟩, hfz⟩ := (unhide hD).at hlt
        by_cases h37 : (k : Int) % 37 = 0
        · skip
          by_cases y1 : x + t < -P
          · have hst := hide ((unhide hD).put k (-P))
            have hir := hide ((unhide hR).setT (x := -P) (by omega) k)
            clear hD
            go_wp2
            all_goals
              go_roundw
              case rel => exact ⟨k + 1, _, by omega, by go_num, hir, hide ((unhide hst).more (by omega)), -P, _, rfl, rfl, by omega, by omega⟩
              case measure => simp [intOf]; omega
          by_cases y2 : P ≤ x + t
          · have hst := hide ((unhide hD).put k (P - 1))
            have hir := hide ((unhide hR).setT (x := P - 1) (by omega) k)
            clear hD
            go_wp2
            all_goals
              go_roundw
              case rel => exact ⟨k + 1, _, by omega, by go_num, hir, hide ((unhide hst).more (by omega)), P - 1, _, rfl, rfl, by omega, by omega⟩
              case measure => simp [intOf]; omega
          have hst := hide ((unhide hD).put k (x + t))
          have hir := hide ((unhide hR).setT (x := x + t) (by omega) k)
          clear hD
          go_wp2
          all_goals
            go_roundw
            case rel => exact ⟨k + 1, _, by omega, by go_num, hir, hide ((unhide hst).more (by omega)), _, _, rfl, rfl, by omega, by omega⟩
            case measure => simp [intOf]; omega
        · have q37 : ((k : Int) % 37 == 0) = false := by rw [beq_eq_false_iff_ne]; exact h37
          by_cases y1 : x + t < -P
          · have hst := hide ((unhide hD).put k (-P))
            have hir := hide ((unhide hR).setT (x := -P) (by omega) k)
            clear hD
            go_wp2
            all_goals
              go_roundw
              case rel => exact ⟨k + 1, _, by omega, by go_num, hir, hide ((unhide hst).more (by omega)), -P, _, rfl, rfl, by omega, by omega⟩
              case measure => simp [intOf]; omega
          by_cases y2 : P ≤ x + t
          · have hst := hide ((unhide hD).put k (P - 1))
            have hir := hide ((unhide hR).setT (x := P - 1) (by omega) k)
            clear hD
            go_wp2
            all_goals
              go_roundw
              case rel => exact ⟨k + 1, _, by omega, by go_num, hir, hide ((unhide hst).more (by omega)), P - 1, _, rfl, rfl, by omega, by omega⟩
              case measure => simp [intOf]; omega
          have hst := hide ((unhide hD).put k (x + t))
          have hir := hide ((unhide hR).setT (x := x + t) (by omega) k)
          clear hD
          go_wp2
          all_goals
            go_roundw
            case rel => exact ⟨k + 1, _, by omega, by go_num, hir, hide ((unhide hst).more (by omega)), _, _, rfl, rfl, by omega, by omega⟩
            case measure => simp [intOf]; omega
      · subst e
        go_wp2_with fail
        refine (unhide hpick (m + 3 + 3 + 3 + 3 * k) 7 wr (unhide hD).cur (by omega) (by omega)).mono ?_
        rintro e wq ⟨pk, rfl, pk0, pk1, hcq, hoq⟩
        replace pk1 := pk1 (by omega)
        replace hD := hide ((unhide hD).pick hcq hoq)
        clear hcq hoq
        obtain ⟨⟨uu, hdst⟩, hfz⟩ := (unhide hD).at hlt
        by_cases y1 : x + (pk - 3) < -P
        · have hst := hide ((unhide hD).put k (-P))
          have hir := hide ((unhide hR).setT (x := -P) (by omega) k)
          clear hD
          go_wp2
          all_goals
            go_roundw
            case rel => exact ⟨k + 1, _, by omega, by go_num, hir, hide ((unhide hst).more (by omega)), -P, _, rfl, rfl, by omega, by omega⟩
            case measure => simp [intOf]; omega
        by_cases y2 : P ≤ x + (pk - 3)
        · have hst := hide ((unhide hD).put k (P - 1))
          have hir := hide ((unhide hR).setT (x := P - 1) (by omega) k)
          clear hD
          go_wp2
          all_goals
            go_roundw
            case rel => exact ⟨k + 1, _, by omega, by go_num, hir, hide ((unhide hst).more (by omega)), P - 1, _, rfl, rfl, by omega, by omega⟩
            case measure => simp [intOf]; omega
        have hst := hide ((unhide hD).put k (x + (pk - 3)))
        have hir := hide ((unhide hR).setT (x := x + (pk - 3)) (by omega) k)
        clear hD
        go_wp2
        all_goals
          go_roundw
          case rel => exact ⟨k + 1, _, by omega, by go_num, hir, hide ((unhide hst).more (by omega)), _, _, rfl, rfl, by omega, by omega⟩
          case measure => simp [intOf]; omega
      · subst e
        obtain ⟨⟨uu, hdst⟩, hfz⟩ := (unhide hD).at hlt
        obtain ⟨K2, hK2⟩ : ∃ K2, k * k = K2 := ⟨_, rfl⟩
        have pm : (k : Int) * (k : Int) = (K2 : Int) := by rw [← hK2, Int.natCast_mul]
        have K2b : K2 ≤ 4001 * 4001 := by rw [← hK2]; exact Nat.mul_le_mul (by omega) (by omega)
        obtain ⟨Q, hQ⟩ : ∃ Q, (K2 : Int) * t = Q := ⟨_, rfl⟩
        have Q1 : Q ≤ 4001 * 4001 * 20 := by rw [← hQ]; exact Int.le_trans (Int.mul_le_mul_of_nonneg_left t2 (by omega)) (Int.mul_le_mul_of_nonneg_right (by omega) (by omega))
        have Q0 : -(4001 * 4001 * 20) ≤ Q := by
          have h1 : (K2 : Int) * (-20) ≤ (K2 : Int) * t := Int.mul_le_mul_of_nonneg_left t1 (by omega)
          rw [hQ] at h1; omega
        obtain ⟨x3, hx3⟩ : ∃ x3, Q.tdiv 9 = x3 := ⟨_, rfl⟩
        have hx3b : -35573336 ≤ x3 ∧ x3 ≤ 35573336 := by
          rw [← hx3]
          rcases Int.lt_or_le Q 0 with h | h
          · obtain ⟨R, rfl⟩ : ∃ R, Q = -R := ⟨-Q, by omega⟩
            rw [Int.neg_tdiv, Int.tdiv_eq_ediv_of_nonneg (by omega)]; omega
          · rw [Int.tdiv_eq_ediv_of_nonneg h]; omega
        replace hK2 := hide hK2
        clear hpick
        by_cases y1 : x3 < -P
        · have hst := hide ((unhide hD).put k (-P))
          have hir := hide ((unhide hR).setT (x := -P) (by omega) k)
          clear hD
          go_wp2
          all_goals
            go_roundw
            case rel => exact ⟨k + 1, _, by omega, by go_num, hir, hide ((unhide hst).more (by omega)), -P, _, rfl, rfl, by omega, by omega⟩
            case measure => simp [intOf]; omega
        by_cases y2 : P ≤ x3
        · have hst := hide ((unhide hD).put k (P - 1))
          have hir := hide ((unhide hR).setT (x := P - 1) (by omega) k)
          clear hD
          go_wp2
          all_goals
            go_roundw
            case rel => exact ⟨k + 1, _, by omega, by go_num, hir, hide ((unhide hst).more (by omega)), P - 1, _, rfl, rfl, by omega, by omega⟩
            case measure => simp [intOf]; omega
        have hst := hide ((unhide hD).put k (x3))
        have hir := hide ((unhide hR).setT (x := x3) (by omega) k)
        clear hD
        go_wp2
        all_goals
          go_roundw
          case rel => exact ⟨k + 1, _, by omega, by go_num, hir, hide ((unhide hst).more (by omega)), _, _, rfl, rfl, by omega, by omega⟩
          case measure => simp [intOf]; omega
      · subst e
        obtain ⟨⟨uu, hdst⟩, hfz⟩ := (unhide hD).at hlt
        have y1 : ¬ x < -P := by omega
        have y2 : ¬ P ≤ x := by omega
        have hst := hide ((unhide hD).put k (x))
        have hir := hide ((unhide hR).setT (x := x) (by omega) k)
        clear hD
        go_wp2
        all_goals
          go_roundw
          case rel => exact ⟨k + 1, _, by omega, by go_num, hir, hide ((unhide hst).more (by omega)), _, _, rfl, rfl, by omega, by omega⟩
          case measure => simp [intOf]; omega
    · have hkn : k = n := by omega
      subst hkn
      have hlg := (unhide hD).own.lt
      have hfin : Hid (∃ xs : List Int, xs.length = k ∧ InR (-33554432) 33554432 xs ∧ OwnI wr w.heap.size wr.heap.size (.slice (some ⟨g, 0, none⟩) k k) xs ∧ CurIn wr c ad cap zs (m + 20000) ∧ OnlyAt c w wr) := hide ⟨xs, (unhide hD).len, unhide hR, by
        have h0 : OwnI wr g (g + 1) (.slice (some ⟨g, 0, none⟩) k k) xs := by have := (unhide hD).own.own; unfold OwnI; rw [(unhide hD).len]; exact this
        exact own_mono h0 hgw (by omega), (unhide hD).cur.more (by omega), (unhide hD).only⟩
      clear hD hR
      go_wp2
      go_ret
      obtain ⟨ys, f1, f2, f3, f4, f5⟩ := unhide hfin
      exact ⟨_, ys, rfl, f1, f2, f3, f4, f5⟩
end Go.Proofs.Ytocoeodoihdkgaa
