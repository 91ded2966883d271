/- Guesses: the specification's walk. -/
import Derived.Test.YtpofmcepjmbmcaaPlainGu
import Derived.Test.YtpofmcepjmbmcaaWApA
import Derived.Test.YtpofmcepjmbmcaaWRowI
import Derived.Test.YtpofmcepjmbmcaaWTrA
import Derived.StillTailTactics
import Derived.Deep.DeepCutAuto
namespace Go.Proofs.Ytpofmcepjmbmcaa
open Go.RowKit

theorem Upd.drewG (w : World) : Upd 0 0 w w.drew := ⟨rfl, rfl, rfl, Nat.le_refl _, fun _ _ _ => rfl⟩
theorem wrapG {n : Int} (h : -9223372036854775808 ≤ n ∧ n ≤ 9223372036854775807) : IntKind.i64.wrap n = n := by
  simp [IntKind.wrap, IntKind.bits, IntKind.signed]; omega
/-- The square under way. -/
structure GuSt (W wr : World) (N : Nat) (xs : List Int) : Prop where
  out : RowI wr W.heap.size N (ints xs)
  bel : Below W.heap.size W wr
theorem GuSt.upd {W wr wx : World} {N : Nat} {ys : List Int} (h : GuSt W wr N ys) (u : Upd 0 0 wr wx) : GuSt W wx N ys :=
  ⟨h.out.keep u, below_upd h.bel u (Nat.le_refl _) (.inr (Nat.zero_le _))⟩
theorem GuSt.put {W wr : World} {N : Nat} {ys : List Int} (h : GuSt W wr N ys) (k : Nat) (x : Int) : GuSt W (wr.setCell ⟨W.heap.size, k, none⟩ (.int .i64 x)) N (ys.set k x) :=
  ⟨by have := h.out.set k (.int .i64 x); rw [show (ints ys).set k (.int .i64 x) = ints (ys.set k x) by unfold ints; rw [List.map_set]] at this; exact this, h.bel.setCell (p := ⟨W.heap.size, k, none⟩) (Nat.le_refl _) _⟩
/-- The first k places are filled. -/
def guPart (f : Nat → Int) (N k : Nat) : List Int := (List.range N).map fun p => if p < k then f p else 0
theorem guPart_set (f : Nat → Int) (N k : Nat) (_hk : k < N) : (guPart f N k).set k (f k) = guPart f N (k + 1) := by
  refine List.ext_getElem? (fun i => ?_)
  unfold guPart
  by_cases hi : i < N
  · by_cases e : k = i
    · subst e
      rw [List.getElem?_set_self (by simpa using hi), List.getElem?_map, List.getElem?_range hi]
      simp
    · rw [List.getElem?_set_ne e, List.getElem?_map, List.getElem?_map, List.getElem?_range hi]
      simp only [Option.map_some]
      by_cases h : i < k
      · rw [if_pos h, if_pos (by omega)]
      · rw [if_neg h, if_neg (by omega)]
  · rw [List.getElem?_eq_none (by simp; omega), List.getElem?_eq_none (by simp; omega)]
theorem guPart_zero (f : Nat → Int) (N : Nat) : guPart f N 0 = List.replicate N 0 := by
  unfold guPart
  exact List.ext_getElem (by simp) (fun i _ _ => by simp)
theorem guPart_all (f : Nat → Int) (N : Nat) : guPart f N N = (List.range N).map f := by
  unfold guPart
  exact List.map_congr_left (fun p hp => by rw [if_pos (List.mem_range.1 hp)])
set_option maxHeartbeats 16000000 in
set_option maxRecDepth 100000 in
theorem specL13Guess0 (S : Nat) (ad ad' : Option Addr) (cap cap' : Nat) (xs ys : List Int) (corner : Int) (w : World) (hok : GuOk S xs ys corner) (hneed : True) (hAx : ArgI w ad xs) (hAy : ArgI w ad' ys) :
    Calls Try.prog 60 #[.int .i64 0, .int .i64 (S : Int), .slice ad xs.length cap, .slice ad' ys.length cap', .int .i64 corner] w fun e w' => ∃ v, e = .returned (.tuple #[v, .bool true]) ∧ OwnI w' w.heap.size w'.heap.size v (guL 0 S xs ys corner) ∧ Upd 0 0 w w' := by
  have hmean := guMean_bd hok
  obtain ⟨hS, h1, h2, h3, h4, c0, c1⟩ := hok
  obtain ⟨N, hN⟩ : ∃ N, S * S = N := ⟨_, rfl⟩
  have hN2 : N ≤ 64 ∧ 16 ≤ N := by rcases hS with rfl | rfl <;> omega
  have hxv9 : (xs.length : Int) ≤ 8 := by omega
  have hyv9 : (ys.length : Int) ≤ 8 := by omega
  have hSS : (S : Int) * (S : Int) = (N : Int) := by rw [← hN]; push_cast; rfl
  obtain ⟨oN, hmk⟩ := mkRowI N (by omega)
  have hmk1 := fun X => (hmk X).1
  have hxs := hide (fun k hk => sumTo_bd h3 k hk)
  have hys := hide (fun k hk => sumTo_bd h4 k hk)
  have hxr := hide (fun k (hk : k < xs.length) => h3 k hk)
  have hyr := hide (fun k (hk : k < ys.length) => h4 k hk)
  have hx9 : Hid (xs.length ≤ 8) := hide (by omega)
  have hy9 : Hid (ys.length ≤ 8) := hide (by omega)
  have hxtot : Hid (0 ≤ sumTo xs xs.length ∧ sumTo xs xs.length ≤ 2040) := hide (by have := sumTo_bd h3 xs.length (Nat.le_refl _); omega)
  have hN0 : Hid (GuSt w (w.alloc oN) N (guPart (guCell 0 S xs ys corner) N 0)) := hide ⟨by
    have h := (hmk w).2
    rw [guPart_zero, show ints (List.replicate N 0) = List.replicate N (.int .i64 0) by unfold ints; simp]
    exact h, (Below.refl _ w).alloc (Nat.le_refl _) _⟩
  have hS1 : (1 : Int) ≤ (S : Int) := by rcases hS with rfl | rfl <;> omega
  have hS8 : (S : Int) ≤ 8 := by rcases hS with rfl | rfl <;> omega
  have hAx9 := hAx
  have hAy9 := hAy
  have hXr := hxr
  have hYr := hyr
  replace hAx := hide hAx
  replace hAy := hide hAy
  have hneed' := hide hneed
  have hS' := hide hS
  have hN' := hide hN
  
  
  obtain ⟨N1, N2⟩ := hN2
  clear hmk h1 h2 h3 h4 hS hN hneed
  go_enter Try.func60, Try.ntmps60
  go_wp2_with fail
  have hbw0 : Below w.heap.size w (w.alloc oN) := (Below.refl _ w).alloc (Nat.le_refl _) _
  replace hAx := hide ((unhide hAx).below hbw0)
  replace hAy := hide ((unhide hAy).below hbw0)
  have hNx : Hid (∀ k, k < xs.length → ∃ b o, ad = some ⟨b, o, none⟩ ∧ w.cell? ⟨b, o + k, none⟩ = some (.int .i64 (xs.getD k 0)) ∧ b < w.heap.size) := hide (fun k hk => by
    obtain ⟨b, o, e, hb, hc⟩ := hAx9 (ne_of_lt_length hk)
    exact ⟨b, o, e, hc k hk, hb⟩)
  have hNy : Hid (∀ k, k < ys.length → ∃ b o, ad' = some ⟨b, o, none⟩ ∧ w.cell? ⟨b, o + k, none⟩ = some (.int .i64 (ys.getD k 0)) ∧ b < w.heap.size) := hide (fun k hk => by
    obtain ⟨b, o, e, hb, hc⟩ := hAy9 (ne_of_lt_length hk)
    exact ⟨b, o, e, hc k hk, hb⟩)
  generalize w.alloc oN = W0 at hN0 hAx hAy ⊢
  clear hAx9 hAy9
  clear hbw0 hmk1
  go_loopw [13, 54] (fun s i wr => ∃ (k : Nat) (T : Int), k ≤ xs.length ∧ s = .int .i64 T ∧ i = .int .i64 (k : Int) ∧ Hid (T = sumTo xs k) ∧ W0 = wr) (fun _ i _ => xs.length - (intOf i).toNat)
  case atStart => exact ⟨0, _, by omega, rfl, rfl, hide rfl, rfl⟩
  case round =>
    obtain ⟨k, T, hk, rfl, rfl, hT, rfl⟩ := hrel
    by_cases hlt : k < xs.length
    · have hkb : decide ((k : Int) < (xs.length : Int)) = true := decide_eq_true (by omega)
      have hTb := unhide hxs k hk
      have hTe := unhide hT
      obtain ⟨bb, off, rfl, hbl, hcl⟩ := (unhide hAx) (ne_of_lt_length hlt)
      have hck := hcl k hlt
      have hxb := unhide hxr k hlt
      have hnx : Hid (T + xs.getD k 0 = sumTo xs (k + 1)) := hide (by rw [hTe]; show _ = (sumTo xs k + xs.getD k 0); omega)
      have hl9 : xs.length ≤ 8 := unhide hx9
      
      have hT0 : 0 ≤ T ∧ T ≤ 5000 := by rw [hTe]; omega
      generalize xs.getD k 0 = x at hck hxb hnx
      obtain ⟨x0, x1⟩ := hxb
      obtain ⟨T0, T1⟩ := hT0
      clear hcl hbl hTb hTe hT
      go_wp2_with fail
      go_roundw
      case rel => exact ⟨k + 1, _, by omega, rfl, by go_num, hnx, trivial⟩
      case measure => simp [intOf]; omega
    · have hke : k = xs.length := by omega
      have hkb : decide ((k : Int) < (xs.length : Int)) = false := decide_eq_false (by omega)
      have hT2 : Hid (T = sumTo xs xs.length) := hide (by rw [unhide hT, hke])
      replace hke := hide hke
      clear hT hk
      go_wp2_with fail
      go_loopw [13, 64] (fun s i wr => ∃ (k : Nat) (T : Int), k ≤ ys.length ∧ s = .int .i64 T ∧ i = .int .i64 (k : Int) ∧ Hid (T = sumTo xs xs.length + sumTo ys k) ∧ W0 = wr) (fun _ i _ => ys.length - (intOf i).toNat)
      case atStart => exact ⟨0, _, by omega, rfl, rfl, hide (by rw [unhide hT2]; simp [sumTo]), rfl⟩
      case round =>
        obtain ⟨k, T, hk, rfl, rfl, hT, rfl⟩ := hrel
        by_cases hlt : k < ys.length
        · have hkb : decide ((k : Int) < (ys.length : Int)) = true := decide_eq_true (by omega)
          have hTb := unhide hys k hk
          have hTe := unhide hT
          obtain ⟨bb, off, rfl, hbl, hcl⟩ := (unhide hAy) (ne_of_lt_length hlt)
          have hck := hcl k hlt
          have hxb := unhide hyr k hlt
          have hnx : Hid (T + ys.getD k 0 = sumTo xs xs.length + sumTo ys (k + 1)) := hide (by rw [hTe]; show _ = sumTo xs xs.length + (sumTo ys k + ys.getD k 0); omega)
          have hl9 : ys.length ≤ 8 := unhide hy9
          have hother := unhide hxtot
          have hT0 : 0 ≤ T ∧ T ≤ 5000 := by rw [hTe]; omega
          generalize ys.getD k 0 = x at hck hxb hnx
          obtain ⟨x0, x1⟩ := hxb
          obtain ⟨T0, T1⟩ := hT0
          clear hcl hbl hTb hTe hT hother
          go_wp2_with fail
          go_roundw
          case rel => exact ⟨k + 1, _, by omega, rfl, by go_num, hnx, trivial⟩
          case measure => simp [intOf]; omega
        · have hke : k = ys.length := by omega
          have hkb : decide ((k : Int) < (ys.length : Int)) = false := decide_eq_false (by omega)
          have hT3 : T = sumTo xs xs.length + sumTo ys ys.length := by rw [unhide hT, hke]
          have hTb : 0 ≤ T ∧ T ≤ 5000 := by
            have a1 := unhide hxtot
            have a2 := unhide hys ys.length (Nat.le_refl _)
            have a3 := unhide hy9
            rw [hT3]; omega
          obtain ⟨tn, htn⟩ : ∃ tn, xs.length + ys.length = tn := ⟨_, rfl⟩
          have tn16 : tn ≤ 16 := by have a3 := unhide hy9; have a4 := unhide hx9; omega
          have e1 : (xs.length : Int) + (ys.length : Int) = (tn : Int) := by omega
          have e2 : (tn : Int).tdiv 2 = ((tn / 2 : Nat) : Int) := by rw [Int.tdiv_eq_ediv_of_nonneg (by omega)]; omega
          have hM0 : Hid (tn = 0 → guMean xs ys = 128) := hide (fun h => by unfold guMean; rw [if_pos (by omega)])
          have hM1 : Hid (¬ tn = 0 → (T + ((tn / 2 : Nat) : Int)).tdiv (tn : Int) = guMean xs ys) := hide (fun h => by unfold guMean; rw [if_neg (by omega), htn, Int.tdiv_eq_ediv_of_nonneg (by omega), hT3])
          generalize hMM : guMean xs ys = M at hM0 hM1 hmean
          replace hMM := hide hMM
          replace hke := hide hke
          replace hT3 := hide hT3
          obtain ⟨T0, T1⟩ := hTb
          obtain ⟨M0, M1⟩ := hmean
          have t2 : (0 : Int) ≤ ((tn / 2 : Nat) : Int) ∧ ((tn / 2 : Nat) : Int) ≤ 8 := by omega
          generalize ((tn / 2 : Nat) : Int) = h2 at e2 hM1 t2
          obtain ⟨t20, t21⟩ := t2
          replace htn := hide htn
          clear hT hT2 hk hxtot hxs hys hxr hyr
          go_upto_if 73 with fail
          go_cut [14, 19] (fun _ s wx => s = .int .i64 M ∧ W0 = wx)
          case first =>
            by_cases hz : tn = 0
            · have hM := unhide hM0 hz
              subst hM
              subst hz
              go_wp2
              go_meet
              exact ⟨rfl, rfl⟩
            · have hM := unhide hM1 hz
              have hz2 : ¬ (tn : Int) = 0 := by omega
              have hz3 : (0 : Int) < (tn : Int) := by omega
              go_wp2
              go_meet
              exact ⟨rfl, rfl⟩
          case rest =>
            obtain ⟨rfl, rfl⟩ := hcut
            clear hM0 hM1 e1 e2
            go_wp2_with fail
            have hcell : Hid (∀ k, k < N → guCell 0 S xs ys corner k = M) := hide (fun k _ => by unfold guCell; rw [if_pos rfl]; exact unhide hMM)
            go_loopw [82] (fun i wr => ∃ k : Nat, k ≤ N ∧ i = .int .i64 (k : Int) ∧ Hid (GuSt w wr N (guPart (guCell 0 S xs ys corner) N k))) (fun i _ => N - (intOf i).toNat)
            case atStart => exact ⟨0, by omega, rfl, hN0⟩
            case round =>
              clear hN0
              obtain ⟨k, hk, rfl, hN⟩ := hrel
              by_cases hklt : k < N
              · have hkb : decide ((k : Int) < (N : Int)) = true := decide_eq_true (by omega)
                have hSp : 0 < S := by omega
                have e1 : (k : Int).tmod (S : Int) = ((k % S : Nat) : Int) := by rw [Int.tmod_eq_emod_of_nonneg (by omega)]; rfl
                have e2 : (k : Int).tdiv (S : Int) = ((k / S : Nat) : Int) := by rw [Int.tdiv_eq_ediv_of_nonneg (by omega)]; rfl
                have hz : ¬ (S : Int) = 0 := by omega
                have ha : k / S < S := (Nat.div_lt_iff_lt_mul hSp).2 (by have := unhide hN'; omega)
                have hb : k % S < S := Nat.mod_lt _ hSp
                have hcl := unhide hcell k hklt
                have hset := guPart_set (guCell 0 S xs ys corner) N k hklt
                have hput := hide ((unhide hN).put k (guCell 0 S xs ys corner k))
                rw [hset, hcl] at hput
                clear hset hcl
                generalize k / S = qa at e2 ha hput
                generalize k % S = qb at e1 hb hput
                obtain ⟨old, hdst⟩ := (unhide hN).out.has k hklt
                have hfz := (unhide hN).out.frozen k
                have k0 : (0 : Int) ≤ (k : Int) := by omega
                have k1 : (k : Int) < (N : Int) := by omega
                have k2 : (qa : Int) < (S : Int) := by omega
                have k3 : (qb : Int) < (S : Int) := by omega
                clear hN ha hb
                go_wp2_with fail
                skip
                go_roundw
                case rel => exact ⟨k + 1, by omega, by go_num, hput⟩
                case measure => simp [intOf]; omega
              · have hke2 : k = N := by omega
                have hN2 := unhide hN
                rw [hke2, guPart_all] at hN2
                have hlt2 := hN2.out.lt
                have hO2 : Hid (OwnI wr w.heap.size wr.heap.size (.slice (some ⟨w.heap.size, 0, none⟩) N N) (guL 0 S xs ys corner)) := hide (by
                  have h := own_mono hN2.out.own (Nat.le_refl w.heap.size) (Nat.succ_le_of_lt hlt2)
                  unfold OwnI
                  rw [guL_length, unhide hN']
                  unfold guL
                  rw [unhide hN']
                  exact h)
                have hU := hide (Upd.of_below hN2.bel 0 0)
                clear hN2 hN hlt2 hcell
                go_wp2
                go_ret2
                exact ⟨_, rfl, unhide hO2, unhide hU⟩
set_option maxHeartbeats 16000000 in
set_option maxRecDepth 100000 in
theorem specL13Guess1 (S : Nat) (ad ad' : Option Addr) (cap cap' : Nat) (xs ys : List Int) (corner : Int) (w : World) (hok : GuOk S xs ys corner) (hneed : xs.length = S) (hAx : ArgI w ad xs) (hAy : ArgI w ad' ys) :
    Calls Try.prog 60 #[.int .i64 1, .int .i64 (S : Int), .slice ad xs.length cap, .slice ad' ys.length cap', .int .i64 corner] w fun e w' => ∃ v, e = .returned (.tuple #[v, .bool true]) ∧ OwnI w' w.heap.size w'.heap.size v (guL 1 S xs ys corner) ∧ Upd 0 0 w w' := by
  have hmean := guMean_bd hok
  obtain ⟨hS, h1, h2, h3, h4, c0, c1⟩ := hok
  obtain ⟨N, hN⟩ : ∃ N, S * S = N := ⟨_, rfl⟩
  have hN2 : N ≤ 64 ∧ 16 ≤ N := by rcases hS with rfl | rfl <;> omega
  have hxv9 : (xs.length : Int) ≤ 8 := by omega
  have hyv9 : (ys.length : Int) ≤ 8 := by omega
  have hSS : (S : Int) * (S : Int) = (N : Int) := by rw [← hN]; push_cast; rfl
  obtain ⟨oN, hmk⟩ := mkRowI N (by omega)
  have hmk1 := fun X => (hmk X).1
  have hxs := hide (fun k hk => sumTo_bd h3 k hk)
  have hys := hide (fun k hk => sumTo_bd h4 k hk)
  have hxr := hide (fun k (hk : k < xs.length) => h3 k hk)
  have hyr := hide (fun k (hk : k < ys.length) => h4 k hk)
  have hx9 : Hid (xs.length ≤ 8) := hide (by omega)
  have hy9 : Hid (ys.length ≤ 8) := hide (by omega)
  have hxtot : Hid (0 ≤ sumTo xs xs.length ∧ sumTo xs xs.length ≤ 2040) := hide (by have := sumTo_bd h3 xs.length (Nat.le_refl _); omega)
  have hN0 : Hid (GuSt w (w.alloc oN) N (guPart (guCell 1 S xs ys corner) N 0)) := hide ⟨by
    have h := (hmk w).2
    rw [guPart_zero, show ints (List.replicate N 0) = List.replicate N (.int .i64 0) by unfold ints; simp]
    exact h, (Below.refl _ w).alloc (Nat.le_refl _) _⟩
  have hS1 : (1 : Int) ≤ (S : Int) := by rcases hS with rfl | rfl <;> omega
  have hS8 : (S : Int) ≤ 8 := by rcases hS with rfl | rfl <;> omega
  have hAx9 := hAx
  have hAy9 := hAy
  have hXr := hxr
  have hYr := hyr
  replace hAx := hide hAx
  replace hAy := hide hAy
  have hneed' := hide hneed
  have hS' := hide hS
  have hN' := hide hN
  have nx : ((xs.length : Int) == 0) = false := beq_eq_false_iff_ne.2 (by omega)
  
  obtain ⟨N1, N2⟩ := hN2
  clear hmk h1 h2 h3 h4 hS hN hneed
  go_enter Try.func60, Try.ntmps60
  go_wp2_with fail
  have hbw0 : Below w.heap.size w (w.alloc oN) := (Below.refl _ w).alloc (Nat.le_refl _) _
  replace hAx := hide ((unhide hAx).below hbw0)
  replace hAy := hide ((unhide hAy).below hbw0)
  have hNx : Hid (∀ k, k < xs.length → ∃ b o, ad = some ⟨b, o, none⟩ ∧ w.cell? ⟨b, o + k, none⟩ = some (.int .i64 (xs.getD k 0)) ∧ b < w.heap.size) := hide (fun k hk => by
    obtain ⟨b, o, e, hb, hc⟩ := hAx9 (ne_of_lt_length hk)
    exact ⟨b, o, e, hc k hk, hb⟩)
  have hNy : Hid (∀ k, k < ys.length → ∃ b o, ad' = some ⟨b, o, none⟩ ∧ w.cell? ⟨b, o + k, none⟩ = some (.int .i64 (ys.getD k 0)) ∧ b < w.heap.size) := hide (fun k hk => by
    obtain ⟨b, o, e, hb, hc⟩ := hAy9 (ne_of_lt_length hk)
    exact ⟨b, o, e, hc k hk, hb⟩)
  generalize w.alloc oN = W0 at hN0 hAx hAy ⊢
  clear hAx9 hAy9
  clear hbw0 hmk1
  go_loopw [13, 54] (fun s i wr => ∃ (k : Nat) (T : Int), k ≤ xs.length ∧ s = .int .i64 T ∧ i = .int .i64 (k : Int) ∧ Hid (T = sumTo xs k) ∧ W0 = wr) (fun _ i _ => xs.length - (intOf i).toNat)
  case atStart => exact ⟨0, _, by omega, rfl, rfl, hide rfl, rfl⟩
  case round =>
    obtain ⟨k, T, hk, rfl, rfl, hT, rfl⟩ := hrel
    by_cases hlt : k < xs.length
    · have hkb : decide ((k : Int) < (xs.length : Int)) = true := decide_eq_true (by omega)
      have hTb := unhide hxs k hk
      have hTe := unhide hT
      obtain ⟨bb, off, rfl, hbl, hcl⟩ := (unhide hAx) (ne_of_lt_length hlt)
      have hck := hcl k hlt
      have hxb := unhide hxr k hlt
      have hnx : Hid (T + xs.getD k 0 = sumTo xs (k + 1)) := hide (by rw [hTe]; show _ = (sumTo xs k + xs.getD k 0); omega)
      have hl9 : xs.length ≤ 8 := unhide hx9
      
      have hT0 : 0 ≤ T ∧ T ≤ 5000 := by rw [hTe]; omega
      generalize xs.getD k 0 = x at hck hxb hnx
      obtain ⟨x0, x1⟩ := hxb
      obtain ⟨T0, T1⟩ := hT0
      clear hcl hbl hTb hTe hT
      go_wp2_with fail
      go_roundw
      case rel => exact ⟨k + 1, _, by omega, rfl, by go_num, hnx, trivial⟩
      case measure => simp [intOf]; omega
    · have hke : k = xs.length := by omega
      have hkb : decide ((k : Int) < (xs.length : Int)) = false := decide_eq_false (by omega)
      have hT2 : Hid (T = sumTo xs xs.length) := hide (by rw [unhide hT, hke])
      replace hke := hide hke
      clear hT hk
      go_wp2_with fail
      go_loopw [13, 64] (fun s i wr => ∃ (k : Nat) (T : Int), k ≤ ys.length ∧ s = .int .i64 T ∧ i = .int .i64 (k : Int) ∧ Hid (T = sumTo xs xs.length + sumTo ys k) ∧ W0 = wr) (fun _ i _ => ys.length - (intOf i).toNat)
      case atStart => exact ⟨0, _, by omega, rfl, rfl, hide (by rw [unhide hT2]; simp [sumTo]), rfl⟩
      case round =>
        obtain ⟨k, T, hk, rfl, rfl, hT, rfl⟩ := hrel
        by_cases hlt : k < ys.length
        · have hkb : decide ((k : Int) < (ys.length : Int)) = true := decide_eq_true (by omega)
          have hTb := unhide hys k hk
          have hTe := unhide hT
          obtain ⟨bb, off, rfl, hbl, hcl⟩ := (unhide hAy) (ne_of_lt_length hlt)
          have hck := hcl k hlt
          have hxb := unhide hyr k hlt
          have hnx : Hid (T + ys.getD k 0 = sumTo xs xs.length + sumTo ys (k + 1)) := hide (by rw [hTe]; show _ = sumTo xs xs.length + (sumTo ys k + ys.getD k 0); omega)
          have hl9 : ys.length ≤ 8 := unhide hy9
          have hother := unhide hxtot
          have hT0 : 0 ≤ T ∧ T ≤ 5000 := by rw [hTe]; omega
          generalize ys.getD k 0 = x at hck hxb hnx
          obtain ⟨x0, x1⟩ := hxb
          obtain ⟨T0, T1⟩ := hT0
          clear hcl hbl hTb hTe hT hother
          go_wp2_with fail
          go_roundw
          case rel => exact ⟨k + 1, _, by omega, rfl, by go_num, hnx, trivial⟩
          case measure => simp [intOf]; omega
        · have hke : k = ys.length := by omega
          have hkb : decide ((k : Int) < (ys.length : Int)) = false := decide_eq_false (by omega)
          have hT3 : T = sumTo xs xs.length + sumTo ys ys.length := by rw [unhide hT, hke]
          have hTb : 0 ≤ T ∧ T ≤ 5000 := by
            have a1 := unhide hxtot
            have a2 := unhide hys ys.length (Nat.le_refl _)
            have a3 := unhide hy9
            rw [hT3]; omega
          obtain ⟨tn, htn⟩ : ∃ tn, xs.length + ys.length = tn := ⟨_, rfl⟩
          have tn16 : tn ≤ 16 := by have a3 := unhide hy9; have a4 := unhide hx9; omega
          have e1 : (xs.length : Int) + (ys.length : Int) = (tn : Int) := by omega
          have e2 : (tn : Int).tdiv 2 = ((tn / 2 : Nat) : Int) := by rw [Int.tdiv_eq_ediv_of_nonneg (by omega)]; omega
          have hM0 : Hid (tn = 0 → guMean xs ys = 128) := hide (fun h => by unfold guMean; rw [if_pos (by omega)])
          have hM1 : Hid (¬ tn = 0 → (T + ((tn / 2 : Nat) : Int)).tdiv (tn : Int) = guMean xs ys) := hide (fun h => by unfold guMean; rw [if_neg (by omega), htn, Int.tdiv_eq_ediv_of_nonneg (by omega), hT3])
          generalize hMM : guMean xs ys = M at hM0 hM1 hmean
          replace hMM := hide hMM
          replace hke := hide hke
          replace hT3 := hide hT3
          obtain ⟨T0, T1⟩ := hTb
          obtain ⟨M0, M1⟩ := hmean
          have t2 : (0 : Int) ≤ ((tn / 2 : Nat) : Int) ∧ ((tn / 2 : Nat) : Int) ≤ 8 := by omega
          generalize ((tn / 2 : Nat) : Int) = h2 at e2 hM1 t2
          obtain ⟨t20, t21⟩ := t2
          replace htn := hide htn
          clear hT hT2 hk hxtot hxs hys hxr hyr
          go_upto_if 73 with fail
          go_cut [14, 19] (fun _ s wx => s = .int .i64 M ∧ W0 = wx)
          case first =>
            by_cases hz : tn = 0
            · have hM := unhide hM0 hz
              subst hM
              subst hz
              go_wp2
              go_meet
              exact ⟨rfl, rfl⟩
            · have hM := unhide hM1 hz
              have hz2 : ¬ (tn : Int) = 0 := by omega
              have hz3 : (0 : Int) < (tn : Int) := by omega
              go_wp2
              go_meet
              exact ⟨rfl, rfl⟩
          case rest =>
            obtain ⟨rfl, rfl⟩ := hcut
            clear hM0 hM1 e1 e2
            go_wp2_with fail
            have hcell : Hid (∀ k, k < N → guCell 1 S xs ys corner k = xs.getD (k / S) 0) := hide (fun k _ => by unfold guCell; rw [if_neg (by decide), if_pos rfl])
            go_loopw [82] (fun i wr => ∃ k : Nat, k ≤ N ∧ i = .int .i64 (k : Int) ∧ Hid (GuSt w wr N (guPart (guCell 1 S xs ys corner) N k))) (fun i _ => N - (intOf i).toNat)
            case atStart => exact ⟨0, by omega, rfl, hN0⟩
            case round =>
              clear hN0
              obtain ⟨k, hk, rfl, hN⟩ := hrel
              by_cases hklt : k < N
              · have hkb : decide ((k : Int) < (N : Int)) = true := decide_eq_true (by omega)
                have hSp : 0 < S := by omega
                have e1 : (k : Int).tmod (S : Int) = ((k % S : Nat) : Int) := by rw [Int.tmod_eq_emod_of_nonneg (by omega)]; rfl
                have e2 : (k : Int).tdiv (S : Int) = ((k / S : Nat) : Int) := by rw [Int.tdiv_eq_ediv_of_nonneg (by omega)]; rfl
                have hz : ¬ (S : Int) = 0 := by omega
                have ha : k / S < S := (Nat.div_lt_iff_lt_mul hSp).2 (by have := unhide hN'; omega)
                have hb : k % S < S := Nat.mod_lt _ hSp
                have hcl := unhide hcell k hklt
                have hset := guPart_set (guCell 1 S xs ys corner) N k hklt
                have hput := hide ((unhide hN).put k (guCell 1 S xs ys corner k))
                rw [hset, hcl] at hput
                clear hset hcl
                generalize k / S = qa at e2 ha hput
                generalize k % S = qb at e1 hb hput
                obtain ⟨old, hdst⟩ := (unhide hN).out.has k hklt
                have hfz := (unhide hN).out.frozen k
                have k0 : (0 : Int) ≤ (k : Int) := by omega
                have k1 : (k : Int) < (N : Int) := by omega
                have k2 : (qa : Int) < (S : Int) := by omega
                have k3 : (qb : Int) < (S : Int) := by omega
                have hneq := unhide hneed'
                have hgx := unhide hNx qa (by omega)
                obtain ⟨bx, ox, rfl, hckx0, hbx⟩ := hgx
                have hckx : wr.cell? ⟨bx, ox + qa, none⟩ = some (.int .i64 (xs.getD qa 0)) := ((unhide hN).bel.cell (by simpa using hbx)).trans hckx0
                have kx : (qa : Int) < (xs.length : Int) := by omega
                generalize xs.getD qa 0 = x at hckx hput
                clear hN ha hb hneq
                go_wp2_with fail
                skip
                go_roundw
                case rel => exact ⟨k + 1, by omega, by go_num, hput⟩
                case measure => simp [intOf]; omega
              · have hke2 : k = N := by omega
                have hN2 := unhide hN
                rw [hke2, guPart_all] at hN2
                have hlt2 := hN2.out.lt
                have hO2 : Hid (OwnI wr w.heap.size wr.heap.size (.slice (some ⟨w.heap.size, 0, none⟩) N N) (guL 1 S xs ys corner)) := hide (by
                  have h := own_mono hN2.out.own (Nat.le_refl w.heap.size) (Nat.succ_le_of_lt hlt2)
                  unfold OwnI
                  rw [guL_length, unhide hN']
                  unfold guL
                  rw [unhide hN']
                  exact h)
                have hU := hide (Upd.of_below hN2.bel 0 0)
                clear hN2 hN hlt2 hcell
                go_wp2
                go_ret2
                exact ⟨_, rfl, unhide hO2, unhide hU⟩
set_option maxHeartbeats 16000000 in
set_option maxRecDepth 100000 in
theorem specL13Guess2 (S : Nat) (ad ad' : Option Addr) (cap cap' : Nat) (xs ys : List Int) (corner : Int) (w : World) (hok : GuOk S xs ys corner) (hneed : ys.length = S) (hAx : ArgI w ad xs) (hAy : ArgI w ad' ys) :
    Calls Try.prog 60 #[.int .i64 2, .int .i64 (S : Int), .slice ad xs.length cap, .slice ad' ys.length cap', .int .i64 corner] w fun e w' => ∃ v, e = .returned (.tuple #[v, .bool true]) ∧ OwnI w' w.heap.size w'.heap.size v (guL 2 S xs ys corner) ∧ Upd 0 0 w w' := by
  have hmean := guMean_bd hok
  obtain ⟨hS, h1, h2, h3, h4, c0, c1⟩ := hok
  obtain ⟨N, hN⟩ : ∃ N, S * S = N := ⟨_, rfl⟩
  have hN2 : N ≤ 64 ∧ 16 ≤ N := by rcases hS with rfl | rfl <;> omega
  have hxv9 : (xs.length : Int) ≤ 8 := by omega
  have hyv9 : (ys.length : Int) ≤ 8 := by omega
  have hSS : (S : Int) * (S : Int) = (N : Int) := by rw [← hN]; push_cast; rfl
  obtain ⟨oN, hmk⟩ := mkRowI N (by omega)
  have hmk1 := fun X => (hmk X).1
  have hxs := hide (fun k hk => sumTo_bd h3 k hk)
  have hys := hide (fun k hk => sumTo_bd h4 k hk)
  have hxr := hide (fun k (hk : k < xs.length) => h3 k hk)
  have hyr := hide (fun k (hk : k < ys.length) => h4 k hk)
  have hx9 : Hid (xs.length ≤ 8) := hide (by omega)
  have hy9 : Hid (ys.length ≤ 8) := hide (by omega)
  have hxtot : Hid (0 ≤ sumTo xs xs.length ∧ sumTo xs xs.length ≤ 2040) := hide (by have := sumTo_bd h3 xs.length (Nat.le_refl _); omega)
  have hN0 : Hid (GuSt w (w.alloc oN) N (guPart (guCell 2 S xs ys corner) N 0)) := hide ⟨by
    have h := (hmk w).2
    rw [guPart_zero, show ints (List.replicate N 0) = List.replicate N (.int .i64 0) by unfold ints; simp]
    exact h, (Below.refl _ w).alloc (Nat.le_refl _) _⟩
  have hS1 : (1 : Int) ≤ (S : Int) := by rcases hS with rfl | rfl <;> omega
  have hS8 : (S : Int) ≤ 8 := by rcases hS with rfl | rfl <;> omega
  have hAx9 := hAx
  have hAy9 := hAy
  have hXr := hxr
  have hYr := hyr
  replace hAx := hide hAx
  replace hAy := hide hAy
  have hneed' := hide hneed
  have hS' := hide hS
  have hN' := hide hN
  
  have ny : ((ys.length : Int) == 0) = false := beq_eq_false_iff_ne.2 (by omega)
  obtain ⟨N1, N2⟩ := hN2
  clear hmk h1 h2 h3 h4 hS hN hneed
  go_enter Try.func60, Try.ntmps60
  go_wp2_with fail
  have hbw0 : Below w.heap.size w (w.alloc oN) := (Below.refl _ w).alloc (Nat.le_refl _) _
  replace hAx := hide ((unhide hAx).below hbw0)
  replace hAy := hide ((unhide hAy).below hbw0)
  have hNx : Hid (∀ k, k < xs.length → ∃ b o, ad = some ⟨b, o, none⟩ ∧ w.cell? ⟨b, o + k, none⟩ = some (.int .i64 (xs.getD k 0)) ∧ b < w.heap.size) := hide (fun k hk => by
    obtain ⟨b, o, e, hb, hc⟩ := hAx9 (ne_of_lt_length hk)
    exact ⟨b, o, e, hc k hk, hb⟩)
  have hNy : Hid (∀ k, k < ys.length → ∃ b o, ad' = some ⟨b, o, none⟩ ∧ w.cell? ⟨b, o + k, none⟩ = some (.int .i64 (ys.getD k 0)) ∧ b < w.heap.size) := hide (fun k hk => by
    obtain ⟨b, o, e, hb, hc⟩ := hAy9 (ne_of_lt_length hk)
    exact ⟨b, o, e, hc k hk, hb⟩)
  generalize w.alloc oN = W0 at hN0 hAx hAy ⊢
  clear hAx9 hAy9
  clear hbw0 hmk1
  go_loopw [13, 54] (fun s i wr => ∃ (k : Nat) (T : Int), k ≤ xs.length ∧ s = .int .i64 T ∧ i = .int .i64 (k : Int) ∧ Hid (T = sumTo xs k) ∧ W0 = wr) (fun _ i _ => xs.length - (intOf i).toNat)
  case atStart => exact ⟨0, _, by omega, rfl, rfl, hide rfl, rfl⟩
  case round =>
    obtain ⟨k, T, hk, rfl, rfl, hT, rfl⟩ := hrel
    by_cases hlt : k < xs.length
    · have hkb : decide ((k : Int) < (xs.length : Int)) = true := decide_eq_true (by omega)
      have hTb := unhide hxs k hk
      have hTe := unhide hT
      obtain ⟨bb, off, rfl, hbl, hcl⟩ := (unhide hAx) (ne_of_lt_length hlt)
      have hck := hcl k hlt
      have hxb := unhide hxr k hlt
      have hnx : Hid (T + xs.getD k 0 = sumTo xs (k + 1)) := hide (by rw [hTe]; show _ = (sumTo xs k + xs.getD k 0); omega)
      have hl9 : xs.length ≤ 8 := unhide hx9
      
      have hT0 : 0 ≤ T ∧ T ≤ 5000 := by rw [hTe]; omega
      generalize xs.getD k 0 = x at hck hxb hnx
      obtain ⟨x0, x1⟩ := hxb
      obtain ⟨T0, T1⟩ := hT0
      clear hcl hbl hTb hTe hT
      go_wp2_with fail
      go_roundw
      case rel => exact ⟨k + 1, _, by omega, rfl, by go_num, hnx, trivial⟩
      case measure => simp [intOf]; omega
    · have hke : k = xs.length := by omega
      have hkb : decide ((k : Int) < (xs.length : Int)) = false := decide_eq_false (by omega)
      have hT2 : Hid (T = sumTo xs xs.length) := hide (by rw [unhide hT, hke])
      replace hke := hide hke
      clear hT hk
      go_wp2_with fail
      go_loopw [13, 64] (fun s i wr => ∃ (k : Nat) (T : Int), k ≤ ys.length ∧ s = .int .i64 T ∧ i = .int .i64 (k : Int) ∧ Hid (T = sumTo xs xs.length + sumTo ys k) ∧ W0 = wr) (fun _ i _ => ys.length - (intOf i).toNat)
      case atStart => exact ⟨0, _, by omega, rfl, rfl, hide (by rw [unhide hT2]; simp [sumTo]), rfl⟩
      case round =>
        obtain ⟨k, T, hk, rfl, rfl, hT, rfl⟩ := hrel
        by_cases hlt : k < ys.length
        · have hkb : decide ((k : Int) < (ys.length : Int)) = true := decide_eq_true (by omega)
          have hTb := unhide hys k hk
          have hTe := unhide hT
          obtain ⟨bb, off, rfl, hbl, hcl⟩ := (unhide hAy) (ne_of_lt_length hlt)
          have hck := hcl k hlt
          have hxb := unhide hyr k hlt
          have hnx : Hid (T + ys.getD k 0 = sumTo xs xs.length + sumTo ys (k + 1)) := hide (by rw [hTe]; show _ = sumTo xs xs.length + (sumTo ys k + ys.getD k 0); omega)
          have hl9 : ys.length ≤ 8 := unhide hy9
          have hother := unhide hxtot
          have hT0 : 0 ≤ T ∧ T ≤ 5000 := by rw [hTe]; omega
          generalize ys.getD k 0 = x at hck hxb hnx
          obtain ⟨x0, x1⟩ := hxb
          obtain ⟨T0, T1⟩ := hT0
          clear hcl hbl hTb hTe hT hother
          go_wp2_with fail
          go_roundw
          case rel => exact ⟨k + 1, _, by omega, rfl, by go_num, hnx, trivial⟩
          case measure => simp [intOf]; omega
        · have hke : k = ys.length := by omega
          have hkb : decide ((k : Int) < (ys.length : Int)) = false := decide_eq_false (by omega)
          have hT3 : T = sumTo xs xs.length + sumTo ys ys.length := by rw [unhide hT, hke]
          have hTb : 0 ≤ T ∧ T ≤ 5000 := by
            have a1 := unhide hxtot
            have a2 := unhide hys ys.length (Nat.le_refl _)
            have a3 := unhide hy9
            rw [hT3]; omega
          obtain ⟨tn, htn⟩ : ∃ tn, xs.length + ys.length = tn := ⟨_, rfl⟩
          have tn16 : tn ≤ 16 := by have a3 := unhide hy9; have a4 := unhide hx9; omega
          have e1 : (xs.length : Int) + (ys.length : Int) = (tn : Int) := by omega
          have e2 : (tn : Int).tdiv 2 = ((tn / 2 : Nat) : Int) := by rw [Int.tdiv_eq_ediv_of_nonneg (by omega)]; omega
          have hM0 : Hid (tn = 0 → guMean xs ys = 128) := hide (fun h => by unfold guMean; rw [if_pos (by omega)])
          have hM1 : Hid (¬ tn = 0 → (T + ((tn / 2 : Nat) : Int)).tdiv (tn : Int) = guMean xs ys) := hide (fun h => by unfold guMean; rw [if_neg (by omega), htn, Int.tdiv_eq_ediv_of_nonneg (by omega), hT3])
          generalize hMM : guMean xs ys = M at hM0 hM1 hmean
          replace hMM := hide hMM
          replace hke := hide hke
          replace hT3 := hide hT3
          obtain ⟨T0, T1⟩ := hTb
          obtain ⟨M0, M1⟩ := hmean
          have t2 : (0 : Int) ≤ ((tn / 2 : Nat) : Int) ∧ ((tn / 2 : Nat) : Int) ≤ 8 := by omega
          generalize ((tn / 2 : Nat) : Int) = h2 at e2 hM1 t2
          obtain ⟨t20, t21⟩ := t2
          replace htn := hide htn
          clear hT hT2 hk hxtot hxs hys hxr hyr
          go_upto_if 73 with fail
          go_cut [14, 19] (fun _ s wx => s = .int .i64 M ∧ W0 = wx)
          case first =>
            by_cases hz : tn = 0
            · have hM := unhide hM0 hz
              subst hM
              subst hz
              go_wp2
              go_meet
              exact ⟨rfl, rfl⟩
            · have hM := unhide hM1 hz
              have hz2 : ¬ (tn : Int) = 0 := by omega
              have hz3 : (0 : Int) < (tn : Int) := by omega
              go_wp2
              go_meet
              exact ⟨rfl, rfl⟩
          case rest =>
            obtain ⟨rfl, rfl⟩ := hcut
            clear hM0 hM1 e1 e2
            go_wp2_with fail
            have hcell : Hid (∀ k, k < N → guCell 2 S xs ys corner k = ys.getD (k % S) 0) := hide (fun k _ => by unfold guCell; rw [if_neg (by decide), if_neg (by decide), if_pos rfl])
            go_loopw [82] (fun i wr => ∃ k : Nat, k ≤ N ∧ i = .int .i64 (k : Int) ∧ Hid (GuSt w wr N (guPart (guCell 2 S xs ys corner) N k))) (fun i _ => N - (intOf i).toNat)
            case atStart => exact ⟨0, by omega, rfl, hN0⟩
            case round =>
              clear hN0
              obtain ⟨k, hk, rfl, hN⟩ := hrel
              by_cases hklt : k < N
              · have hkb : decide ((k : Int) < (N : Int)) = true := decide_eq_true (by omega)
                have hSp : 0 < S := by omega
                have e1 : (k : Int).tmod (S : Int) = ((k % S : Nat) : Int) := by rw [Int.tmod_eq_emod_of_nonneg (by omega)]; rfl
                have e2 : (k : Int).tdiv (S : Int) = ((k / S : Nat) : Int) := by rw [Int.tdiv_eq_ediv_of_nonneg (by omega)]; rfl
                have hz : ¬ (S : Int) = 0 := by omega
                have ha : k / S < S := (Nat.div_lt_iff_lt_mul hSp).2 (by have := unhide hN'; omega)
                have hb : k % S < S := Nat.mod_lt _ hSp
                have hcl := unhide hcell k hklt
                have hset := guPart_set (guCell 2 S xs ys corner) N k hklt
                have hput := hide ((unhide hN).put k (guCell 2 S xs ys corner k))
                rw [hset, hcl] at hput
                clear hset hcl
                generalize k / S = qa at e2 ha hput
                generalize k % S = qb at e1 hb hput
                obtain ⟨old, hdst⟩ := (unhide hN).out.has k hklt
                have hfz := (unhide hN).out.frozen k
                have k0 : (0 : Int) ≤ (k : Int) := by omega
                have k1 : (k : Int) < (N : Int) := by omega
                have k2 : (qa : Int) < (S : Int) := by omega
                have k3 : (qb : Int) < (S : Int) := by omega
                have hneq2 := unhide hneed'
                have hgy := unhide hNy qb (by omega)
                obtain ⟨by1, oy, rfl, hcky0, hby⟩ := hgy
                have hcky : wr.cell? ⟨by1, oy + qb, none⟩ = some (.int .i64 (ys.getD qb 0)) := ((unhide hN).bel.cell (by simpa using hby)).trans hcky0
                have ky : (qb : Int) < (ys.length : Int) := by omega
                generalize ys.getD qb 0 = y at hcky hput
                clear hN ha hb hneq2
                go_wp2_with fail
                skip
                go_roundw
                case rel => exact ⟨k + 1, by omega, by go_num, hput⟩
                case measure => simp [intOf]; omega
              · have hke2 : k = N := by omega
                have hN2 := unhide hN
                rw [hke2, guPart_all] at hN2
                have hlt2 := hN2.out.lt
                have hO2 : Hid (OwnI wr w.heap.size wr.heap.size (.slice (some ⟨w.heap.size, 0, none⟩) N N) (guL 2 S xs ys corner)) := hide (by
                  have h := own_mono hN2.out.own (Nat.le_refl w.heap.size) (Nat.succ_le_of_lt hlt2)
                  unfold OwnI
                  rw [guL_length, unhide hN']
                  unfold guL
                  rw [unhide hN']
                  exact h)
                have hU := hide (Upd.of_below hN2.bel 0 0)
                clear hN2 hN hlt2 hcell
                go_wp2
                go_ret2
                exact ⟨_, rfl, unhide hO2, unhide hU⟩
set_option maxHeartbeats 16000000 in
set_option maxRecDepth 100000 in
theorem specL13Guess3 (S : Nat) (ad ad' : Option Addr) (cap cap' : Nat) (xs ys : List Int) (corner : Int) (w : World) (hok : GuOk S xs ys corner) (hneed : xs.length = S ∧ ys.length = S) (hAx : ArgI w ad xs) (hAy : ArgI w ad' ys) :
    Calls Try.prog 60 #[.int .i64 3, .int .i64 (S : Int), .slice ad xs.length cap, .slice ad' ys.length cap', .int .i64 corner] w fun e w' => ∃ v, e = .returned (.tuple #[v, .bool true]) ∧ OwnI w' w.heap.size w'.heap.size v (guL 3 S xs ys corner) ∧ Upd 0 0 w w' := by
  have hmean := guMean_bd hok
  obtain ⟨hS, h1, h2, h3, h4, c0, c1⟩ := hok
  obtain ⟨N, hN⟩ : ∃ N, S * S = N := ⟨_, rfl⟩
  have hN2 : N ≤ 64 ∧ 16 ≤ N := by rcases hS with rfl | rfl <;> omega
  have hxv9 : (xs.length : Int) ≤ 8 := by omega
  have hyv9 : (ys.length : Int) ≤ 8 := by omega
  have hSS : (S : Int) * (S : Int) = (N : Int) := by rw [← hN]; push_cast; rfl
  obtain ⟨oN, hmk⟩ := mkRowI N (by omega)
  have hmk1 := fun X => (hmk X).1
  have hxs := hide (fun k hk => sumTo_bd h3 k hk)
  have hys := hide (fun k hk => sumTo_bd h4 k hk)
  have hxr := hide (fun k (hk : k < xs.length) => h3 k hk)
  have hyr := hide (fun k (hk : k < ys.length) => h4 k hk)
  have hx9 : Hid (xs.length ≤ 8) := hide (by omega)
  have hy9 : Hid (ys.length ≤ 8) := hide (by omega)
  have hxtot : Hid (0 ≤ sumTo xs xs.length ∧ sumTo xs xs.length ≤ 2040) := hide (by have := sumTo_bd h3 xs.length (Nat.le_refl _); omega)
  have hN0 : Hid (GuSt w (w.alloc oN) N (guPart (guCell 3 S xs ys corner) N 0)) := hide ⟨by
    have h := (hmk w).2
    rw [guPart_zero, show ints (List.replicate N 0) = List.replicate N (.int .i64 0) by unfold ints; simp]
    exact h, (Below.refl _ w).alloc (Nat.le_refl _) _⟩
  have hS1 : (1 : Int) ≤ (S : Int) := by rcases hS with rfl | rfl <;> omega
  have hS8 : (S : Int) ≤ 8 := by rcases hS with rfl | rfl <;> omega
  have hAx9 := hAx
  have hAy9 := hAy
  have hXr := hxr
  have hYr := hyr
  replace hAx := hide hAx
  replace hAy := hide hAy
  have hneed' := hide hneed
  have hS' := hide hS
  have hN' := hide hN
  have nx : ((xs.length : Int) == 0) = false := beq_eq_false_iff_ne.2 (by omega)
  have ny : ((ys.length : Int) == 0) = false := beq_eq_false_iff_ne.2 (by omega)
  obtain ⟨N1, N2⟩ := hN2
  clear hmk h1 h2 h3 h4 hS hN hneed
  go_enter Try.func60, Try.ntmps60
  go_wp2_with fail
  have hbw0 : Below w.heap.size w (w.alloc oN) := (Below.refl _ w).alloc (Nat.le_refl _) _
  replace hAx := hide ((unhide hAx).below hbw0)
  replace hAy := hide ((unhide hAy).below hbw0)
  have hNx : Hid (∀ k, k < xs.length → ∃ b o, ad = some ⟨b, o, none⟩ ∧ w.cell? ⟨b, o + k, none⟩ = some (.int .i64 (xs.getD k 0)) ∧ b < w.heap.size) := hide (fun k hk => by
    obtain ⟨b, o, e, hb, hc⟩ := hAx9 (ne_of_lt_length hk)
    exact ⟨b, o, e, hc k hk, hb⟩)
  have hNy : Hid (∀ k, k < ys.length → ∃ b o, ad' = some ⟨b, o, none⟩ ∧ w.cell? ⟨b, o + k, none⟩ = some (.int .i64 (ys.getD k 0)) ∧ b < w.heap.size) := hide (fun k hk => by
    obtain ⟨b, o, e, hb, hc⟩ := hAy9 (ne_of_lt_length hk)
    exact ⟨b, o, e, hc k hk, hb⟩)
  generalize w.alloc oN = W0 at hN0 hAx hAy ⊢
  clear hAx9 hAy9
  clear hbw0 hmk1
  go_loopw [13, 54] (fun s i wr => ∃ (k : Nat) (T : Int), k ≤ xs.length ∧ s = .int .i64 T ∧ i = .int .i64 (k : Int) ∧ Hid (T = sumTo xs k) ∧ W0 = wr) (fun _ i _ => xs.length - (intOf i).toNat)
  case atStart => exact ⟨0, _, by omega, rfl, rfl, hide rfl, rfl⟩
  case round =>
    obtain ⟨k, T, hk, rfl, rfl, hT, rfl⟩ := hrel
    by_cases hlt : k < xs.length
    · have hkb : decide ((k : Int) < (xs.length : Int)) = true := decide_eq_true (by omega)
      have hTb := unhide hxs k hk
      have hTe := unhide hT
      obtain ⟨bb, off, rfl, hbl, hcl⟩ := (unhide hAx) (ne_of_lt_length hlt)
      have hck := hcl k hlt
      have hxb := unhide hxr k hlt
      have hnx : Hid (T + xs.getD k 0 = sumTo xs (k + 1)) := hide (by rw [hTe]; show _ = (sumTo xs k + xs.getD k 0); omega)
      have hl9 : xs.length ≤ 8 := unhide hx9
      
      have hT0 : 0 ≤ T ∧ T ≤ 5000 := by rw [hTe]; omega
      generalize xs.getD k 0 = x at hck hxb hnx
      obtain ⟨x0, x1⟩ := hxb
      obtain ⟨T0, T1⟩ := hT0
      clear hcl hbl hTb hTe hT
      go_wp2_with fail
      go_roundw
      case rel => exact ⟨k + 1, _, by omega, rfl, by go_num, hnx, trivial⟩
      case measure => simp [intOf]; omega
    · have hke : k = xs.length := by omega
      have hkb : decide ((k : Int) < (xs.length : Int)) = false := decide_eq_false (by omega)
      have hT2 : Hid (T = sumTo xs xs.length) := hide (by rw [unhide hT, hke])
      replace hke := hide hke
      clear hT hk
      go_wp2_with fail
      go_loopw [13, 64] (fun s i wr => ∃ (k : Nat) (T : Int), k ≤ ys.length ∧ s = .int .i64 T ∧ i = .int .i64 (k : Int) ∧ Hid (T = sumTo xs xs.length + sumTo ys k) ∧ W0 = wr) (fun _ i _ => ys.length - (intOf i).toNat)
      case atStart => exact ⟨0, _, by omega, rfl, rfl, hide (by rw [unhide hT2]; simp [sumTo]), rfl⟩
      case round =>
        obtain ⟨k, T, hk, rfl, rfl, hT, rfl⟩ := hrel
        by_cases hlt : k < ys.length
        · have hkb : decide ((k : Int) < (ys.length : Int)) = true := decide_eq_true (by omega)
          have hTb := unhide hys k hk
          have hTe := unhide hT
          obtain ⟨bb, off, rfl, hbl, hcl⟩ := (unhide hAy) (ne_of_lt_length hlt)
          have hck := hcl k hlt
          have hxb := unhide hyr k hlt
          have hnx : Hid (T + ys.getD k 0 = sumTo xs xs.length + sumTo ys (k + 1)) := hide (by rw [hTe]; show _ = sumTo xs xs.length + (sumTo ys k + ys.getD k 0); omega)
          have hl9 : ys.length ≤ 8 := unhide hy9
          have hother := unhide hxtot
          have hT0 : 0 ≤ T ∧ T ≤ 5000 := by rw [hTe]; omega
          generalize ys.getD k 0 = x at hck hxb hnx
          obtain ⟨x0, x1⟩ := hxb
          obtain ⟨T0, T1⟩ := hT0
          clear hcl hbl hTb hTe hT hother
          go_wp2_with fail
          go_roundw
          case rel => exact ⟨k + 1, _, by omega, rfl, by go_num, hnx, trivial⟩
          case measure => simp [intOf]; omega
        · have hke : k = ys.length := by omega
          have hkb : decide ((k : Int) < (ys.length : Int)) = false := decide_eq_false (by omega)
          have hT3 : T = sumTo xs xs.length + sumTo ys ys.length := by rw [unhide hT, hke]
          have hTb : 0 ≤ T ∧ T ≤ 5000 := by
            have a1 := unhide hxtot
            have a2 := unhide hys ys.length (Nat.le_refl _)
            have a3 := unhide hy9
            rw [hT3]; omega
          obtain ⟨tn, htn⟩ : ∃ tn, xs.length + ys.length = tn := ⟨_, rfl⟩
          have tn16 : tn ≤ 16 := by have a3 := unhide hy9; have a4 := unhide hx9; omega
          have e1 : (xs.length : Int) + (ys.length : Int) = (tn : Int) := by omega
          have e2 : (tn : Int).tdiv 2 = ((tn / 2 : Nat) : Int) := by rw [Int.tdiv_eq_ediv_of_nonneg (by omega)]; omega
          have hM0 : Hid (tn = 0 → guMean xs ys = 128) := hide (fun h => by unfold guMean; rw [if_pos (by omega)])
          have hM1 : Hid (¬ tn = 0 → (T + ((tn / 2 : Nat) : Int)).tdiv (tn : Int) = guMean xs ys) := hide (fun h => by unfold guMean; rw [if_neg (by omega), htn, Int.tdiv_eq_ediv_of_nonneg (by omega), hT3])
          generalize hMM : guMean xs ys = M at hM0 hM1 hmean
          replace hMM := hide hMM
          replace hke := hide hke
          replace hT3 := hide hT3
          obtain ⟨T0, T1⟩ := hTb
          obtain ⟨M0, M1⟩ := hmean
          have t2 : (0 : Int) ≤ ((tn / 2 : Nat) : Int) ∧ ((tn / 2 : Nat) : Int) ≤ 8 := by omega
          generalize ((tn / 2 : Nat) : Int) = h2 at e2 hM1 t2
          obtain ⟨t20, t21⟩ := t2
          replace htn := hide htn
          clear hT hT2 hk hxtot hxs hys hxr hyr
          go_upto_if 73 with fail
          go_cut [14, 19] (fun _ s wx => s = .int .i64 M ∧ W0 = wx)
          case first =>
            by_cases hz : tn = 0
            · have hM := unhide hM0 hz
              subst hM
              subst hz
              go_wp2
              go_meet
              exact ⟨rfl, rfl⟩
            · have hM := unhide hM1 hz
              have hz2 : ¬ (tn : Int) = 0 := by omega
              have hz3 : (0 : Int) < (tn : Int) := by omega
              go_wp2
              go_meet
              exact ⟨rfl, rfl⟩
          case rest =>
            obtain ⟨rfl, rfl⟩ := hcut
            clear hM0 hM1 e1 e2
            go_wp2_with fail
            have hcell : Hid (∀ k, k < N → guCell 3 S xs ys corner k = clipF (xs.getD (k / S) 0 + ys.getD (k % S) 0 - corner)) := hide (fun k _ => by unfold guCell; rw [if_neg (by decide), if_neg (by decide), if_neg (by decide)])
            go_loopw [82] (fun i wr => ∃ k : Nat, k ≤ N ∧ i = .int .i64 (k : Int) ∧ Hid (GuSt w wr N (guPart (guCell 3 S xs ys corner) N k))) (fun i _ => N - (intOf i).toNat)
            case atStart => exact ⟨0, by omega, rfl, hN0⟩
            case round =>
              clear hN0
              obtain ⟨k, hk, rfl, hN⟩ := hrel
              by_cases hklt : k < N
              · have hkb : decide ((k : Int) < (N : Int)) = true := decide_eq_true (by omega)
                have hSp : 0 < S := by omega
                have e1 : (k : Int).tmod (S : Int) = ((k % S : Nat) : Int) := by rw [Int.tmod_eq_emod_of_nonneg (by omega)]; rfl
                have e2 : (k : Int).tdiv (S : Int) = ((k / S : Nat) : Int) := by rw [Int.tdiv_eq_ediv_of_nonneg (by omega)]; rfl
                have hz : ¬ (S : Int) = 0 := by omega
                have ha : k / S < S := (Nat.div_lt_iff_lt_mul hSp).2 (by have := unhide hN'; omega)
                have hb : k % S < S := Nat.mod_lt _ hSp
                have hcl := unhide hcell k hklt
                have hset := guPart_set (guCell 3 S xs ys corner) N k hklt
                have hput := hide ((unhide hN).put k (guCell 3 S xs ys corner k))
                rw [hset, hcl] at hput
                clear hset hcl
                generalize k / S = qa at e2 ha hput
                generalize k % S = qb at e1 hb hput
                obtain ⟨old, hdst⟩ := (unhide hN).out.has k hklt
                have hfz := (unhide hN).out.frozen k
                have k0 : (0 : Int) ≤ (k : Int) := by omega
                have k1 : (k : Int) < (N : Int) := by omega
                have k2 : (qa : Int) < (S : Int) := by omega
                have k3 : (qb : Int) < (S : Int) := by omega
                have hneq := unhide hneed'
                have hgx := unhide hNx qa (by omega)
                obtain ⟨bx, ox, rfl, hckx0, hbx⟩ := hgx
                have hckx : wr.cell? ⟨bx, ox + qa, none⟩ = some (.int .i64 (xs.getD qa 0)) := ((unhide hN).bel.cell (by simpa using hbx)).trans hckx0
                have kx : (qa : Int) < (xs.length : Int) := by omega
                have hneq2 := unhide hneed'
                have hgy := unhide hNy qb (by omega)
                obtain ⟨by1, oy, rfl, hcky0, hby⟩ := hgy
                have hcky : wr.cell? ⟨by1, oy + qb, none⟩ = some (.int .i64 (ys.getD qb 0)) := ((unhide hN).bel.cell (by simpa using hby)).trans hcky0
                have ky : (qb : Int) < (ys.length : Int) := by omega
                have rx := unhide hXr qa (by omega)
                have ry := unhide hYr qb (by omega)
                generalize xs.getD qa 0 = x at hckx hput rx
                generalize ys.getD qb 0 = y at hcky hput ry
                obtain ⟨x0, x1⟩ := rx
                obtain ⟨y0, y1⟩ := ry
                have hC := hide (fun W => specClip (x + y - corner) W)
                have w1 : IntKind.i64.wrap (x + y) = x + y := wrapG (by omega)
                have w2 : IntKind.i64.wrap (x + y - corner) = x + y - corner := wrapG (by omega)
                generalize clipF (x + y - corner) = z at hC hput
                clear hN ha hb hneq hneq2
                go_wp2_with fail
                refine wp_region_still_tail 15 (by kernel_rfl) (by kernel_rfl) ?_
                simp only [List.take_succ_cons, List.take_zero, List.drop_succ_cons, List.drop_zero]
                iterate 13 still_step
                still_call (unhide hC _)
                iterate 1 still_step
                refine wpStill_nil ?_
                go_wp2_with fail
                go_roundw
                case rel => exact ⟨k + 1, by omega, by go_num, hide ((unhide hput).upd (Upd.drewG _))⟩
                case measure => simp [intOf]; omega
              · have hke2 : k = N := by omega
                have hN2 := unhide hN
                rw [hke2, guPart_all] at hN2
                have hlt2 := hN2.out.lt
                have hO2 : Hid (OwnI wr w.heap.size wr.heap.size (.slice (some ⟨w.heap.size, 0, none⟩) N N) (guL 3 S xs ys corner)) := hide (by
                  have h := own_mono hN2.out.own (Nat.le_refl w.heap.size) (Nat.succ_le_of_lt hlt2)
                  unfold OwnI
                  rw [guL_length, unhide hN']
                  unfold guL
                  rw [unhide hN']
                  exact h)
                have hU := hide (Upd.of_below hN2.bel 0 0)
                clear hN2 hN hlt2 hcell
                go_wp2
                go_ret2
                exact ⟨_, rfl, unhide hO2, unhide hU⟩
end Go.Proofs.Ytpofmcepjmbmcaa
