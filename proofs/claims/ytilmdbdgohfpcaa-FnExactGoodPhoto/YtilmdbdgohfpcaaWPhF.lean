/- The specification's cut of a photo: the walk. -/
import Derived.Test.YtilmdbdgohfpcaaWPhE
import Derived.Maps.AppendAt
import Derived.RangeFuncBox
namespace Go.Proofs.Ytilmdbdgohfpcaa
open Go.RowKit

theorem oneNew (w : World) (x : Int) : ∀ j u, [Value.int .i64 x][j]? = some u → (w.alloc (.cells #[.int .i64 x] 3)).cell? ((⟨w.heap.size, 0, none⟩ : Addr).add j) = some u := by
  intro j u hu
  match j, hu with
  | 0, hu => simp at hu; subst hu; simp [Addr.add]
theorem oneOne (x : Int) : ∀ u ∈ [Value.int .i64 x], u.oneCell' = true := by
  intro u hu; simp at hu; subst hu; rfl
theorem hatOf {g g' n n' c c' s : Nat} (h : (slv g' n' c').ownBlock = (slv g n c).ownBlock ∨ (slv g' n' c').ownBlock = some s) : g' = g ∨ g' = s := by
  rcases h with h | h
  · exact .inl (by simpa [Value.ownBlock] using h)
  · exact .inr (by simpa [Value.ownBlock] using h)

set_option maxHeartbeats 16000000 in
set_option maxRecDepth 100000 in
theorem specL9Cut (a b q : Int) (hf st : Bool) (ev : Int) (ad : Option Addr) (n cap : Nat) (p : Nat) (w : World) (hp : 1 ≤ p ∧ p ≤ 1000) (ha : 1 ≤ a ∧ a ≤ 512) (hb : 1 ≤ b ∧ b ≤ 512) :
    Calls Try.prog 54 #[phv a b q hf st ev (.slice ad n cap), .int .i64 (p : Int)] w fun e w' => ∃ gw cw gh ch, e = .returned (.agg #[slv gw p cw, slv gh p ch, .int .i64 (upZ a (uZ hf)), .int .i64 (upZ b (uZ hf)), .int .i64 (perN hf p : Nat)]) ∧
      OwnI w' w.heap.size w'.heap.size (slv gw p cw) (wsF a hf p) ∧ OwnI w' w.heap.size w'.heap.size (slv gh p ch) (wsF b hf p) ∧ gw ≠ gh ∧ Upd 0 0 w w' := by
  obtain ⟨p1, p2⟩ := hp
  obtain ⟨a1, a2⟩ := ha
  obtain ⟨b1, b2⟩ := hb
  obtain ⟨i0, hi, hz0, hz1, hz2⟩ := info_parts infoI
  go_enter Try.func54, Try.ntmps54
  obtain ⟨W0, hW0, hS0⟩ := shSt_new w a b (phc a b q hf st ev (.slice ad n cap)) (.int .i64 (p : Int)) 77
  go_upto_region 2 with fail
  rw [show w.heap.size + 1 + 1 + 1 + 1 = w.heap.size + 4 from rfl]
  clear hW0
  have c3 := hS0.bx.1.2 3 _ rfl
  have s4 := hS0.st.1.2 4 _ rfl
  have f4 := hS0.st.2 4
  replace hS0 := hide hS0
  cases hf
  · go_upto_region 6 with fail
    have hS1 := hS0
    clear c3 s4 f4 hS0
    go_wp2
    go_loopw [7, 8, 9] (fun i _ _ wr => ∃ k gw cw gh ch : Nat, 1 ≤ k ∧ k ≤ p ∧ i = .int .i64 k ∧ Hid (ShSt w wr gw cw gh ch (wsF a false k) (wsF b false k) (phc a b q false st ev (.slice ad n cap)) (.int .i64 0) (.int .i64 0) (.int .i64 (p : Int)))) (fun i _ _ _ => p - (intOf i).toNat)
    case atStart => exact ⟨1, _, _, _, _, Nat.le_refl _, p1, rfl, hS1⟩
    case round =>
      clear hS1
      obtain ⟨k, gw, cw, gh, ch, k1, kp, rfl, hS⟩ := hrel
      by_cases hlt : k < p
      · have kI : (k : Int) < (p : Int) := by omega
        have ea := hide (wsF_succ a false k k1)
        have eb := hide (wsF_succ b false k k1)
        have la := hide (wsF_length a false k k1)
        have lb := hide (wsF_length b false k k1)
        generalize wsF a false k = xs at hS ea la
        generalize wsF b false k = ys at hS eb lb
        have c0 := (unhide hS).bx.1.2 0 _ rfl
        have c1 := (unhide hS).bx.1.2 1 _ rfl
        have c3 := (unhide hS).bx.1.2 3 _ rfl
        have s0 := (unhide hS).st.1.2 0 _ rfl
        go_upto_region 14 with fail
        have hU0 := hide (Upd.of_below ((Below.refl wr.heap.size wr).alloc (Nat.le_refl _) (.cells #[.int .i64 a] 3)) 0 0)
        have hO0 := hide ((Own.of (unhide hS).rw).keep (unhide hU0)).1
        clear c0 c1 c3
        go_upto_region 15 with (at_builtin; go_loud (refine wpList_append_own_at _ rfl (.tmp 39) (.tmp 41) 23 rfl w.heap.size 3 i0 (.int .i64 0) 1 8 Try.underlying23 hi hz0 hz1 hz2 rfl (by decide) (slv gw xs.length cw) xs.length (ints xs) rfl (unhide hO0) ⟨wr.heap.size, 0, none⟩ 1 1 [.int .i64 a] rfl rfl (oneNew wr a) (oneOne a) (by have := unhide la; unfold maxLen; omega) (by have := unhide la; omega) (by rw [World.size_alloc]; have := (unhide hS).be.size; omega) ?_; intro v' w6 hown' hgrow _ hat; obtain ⟨g0, c0', rfl⟩ := ownsRow_succ hown'; have hat' := hatOf hat; have hap := (unhide hS).append0 a (unhide hU0) hown' hgrow hat'; have hS7 := hide hap.1; have s06 := hap.2.1.2 0 _ rfl; have f06 := hap.2.2 0; clear hap hown' hgrow hat hat' hO0 hU0 hS))
        generalize w6.setCell ⟨w.heap.size + 4, 0, none⟩ (.slice (some ⟨g0, 0, none⟩) (xs.length + 1) c0') = w7 at hS7 ⊢
        have s1 := (unhide hS7).st.1.2 1 _ rfl
        have hU1 := hide (Upd.of_below ((Below.refl w7.heap.size w7).alloc (Nat.le_refl _) (.cells #[.int .i64 b] 3)) 0 0)
        have hO1 := hide ((Own.of (unhide hS7).rh).keep (unhide hU1)).1
        clear s0 s06 f06
        go_wp2_with (at_builtin; go_loud (refine wpList_append_own_at _ rfl (.tmp 45) (.tmp 47) 23 rfl w.heap.size 3 i0 (.int .i64 0) 1 8 Try.underlying23 hi hz0 hz1 hz2 rfl (by decide) (slv gh ys.length ch) ys.length (ints ys) rfl (unhide hO1) ⟨w7.heap.size, 0, none⟩ 1 1 [.int .i64 b] rfl rfl (oneNew w7 b) (oneOne b) (by have := unhide lb; unfold maxLen; omega) (by have := unhide lb; omega) (by rw [World.size_alloc]; have := (unhide hS7).be.size; omega) ?_; intro v' w8 hown' hgrow _ hat; obtain ⟨g1, c1', rfl⟩ := ownsRow_succ hown'; have hat' := hatOf hat; have hap := (unhide hS7).append1 b (unhide hU1) hown' hgrow hat'; have hS9 := hide hap.1; have s16 := hap.2.1.2 1 _ rfl; have f16 := hap.2.2 1; clear hap hown' hgrow hat hat' hO1 hU1 hS7))
        generalize w8.setCell ⟨w.heap.size + 4, 1, none⟩ (.slice (some ⟨g1, 0, none⟩) (ys.length + 1) c1') = w9 at hS9 ⊢
        clear s1 s16 f16
        go_roundw
        case rel => exact ⟨k + 1, g0, c0', g1, c1', by omega, by omega, by go_num, by rw [unhide ea, unhide eb]; exact hS9⟩
        case measure => simp [intOf]; omega
      · have hkp : k = p := by omega
        subst hkp
        have c0 := (unhide hS).bx.1.2 0 _ rfl
        have s2 := (unhide hS).st.1.2 2 _ rfl
        have f2 := (unhide hS).st.2 2
        go_upto_region 17 with fail
        have hS2 := hide ((unhide hS).set2 (.int .i64 ((a + 8 - 1) / 8)))
        clear c0 s2 f2 hS
        generalize wr.setCell ⟨w.heap.size + 4, 2, none⟩ (.int .i64 ((a + 8 - 1) / 8)) = w2 at hS2 ⊢
        have c1 := (unhide hS2).bx.1.2 1 _ rfl
        have s3 := (unhide hS2).st.1.2 3 _ rfl
        have f3 := (unhide hS2).st.2 3
        go_upto_region 18 with fail
        have hS3 := hide ((unhide hS2).set3 (.int .i64 ((b + 8 - 1) / 8)))
        clear c1 s3 f3 hS2
        generalize w2.setCell ⟨w.heap.size + 4, 3, none⟩ (.int .i64 ((b + 8 - 1) / 8)) = w3 at hS3 ⊢
        have s0 := (unhide hS3).st.1.2 0 _ rfl
        have s1 := (unhide hS3).st.1.2 1 _ rfl
        have s2 := (unhide hS3).st.1.2 2 _ rfl
        have s3 := (unhide hS3).st.1.2 3 _ rfl
        have s4 := (unhide hS3).st.1.2 4 _ rfl
        have r0 := (unhide hS3).rx.1.2 0 _ rfl
        have r1 := (unhide hS3).rx.1.2 1 _ rfl
        have r2 := (unhide hS3).rx.1.2 2 _ rfl
        have r3 := (unhide hS3).rx.1.2 3 _ rfl
        have r4 := (unhide hS3).rx.1.2 4 _ rfl
        have f0 := (unhide hS3).rx.2 0
        have f1 := (unhide hS3).rx.2 1
        have f2 := (unhide hS3).rx.2 2
        have f3 := (unhide hS3).rx.2 3
        have f4 := (unhide hS3).rx.2 4
        have hA := hide ((unhide hS3).answer (slv gw (wsF a false k).length cw) (slv gh (wsF b false k).length ch) (.int .i64 ((a + 8 - 1) / 8)) (.int .i64 ((b + 8 - 1) / 8)) (.int .i64 (k : Int)))
        have hne := (unhide hS3).ne
        go_wp2
        change bodyPost _ _ _ _ _ (fiveAt w3 (w.heap.size + 1) (slv gw (wsF a false k).length cw) (slv gh (wsF b false k).length ch) (.int .i64 ((a + 8 - 1) / 8)) (.int .i64 ((b + 8 - 1) / 8)) (.int .i64 (k : Int)))
        obtain ⟨hc, ho0, ho1, hu⟩ := unhide hA
        rw [wsF_length a false k k1, wsF_length b false k k1] at hc ho0 ho1 hu ⊢
        generalize fiveAt w3 (w.heap.size + 1) (slv gw k cw) (slv gh k ch) (.int .i64 ((a + 8 - 1) / 8)) (.int .i64 ((b + 8 - 1) / 8)) (.int .i64 (k : Int)) = w4 at hc ho0 ho1 hu ⊢
        have e0 := hc.1.2 0 _ rfl
        have e1 := hc.1.2 1 _ rfl
        have e2 := hc.1.2 2 _ rfl
        have e3 := hc.1.2 3 _ rfl
        have e4 := hc.1.2 4 _ rfl
        refine bodyPost_ret (v := .agg #[slv gw k cw, slv gh k ch, .int .i64 ((a + 8 - 1) / 8), .int .i64 ((b + 8 - 1) / 8), .int .i64 (k : Int)]) (by simp [results, Try.results54, go_sem, e0, e1, e2, e3, e4]) rfl ⟨gw, cw, gh, ch, rfl, ho0, ho1, hne, hu⟩
  · go_upto_region 6 with fail
    have hS1 := hide ((unhide hS0).set4 (.int .i64 6))
    generalize W0.setCell ⟨w.heap.size + 4, 4, none⟩ (.int .i64 6) = W1 at hS1 ⊢
    clear c3 s4 f4 hS0
    go_wp2
    go_loopw [7, 8, 9] (fun i _ _ wr => ∃ k gw cw gh ch : Nat, 1 ≤ k ∧ k ≤ p ∧ i = .int .i64 k ∧ Hid (ShSt w wr gw cw gh ch (wsF a true k) (wsF b true k) (phc a b q true st ev (.slice ad n cap)) (.int .i64 0) (.int .i64 0) (.int .i64 6))) (fun i _ _ _ => p - (intOf i).toNat)
    case atStart => exact ⟨1, _, _, _, _, Nat.le_refl _, p1, rfl, hS1⟩
    case round =>
      clear hS1
      obtain ⟨k, gw, cw, gh, ch, k1, kp, rfl, hS⟩ := hrel
      by_cases hlt : k < p
      · have kI : (k : Int) < (p : Int) := by omega
        have ea := hide (wsF_succ a true k k1)
        have eb := hide (wsF_succ b true k k1)
        have la := hide (wsF_length a true k k1)
        have lb := hide (wsF_length b true k k1)
        generalize wsF a true k = xs at hS ea la
        generalize wsF b true k = ys at hS eb lb
        have c0 := (unhide hS).bx.1.2 0 _ rfl
        have c1 := (unhide hS).bx.1.2 1 _ rfl
        have c3 := (unhide hS).bx.1.2 3 _ rfl
        have s0 := (unhide hS).st.1.2 0 _ rfl
        go_upto_region 14 with fail
        have hU0 := hide (Upd.of_below ((Below.refl wr.heap.size wr).alloc (Nat.le_refl _) (.cells #[.int .i64 ((a + 1) / 2)] 3)) 0 0)
        have hO0 := hide ((Own.of (unhide hS).rw).keep (unhide hU0)).1
        clear c0 c1 c3
        go_upto_region 15 with (at_builtin; go_loud (refine wpList_append_own_at _ rfl (.tmp 39) (.tmp 41) 23 rfl w.heap.size 3 i0 (.int .i64 0) 1 8 Try.underlying23 hi hz0 hz1 hz2 rfl (by decide) (slv gw xs.length cw) xs.length (ints xs) rfl (unhide hO0) ⟨wr.heap.size, 0, none⟩ 1 1 [.int .i64 ((a + 1) / 2)] rfl rfl (oneNew wr ((a + 1) / 2)) (oneOne ((a + 1) / 2)) (by have := unhide la; unfold maxLen; omega) (by have := unhide la; omega) (by rw [World.size_alloc]; have := (unhide hS).be.size; omega) ?_; intro v' w6 hown' hgrow _ hat; obtain ⟨g0, c0', rfl⟩ := ownsRow_succ hown'; have hat' := hatOf hat; have hap := (unhide hS).append0 ((a + 1) / 2) (unhide hU0) hown' hgrow hat'; have hS7 := hide hap.1; have s06 := hap.2.1.2 0 _ rfl; have f06 := hap.2.2 0; clear hap hown' hgrow hat hat' hO0 hU0 hS))
        generalize w6.setCell ⟨w.heap.size + 4, 0, none⟩ (.slice (some ⟨g0, 0, none⟩) (xs.length + 1) c0') = w7 at hS7 ⊢
        have s1 := (unhide hS7).st.1.2 1 _ rfl
        have hU1 := hide (Upd.of_below ((Below.refl w7.heap.size w7).alloc (Nat.le_refl _) (.cells #[.int .i64 ((b + 1) / 2)] 3)) 0 0)
        have hO1 := hide ((Own.of (unhide hS7).rh).keep (unhide hU1)).1
        clear s0 s06 f06
        go_wp2_with (at_builtin; go_loud (refine wpList_append_own_at _ rfl (.tmp 45) (.tmp 47) 23 rfl w.heap.size 3 i0 (.int .i64 0) 1 8 Try.underlying23 hi hz0 hz1 hz2 rfl (by decide) (slv gh ys.length ch) ys.length (ints ys) rfl (unhide hO1) ⟨w7.heap.size, 0, none⟩ 1 1 [.int .i64 ((b + 1) / 2)] rfl rfl (oneNew w7 ((b + 1) / 2)) (oneOne ((b + 1) / 2)) (by have := unhide lb; unfold maxLen; omega) (by have := unhide lb; omega) (by rw [World.size_alloc]; have := (unhide hS7).be.size; omega) ?_; intro v' w8 hown' hgrow _ hat; obtain ⟨g1, c1', rfl⟩ := ownsRow_succ hown'; have hat' := hatOf hat; have hap := (unhide hS7).append1 ((b + 1) / 2) (unhide hU1) hown' hgrow hat'; have hS9 := hide hap.1; have s16 := hap.2.1.2 1 _ rfl; have f16 := hap.2.2 1; clear hap hown' hgrow hat hat' hO1 hU1 hS7))
        generalize w8.setCell ⟨w.heap.size + 4, 1, none⟩ (.slice (some ⟨g1, 0, none⟩) (ys.length + 1) c1') = w9 at hS9 ⊢
        clear s1 s16 f16
        go_roundw
        case rel => exact ⟨k + 1, g0, c0', g1, c1', by omega, by omega, by go_num, by rw [unhide ea, unhide eb]; exact hS9⟩
        case measure => simp [intOf]; omega
      · have hkp : k = p := by omega
        subst hkp
        have c0 := (unhide hS).bx.1.2 0 _ rfl
        have s2 := (unhide hS).st.1.2 2 _ rfl
        have f2 := (unhide hS).st.2 2
        go_upto_region 17 with fail
        have hS2 := hide ((unhide hS).set2 (.int .i64 ((a + 16 - 1) / 16)))
        clear c0 s2 f2 hS
        generalize wr.setCell ⟨w.heap.size + 4, 2, none⟩ (.int .i64 ((a + 16 - 1) / 16)) = w2 at hS2 ⊢
        have c1 := (unhide hS2).bx.1.2 1 _ rfl
        have s3 := (unhide hS2).st.1.2 3 _ rfl
        have f3 := (unhide hS2).st.2 3
        go_upto_region 18 with fail
        have hS3 := hide ((unhide hS2).set3 (.int .i64 ((b + 16 - 1) / 16)))
        clear c1 s3 f3 hS2
        generalize w2.setCell ⟨w.heap.size + 4, 3, none⟩ (.int .i64 ((b + 16 - 1) / 16)) = w3 at hS3 ⊢
        have s0 := (unhide hS3).st.1.2 0 _ rfl
        have s1 := (unhide hS3).st.1.2 1 _ rfl
        have s2 := (unhide hS3).st.1.2 2 _ rfl
        have s3 := (unhide hS3).st.1.2 3 _ rfl
        have s4 := (unhide hS3).st.1.2 4 _ rfl
        have r0 := (unhide hS3).rx.1.2 0 _ rfl
        have r1 := (unhide hS3).rx.1.2 1 _ rfl
        have r2 := (unhide hS3).rx.1.2 2 _ rfl
        have r3 := (unhide hS3).rx.1.2 3 _ rfl
        have r4 := (unhide hS3).rx.1.2 4 _ rfl
        have f0 := (unhide hS3).rx.2 0
        have f1 := (unhide hS3).rx.2 1
        have f2 := (unhide hS3).rx.2 2
        have f3 := (unhide hS3).rx.2 3
        have f4 := (unhide hS3).rx.2 4
        have hA := hide ((unhide hS3).answer (slv gw (wsF a true k).length cw) (slv gh (wsF b true k).length ch) (.int .i64 ((a + 16 - 1) / 16)) (.int .i64 ((b + 16 - 1) / 16)) (.int .i64 6))
        have hne := (unhide hS3).ne
        go_wp2
        change bodyPost _ _ _ _ _ (fiveAt w3 (w.heap.size + 1) (slv gw (wsF a true k).length cw) (slv gh (wsF b true k).length ch) (.int .i64 ((a + 16 - 1) / 16)) (.int .i64 ((b + 16 - 1) / 16)) (.int .i64 6))
        obtain ⟨hc, ho0, ho1, hu⟩ := unhide hA
        rw [wsF_length a true k k1, wsF_length b true k k1] at hc ho0 ho1 hu ⊢
        generalize fiveAt w3 (w.heap.size + 1) (slv gw k cw) (slv gh k ch) (.int .i64 ((a + 16 - 1) / 16)) (.int .i64 ((b + 16 - 1) / 16)) (.int .i64 6) = w4 at hc ho0 ho1 hu ⊢
        have e0 := hc.1.2 0 _ rfl
        have e1 := hc.1.2 1 _ rfl
        have e2 := hc.1.2 2 _ rfl
        have e3 := hc.1.2 3 _ rfl
        have e4 := hc.1.2 4 _ rfl
        refine bodyPost_ret (v := .agg #[slv gw k cw, slv gh k ch, .int .i64 ((a + 16 - 1) / 16), .int .i64 ((b + 16 - 1) / 16), .int .i64 6]) (by simp [results, Try.results54, go_sem, e0, e1, e2, e3, e4]) rfl ⟨gw, cw, gh, ch, rfl, ho0, ho1, hne, hu⟩
end Go.Proofs.Ytilmdbdgohfpcaa
