/- The walks of the filters of rows: the specification's helpers. -/
import Derived.Test.YthndnehadkgibaaPlainF
import Derived.Test.YthndnehadkgibaaWOwn2
import Derived.Deep.RegionWith
import Derived.Deep.RegionHeld3
namespace Go.Proofs.Ythndnehadkgibaa
open Go.RowKit

theorem own_nilYF (w : World) (a b : Nat) : OwnY w a b (.slice none 0 0) [] := ⟨World.ownsRow_nil _ _ _ _, fun k hk => by simp [Value.ownBlock] at hk⟩

set_option maxHeartbeats 1000000 in
theorem specL4Abs (n : Int) (w : World) (h : -10000 ≤ n ∧ n ≤ 10000) : Calls Try.prog 62 #[.int .i64 n] w fun e w' => e = .returned (.int .i64 (absI n)) ∧ w' = w := by
  obtain ⟨h1, h2⟩ := h
  by_cases h0 : n < 0
  · have hE := hide (show absI n = -n from if_pos h0)
    go_enter Try.func62, Try.ntmps62
    go_wp2
    go_ret
    exact ⟨ret_int (unhide hE).symm, rfl⟩
  · have hE := hide (show absI n = n from if_neg h0)
    go_enter Try.func62, Try.ntmps62
    go_wp2
    go_ret
    exact ⟨ret_int (unhide hE).symm, rfl⟩

theorem absI_bd (n : Int) (m : Int) (h : -m ≤ n ∧ n ≤ m) : 0 ≤ absI n ∧ absI n ≤ m := by unfold absI; split <;> omega

set_option maxHeartbeats 2000000 in
theorem specL4Guess (kind a b c : Int) (w : World) (hk : 0 ≤ kind ∧ kind ≤ 4) (ha : 0 ≤ a ∧ a < 256) (hb : 0 ≤ b ∧ b < 256) (hc : 0 ≤ c ∧ c < 256) :
    Calls Try.prog 45 #[.int .i64 kind, .int .i64 a, .int .i64 b, .int .i64 c] w fun e w' => e = .returned (.int .i64 (guessF kind a b c)) ∧ w' = w := by
  obtain ⟨a1, a2⟩ := ha
  obtain ⟨b1, b2⟩ := hb
  obtain ⟨c1, c2⟩ := hc
  rcases (show kind = 0 ∨ kind = 1 ∨ kind = 2 ∨ kind = 3 ∨ kind = 4 by omega) with e | e | e | e | e
  · subst e
    clear hk
    go_enter Try.func45, Try.ntmps45
    go_wp2
    go_ret
    exact ⟨rfl, rfl⟩
  · subst e
    clear hk
    go_enter Try.func45, Try.ntmps45
    go_wp2
    go_ret
    exact ⟨rfl, rfl⟩
  · subst e
    clear hk
    go_enter Try.func45, Try.ntmps45
    go_wp2
    go_ret
    exact ⟨rfl, rfl⟩
  · subst e
    clear hk
    go_enter Try.func45, Try.ntmps45
    go_wp2
    go_ret
    exact ⟨ret_int (by unfold guessF; simp), rfl⟩
  · subst e
    clear hk
    have hx := absI_bd (a + b - c - a) 1000 (by omega)
    have hy := absI_bd (a + b - c - b) 1000 (by omega)
    have hz := absI_bd (a + b - c - c) 1000 (by omega)
    have hA := hide (specL4Abs (a + b - c - a) w (by omega))
    have hB := hide (specL4Abs (a + b - c - b) w (by omega))
    have hC := hide (specL4Abs (a + b - c - c) w (by omega))
    have hG := hide (show guessF 4 a b c = nearF a b c from rfl)
    have hN := hide (show nearF a b c = if absI (a + b - c - a) ≤ absI (a + b - c - b) ∧ absI (a + b - c - a) ≤ absI (a + b - c - c) then a else if absI (a + b - c - b) ≤ absI (a + b - c - c) then b else c from rfl)
    generalize absI (a + b - c - a) = x at hx hA hN
    generalize absI (a + b - c - b) = y at hy hB hN
    generalize absI (a + b - c - c) = z at hz hC hN
    by_cases h1 : x ≤ y
    · by_cases h2 : x ≤ z
      · have hF := hide (show guessF 4 a b c = a by rw [unhide hG, unhide hN, if_pos ⟨h1, h2⟩])
        go_enter Try.func45, Try.ntmps45
        go_wp2_with fail
        refine (unhide hA).mono ?_
        rintro e w1 ⟨rfl, rfl⟩
        go_wp2_with fail
        refine (unhide hB).mono ?_
        rintro e w2 ⟨rfl, rfl⟩
        go_wp2_with fail
        refine (unhide hC).mono ?_
        rintro e w3 ⟨rfl, rfl⟩
        go_wp2
        go_ret
        exact ⟨ret_int (unhide hF).symm, rfl⟩
      · by_cases h3 : y ≤ z
        · omega
        · have hF := hide (show guessF 4 a b c = c by rw [unhide hG, unhide hN, if_neg (by omega), if_neg h3])
          go_enter Try.func45, Try.ntmps45
          go_wp2_with fail
          refine (unhide hA).mono ?_
          rintro e w1 ⟨rfl, rfl⟩
          go_wp2_with fail
          refine (unhide hB).mono ?_
          rintro e w2 ⟨rfl, rfl⟩
          go_wp2_with fail
          refine (unhide hC).mono ?_
          rintro e w3 ⟨rfl, rfl⟩
          go_wp2
          go_ret
          exact ⟨ret_int (unhide hF).symm, rfl⟩
    · by_cases h3 : y ≤ z
      · have hF := hide (show guessF 4 a b c = b by rw [unhide hG, unhide hN, if_neg (by omega), if_pos h3])
        go_enter Try.func45, Try.ntmps45
        go_wp2_with fail
        refine (unhide hA).mono ?_
        rintro e w1 ⟨rfl, rfl⟩
        go_wp2_with fail
        refine (unhide hB).mono ?_
        rintro e w2 ⟨rfl, rfl⟩
        go_wp2_with fail
        refine (unhide hC).mono ?_
        rintro e w3 ⟨rfl, rfl⟩
        go_wp2
        go_ret
        exact ⟨ret_int (unhide hF).symm, rfl⟩
      · have hF := hide (show guessF 4 a b c = c by rw [unhide hG, unhide hN, if_neg (by omega), if_neg h3])
        go_enter Try.func45, Try.ntmps45
        go_wp2_with fail
        refine (unhide hA).mono ?_
        rintro e w1 ⟨rfl, rfl⟩
        go_wp2_with fail
        refine (unhide hB).mono ?_
        rintro e w2 ⟨rfl, rfl⟩
        go_wp2_with fail
        refine (unhide hC).mono ?_
        rintro e w3 ⟨rfl, rfl⟩
        go_wp2
        go_ret
        exact ⟨ret_int (unhide hF).symm, rfl⟩

set_option maxHeartbeats 1000000 in
theorem specL4At (v : Value) (zs : List Int) (i : Int) (w : World) (_hn : zs.length ≤ 1048576) (hR : InB zs) (hv : RdY w v zs) (hi : -2097152 ≤ i ∧ i ≤ 2097152) :
    Calls Try.prog 46 #[v, .int .i64 i] w fun e w' => e = .returned (.int .i64 (atB zs i)) ∧ w' = w := by
  obtain ⟨ad, cap, rfl, hA⟩ := hv
  obtain ⟨i1, i2⟩ := hi
  by_cases h0 : i < 0
  · have hE := hide (atB_neg (zs := zs) h0)
    go_enter Try.func46, Try.ntmps46
    go_wp2
    go_ret
    exact ⟨ret_int (unhide hE).symm, rfl⟩
  · obtain ⟨k, rfl⟩ := Int.eq_ofNat_of_zero_le (show 0 ≤ i by omega)
    by_cases h1 : k < zs.length
    · have hE := hide (atB_nat zs k)
      obtain ⟨b, off, rfl, hbl, hc⟩ := hA (ne_of_lt_length h1)
      have hck := hc k h1
      have hb := hR k
      clear hc
      generalize zs.getD k 0 = x at hck hb hE
      obtain ⟨b1, b2⟩ := hb
      have h1' : (k : Int) < zs.length := by omega
      go_enter Try.func46, Try.ntmps46
      go_wp2
      go_ret
      exact ⟨ret_int (unhide hE).symm, rfl⟩
    · have hE := hide (atB_past (zs := zs) (i := (k : Int)) (by omega))
      have h1' : (zs.length : Int) ≤ k := by omega
      clear hA
      go_enter Try.func46, Try.ntmps46
      go_wp2
      go_ret
      exact ⟨ret_int (unhide hE).symm, rfl⟩

set_option maxHeartbeats 1000000 in
theorem specL4FilterOk (kind step : Int) (u v : Value) (ab row : List Int) (w : World) (ha : ab.length ≤ 1048576) (hr : row.length ≤ 1048576) (hu : RdY w u ab) (hv : RdY w v row) :
    Calls Try.prog 43 #[.int .i64 kind, .int .i64 step, u, v] w fun e w' => e = .returned (.bool (filtB kind step ab row)) ∧ w' = w := by
  obtain ⟨ad, cap, rfl, hA⟩ := hu
  obtain ⟨ad', cap', rfl, hA'⟩ := hv
  clear hA hA'
  by_cases h : filtOk kind step ab row
  · rw [filtB_yes h]
    obtain ⟨h1, h2, h3, h4, h5, h6⟩ := h
    by_cases h7 : ab.length = 0
    · rw [h7]
      clear h6
      go_enter Try.func43, Try.ntmps43
      go_wp2
      go_ret
      exact ⟨rfl, rfl⟩
    · have h8 : ab.length = row.length := by omega
      rw [h8] at h7 ⊢
      have h9 : ((row.length : Int) == 0) = false := beq_eq_false_iff_ne.2 (by omega)
      clear h6 h7
      go_enter Try.func43, Try.ntmps43
      go_wp2
      go_ret
      exact ⟨rfl, rfl⟩
  · rw [filtB_no h]
    by_cases h1 : kind < 0
    · clear h
      have q : decide ((0 : Int) ≤ kind) = false := by simp; omega
      go_enter Try.func43, Try.ntmps43
      go_wp2
      go_ret
      exact ⟨rfl, rfl⟩
    by_cases h2 : 4 < kind
    · clear h
      have q : decide ((kind : Int) ≤ 4) = false := by simp; omega
      go_enter Try.func43, Try.ntmps43
      go_wp2
      go_ret
      exact ⟨rfl, rfl⟩
    by_cases h3 : step < 1
    · clear h
      have q : decide ((1 : Int) ≤ step) = false := by simp; omega
      go_enter Try.func43, Try.ntmps43
      go_wp2
      go_ret
      exact ⟨rfl, rfl⟩
    by_cases h4 : 8 < step
    · clear h
      have q : decide ((step : Int) ≤ 8) = false := by simp; omega
      go_enter Try.func43, Try.ntmps43
      go_wp2
      go_ret
      exact ⟨rfl, rfl⟩
    by_cases h5 : 4096 < row.length
    · clear h
      have q : decide ((row.length : Int) ≤ 4096) = false := by simp; omega
      go_enter Try.func43, Try.ntmps43
      go_wp2
      go_ret
      exact ⟨rfl, rfl⟩
    have h6 : ¬ (ab.length = 0 ∨ ab.length = row.length) := fun h' => h ⟨by omega, by omega, by omega, by omega, by omega, h'⟩
    have q1 : ((ab.length : Int) == 0) = false := beq_eq_false_iff_ne.2 (by omega)
    have q2 : ((ab.length : Int) == (row.length : Int)) = false := beq_eq_false_iff_ne.2 (by omega)
    clear h h6
    go_enter Try.func43, Try.ntmps43
    go_wp2
    go_ret
    exact ⟨rfl, rfl⟩
end Go.Proofs.Ythndnehadkgibaa
