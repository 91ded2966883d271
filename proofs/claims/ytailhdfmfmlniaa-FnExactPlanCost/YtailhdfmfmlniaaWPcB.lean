/- What a part is and costs: the specification's walks. -/
import Derived.Test.YtailhdfmfmlniaaWPcA
import Derived.Test.YtailhdfmfmlniaaPFold
import Derived.Test.YtailhdfmfmlniaaWRowJ
namespace Go.Proofs.Ytailhdfmfmlniaa
open Go.RowKit

theorem specFoldS (n : Int) (h : -1073741824 ≤ n ∧ n ≤ 1073741824) (w : World) : Calls Try.prog 130 #[.int .i64 n] w fun e w' => e = .returned (.int .u64 (foldF n)) ∧ w' = w :=
  specFold n (by omega) (by omega) w
set_option maxHeartbeats 8000000 in
theorem specL10KeyCost (key : Nat) (ad : Option Addr) (cap : Nat) (zs : List Int) (w : World) (hk : key ≤ 25) (hn : zs.length ≤ 4000) (hr : InR (-1073741824) 1073741824 zs) (hA : ArgI w ad zs) :
    Calls Try.prog 90 #[.int .i64 (key : Int), .slice ad zs.length cap] w fun e w' => e = .returned (.int .i64 (5 + keyC key zs)) ∧ w' = w := by
  have hE := hide (keyS_all key zs)
  have hBd := hide (fun k h => keyS_bd key zs k hk h hr)
  have hS : Hid (∀ k, keyS key zs (k + 1) = keyS key zs k + (if key = 25 then (32 : Int) else keyAt key (zs.getD k 0) + (1 + (key : Int)))) := hide (fun k => by unfold keyS; rw [accZ_succ]; omega)
  have h0 : Hid (keyS key zs 0 = 5) := hide rfl
  generalize keyC key zs = R at hE ⊢
  generalize keyS key zs = S at hE hBd hS h0
  replace hr := hide hr
  replace hA := hide hA
  go_enter Try.func90, Try.ntmps90
  go_wp2
  go_loop [5, 7, 10] (fun c _ i => ∃ k : Nat, k ≤ zs.length ∧ i = .int .i64 k ∧ c = .int .i64 (S k)) (fun _ _ i => zs.length - (intOf i).toNat)
  case atStart => exact ⟨0, Nat.zero_le _, rfl, by rw [unhide h0]⟩
  case round =>
    obtain ⟨k, hk', rfl, rfl⟩ := hrel
    by_cases hlt : k < zs.length
    · obtain ⟨bb, off, rfl, hbl, hcl⟩ := (unhide hA) (ne_of_lt_length hlt)
      have hck := hcl k hlt
      have hrk := unhide hr k hlt
      have hSk := unhide hS k
      have hb1 := unhide hBd k (by omega)
      have hkb := keyAt_bd key (zs.getD k 0) hrk
      have hfb := foldF_bdZ (zs.getD k 0) hrk
      have hKA : Hid (keyAt key (zs.getD k 0) = foldF (zs.getD k 0) / 2 ^ key) := hide rfl
      have hF := hide (fun W => specFoldS (zs.getD k 0) hrk W)
      clear hcl hbl
      generalize keyAt key (zs.getD k 0) = ka at hSk hkb hKA
      generalize foldF (zs.getD k 0) = fo at hfb hKA hF
      generalize zs.getD k 0 = x at hck hF
      generalize S k = s at hSk hb1 ⊢
      generalize hs2 : S (k + 1) = s2 at hSk
      have hs3 : Hid (S (k + 1) = s2) := hide hs2
      clear hs2 hrk
      obtain ⟨b1, b2⟩ := hb1
      obtain ⟨k1, k2⟩ := hkb
      obtain ⟨f1, f2⟩ := hfb
      have hb3 : s ≤ 8589934700000 := by
        have : (k : Int) * 2147483674 ≤ 4000 * 2147483674 := Int.mul_le_mul_of_nonneg_right (by omega) (by omega)
        omega
      clear b2
      have kI : (0 : Int) ≤ (k : Int) := by omega
      have kL : (k : Int) < (zs.length : Int) := by omega
      by_cases h25 : key = 25
      · subst h25
        rw [if_pos rfl] at hSk
        subst hSk
        clear hF hKA
        go_wp2
        go_round
        case rel => exact ⟨k + 1, by omega, by go_num, by rw [unhide hs3]⟩
        case measure => simp [intOf]; omega
      · rw [if_neg h25] at hSk
        have q : ((key : Int) == 25) = false := by rw [beq_eq_false_iff_ne]; omega
        go_wp2_with fail
        refine (unhide hF _).mono ?_
        rintro e w1 ⟨rfl, rfl⟩
        go_wp2
        go_round
        case rel => exact ⟨k + 1, by omega, by go_num, by rw [unhide hs3, hSk, ← unhide hKA]; congr 1; unfold wrap64; omega⟩
        case measure => simp [intOf]; omega
    · have hkl : k = zs.length := by omega
      subst hkl
      go_wp2
      go_ret
      exact ⟨by rw [unhide hE]; rfl, rfl⟩
/-- A part of a list, read. -/
theorem rd_part {w : World} {b off N a e c : Nat} {r : List Int} (hl : r.length = N) (hae : a ≤ e) (heN : e ≤ N) (hbl : b < w.heap.size) (hc : KindAt .i64 w b off r) (ad : Option Addr) (had : a < e → ad = some ⟨b, off + a, none⟩) :
    RdI w (.slice ad (e - a) c) ((r.take e).drop a) := by
  have hlen : ((r.take e).drop a).length = e - a := by rw [List.length_drop, List.length_take]; omega
  refine ⟨ad, c, by rw [hlen], fun hne => ?_⟩
  have h1 : a < e := by
    rcases Nat.lt_or_ge a e with h | h
    · exact h
    · exact absurd (List.length_eq_zero_iff.1 (by omega)) hne
  refine ⟨b, off + a, had h1, hbl, fun j hj => ?_⟩
  rw [hlen] at hj
  have := hc (a + j) (by omega)
  rw [Nat.add_assoc, this]
  congr 2
  rw [List.getD_eq_getElem?_getD, List.getD_eq_getElem?_getD, List.getElem?_drop, List.getElem?_take_of_lt (by omega)]
theorem parts5 {P N each : Nat} (hP : P ≤ 4) (hE : N / 2 ^ P = each) : (P = 0 ∧ N = each) ∨ (P = 1 ∧ (N : Int) / 2 = (each : Int)) ∨ (P = 2 ∧ (N : Int) / 4 = (each : Int)) ∨ (P = 3 ∧ (N : Int) / 8 = (each : Int)) ∨ (P = 4 ∧ (N : Int) / 16 = (each : Int)) := by
  rcases (show P = 0 ∨ P = 1 ∨ P = 2 ∨ P = 3 ∨ P = 4 by omega) with e | e | e | e | e <;> subst e <;> simp at hE ⊢ <;> omega
set_option maxHeartbeats 8000000 in
theorem specL10Part (o P i N each : Nat) (v : Value) (r : List Int) (w : World) (hP : P ≤ 4) (ho : o ≤ each) (hE : N / 2 ^ P = each) (hi : (i + 1) * each ≤ N) (hN : N ≤ 4000) (hi16 : i < 16) (hl : r.length = N) (hv : RdX w v r) :
    Calls Try.prog 91 #[v, .int .i64 (o : Int), .int .i64 (P : Int), .int .i64 (i : Int)] w fun e w' => ∃ u, e = .returned u ∧ RdI w u (partZ r o each i) ∧ w' = w := by
  have hEI : (N : Int) / 2 ^ P = (each : Int) := by rw [← hE, Int.natCast_ediv, Int.natCast_pow]; rfl
  rcases hv with ⟨rfl, rfl⟩ | ⟨b, off, cap, rfl, hcp, hbl, hc⟩
  · have hN0 : N = 0 := by simpa using hl.symm
    subst hN0
    have he0 : each = 0 := by rw [← hE]; simp
    subst he0
    have ho0 : o = 0 := by omega
    subst ho0
    have hp : partZ [] 0 0 i = [] := by unfold partZ; simp
    rw [hp]
    clear hp hE hEI hi hl
    have hr0 : RdI w (.slice none 0 0) [] := ⟨none, 0, rfl, fun h => absurd rfl h⟩
    replace hr0 := hide hr0
    rcases (show P = 0 ∨ P = 1 ∨ P = 2 ∨ P = 3 ∨ P = 4 by omega) with e | e | e | e | e <;> subst e
    all_goals
      by_cases h0 : i = 0
      · subst h0
        go_enter Try.func91, Try.ntmps91
        go_wp2
        go_ret
        exact ⟨_, rfl, unhide hr0, rfl⟩
      · have q : ((i : Int) == 0) = false := by rw [beq_eq_false_iff_ne]; omega
        go_enter Try.func91, Try.ntmps91
        go_wp2
        go_ret
        exact ⟨_, rfl, unhide hr0, rfl⟩
  have heq : each ≤ (i + 1) * each := Nat.le_mul_of_pos_left each (by omega)
  have hP5 := parts5 hP hE
  clear hEI
  rw [hl] at hcp ⊢
  by_cases h0 : i = 0
  · subst h0
    have hz : partZ r o each 0 = (r.take each).drop o := by unfold partZ partFrom; simp
    rw [hz]
    have hRd := hide (fun ad h c => rd_part (c := c) hl ho (by omega : each ≤ N) hbl hc ad h)
    have k1 : (0 : Int) ≤ (o : Int) := by omega
    have k2 : (o : Int) ≤ (each : Int) := by omega
    have k3 : (each : Int) ≤ (cap : Int) := by omega
    replace hl := hide hl
    clear hz hE hc hi
    by_cases hco : cap = o
    · have hx : ¬ o < each := by omega
      have hRd2 := hide (fun c => unhide hRd (some ⟨b, off, none⟩) (fun h => absurd h hx) c)
      clear hRd hx
      rcases hP5 with ⟨e, e'⟩ | ⟨e, hEI⟩ | ⟨e, hEI⟩ | ⟨e, hEI⟩ | ⟨e, hEI⟩
      · subst e
        subst e'
        go_enter Try.func91, Try.ntmps91
        go_wp2
        go_ret
        exact ⟨_, rfl, unhide hRd2 _, rfl⟩
      all_goals
        subst e
        go_enter Try.func91, Try.ntmps91
        go_wp2
        go_ret
        exact ⟨_, rfl, unhide hRd2 _, rfl⟩
    · have hRd2 := hide (fun c => unhide hRd (some ⟨b, off + o, none⟩) (fun _ => rfl) c)
      clear hRd
      rcases hP5 with ⟨e, e'⟩ | ⟨e, hEI⟩ | ⟨e, hEI⟩ | ⟨e, hEI⟩ | ⟨e, hEI⟩
      · subst e
        subst e'
        go_enter Try.func91, Try.ntmps91
        go_wp2
        go_ret
        exact ⟨_, rfl, unhide hRd2 _, rfl⟩
      all_goals
        subst e
        go_enter Try.func91, Try.ntmps91
        go_wp2
        go_ret
        exact ⟨_, rfl, unhide hRd2 _, rfl⟩
  · obtain ⟨F, hF⟩ : ∃ F, i * each = F := ⟨_, rfl⟩
    have hT : (i + 1) * each = F + each := by rw [Nat.add_mul, hF]; omega
    have hoF : o ≤ F := by
      have : each ≤ i * each := Nat.le_mul_of_pos_left each (by omega)
      omega
    have hz : partZ r o each i = (r.take (F + each)).drop F := by unfold partZ partFrom; rw [hF, hT, Nat.max_eq_right hoF]
    rw [hz]
    rw [hT] at hi heq
    have hRd := hide (fun ad h c => rd_part (c := c) hl (show F ≤ F + each by omega) (by omega : F + each ≤ N) hbl hc ad h)
    simp only [Nat.add_sub_cancel_left] at hRd
    have pe : (each : Int) * (i : Int) = (F : Int) := by rw [← hF, Int.natCast_mul, Int.mul_comm]
    have k1 : (0 : Int) ≤ (F : Int) := by omega
    have k2 : (F : Int) ≤ (F : Int) + (each : Int) := by omega
    have k3 : (F : Int) + (each : Int) ≤ (cap : Int) := by omega
    have q : ((i : Int) == 0) = false := by rw [beq_eq_false_iff_ne]; omega
    have kt : ((F : Int) + (each : Int)).toNat = F + each := by omega
    replace hl := hide hl
    clear hz hE hc hT hF heq h0
    by_cases hco : cap = F
    · have hx : ¬ F < F + each := by omega
      have hRd2 := hide (fun c => unhide hRd (some ⟨b, off, none⟩) (fun h => absurd h hx) c)
      clear hRd hx
      rcases hP5 with ⟨e, e'⟩ | ⟨e, hEI⟩ | ⟨e, hEI⟩ | ⟨e, hEI⟩ | ⟨e, hEI⟩
      · subst e
        subst e'
        go_enter Try.func91, Try.ntmps91
        go_wp2
        go_ret
        exact ⟨_, rfl, unhide hRd2 _, rfl⟩
      all_goals
        subst e
        go_enter Try.func91, Try.ntmps91
        go_wp2
        go_ret
        exact ⟨_, rfl, unhide hRd2 _, rfl⟩
    · have hRd2 := hide (fun c => unhide hRd (some ⟨b, off + F, none⟩) (fun _ => rfl) c)
      clear hRd
      rcases hP5 with ⟨e, e'⟩ | ⟨e, hEI⟩ | ⟨e, hEI⟩ | ⟨e, hEI⟩ | ⟨e, hEI⟩
      · subst e
        subst e'
        go_enter Try.func91, Try.ntmps91
        go_wp2
        go_ret
        exact ⟨_, rfl, unhide hRd2 _, rfl⟩
      all_goals
        subst e
        go_enter Try.func91, Try.ntmps91
        go_wp2
        go_ret
        exact ⟨_, rfl, unhide hRd2 _, rfl⟩
end Go.Proofs.Ytailhdfmfmlniaa
