/- What a part costs, and which plans may be: the program's walks. -/
import Derived.Test.YtailhdfmfmlniaaWPcB
import Derived.Test.YtailhdfmfmlniaaWReC
import Derived.Test.YtailhdfmfmlniaaWPa
import Derived.Test.YtailhdfmfmlniaaWHeld
import Derived.Test.YtailhdfmfmlniaaWUpd2
import Derived.Test.YtailhdfmfmlniaaWSums
namespace Go.Proofs.Ytailhdfmfmlniaa
open Go.RowKit

theorem implFoldS (n : Int) (h : -1073741824 ≤ n ∧ n ≤ 1073741824) (w : World) : Calls Try.prog 154 #[.int .i64 n] w fun e w' => e = .returned (.int .u64 (foldF n)) ∧ w' = w :=
  implFold n (by omega) (by omega) w
def keyP (key : Nat) (zs : List Int) (k : Nat) : Int := (1 + key) * zs.length + accZ (fun i => keyAt key (zs.getD i 0)) k
theorem keyP_bd (key : Nat) (zs : List Int) (k : Nat) (hk : key ≤ 25) (hn : zs.length ≤ 4000) (hk4 : k ≤ 4000) (h : InR (-1073741824) 1073741824 zs) : 0 ≤ keyP key zs k ∧ keyP key zs k ≤ 8589935000000 := by
  unfold keyP
  have h1 := accZ_bd (fun i => keyAt key (zs.getD i 0)) 2147483648 k (fun i _ => keyAt_bd key (zs.getD i 0) (getD_bd h (by omega) i))
  have h2 : (1 + (key : Int)) * zs.length ≤ 26 * 4000 := Int.mul_le_mul (by omega) (by omega) (by omega) (by omega)
  have h3 : 0 ≤ (1 + (key : Int)) * zs.length := Int.mul_nonneg (by omega) (by omega)
  have h4 : (k : Int) * 2147483648 ≤ 4000 * 2147483648 := Int.mul_le_mul_of_nonneg_right (by omega) (by omega)
  omega
set_option maxHeartbeats 8000000 in
theorem implKeyCost (key : Nat) (ad : Option Addr) (cap : Nat) (zs : List Int) (w : World) (hk : key ≤ 25) (hn : zs.length ≤ 4000) (hr : InR (-1073741824) 1073741824 zs) (hA : ArgI w ad zs) :
    Calls Try.prog 135 #[.slice ad zs.length cap, .int .i64 (key : Int)] w fun e w' => e = .returned (.int .i64 (keyC key zs)) ∧ w' = w := by
  by_cases h25 : key = 25
  · subst h25
    have hE : keyC 25 zs = 32 * zs.length := by unfold keyC; rw [if_pos rfl]
    rw [hE]
    clear hr hA hE
    go_enter Try.func135, Try.ntmps135
    go_wp2
    go_ret
    exact ⟨rfl, rfl⟩
  have hE : Hid (keyC key zs = keyP key zs zs.length) := hide (by unfold keyC keyP; rw [if_neg h25])
  have hBd := hide (fun k h => keyP_bd key zs k hk hn h hr)
  have hS : Hid (∀ k, keyP key zs (k + 1) = keyP key zs k + keyAt key (zs.getD k 0)) := hide (fun k => by unfold keyP; rw [accZ_succ]; omega)
  have h0 : Hid (keyP key zs 0 = (1 + (key : Int)) * zs.length) := hide (by unfold keyP accZ; omega)
  generalize keyC key zs = R at hE ⊢
  generalize keyP key zs = S at hE hBd hS h0
  have q : ((key : Int) == 25) = false := by rw [beq_eq_false_iff_ne]; omega
  replace hr := hide hr
  replace hA := hide hA
  obtain ⟨M, hM⟩ : ∃ M, (1 + (key : Int)) * (zs.length : Int) = M := ⟨_, rfl⟩
  have hM0 : 0 ≤ M := by rw [← hM]; exact Int.mul_nonneg (by omega) (by omega)
  have hM1 : M ≤ 26 * 4000 := by rw [← hM]; exact Int.mul_le_mul (by omega) (by omega) (by omega) (by omega)
  rw [hM] at h0
  clear h25
  go_enter Try.func135, Try.ntmps135
  go_wp2
  go_loop [5, 7, 20] (fun c _ i => ∃ k : Nat, k ≤ zs.length ∧ i = .int .i64 k ∧ c = .int .i64 (S k)) (fun _ _ i => zs.length - (intOf i).toNat)
  case atStart => exact ⟨0, Nat.zero_le _, rfl, by rw [unhide h0]⟩
  case round =>
    obtain ⟨k, hk', rfl, rfl⟩ := hrel
    by_cases hlt : k < zs.length
    · obtain ⟨bb, off, rfl, hbl, hcl⟩ := (unhide hA) (ne_of_lt_length hlt)
      have hck := hcl k hlt
      have hrk := unhide hr k hlt
      have hSk := unhide hS k
      have hb1 := unhide hBd k (by omega)
      have hkb := keyAt_bd key (zs.getD k 0) hrk
      have hfb := foldF_bdZ (zs.getD k 0) hrk
      have hKA : Hid (keyAt key (zs.getD k 0) = foldF (zs.getD k 0) / 2 ^ key) := hide rfl
      have hF := hide (fun W => implFoldS (zs.getD k 0) hrk W)
      clear hcl hbl hM hM0 hM1
      generalize keyAt key (zs.getD k 0) = ka at hSk hkb hKA
      generalize foldF (zs.getD k 0) = fo at hfb hKA hF
      generalize zs.getD k 0 = x at hck hF
      generalize S k = s at hSk hb1 ⊢
      generalize hs2 : S (k + 1) = s2 at hSk
      have hs3 : Hid (S (k + 1) = s2) := hide hs2
      clear hs2 hrk
      obtain ⟨b1, b2⟩ := hb1
      obtain ⟨k1, k2⟩ := hkb
      obtain ⟨f1, f2⟩ := hfb
      have kI : (0 : Int) ≤ (k : Int) := by omega
      have kL : (k : Int) < (zs.length : Int) := by omega
      go_wp2_with fail
      refine (unhide hF _).mono ?_
      rintro e w1 ⟨rfl, rfl⟩
      go_wp2
      go_round
      case rel => exact ⟨k + 1, by omega, by go_num, by rw [unhide hs3, hSk, ← unhide hKA]; first | (congr 1; unfold wrap64; omega) | rfl⟩
      case measure => simp [intOf]; omega
    · have hkl : k = zs.length := by omega
      subst hkl
      go_wp2
      go_ret
      exact ⟨by rw [unhide hE]; rfl, rfl⟩
abbrev pacD (o p : Int) (v : Value) : List Value := [.int .i64 o, .int .i64 p, v]
set_option maxHeartbeats 4000000 in
theorem implMayOrder (o p : Int) (N : Nat) (v : Value) (w : World) (hv : ∃ ad n cap, v = .slice ad n cap) :
    Calls Try.prog 131 #[.agg #[.int .i64 o, .int .i64 p, v], .int .i64 (N : Int)] w fun e w' => e = .returned (.bool (decide ((0 ≤ o ∧ o ≤ 4) ∧ o ≤ (N : Int)))) ∧ Upd 0 0 w w' := by
  obtain ⟨ad, n, cap, rfl⟩ := hv
  have hU := hide (Upd.of_below ((Below.refl w.heap.size w).alloc (Nat.le_refl _) (.cells #[.int .i64 o, .int .i64 p, .slice ad n cap] 45)) 0 0)
  have hG := hide (fun W => implGoodOrder o W)
  by_cases h1 : 0 ≤ o ∧ o ≤ 4
  · rw [decide_eq_true h1] at hG
    have e : decide ((0 ≤ o ∧ o ≤ 4) ∧ o ≤ (N : Int)) = decide (o ≤ (N : Int)) := by rw [decide_eq_decide]; exact ⟨fun h => h.2, fun h => ⟨h1, h⟩⟩
    rw [e]
    clear e h1
    go_enter Try.func131, Try.ntmps131
    go_wp2_with fail
    refine (unhide hG _).mono ?_
    rintro e w1 ⟨rfl, rfl⟩
    go_wp2
    go_ret
    exact ⟨rfl, unhide hU⟩
  · rw [decide_eq_false h1] at hG
    rw [decide_eq_false (fun h => h1 h.1)]
    clear h1
    go_enter Try.func131, Try.ntmps131
    go_wp2_with fail
    refine (unhide hG _).mono ?_
    rintro e w1 ⟨rfl, rfl⟩
    go_wp2
    go_ret
    exact ⟨rfl, unhide hU⟩
end Go.Proofs.Ytailhdfmfmlniaa
