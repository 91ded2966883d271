/- Fine numbers: the specification's walk. -/
import Derived.Test.YtpofmcepjmbmcaaDoorWSkB
namespace Go.Proofs.YtpofmcepjmbmcaaDoor
open Go.RowKit

def fiL (zs : List Int) (s : Nat) (p : Nat) : Int := smFi (zs.getD p 0) p s
theorem fi_at (n v : Int) (q : Nat) : n * (v * 2 ^ q) = n * v * 2 ^ q := (Int.mul_assoc _ _ _).symm
theorem pow_f (q : Nat) (h : q ≤ 6) : (1 : Int) ≤ 2 ^ q ∧ (2 : Int) ^ q ≤ 64 := by
  rcases (show q = 0 ∨ q = 1 ∨ q = 2 ∨ q = 3 ∨ q = 4 ∨ q = 5 ∨ q = 6 by omega) with e | e | e | e | e | e | e <;> subst e <;> decide
theorem fi_bd (P A : Int) (h : -1900544 ≤ P ∧ P ≤ 1900544) (hA : 1 ≤ A ∧ A ≤ 64) : -121634816 ≤ P * A ∧ P * A ≤ 121634816 := by
  have := mul_both P A 1900544 64 h ⟨by omega, hA.2⟩
  omega
theorem wrap_sm (n : Int) (h : -121634816 ≤ n ∧ n ≤ 121634816) : wrap64 n = n := by unfold wrap64; omega
set_option maxHeartbeats 64000000 in
set_option maxRecDepth 100000 in
theorem specL13Fine (ad : Option Addr) (cap : Nat) (zs : List Int) (s : Int) (w : World) (hl : zs.length = 16) (hz : InR (-65536) 65536 zs) (hs : 0 ≤ s ∧ s ≤ 40) (hA : ArgI w ad zs) :
    Calls Tryd.prog 80 #[.slice ad 16 cap, .int .i64 s] w fun e w' => ∃ v, e = .returned v ∧ OwnI w' w.heap.size w'.heap.size v (tab16 (fiL zs s.toNat)) ∧ Upd 0 0 w w' := by
  obtain ⟨q, r, hq, hr, q6, r6, e1, e2⟩ := step_parts s hs.1 hs.2
  obtain ⟨o16, hmk⟩ := mkRowI 16 (by omega)
  have hmk1 : ∀ X : World, (Instr.makeSlice 23 (.int .i64 16) (.int .i64 16)).run Tryd.prog X = .ok (.slice (some ⟨X.heap.size, 0, none⟩) 16 16) (X.alloc o16) := fun X => (hmk X).1
  have hN0 := hide (koSt_new w [.int .i64 10, .int .i64 16, .int .i64 13, .int .i64 11, .int .i64 18, .int .i64 14, .int .i64 13, .int .i64 20, .int .i64 16, .int .i64 14, .int .i64 23, .int .i64 18, .int .i64 16, .int .i64 25, .int .i64 20, .int .i64 18, .int .i64 29, .int .i64 23] o16 (fun X => (hmk X).2) (fiL zs s.toNat))
  have hF : Hid (∀ p, fiL zs s.toNat p = cutZ (-65536) 65535 (zs.getD p 0 * (smV r (smClass p)) * 2 ^ q)) := hide (fun p => by unfold fiL smFi; rw [hq, hr, fi_at])
  have hT : Hid (∀ k, k < 18 → ([.int .i64 10, .int .i64 16, .int .i64 13, .int .i64 11, .int .i64 18, .int .i64 14, .int .i64 13, .int .i64 20, .int .i64 16, .int .i64 14, .int .i64 23, .int .i64 18, .int .i64 16, .int .i64 25, .int .i64 20, .int .i64 18, .int .i64 29, .int .i64 23] : List Value)[k]? = some (.int .i64 (([10, 16, 13, 11, 18, 14, 13, 20, 16, 14, 23, 18, 16, 25, 20, 18, 29, 23] : List Int).getD k 0))) := hide (fun k hk => by
    rcases (show k = 0 ∨ k = 1 ∨ k = 2 ∨ k = 3 ∨ k = 4 ∨ k = 5 ∨ k = 6 ∨ k = 7 ∨ k = 8 ∨ k = 9 ∨ k = 10 ∨ k = 11 ∨ k = 12 ∨ k = 13 ∨ k = 14 ∨ k = 15 ∨ k = 16 ∨ k = 17 by omega) with e | e | e | e | e | e | e | e | e | e | e | e | e | e | e | e | e | e <;> subst e <;> rfl)
  replace hl := hide hl
  replace hA := hide hA
  replace hz := hide hz
  replace hq := hide hq
  replace hr := hide hr
  obtain ⟨s0, s1⟩ := hs
  clear hmk
  go_enter Tryd.func80, Tryd.ntmps80
  go_wp2_with fail
  generalize (w.alloc (.cells #[.int .i64 10, .int .i64 16, .int .i64 13, .int .i64 11, .int .i64 18, .int .i64 14, .int .i64 13, .int .i64 20, .int .i64 16, .int .i64 14, .int .i64 23, .int .i64 18, .int .i64 16, .int .i64 25, .int .i64 20, .int .i64 18, .int .i64 29, .int .i64 23] 3)).alloc o16 = w0 at hN0 ⊢
  clear hmk1
  go_loopw [14] (fun i wr => ∃ k : Nat, k ≤ 16 ∧ i = .int .i64 (k : Int) ∧ Hid (KoSt w wr [.int .i64 10, .int .i64 16, .int .i64 13, .int .i64 11, .int .i64 18, .int .i64 14, .int .i64 13, .int .i64 20, .int .i64 16, .int .i64 14, .int .i64 23, .int .i64 18, .int .i64 16, .int .i64 25, .int .i64 20, .int .i64 18, .int .i64 29, .int .i64 23] (tab16 (prt (fiL zs s.toNat) id k 0)))) (fun i _ => 16 - (intOf i).toNat)
  case atStart => exact ⟨0, by omega, rfl, hN0⟩
  case round =>
    clear hN0
    obtain ⟨k, hk, rfl, hN⟩ := hrel
    by_cases hklt : k < 16
    · have hkb : decide ((k : Int) < 16) = true := decide_eq_true (by omega)
      obtain ⟨bb, off, hse, hbl, hcl⟩ := (unhide hA) (ne_of_lt_length (k := 0) (by have := unhide hl; omega))
      have hck : wr.cell? ⟨bb, off + k, none⟩ = some (.int .i64 (zs.getD k 0)) := ((unhide hN).bel.cell (by simpa using hbl)).trans (hcl k (by have := unhide hl; omega))
      subst hse
      obtain ⟨x0, x1⟩ := unhide hz k (by have := unhide hl; omega)
      have hFk := unhide hF k
      obtain ⟨c, hc⟩ : ∃ c, smClass k = c := ⟨_, rfl⟩
      have hc3 : c < 3 := by rw [← hc]; exact smClass_lt k
      have hCl := hide (fun W => specL13Class k W hklt)
      rw [hc] at hCl hFk
      obtain ⟨j, hj⟩ : ∃ j, 3 * r + c = j := ⟨_, rfl⟩
      have hm := smV_bd r c r6 hc3
      have hmk : smV r c = ([10, 16, 13, 11, 18, 14, 13, 20, 16, 14, 23, 18, 16, 25, 20, 18, 29, 23] : List Int).getD j 0 := by unfold smV; rw [hj]
      have hcm : wr.cell? ⟨w.heap.size, j, none⟩ = some (.int .i64 (smV r c)) := by rw [hmk]; exact (unhide hN).tb.1.2 j _ (unhide hT j (by omega))
      generalize smV r c = m at hm hmk hcm hFk
      have hset := prt_set (fiL zs s.toNat) id k 0 (fiL zs s.toNat k) k hklt rfl (fun _ _ e => e)
      have hput := hide ((unhide hN).put k (fiL zs s.toNat k))
      rw [hset, prt_next (fiL zs s.toNat) id k (fiL zs s.toNat k) (fun i _ e => by have e2 : i = k := e; rw [e2])] at hput
      obtain ⟨old, hdst⟩ := (unhide hN).out.has k hklt
      have hfz := (unhide hN).out.frozen k
      rw [hFk] at hput
      generalize zs.getD k 0 = x at hck x0 x1 hput
      have d1 : 3 * (r : Int) + (c : Int) = (j : Int) := by omega
      have j0 : (0 : Int) ≤ (j : Int) := by omega
      have j1 : (j : Int) < 18 := by omega
      obtain ⟨m0, m1⟩ := hm
      have hmi := mul_both x m 65536 29 ⟨x0, by omega⟩ ⟨by omega, m1⟩
      obtain ⟨P, hP⟩ : ∃ P, x * m = P := ⟨_, rfl⟩
      rw [hP] at hmi hput
      obtain ⟨P0, P1⟩ := hmi
      have hYb := fi_bd P (2 ^ q) ⟨by omega, by omega⟩ (pow_f q q6)
      obtain ⟨Y, hY⟩ : ∃ Y, P * 2 ^ q = Y := ⟨_, rfl⟩
      rw [hY] at hYb hput
      obtain ⟨Y0, Y1⟩ := hYb
      have wY := wrap_sm Y ⟨Y0, Y1⟩
      have k0 : (0 : Int) ≤ (k : Int) := by omega
      have k1 : (k : Int) < 16 := by omega
      clear hset hFk hN hmk hcl hbl hc hj
      by_cases c1 : Y < -65536
      · have hv : Hid (cutZ (-65536) 65535 Y = -65536) := hide (by unfold cutZ; rw [if_pos c1])
        rw [unhide hv] at hput
        clear hv
        go_wp2_with (go_at_call 104; refine (unhide hCl _).mono ?_; rintro e wz ⟨rfl, hwz⟩; subst wz)
        go_roundw
        case rel => exact ⟨k + 1, by omega, by go_num, hput⟩
        case measure => simp [intOf]; omega
      · by_cases c2 : 65535 < Y
        · have hv : Hid (cutZ (-65536) 65535 Y = 65535) := hide (by unfold cutZ; rw [if_neg c1, if_pos c2])
          rw [unhide hv] at hput
          clear hv
          go_wp2_with (go_at_call 104; refine (unhide hCl _).mono ?_; rintro e wz ⟨rfl, hwz⟩; subst wz)
          go_roundw
          case rel => exact ⟨k + 1, by omega, by go_num, hput⟩
          case measure => simp [intOf]; omega
        · have hv : Hid (cutZ (-65536) 65535 Y = Y) := hide (by unfold cutZ; rw [if_neg c1, if_neg c2])
          rw [unhide hv] at hput
          clear hv
          go_wp2_with (go_at_call 104; refine (unhide hCl _).mono ?_; rintro e wz ⟨rfl, hwz⟩; subst wz)
          go_roundw
          case rel => exact ⟨k + 1, by omega, by go_num, hput⟩
          case measure => simp [intOf]; omega
    · obtain rfl : k = 16 := by omega
      have hN2 := unhide hN
      rw [prt_done (fiL zs s.toNat) id (fun k hk => hk)] at hN2
      have hlt := hN2.out.lt
      have hO2 : Hid (OwnI wr w.heap.size wr.heap.size (.slice (some ⟨w.heap.size + 1, 0, none⟩) 16 16) (tab16 (fiL zs s.toNat))) := hide (by
        have h := own_mono hN2.out.own (Nat.le_succ w.heap.size) (Nat.succ_le_of_lt hlt)
        unfold OwnI
        rw [tab16_length]
        exact h)
      have hU := hide (Upd.of_below hN2.bel 0 0)
      clear hN2 hN hlt
      go_wp2
      go_ret
      exact ⟨_, rfl, unhide hO2, unhide hU⟩
end Go.Proofs.YtpofmcepjmbmcaaDoor
