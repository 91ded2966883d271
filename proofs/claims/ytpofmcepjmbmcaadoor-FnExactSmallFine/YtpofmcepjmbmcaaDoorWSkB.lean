/- Coarse numbers: the specification's walk. -/
import Derived.Test.YtpofmcepjmbmcaaDoorWSkA
import Derived.Test.YtpofmcepjmbmcaaDoorWHeld
namespace Go.Proofs.YtpofmcepjmbmcaaDoor
open Go.RowKit

/-- The specification's factors and its answer under way. -/
structure KoSt (w wr : World) (L : List Value) (ys : List Int) : Prop where
  tb : HeldF wr w.heap.size L
  out : RowI wr (w.heap.size + 1) 16 (ints ys)
  bel : Below w.heap.size w wr
theorem KoSt.upd {w wr wx : World} {L : List Value} {ys : List Int} (h : KoSt w wr L ys) (u : Upd 0 0 wr wx) : KoSt w wx L ys :=
  ⟨h.tb.keep u, h.out.keep u, below_upd h.bel u (Nat.le_refl _) (.inr (Nat.zero_le _))⟩
theorem KoSt.put {w wr : World} {L : List Value} {ys : List Int} (h : KoSt w wr L ys) (k : Nat) (x : Int) : KoSt w (wr.setCell ⟨w.heap.size + 1, k, none⟩ (.int .i64 x)) L (ys.set k x) :=
  ⟨h.tb.other (by omega) k _, by have := h.out.set k (.int .i64 x); rw [show (ints ys).set k (.int .i64 x) = ints (ys.set k x) by unfold ints; rw [List.map_set]] at this; exact this, h.bel.setCell (p := ⟨w.heap.size + 1, k, none⟩) (by simp) _⟩
def coL (zs : List Int) (s : Nat) (p : Nat) : Int := smCo (zs.getD p 0) p s
theorem koSt_new (w : World) (L : List Value) (o16 : Obj) (hmk : ∀ X : World, RowI (X.alloc o16) X.heap.size 16 (List.replicate 16 (.int .i64 0))) (f : Nat → Int) : KoSt w ((w.alloc (.cells L.toArray 3)).alloc o16) L (tab16 (prt f id 0 0)) := by
  refine ⟨(heldF_new w L _).keep (Upd.of_below ((Below.refl _ _).alloc (Nat.le_refl _) _) 0 0), ?_, ((Below.refl _ w).alloc (Nat.le_refl _) _).alloc (by simp) _⟩
  have h := hmk (w.alloc (.cells L.toArray 3))
  rw [show (w.alloc (.cells L.toArray 3)).heap.size = w.heap.size + 1 by simp] at h
  rw [prt_zero]
  exact h
set_option maxHeartbeats 64000000 in
set_option maxRecDepth 100000 in
theorem specL13Coarse (ad : Option Addr) (cap : Nat) (zs : List Int) (s : Int) (w : World) (hl : zs.length = 16) (hz : InR (-65536) 65536 zs) (hs : 0 ≤ s ∧ s ≤ 40) (hA : ArgI w ad zs) :
    Calls Tryd.prog 74 #[.slice ad 16 cap, .int .i64 s] w fun e w' => ∃ v, e = .returned v ∧ OwnI w' w.heap.size w'.heap.size v (tab16 (coL zs s.toNat)) ∧ Upd 0 0 w w' := by
  obtain ⟨q, r, hq, hr, q6, r6, e1, e2⟩ := step_parts s hs.1 hs.2
  obtain ⟨o16, hmk⟩ := mkRowI 16 (by omega)
  have hmk1 : ∀ X : World, (Instr.makeSlice 23 (.int .i64 16) (.int .i64 16)).run Tryd.prog X = .ok (.slice (some ⟨X.heap.size, 0, none⟩) 16 16) (X.alloc o16) := fun X => (hmk X).1
  have hN0 := hide (koSt_new w [.int .i64 13107, .int .i64 5243, .int .i64 8066, .int .i64 11916, .int .i64 4660, .int .i64 7490, .int .i64 10082, .int .i64 4194, .int .i64 6554, .int .i64 9362, .int .i64 3647, .int .i64 5825, .int .i64 8192, .int .i64 3355, .int .i64 5243, .int .i64 7282, .int .i64 2893, .int .i64 4559] o16 (fun X => (hmk X).2) (coL zs s.toNat))
  have hF : Hid (∀ p, coL zs s.toNat p = coZ (zs.getD p 0) (smM r (smClass p)) q) := hide (fun p => by unfold coL; rw [smCo_eq, hq, hr])
  have hT : Hid (∀ k, k < 18 → ([.int .i64 13107, .int .i64 5243, .int .i64 8066, .int .i64 11916, .int .i64 4660, .int .i64 7490, .int .i64 10082, .int .i64 4194, .int .i64 6554, .int .i64 9362, .int .i64 3647, .int .i64 5825, .int .i64 8192, .int .i64 3355, .int .i64 5243, .int .i64 7282, .int .i64 2893, .int .i64 4559] : List Value)[k]? = some (.int .i64 (([13107, 5243, 8066, 11916, 4660, 7490, 10082, 4194, 6554, 9362, 3647, 5825, 8192, 3355, 5243, 7282, 2893, 4559] : List Int).getD k 0))) := hide (fun k hk => by
    rcases (show k = 0 ∨ k = 1 ∨ k = 2 ∨ k = 3 ∨ k = 4 ∨ k = 5 ∨ k = 6 ∨ k = 7 ∨ k = 8 ∨ k = 9 ∨ k = 10 ∨ k = 11 ∨ k = 12 ∨ k = 13 ∨ k = 14 ∨ k = 15 ∨ k = 16 ∨ k = 17 by omega) with e | e | e | e | e | e | e | e | e | e | e | e | e | e | e | e | e | e <;> subst e <;> rfl)
  replace hl := hide hl
  replace hA := hide hA
  replace hz := hide hz
  replace hq := hide hq
  replace hr := hide hr
  obtain ⟨s0, s1⟩ := hs
  clear hmk
  go_enter Tryd.func74, Tryd.ntmps74
  go_wp2_with fail
  generalize (w.alloc (.cells #[.int .i64 13107, .int .i64 5243, .int .i64 8066, .int .i64 11916, .int .i64 4660, .int .i64 7490, .int .i64 10082, .int .i64 4194, .int .i64 6554, .int .i64 9362, .int .i64 3647, .int .i64 5825, .int .i64 8192, .int .i64 3355, .int .i64 5243, .int .i64 7282, .int .i64 2893, .int .i64 4559] 3)).alloc o16 = w0 at hN0 ⊢
  clear hmk1
  go_loopw [18] (fun i wr => ∃ k : Nat, k ≤ 16 ∧ i = .int .i64 (k : Int) ∧ Hid (KoSt w wr [.int .i64 13107, .int .i64 5243, .int .i64 8066, .int .i64 11916, .int .i64 4660, .int .i64 7490, .int .i64 10082, .int .i64 4194, .int .i64 6554, .int .i64 9362, .int .i64 3647, .int .i64 5825, .int .i64 8192, .int .i64 3355, .int .i64 5243, .int .i64 7282, .int .i64 2893, .int .i64 4559] (tab16 (prt (coL zs s.toNat) id k 0)))) (fun i _ => 16 - (intOf i).toNat)
  case atStart => exact ⟨0, by omega, rfl, hN0⟩
  case round =>
    clear hN0
    obtain ⟨k, hk, rfl, hN⟩ := hrel
    by_cases hklt : k < 16
    · have hkb : decide ((k : Int) < 16) = true := decide_eq_true (by omega)
      obtain ⟨bb, off, hse, hbl, hcl⟩ := (unhide hA) (ne_of_lt_length (k := 0) (by have := unhide hl; omega))
      have hck : wr.cell? ⟨bb, off + k, none⟩ = some (.int .i64 (zs.getD k 0)) := ((unhide hN).bel.cell (by simpa using hbl)).trans (hcl k (by have := unhide hl; omega))
      subst hse
      obtain ⟨x0, x1⟩ := unhide hz k (by have := unhide hl; omega)
      have hFk := unhide hF k
      obtain ⟨c, hc⟩ : ∃ c, smClass k = c := ⟨_, rfl⟩
      have hc3 : c < 3 := by rw [← hc]; exact smClass_lt k
      have hCl := hide (fun W => specL13Class k W hklt)
      rw [hc] at hCl hFk
      obtain ⟨j, hj⟩ : ∃ j, 3 * r + c = j := ⟨_, rfl⟩
      have hm := smM_bd r c r6 hc3
      have hmk : smM r c = ([13107, 5243, 8066, 11916, 4660, 7490, 10082, 4194, 6554, 9362, 3647, 5825, 8192, 3355, 5243, 7282, 2893, 4559] : List Int).getD j 0 := by unfold smM; rw [hj]
      have hcm : wr.cell? ⟨w.heap.size, j, none⟩ = some (.int .i64 (smM r c)) := by rw [hmk]; exact (unhide hN).tb.1.2 j _ (unhide hT j (by omega))
      generalize smM r c = m at hm hmk hcm hFk
      have hAb := hide (fun W => specAbsW (zs.getD k 0) W (by omega))
      have hset := prt_set (coL zs s.toNat) id k 0 (coL zs s.toNat k) k hklt rfl (fun _ _ e => e)
      have hput := hide ((unhide hN).put k (coL zs s.toNat k))
      rw [hset, prt_next (coL zs s.toNat) id k (coL zs s.toNat k) (fun i _ e => by have e2 : i = k := e; rw [e2])] at hput
      obtain ⟨old, hdst⟩ := (unhide hN).out.has k hklt
      have hfz := (unhide hN).out.frozen k
      rw [hFk] at hput
      generalize zs.getD k 0 = x at hck x0 x1 hput hAb
      have d1 : 3 * (r : Int) + (c : Int) = (j : Int) := by omega
      have j0 : (0 : Int) ≤ (j : Int) := by omega
      have j1 : (j : Int) < 18 := by omega
      obtain ⟨m0, m1⟩ := hm
      have hmi := mul_in (absI x) m 65536 13107 (absI_bd x 65536 ⟨by omega, by omega⟩) ⟨by omega, m1⟩
      have hab := absI_bd x 65536 ⟨by omega, by omega⟩
      obtain ⟨P, hP⟩ : ∃ P, absI x * m = P := ⟨_, rfl⟩
      rw [hP] at hmi
      obtain ⟨P0, P1⟩ := hmi
      have k0 : (0 : Int) ≤ (k : Int) := by omega
      have k1 : (k : Int) < 16 := by omega
      clear hset hFk hN hmk hcl hbl hc hj
      obtain ⟨w1, w2, w3⟩ := sh_wraps P (2 ^ (14 + q)) (2 ^ (15 + q)) P0 (by omega) (pow_q q q6).1 (pow_q q q6).2
      by_cases hneg : x < 0
      · have hv : Hid (coZ x m q = -((P + 2 ^ (14 + q)) / 2 ^ (15 + q))) := hide (by
          unfold coZ; rw [if_pos hneg, ← hP, show absI x = -x from if_pos hneg])
        rw [unhide hv] at hput
        clear hv
        go_wp2_with (first | (go_at_call 103; refine (unhide hAb _).mono ?_; rintro e wz ⟨rfl, hwz⟩; subst wz) | (go_at_call 104; refine (unhide hCl _).mono ?_; rintro e wz ⟨rfl, hwz⟩; subst wz))
        go_roundw
        case rel => exact ⟨k + 1, by omega, by go_num, hput⟩
        case measure => simp [intOf]; omega
      · have hv : Hid (coZ x m q = (P + 2 ^ (14 + q)) / 2 ^ (15 + q)) := hide (by
          unfold coZ; rw [if_neg hneg, ← hP, show absI x = x from if_neg hneg])
        rw [unhide hv] at hput
        clear hv
        go_wp2_with (first | (go_at_call 103; refine (unhide hAb _).mono ?_; rintro e wz ⟨rfl, hwz⟩; subst wz) | (go_at_call 104; refine (unhide hCl _).mono ?_; rintro e wz ⟨rfl, hwz⟩; subst wz))
        go_roundw
        case rel => exact ⟨k + 1, by omega, by go_num, hput⟩
        case measure => simp [intOf]; omega
    · obtain rfl : k = 16 := by omega
      have hN2 := unhide hN
      rw [prt_done (coL zs s.toNat) id (fun k hk => hk)] at hN2
      have hlt := hN2.out.lt
      have hO2 : Hid (OwnI wr w.heap.size wr.heap.size (.slice (some ⟨w.heap.size + 1, 0, none⟩) 16 16) (tab16 (coL zs s.toNat))) := hide (by
        have h := own_mono hN2.out.own (Nat.le_succ w.heap.size) (Nat.succ_le_of_lt hlt)
        unfold OwnI
        rw [tab16_length]
        exact h)
      have hU := hide (Upd.of_below hN2.bel 0 0)
      clear hN2 hN hlt
      go_wp2
      go_ret
      exact ⟨_, rfl, unhide hO2, unhide hU⟩
end Go.Proofs.YtpofmcepjmbmcaaDoor
