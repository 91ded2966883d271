/- Small blocks: the specification's sums forward. -/
import Derived.Test.YtpofmcepjmbmcaaDoorWSmA
import Derived.Test.YtpofmcepjmbmcaaDoorPlainSmB
import Derived.Test.YtpofmcepjmbmcaaDoorWRowI
import Derived.Test.YtpofmcepjmbmcaaDoorWQT
namespace Go.Proofs.YtpofmcepjmbmcaaDoor
open Go.RowKit

def outZ (zs : List Int) (p : Nat) : Int := sumS (colZ (tab16 (midZ zs)) (p % 4)) (p / 4)
theorem fwd_out (zs : List Int) : turn4 sumS (turn4 sumS zs) = tab16 (outZ zs) := turn_twice sumS zs
theorem ints_tab16 (f : Nat → Int) (p : Nat) (hp : p < 16) : (ints (tab16 f))[p]? = some (.int .i64 (f p)) := by
  unfold ints tab16
  rw [List.getElem?_map, List.getElem?_map, List.getElem?_range hp]
  rfl
/-- The specification's two rows under way. -/
structure FwSt (w wr : World) (xs ys : List Int) : Prop where
  mid : RowI wr w.heap.size 16 (ints xs)
  out : RowI wr (w.heap.size + 1) 16 (ints ys)
  bel : Below w.heap.size w wr
theorem FwSt.upd {w wr wx : World} {xs ys : List Int} (h : FwSt w wr xs ys) (u : Upd 0 0 wr wx) : FwSt w wx xs ys :=
  ⟨h.mid.keep u, h.out.keep u, below_upd h.bel u (Nat.le_refl _) (.inr (Nat.zero_le _))⟩
theorem ints_setS (xs : List Int) (k : Nat) (x : Int) : (ints xs).set k (.int .i64 x) = ints (xs.set k x) := by unfold ints; rw [List.map_set]
theorem FwSt.put {w wr : World} {xs ys : List Int} (h : FwSt w wr xs ys) (k : Nat) (x : Int) : FwSt w (wr.setCell ⟨w.heap.size, k, none⟩ (.int .i64 x)) (xs.set k x) ys :=
  ⟨by have := h.mid.set k (.int .i64 x); rw [ints_setS] at this; exact this, h.out.other (by omega) k _, h.bel.setCell (p := ⟨w.heap.size, k, none⟩) (Nat.le_refl _) _⟩
theorem FwSt.putO {w wr : World} {xs ys : List Int} (h : FwSt w wr xs ys) (k : Nat) (x : Int) : FwSt w (wr.setCell ⟨w.heap.size + 1, k, none⟩ (.int .i64 x)) xs (ys.set k x) :=
  ⟨h.mid.other (by omega) k _, by have := h.out.set k (.int .i64 x); rw [ints_setS] at this; exact this, h.bel.setCell (p := ⟨w.heap.size + 1, k, none⟩) (by simp) _⟩
set_option maxHeartbeats 64000000 in
set_option maxRecDepth 100000 in
theorem specL13Forward (ad : Option Addr) (cap : Nat) (zs : List Int) (w : World) (hl : zs.length = 16) (hz : InR (-65536) 65536 zs) (hA : ArgI w ad zs) :
    Calls Tryd.prog 75 #[.slice ad 16 cap] w fun e w' => ∃ v, e = .returned v ∧ OwnI w' w.heap.size w'.heap.size v (turn4 sumS (turn4 sumS zs)) ∧ Upd 0 0 w w' := by
  have hRow : ∀ a, a < 4 → ∀ j, j < 4 → -65536 ≤ (rowZ zs a).getD j 0 ∧ (rowZ zs a).getD j 0 ≤ 65536 := rowZ_bd hl hz
  have hMid : Hid (∀ a, a < 4 → ∀ j, j < 4 → -393216 ≤ (colZ (tab16 (midZ zs)) a).getD j 0 ∧ (colZ (tab16 (midZ zs)) a).getD j 0 ≤ 393216) := hide (fun a ha j hj => by
    rw [colZ_getD _ a j hj, tab16_getD _ _ (by omega)]
    exact sumS_bd (K := 65536) _ (by omega) (hRow _ (by omega)))
  replace hRow := hRow
  obtain ⟨o16, hmk⟩ := mkRowI 16 (by omega)
  have hmk1 : ∀ X : World, (Instr.makeSlice 23 (.int .i64 16) (.int .i64 16)).run Tryd.prog X = .ok (.slice (some ⟨X.heap.size, 0, none⟩) 16 16) (X.alloc o16) := fun X => (hmk X).1
  have hN0 : Hid (FwSt w ((w.alloc o16).alloc o16) (tab16 (prt (midZ zs) id (4 * 0) 0)) (List.replicate 16 0)) := hide (by
    have e : ints (List.replicate 16 0) = List.replicate 16 (.int .i64 0) := rfl
    refine ⟨?_, ?_, ?_⟩
    · rw [prt_zero, e]; exact (hmk w).2.alloc _
    · have h := (hmk (w.alloc o16)).2
      rw [show (w.alloc o16).heap.size = w.heap.size + 1 by simp] at h
      rw [e]; exact h
    · exact ((Below.refl _ w).alloc (Nat.le_refl _) _).alloc (by simp) _)
  replace hl := hide hl
  replace hA := hide hA
  clear hmk hz
  go_enter Tryd.func75, Tryd.ntmps75
  go_wp2_with fail
  generalize (w.alloc o16).alloc o16 = w0 at hN0 ⊢
  go_loopw [5] (fun i wr => ∃ a : Nat, a ≤ 4 ∧ i = .int .i64 (a : Int) ∧ Hid (FwSt w wr (tab16 (prt (midZ zs) id (4 * a) 0)) (List.replicate 16 0))) (fun i _ => 4 - (intOf i).toNat)
  case atStart => exact ⟨0, by omega, rfl, hN0⟩
  case round =>
    clear hN0
    obtain ⟨a, ha, rfl, hN⟩ := hrel
    by_cases halt : a < 4
    · have hab : decide ((a : Int) < 4) = true := decide_eq_true (by omega)
      go_wp2_with fail
      go_loopw [6] (fun i wr => ∃ b : Nat, b ≤ 4 ∧ i = .int .i64 (b : Int) ∧ Hid (FwSt w wr (tab16 (prt (midZ zs) id (4 * a + b) 0)) (List.replicate 16 0))) (fun i _ => 4 - (intOf i).toNat)
      case atStart => exact ⟨0, by omega, rfl, hN⟩
      case round =>
        clear hN
        obtain ⟨b, hb, rfl, hN⟩ := hrel
        by_cases hblt : b < 4
        · have hbb : decide ((b : Int) < 4) = true := decide_eq_true (by omega)
          obtain ⟨p, hp⟩ : ∃ p, 4 * a + b = p := ⟨_, rfl⟩
          have hp16 : p < 16 := by omega
          have hS0 : Hid ((0 : Int) = sumT (rowZ zs a) b 0) := hide rfl
          go_wp2_with fail
          go_loopw [7] (fun i wr => ∃ (c : Nat) (S : Int), c ≤ 4 ∧ i = .int .i64 (c : Int) ∧ Hid (S = sumT (rowZ zs a) b c) ∧ Hid (FwSt w wr (tab16 (prt (midZ zs) id (4 * a + b) S)) (List.replicate 16 0))) (fun i _ => 4 - (intOf i).toNat)
          case atStart => exact ⟨0, 0, by omega, rfl, hS0, hN⟩
          case round =>
            clear hN hS0
            obtain ⟨c, S, hc, rfl, hS, hN⟩ := hrel
            by_cases hclt : c < 4
            · have hSb := sumT_bd b (hRow a halt) c (by omega)
              rw [← unhide hS] at hSb
              have hSb2 : -4000000 ≤ S ∧ S ≤ 4000000 := by
                have h9 : 2 * (65536 : Int) * (c : Int) ≤ 2 * 65536 * 4 := Int.mul_le_mul_of_nonneg_left (by omega) (by omega)
                omega
              clear hSb
              obtain ⟨S0, S1⟩ := hSb2
              have hnx : Hid (sumT (rowZ zs a) b (c + 1) = S + smT b c * (rowZ zs a).getD c 0) := hide (by rw [unhide hS]; rfl)
              obtain ⟨bb, off, hse, hbl, hcl⟩ := (unhide hA) (ne_of_lt_length (k := 0) (by have := unhide hl; omega))
              have hck : wr.cell? ⟨bb, off + (4 * a + c), none⟩ = some (.int .i64 (zs.getD (4 * a + c) 0)) := ((unhide hN).bel.cell (by simpa using hbl)).trans (hcl _ (by have := unhide hl; omega))
              have hbw : bb < wr.heap.size := Nat.lt_of_lt_of_le hbl (unhide hN).bel.size
              subst hse
              have hx := hRow a halt c hclt
              rw [rowZ_getD zs a c hclt] at hnx hx
              obtain ⟨q, hq⟩ : ∃ q, 4 * a + c = q := ⟨_, rfl⟩
              have q1 : 4 * (a : Int) + (c : Int) = (q : Int) := by omega
              have d1 : 4 * (a : Int) + (b : Int) = (p : Int) := by omega
              rw [hq] at hck hnx hx
              generalize zs.getD q 0 = x at hck hnx hx
              have q2 : q < 16 := by omega
              have hT := hide (fun X => specL13T b c X hblt hclt)
              have hPb := smT_mul b c x 65536 hx
              generalize smT b c = m at hT hnx hPb
              obtain ⟨P, hP⟩ : ∃ P, m * x = P := ⟨_, rfl⟩
              rw [hP] at hnx hPb
              obtain ⟨P0, P1⟩ := hPb
              have hset := prt_set (midZ zs) id (4 * a + b) S (S + P) p hp16 (by show p = _; omega) (fun k hk e => by have e2 : k = 4 * a + b := e; omega)
              have hdst0 : wr.cell? ⟨w.heap.size, p, none⟩ = some (.int .i64 S) := by rw [(unhide hN).mid.cell _ hp16, ints_tab16 _ _ hp16, prt_at _ _ _ _ _ (by show p = _; omega)]
              have hdw : w.heap.size < wr.heap.size := (unhide hN).mid.lt
              have hcX := fun X : UpdT wr => cell_updS hck (by simpa using hbw) X
              have hdX := fun X : UpdT wr => cell_updS hdst0 (by simpa using hdw) X
              have w1 : IntKind.i64.wrap (4 * (a : Int)) = 4 * (a : Int) := wrapS (by omega)
              
              have w2 : IntKind.i64.wrap (q : Int) = (q : Int) := wrapS (by omega)
              have w3 : IntKind.i64.wrap (p : Int) = (p : Int) := wrapS (by omega)
              have w4 : IntKind.i64.wrap P = P := wrapS (by omega)
              have w5 : IntKind.i64.wrap (S + P) = S + P := wrapS (by omega)
              have i1 : (0 : Int) ≤ (q : Int) := by omega
              have i2 : (q : Int) < 16 := by omega
              have i3 : (0 : Int) ≤ (p : Int) := by omega
              have i4 : (p : Int) < 16 := by omega
              have i5 : (q : Int).toNat = q := by omega
              have i6 : (p : Int).toNat = p := by omega
              clear hck hdst0 hx hS hq
              go_wp2_with fail
              refine wq_region_tail 20 (by kernel_rfl) (by kernel_rfl) ?_
              simp only [List.take_succ_cons, List.take_zero, List.drop_succ_cons, List.drop_zero]
              refine WQ.step (fun K hK => ?_)
              go_simp
              refine hK _ ?_
              clear hK K
              refine WQ.step (fun K hK => ?_)
              go_simp
              refine hK _ ?_
              clear hK K
              refine WQ.step (fun K hK => ?_)
              go_simp
              refine hK _ ?_
              clear hK K
              refine WQ.step (fun K hK => ?_)
              go_simp
              refine hK _ ?_
              clear hK K
              refine WQ.step (fun K hK => ?_)
              go_simp
              refine hK _ ?_
              clear hK K
              refine WQ.step (fun K hK => ?_)
              go_simp
              refine hK _ ?_
              clear hK K
              refine WQ.step (fun K hK => ?_)
              go_simp
              refine hK _ ?_
              clear hK K
              refine WQ.step (fun K hK => ?_)
              go_simp
              refine hK _ ?_
              clear hK K
              refine WQ.step (fun K hK => ?_)
              go_simp
              refine hK _ ?_
              clear hK K
              refine WQ.step (fun K hK => ?_)
              go_simp
              refine ⟨_, fun X => Calls.updT X (unhide hT X.to), hK _ ?_⟩
              clear hK K
              refine WQ.step (fun K hK => ?_)
              go_simp
              refine hK _ ?_
              clear hK K
              refine WQ.step (fun K hK => ?_)
              go_simp
              refine hK _ ?_
              clear hK K
              refine WQ.step (fun K hK => ?_)
              go_simp
              refine hK _ ?_
              clear hK K
              refine WQ.step (fun K hK => ?_)
              go_simp
              refine hK _ ?_
              clear hK K
              refine WQ.step (fun K hK => ?_)
              go_simp
              refine hK _ ?_
              clear hK K
              refine WQ.step (fun K hK => ?_)
              go_simp
              refine hK _ ?_
              clear hK K
              refine WQ.step (fun K hK => ?_)
              go_simp
              refine hK _ ?_
              clear hK K
              refine WQ.step (fun K hK => ?_)
              go_simp
              refine hK _ ?_
              clear hK K
              refine WQ.step (fun K hK => ?_)
              go_simp
              refine hK _ ?_
              clear hK K
              refine WQ.step (fun K hK => ?_)
              go_simp
              refine hK _ ?_
              clear hK K
              refine WQ.nil ?_
              rintro _ ⟨X, rfl⟩
              clear hcX hdX hT
              have hX := X.upd
              generalize X.to = wt at hX ⊢
              have hN2 := (unhide hN).upd hX
              have hput := hide (hN2.put p (S + P))
              rw [hset] at hput
              have hdst := hN2.mid.has p hp16
              obtain ⟨old, hdst⟩ := hdst
              have hfz := hN2.mid.frozen p
              clear hN hN2 hX hset
              go_wp2_with fail
              go_roundw
              case rel => exact ⟨c + 1, S + P, by omega, by go_num, hide (unhide hnx).symm, hput⟩
              case measure => simp [intOf]; omega
            · obtain rfl : c = 4 := by omega
              have hN2 : Hid (FwSt w wr (tab16 (prt (midZ zs) id (4 * a + (b + 1)) 0)) (List.replicate 16 0)) := hide (by
                have h := unhide hN
                rw [prt_next (midZ zs) id (4 * a + b) S (fun k hk e => by
                  have e2 : k = 4 * a + b := e
                  rw [unhide hS]
                  unfold midZ sumS; rw [show k / 4 = a by omega, show k % 4 = b by omega])] at h
                exact h)
              clear hN
              go_wp2_with fail
              go_roundw
              case rel => exact ⟨b + 1, by omega, by go_num, hN2⟩
              case measure => simp [intOf]; omega
        · obtain rfl : b = 4 := by omega
          have hN2 : Hid (FwSt w wr (tab16 (prt (midZ zs) id (4 * (a + 1)) 0)) (List.replicate 16 0)) := hide (by have h := unhide hN; rw [show 4 * (a + 1) = 4 * a + 4 by omega]; exact h)
          clear hN
          go_wp2_with fail
          go_roundw
          case rel => exact ⟨a + 1, by omega, by go_num, hN2⟩
          case measure => simp [intOf]; omega
    · have ha4 : a = 4 := by omega
      have hN0 : Hid (FwSt w wr (tab16 (midZ zs)) (tab16 (prt (outZ zs) rkS (4 * 0) 0))) := hide (by
        have h := unhide hN
        rw [ha4] at h
        rw [show 4 * 4 = 16 from rfl, prt_done (midZ zs) id (fun k hk => hk)] at h
        rw [show 4 * 0 = 0 from rfl, prt_zero]
        exact h)
      clear hN hRow
      have hRow := unhide hMid
      clear hMid hA hl
      have hab : decide ((a : Int) < 4) = false := decide_eq_false (by omega)
      replace ha4 := hide ha4
      clear halt ha
      go_wp2_with fail
      go_loopw [8] (fun i wr => ∃ a : Nat, a ≤ 4 ∧ i = .int .i64 (a : Int) ∧ Hid (FwSt w wr (tab16 (midZ zs)) (tab16 (prt (outZ zs) rkS (4 * a) 0)))) (fun i _ => 4 - (intOf i).toNat)
      case atStart => exact ⟨0, by omega, rfl, hN0⟩
      case round =>
        clear hN0
        obtain ⟨a, ha, rfl, hN⟩ := hrel
        by_cases halt : a < 4
        · have hab : decide ((a : Int) < 4) = true := decide_eq_true (by omega)
          go_wp2_with fail
          go_loopw [9] (fun i wr => ∃ b : Nat, b ≤ 4 ∧ i = .int .i64 (b : Int) ∧ Hid (FwSt w wr (tab16 (midZ zs)) (tab16 (prt (outZ zs) rkS (4 * a + b) 0)))) (fun i _ => 4 - (intOf i).toNat)
          case atStart => exact ⟨0, by omega, rfl, hN⟩
          case round =>
            clear hN
            obtain ⟨b, hb, rfl, hN⟩ := hrel
            by_cases hblt : b < 4
            · have hbb : decide ((b : Int) < 4) = true := decide_eq_true (by omega)
              obtain ⟨p, hp⟩ : ∃ p, 4 * b + a = p := ⟨_, rfl⟩
              have hp16 : p < 16 := by omega
              have hS0 : Hid ((0 : Int) = sumT (colZ (tab16 (midZ zs)) a) b 0) := hide rfl
              go_wp2_with fail
              go_loopw [10] (fun i wr => ∃ (c : Nat) (S : Int), c ≤ 4 ∧ i = .int .i64 (c : Int) ∧ Hid (S = sumT (colZ (tab16 (midZ zs)) a) b c) ∧ Hid (FwSt w wr (tab16 (midZ zs)) (tab16 (prt (outZ zs) rkS (4 * a + b) S)))) (fun i _ => 4 - (intOf i).toNat)
              case atStart => exact ⟨0, 0, by omega, rfl, hS0, hN⟩
              case round =>
                clear hN hS0
                obtain ⟨c, S, hc, rfl, hS, hN⟩ := hrel
                by_cases hclt : c < 4
                · have hSb := sumT_bd b (hRow a halt) c (by omega)
                  rw [← unhide hS] at hSb
                  have hSb2 : -4000000 ≤ S ∧ S ≤ 4000000 := by
                    have h9 : 2 * (393216 : Int) * (c : Int) ≤ 2 * 393216 * 4 := Int.mul_le_mul_of_nonneg_left (by omega) (by omega)
                    omega
                  clear hSb
                  obtain ⟨S0, S1⟩ := hSb2
                  have hnx : Hid (sumT (colZ (tab16 (midZ zs)) a) b (c + 1) = S + smT b c * (colZ (tab16 (midZ zs)) a).getD c 0) := hide (by rw [unhide hS]; rfl)
                  have hck : wr.cell? ⟨w.heap.size, 4 * c + a, none⟩ = some (.int .i64 (midZ zs (4 * c + a))) := by rw [(unhide hN).mid.cell _ (by omega), ints_tab16 _ _ (by omega)]
                  have hbw : w.heap.size < wr.heap.size := (unhide hN).mid.lt
                  have hx := hRow a halt c hclt
                  rw [colZ_getD _ a c hclt, tab16_getD _ _ (by omega)] at hnx hx
                  obtain ⟨q, hq⟩ : ∃ q, 4 * c + a = q := ⟨_, rfl⟩
                  have q1 : 4 * (c : Int) + (a : Int) = (q : Int) := by omega
                  have d1 : 4 * (b : Int) + (a : Int) = (p : Int) := by omega
                  rw [hq] at hck hnx hx
                  generalize midZ zs q = x at hck hnx hx
                  have q2 : q < 16 := by omega
                  have hT := hide (fun X => specL13T b c X hblt hclt)
                  have hPb := smT_mul b c x 393216 hx
                  generalize smT b c = m at hT hnx hPb
                  obtain ⟨P, hP⟩ : ∃ P, m * x = P := ⟨_, rfl⟩
                  rw [hP] at hnx hPb
                  obtain ⟨P0, P1⟩ := hPb
                  have hset := prt_set (outZ zs) rkS (4 * a + b) S (S + P) p hp16 (by unfold rkS; omega) (fun k hk e => by unfold rkS at e; omega)
                  have hdst0 : wr.cell? ⟨w.heap.size + 1, p, none⟩ = some (.int .i64 S) := by rw [(unhide hN).out.cell _ hp16, ints_tab16 _ _ hp16, prt_at _ _ _ _ _ (by unfold rkS; omega)]
                  have hdw : w.heap.size + 1 < wr.heap.size := (unhide hN).out.lt
                  have hcX := fun X : UpdT wr => cell_updS hck (by simpa using hbw) X
                  have hdX := fun X : UpdT wr => cell_updS hdst0 (by simpa using hdw) X
                  have w1 : IntKind.i64.wrap (4 * (b : Int)) = 4 * (b : Int) := wrapS (by omega)
                  have w1b : IntKind.i64.wrap (4 * (c : Int)) = 4 * (c : Int) := wrapS (by omega)
                  have w2 : IntKind.i64.wrap (q : Int) = (q : Int) := wrapS (by omega)
                  have w3 : IntKind.i64.wrap (p : Int) = (p : Int) := wrapS (by omega)
                  have w4 : IntKind.i64.wrap P = P := wrapS (by omega)
                  have w5 : IntKind.i64.wrap (S + P) = S + P := wrapS (by omega)
                  have i1 : (0 : Int) ≤ (q : Int) := by omega
                  have i2 : (q : Int) < 16 := by omega
                  have i3 : (0 : Int) ≤ (p : Int) := by omega
                  have i4 : (p : Int) < 16 := by omega
                  have i5 : (q : Int).toNat = q := by omega
                  have i6 : (p : Int).toNat = p := by omega
                  clear hck hdst0 hx hS hq
                  go_wp2_with fail
                  refine wq_region_tail 20 (by kernel_rfl) (by kernel_rfl) ?_
                  simp only [List.take_succ_cons, List.take_zero, List.drop_succ_cons, List.drop_zero]
                  refine WQ.step (fun K hK => ?_)
                  go_simp
                  refine hK _ ?_
                  clear hK K
                  refine WQ.step (fun K hK => ?_)
                  go_simp
                  refine hK _ ?_
                  clear hK K
                  refine WQ.step (fun K hK => ?_)
                  go_simp
                  refine hK _ ?_
                  clear hK K
                  refine WQ.step (fun K hK => ?_)
                  go_simp
                  refine hK _ ?_
                  clear hK K
                  refine WQ.step (fun K hK => ?_)
                  go_simp
                  refine hK _ ?_
                  clear hK K
                  refine WQ.step (fun K hK => ?_)
                  go_simp
                  refine hK _ ?_
                  clear hK K
                  refine WQ.step (fun K hK => ?_)
                  go_simp
                  refine hK _ ?_
                  clear hK K
                  refine WQ.step (fun K hK => ?_)
                  go_simp
                  refine hK _ ?_
                  clear hK K
                  refine WQ.step (fun K hK => ?_)
                  go_simp
                  refine hK _ ?_
                  clear hK K
                  refine WQ.step (fun K hK => ?_)
                  go_simp
                  refine ⟨_, fun X => Calls.updT X (unhide hT X.to), hK _ ?_⟩
                  clear hK K
                  refine WQ.step (fun K hK => ?_)
                  go_simp
                  refine hK _ ?_
                  clear hK K
                  refine WQ.step (fun K hK => ?_)
                  go_simp
                  refine hK _ ?_
                  clear hK K
                  refine WQ.step (fun K hK => ?_)
                  go_simp
                  refine hK _ ?_
                  clear hK K
                  refine WQ.step (fun K hK => ?_)
                  go_simp
                  refine hK _ ?_
                  clear hK K
                  refine WQ.step (fun K hK => ?_)
                  go_simp
                  refine hK _ ?_
                  clear hK K
                  refine WQ.step (fun K hK => ?_)
                  go_simp
                  refine hK _ ?_
                  clear hK K
                  refine WQ.step (fun K hK => ?_)
                  go_simp
                  refine hK _ ?_
                  clear hK K
                  refine WQ.step (fun K hK => ?_)
                  go_simp
                  refine hK _ ?_
                  clear hK K
                  refine WQ.step (fun K hK => ?_)
                  go_simp
                  refine hK _ ?_
                  clear hK K
                  refine WQ.step (fun K hK => ?_)
                  go_simp
                  refine hK _ ?_
                  clear hK K
                  refine WQ.nil ?_
                  rintro _ ⟨X, rfl⟩
                  clear hcX hdX hT
                  have hX := X.upd
                  generalize X.to = wt at hX ⊢
                  have hN2 := (unhide hN).upd hX
                  have hput := hide (hN2.putO p (S + P))
                  rw [hset] at hput
                  have hdst := hN2.out.has p hp16
                  obtain ⟨old, hdst⟩ := hdst
                  have hfz := hN2.out.frozen p
                  clear hN hN2 hX hset
                  go_wp2_with fail
                  go_roundw
                  case rel => exact ⟨c + 1, S + P, by omega, by go_num, hide (unhide hnx).symm, hput⟩
                  case measure => simp [intOf]; omega
                · obtain rfl : c = 4 := by omega
                  have hN2 : Hid (FwSt w wr (tab16 (midZ zs)) (tab16 (prt (outZ zs) rkS (4 * a + (b + 1)) 0))) := hide (by
                    have h := unhide hN
                    rw [prt_next (outZ zs) rkS (4 * a + b) S (fun k hk e => by
                      unfold rkS at e
                      rw [unhide hS]
                      unfold outZ sumS; rw [show k / 4 = b by omega, show k % 4 = a by omega])] at h
                    exact h)
                  clear hN
                  go_wp2_with fail
                  go_roundw
                  case rel => exact ⟨b + 1, by omega, by go_num, hN2⟩
                  case measure => simp [intOf]; omega
            · obtain rfl : b = 4 := by omega
              have hN2 : Hid (FwSt w wr (tab16 (midZ zs)) (tab16 (prt (outZ zs) rkS (4 * (a + 1)) 0))) := hide (by have h := unhide hN; rw [show 4 * (a + 1) = 4 * a + 4 by omega]; exact h)
              clear hN
              go_wp2_with fail
              go_roundw
              case rel => exact ⟨a + 1, by omega, by go_num, hN2⟩
              case measure => simp [intOf]; omega
        · have ha4 : a = 4 := by omega
          have hN2 : Hid (FwSt w wr (tab16 (midZ zs)) (tab16 (outZ zs))) := hide (by
            have h := unhide hN
            rw [ha4] at h
            rw [show 4 * 4 = 16 from rfl, prt_done (outZ zs) rkS rkS_lt] at h
            exact h)
          have hab : decide ((a : Int) < 4) = false := decide_eq_false (by omega)
          clear hN hRow
          go_wp2_with fail
          have hO := (unhide hN2).out.own
          have hlt := (unhide hN2).out.lt
          have hO2 : OwnI wr w.heap.size wr.heap.size (.slice (some ⟨w.heap.size + 1, 0, none⟩) 16 16) (turn4 sumS (turn4 sumS zs)) := by
            rw [fwd_out]
            have h := own_mono hO (Nat.le_succ _) (Nat.succ_le_of_lt hlt)
            unfold OwnI
            rw [tab16_length]
            exact h
          have hU := Upd.of_below (unhide hN2).bel 0 0
          go_ret
          exact ⟨_, rfl, hO2, hU⟩
end Go.Proofs.YtpofmcepjmbmcaaDoor
