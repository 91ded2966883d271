/- How many bits a planned list has: the program's walk. -/
import Derived.Test.YtailhdfmfmlniaaWPcG
namespace Go.Proofs.Ytailhdfmfmlniaa
open Go.RowKit

set_option maxHeartbeats 16000000 in
set_option maxRecDepth 100000 in
theorem implCountBits (O P N each : Nat) (adk : Option Addr) (capk : Nat) (ks xs r : List Int) (rv : Value) (c : Int) (w : World) (hr : resL O xs = r) (hxl : xs.length = N) (hP : P ≤ 4) (hO4 : O ≤ 4) (ho : O ≤ each) (hE : N / 2 ^ P = each) (hpl : ∀ i, i < 2 ^ P → (i + 1) * each ≤ N) (hN : N ≤ 4000)
    (hkl : ks.length = 2 ^ P) (hkr : ∀ j, j < ks.length → 0 ≤ ks.getD j 0 ∧ ks.getD j 0 ≤ 25) (hrI : InR (-1073741824) 1073741824 r) (hA : ArgI w adk ks) (hv : RdX w rv r) :
    Calls Try.prog 93 #[.agg #[.int .i64 (O : Int), .int .i64 (P : Int), .slice adk ks.length capk, rv, .int .i64 c]] w fun e w' => e = .returned (.int .i64 (costTo O P ks xs ks.length)) ∧ Upd 0 0 w w' := by
  have hrl : r.length = N := by rw [← hr, resL_length, hxl]
  obtain ⟨adr, capr, hrv, _⟩ := hv.rd
  subst hrv
  rw [hrl] at hv ⊢
  have hpar := hide (fun W (u : Upd 0 0 w W) => implParts O P N each (.slice adk ks.length capk) (.slice adr N capr) r c W hP ho hO4 hE hpl hN hrl ⟨_, _, _, rfl⟩ (hv.below u.none))
  rw [← hkl] at hpl hpar
  have hbx := hide (heldF_new w (plc (O : Int) (P : Int) (.slice adk ks.length capk) (.slice adr N capr) c) 115)
  have hU := hide (Upd.of_below ((Below.refl w.heap.size w).alloc (Nat.le_refl _) (.cells #[.int .i64 (O : Int), .int .i64 (P : Int), .slice adk ks.length capk, .slice adr N capr, .int .i64 c] 115)) 0 0)
  obtain ⟨T, hT⟩ : ∃ T, costTo O P ks xs = T := ⟨_, rfl⟩
  have hT0 : Hid (T 0 = 6 + 26 * (O : Int)) := hide (by rw [← hT]; unfold costTo accZ; omega)
  have hTs : Hid (∀ i, T (i + 1) = T i + (5 + keyC (ks.getD i 0).toNat (partZ r O each i))) := hide (fun i => by rw [← hT, costTo_succ, hxl, hE, hr])
  have hPz : Hid (∀ i, i < ks.length → (partZ r O each i).length ≤ 4000 ∧ InR (-1073741824) 1073741824 (partZ r O each i)) := hide (fun i hi => ⟨by
    have h1 := hpl i hi
    rw [partZ_length _ _ _ _ (by rw [hrl]; exact h1)]; omega, partZ_inR hrI _ _ _⟩)
  have hks16 : ks.length ≤ 16 := by have := pow16D P hP; have e : ((2 ^ P : Nat) : Int) = (2 : Int) ^ P := by rw [Int.natCast_pow]; rfl
                                    omega
  rw [hT]
  replace hkr := hide hkr
  have hA0 := hide hA
  clear hr hxl hE hpl hrl hv hrI hA hT hkl
  go_enter Try.func93, Try.ntmps93
  go_upto_region 1 with fail
  change Hid (HeldF (w.alloc (.cells #[.int .i64 (O : Int), .int .i64 (P : Int), .slice adk ks.length capk, .slice adr N capr, .int .i64 c] 115)) w.heap.size (plc (O : Int) (P : Int) (.slice adk ks.length capk) (.slice adr N capr) c)) at hbx
  generalize w.alloc (.cells #[.int .i64 (O : Int), .int .i64 (P : Int), .slice adk ks.length capk, .slice adr N capr, .int .i64 c] 115) = w0 at hbx hU ⊢
  have p0 := (unhide hbx).1.2 0 _ rfl
  have p1 := (unhide hbx).1.2 1 _ rfl
  have p2 := (unhide hbx).1.2 2 _ rfl
  have p3 := (unhide hbx).1.2 3 _ rfl
  have p4 := (unhide hbx).1.2 4 _ rfl
  have pl := (unhide hbx).1.1
  go_wp2_with fail
  refine (unhide hpar _ (unhide hU)).mono ?_
  rintro e w1 ⟨vp, rfl, ⟨adp, capp, rfl, hAp⟩, hu⟩
  replace hU := hide ((unhide hU).trans hu)
  replace hbx := hide ((unhide hbx).keep hu)
  clear hu p0 p1 p2 p3 p4 pl hpar
  rw [partsL_length]
  have hAp0 : Hid (∀ W, Upd 0 0 w1 W → ArgLl W adp (partsL r O each ks.length)) := hide (fun W u => hAp.below u.none)
  have hu0 := hide (Upd.refl 0 0 w1)
  clear hAp
  go_wp2
  go_loopw [3, 4, 5, 15] (fun s _ _ i wr => ∃ k : Nat, k ≤ ks.length ∧ i = .int .i64 k ∧ s = .int .i64 (T k) ∧ Hid (Upd 0 0 w wr) ∧ Hid (Upd 0 0 w1 wr) ∧ Hid (HeldF wr w.heap.size (plc (O : Int) (P : Int) (.slice adk ks.length capk) (.slice adr N capr) c)) ∧ Hid (0 ≤ T k ∧ T k ≤ 200 + k * 8589934697000)) (fun _ _ _ i _ => ks.length - (intOf i).toNat)
  case atStart => exact ⟨0, Nat.zero_le _, rfl, by rw [unhide hT0]; first | rfl | (congr 1; omega), hU, hu0, hbx, hide (by rw [unhide hT0]; omega)⟩
  case round =>
    clear hU hu0 hbx
    obtain ⟨k, hk, rfl, rfl, hU, hu1, hbx, hTb⟩ := hrel
    by_cases hlt : k < ks.length
    · obtain ⟨bb, off, rfl, hbl, hc⟩ := (unhide hA0) (ne_of_lt_length hlt)
      have hck := ((unhide hU).none.cell (p := ⟨bb, off + k, none⟩) (by simpa using hbl)).trans (hc k hlt)
      obtain ⟨bp, offp, us, rfl, hbp, hcp, hrp⟩ := (unhide hAp0 wr (unhide hu1)) (ne_of_lt_length (k := k) (by rw [partsL_length]; exact hlt))
      have hcu := hcp k (by rw [partsL_length]; exact hlt)
      have hru := hrp k (by rw [partsL_length]; exact hlt)
      rw [partsL_getD _ _ _ _ _ hlt] at hru
      obtain ⟨ke1, ke2⟩ := unhide hkr k hlt
      have hTk := unhide hTs k
      obtain ⟨zl, zr⟩ := unhide hPz k hlt
      have kI : (0 : Int) ≤ (k : Int) := by omega
      have kL : (k : Int) < (ks.length : Int) := by omega
      have p2 := (unhide hbx).1.2 2 _ rfl
      generalize us k = uk at hcu hru
      obtain ⟨adu, capu, rfl, hAu⟩ := hru
      change ArgI wr adu (partZ r O each k) at hAu
      change wr.cell? _ = some (.slice adu (partZ r O each k).length capu) at hcu
      generalize partZ r O each k = z at hTk zl zr hcu hAu
      generalize ks.getD k 0 = ke at hck ke1 ke2 hTk
      clear hc hbl hbp hcp hrp
      obtain ⟨K, rfl⟩ := Int.eq_ofNat_of_zero_le ke1
      rw [Int.toNat_natCast] at hTk
      have hK25 : K ≤ 25 := by omega
      have hkb := keyC_bd K z hK25 zl zr
      have hc2 : keyC K z ≤ 8589934696000 := by
        have : (z.length : Int) * 2147483674 ≤ 4000 * 2147483674 := Int.mul_le_mul_of_nonneg_right (by omega) (by omega)
        omega
      have hc1 : -5 ≤ keyC K z := by have := hkb.1; omega
      have hKC := hide (implKeyCost K adu capu z wr hK25 zl zr hAu)
      clear hkb hAu zr
      generalize keyC K z = cc at hTk hc1 hc2 hKC
      obtain ⟨b1, b2⟩ := unhide hTb
      have hTb2 : Hid (0 ≤ T (k + 1) ∧ T (k + 1) ≤ 200 + ((k + 1 : Nat) : Int) * 8589934697000) := hide (by rw [hTk]; omega)
      generalize hs2 : T (k + 1) = s2 at hTk
      have hs3 : Hid (T (k + 1) = s2) := hide hs2
      clear hs2 hTb
      generalize T k = s at hTk b1 b2 ⊢
      have b3 : s ≤ 200000000000000 := by omega
      clear b2
      go_wp2_with fail
      refine (unhide hKC).mono ?_
      rintro e w6 ⟨rfl, rfl⟩
      go_wp2
      go_roundw
      case rel => exact ⟨k + 1, by omega, by go_num, by rw [unhide hs3, hTk], hU, hu1, hbx, hTb2⟩
      case measure => simp [intOf]; omega
    · have hkl : k = ks.length := by omega
      subst hkl
      go_wp2
      go_ret
      exact ⟨rfl, unhide hU⟩
end Go.Proofs.Ytailhdfmfmlniaa
