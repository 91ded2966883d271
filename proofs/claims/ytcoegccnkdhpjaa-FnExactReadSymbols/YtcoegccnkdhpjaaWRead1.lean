/- The walk of the specification's reading of one symbol, bit by bit. -/
import Derived.Test.YtcoegccnkdhpjaaWFind
namespace Go.Proofs.Ytcoegccnkdhpjaa
open Go.RowKit

theorem i64_twice_bit (v b k : Nat) (hv : v < 2 ^ k) (hb : b ≤ 1) (hk : k < 16) : wrap64 ((v : Int) * 2) + (b : Int) = ((2 * v + b : Nat) : Int) ∧ wrap64 (wrap64 ((v : Int) * 2) + (b : Int)) = ((2 * v + b : Nat) : Int) := by
  have h1 : 2 ^ k ≤ 2 ^ 15 := Nat.pow_le_pow_right (by omega) (by omega)
  have e : wrap64 ((v : Int) * 2) = (v : Int) * 2 := wrap64_of (by omega) (by omega)
  rw [e]
  exact ⟨by omega, by rw [wrap64_of (by omega) (by omega)]; omega⟩
theorem highTo_lt15 (d : List Int) (p n : Nat) (h : n ≤ 15) : highTo d p n < 32768 := by
  have h1 := highTo_lt d p n
  have h2 : 2 ^ n ≤ 2 ^ 15 := Nat.pow_le_pow_right (by decide) h
  have h3 : (2 : Nat) ^ 15 = 32768 := rfl
  rw [h3] at h2
  exact Nat.lt_of_lt_of_le h1 h2
theorem bitHigh_le (d : List Int) (i : Nat) : bitHigh d i ≤ 1 := by unfold bitHigh; omega

set_option maxHeartbeats 4000000 in
theorem specL2Symbol (vl vw : Value) (zs : List Int) (u : Value) (d : List Int) (p : Int) (w : World) (hg : goodL zs) (hv : RdI w vl zs) (hvw : RdI w vw (wordsL zs)) (hd : d.length ≤ 1048576) (hD : InB d) (hu : RdY w u d) (hp : 0 ≤ p) (hp2 : p ≤ 9223372036854775807) :
    Calls Try.prog 69 #[.agg #[vl, vw], u, .int .i64 p, .bool true] w fun e w' => e = .returned (.tuple #[.int .i64 (readOne zs d p.toNat).1, .int .i64 (readOne zs d p.toNat).2]) ∧ Below w.heap.size w w' := by
  obtain ⟨P, rfl⟩ := Int.eq_ofNat_of_zero_le hp
  rw [Int.toNat_natCast]
  obtain ⟨adu, capu, rfl, hU⟩ := hu
  have hB := (Below.refl w.heap.size w).alloc (Nat.le_refl _) (.cells #[vl, vw] 87)
  replace hU := hide (hU.below hB)
  replace hv := hide (hv.below hB)
  replace hvw := hide (hvw.below hB)
  have hc0 : (w.alloc (.cells #[vl, vw] 87)).cell? ⟨w.heap.size, 0, none⟩ = some vl := by rw [World.cell?_alloc_at _ _ _ _ rfl]; rfl
  have hc1 : (w.alloc (.cells #[vl, vw] 87)).cell? ⟨w.heap.size, 1, none⟩ = some vw := by rw [World.cell?_alloc_at _ _ _ _ rfl]; rfl
  replace hg := hide hg
  replace hD := hide hD
  replace hc0 := hide hc0
  replace hc1 := hide hc1
  replace hB := hide hB
  have hlv : w.heap.size < (w.alloc (.cells #[vl, vw] 87)).heap.size := by simp
  go_enter Try.func69, Try.ntmps69
  go_wp2
  generalize w.alloc (.cells #[vl, vw] 87) = w1 at hU hv hvw hc0 hc1 hB hlv ⊢
  go_loopw [2, 10, 11] (fun a b c wr => ∃ n : Nat, n ≤ 15 ∧ a = .int .i64 ((P + n : Nat) : Int) ∧ b = .int .i64 (highTo d P n : Nat) ∧ c = .int .i64 ((n + 1 : Nat) : Int) ∧ Hid (0 < n → P + n ≤ 8 * d.length) ∧ Hid (readOne zs d P = rdF zs d P (15 - n) n) ∧ Below w1.heap.size w1 wr) (fun _ _ c _ => 17 - (intOf c).toNat)
  case atStart => exact ⟨0, by omega, rfl, rfl, rfl, fun h => by omega, rfl, Below.refl _ _⟩
  case round =>
    obtain ⟨n, hn, rfl, rfl, rfl, hpn, hR, hbel⟩ := hrel
    rw [show ((n + 1 : Nat) : Int) = (n : Int) + 1 by omega]
    by_cases h15 : n = 15
    · subst h15
      have hE := hide (show readOne zs d P = (-1, P + 15) by rw [unhide hR]; rfl)
      replace hbel := hide ((unhide hB).trans (hbel.mono (unhide hB).size))
      go_wp2
      go_ret2
      rw [unhide hE]
      exact ⟨rfl, unhide hbel⟩
    · have hpN : P + n < 9223372036854775808 := by
        rcases Nat.eq_zero_or_pos n with h | h
        · omega
        · have := unhide hpn h; omega
      by_cases hs : P + n < 8 * d.length
      · have hd0 : P / 8 < d.length := by omega
        obtain ⟨b, off, rfl, hbl, hcb⟩ := (unhide hU) (ne_of_lt_length hd0)
        have hbb : BytesAt wr b off d := fun j hj => (hbel.cell (by simpa using hbl)).trans (hcb j hj)
        have hbit := specBitHigh b off d.length capu d (P + n) wr rfl (unhide hD) hbb (by omega) (by omega)
        have q0 : decide ((8 * d.length : Int) ≤ ((P + n : Nat) : Int)) = false := by simp; omega
        have hw2 := i64_twice_bit (highTo d P n) (bitHigh d (P + n)) n (highTo_lt d P n) (bitHigh_le d (P + n)) (by omega)
        have hH : 2 * highTo d P n + bitHigh d (P + n) = highTo d P (n + 1) := rfl
        rw [hH] at hw2
        have hlt2 := highTo_lt15 d P (n + 1) (by omega)
        have hb1 := bitHigh_le d (P + n)
        have hfind := specFind vl vw zs (highTo d P (n + 1)) (n + 1) wr (unhide hg) ((unhide hv).below hbel) ((unhide hvw).below hbel) (by omega) (by omega) hlt2
        rw [show ((n + 1 : Nat) : Int) = (n : Int) + 1 by omega] at hfind
        have k0 : wr.cell? ⟨w.heap.size, 0, none⟩ = some vl := (hbel.cell (by simpa using hlv)).trans (unhide hc0)
        have k1 : wr.cell? ⟨w.heap.size, 1, none⟩ = some vw := (hbel.cell (by simpa using hlv)).trans (unhide hc1)
        have hgo := hide (rdF_go (f := 14 - n) hs (zs := zs))
        have hend := hide (rdF_end (f := 14 - n) hs (zs := zs))
        rw [show 14 - n + 1 = 15 - n by omega] at hgo hend
        rw [← unhide hR] at hgo hend
        replace hfind := hide hfind
        replace hbit := hide hbit
        replace hw2 := hide hw2
        replace hbel := hide hbel
        have hpn1 : Hid (0 < n + 1 → P + (n + 1) ≤ 8 * d.length) := hide (fun _ => by omega)
        clear hbb hcb hbl hH hpn hR
        go_wp2_with fail
        refine (unhide hbit).mono ?_
        rintro e wx ⟨rfl, hwx⟩
        subst hwx
        go_wp2_with fail
        rw [(unhide hw2).2]
        refine (unhide hfind).mono ?_
        rintro e wy ⟨rfl, hb2⟩
        have hbel2 := hide ((unhide hbel).trans (hb2.mono (unhide hbel).size))
        clear hb2 hfind hbit
        by_cases hf : findF zs (highTo d P (n + 1)) (n + 1) = -2
        · have hR2 := hide (unhide hgo hf)
          have q1 : (findF zs (highTo d P (n + 1)) (n + 1) != -2) = false := by simp [hf]
          clear hgo hend hf
          generalize findF zs (highTo d P (n + 1)) (n + 1) = s at q1 ⊢
          go_wp2
          go_roundw
          case rel => exact ⟨n + 1, by omega, by go_num, rfl, by go_num, hpn1, by rw [show 15 - (n + 1) = 14 - n by omega]; exact hR2, unhide hbel2⟩
          case measure => simp [intOf]; omega
        · have hR2 := hide (unhide hend hf)
          have q1 : (findF zs (highTo d P (n + 1)) (n + 1) != -2) = true := by simp [hf]
          clear hgo hend hf
          generalize findF zs (highTo d P (n + 1)) (n + 1) = s at q1 hR2 ⊢
          replace hbel2 := hide ((unhide hB).trans ((unhide hbel2).mono (unhide hB).size))
          go_wp2
          go_ret2
          rw [unhide hR2]
          exact ⟨rfl, unhide hbel2⟩
      · have hE := hide (show readOne zs d P = (-2, P + n) by
          rw [unhide hR]
          obtain ⟨f, hf⟩ : ∃ f, 15 - n = f + 1 := ⟨14 - n, by omega⟩
          rw [hf]; exact rdF_short (by omega))
        have q0 : decide ((8 * d.length : Int) ≤ ((P + n : Nat) : Int)) = true := by simp; omega
        replace hbel := hide ((unhide hB).trans (hbel.mono (unhide hB).size))
        go_wp2
        go_ret2
        rw [unhide hE]
        exact ⟨rfl, unhide hbel⟩
end Go.Proofs.Ytcoegccnkdhpjaa
