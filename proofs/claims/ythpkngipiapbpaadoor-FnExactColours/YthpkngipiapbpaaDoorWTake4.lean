/- The walks of TakeLow and TakeHigh: the program's reader in high order. -/
import Derived.Test.YthpkngipiapbpaaDoorWTake3
namespace Go.Proofs.YthpkngipiapbpaaDoor
open Go.RowKit

theorem wrap_i64_in (n : Int) (h : -9223372036854775808 ≤ n ∧ n ≤ 9223372036854775807) : IntKind.i64.wrap n = n := by
  simp [IntKind.wrap, IntKind.bits, IntKind.signed]; omega
theorem div_bd (x : Nat) (hx : x < 256) (k : Nat) : 0 ≤ (x : Int) / 2 ^ k ∧ (x : Int) / 2 ^ k < 18446744073709551616 := by
  have h := Nat.div_le_self x (2 ^ k)
  rw [show ((x : Int) / 2 ^ k) = ((x / 2 ^ k : Nat) : Int) by simp]
  generalize x / 2 ^ k = y at h ⊢
  omega
theorem implLowBitsI (v : Int) (n : Nat) (w : World) (h0 : 0 ≤ v) (hv : v < 18446744073709551616) (hn : n ≤ 8) : Calls Tryd.prog 115 #[.int .u64 v, .int .i64 n] w fun e w' => e = .returned (.int .u64 (v % 2 ^ n)) ∧ w' = w := by
  obtain ⟨u, rfl⟩ := Int.eq_ofNat_of_zero_le h0
  have := implLowBits u n w (by omega) hn
  simpa using this

set_option maxHeartbeats 2000000 in
set_option maxRecDepth 100000 in
theorem implTakeHighIn (r b off len cap : Nat) (zs : List Int) (p n : Nat) (w : World) (hlen : zs.length = len) (hz : InB zs) (hc : BytesAt w b off zs) (hm : len ≤ 1048576) (hn : n ≤ 64) (hi : p + n ≤ 8 * len)
    (hbl : b < w.heap.size) (hbr : b ≠ r) (hfr : w.frozen? ⟨r, 2, none⟩ = false) (hr : ReaderAt w r 1 (.slice (some ⟨b, off, none⟩) len cap) p) :
    Calls Tryd.prog 113 #[.pointer (some ⟨r, 0, none⟩), .int .i64 n] w fun e w' => e = .returned (.tuple #[.int .u64 (highTo zs p n : Nat), .bool true]) ∧ ReaderAt w' r 1 (.slice (some ⟨b, off, none⟩) len cap) ((p + n : Nat) : Int) ∧ OnlyAt r w w' := by
  subst hlen
  have hH := holdsAsk r 1 _ _ _ p n w hr (by omega) (by omega) (by omega) hm
  have hq : decide ((p : Int) ≤ 8 * (zs.length : Int) - (n : Int)) = true := by simp; omega
  rw [hq] at hH
  clear hq
  replace hz := hide hz
  replace hc := hide hc
  replace hr := hide hr
  go_enter Tryd.func113, Tryd.ntmps113
  go_wp2_with fail
  refine hH.mono ?_
  rintro e w1 ⟨rfl, nq, rfl⟩
  clear hH
  go_wp2
  go_loopw [6, 7] (fun a i wr => ∃ d : Nat, d ≤ n ∧ a = .int .u64 (highTo zs p d : Nat) ∧ i = .int .i64 d ∧ ReaderAt wr r 1 (.slice (some ⟨b, off, none⟩) zs.length cap) ((p + d : Nat) : Int) ∧ wr.frozen? ⟨r, 2, none⟩ = false ∧ OnlyAt r w wr) (fun _ i _ => n - (intOf i).toNat)
  case atStart => exact ⟨0, Nat.zero_le _, rfl, rfl, unhide hr, hfr, (OnlyAt.refl _ _).drewN _⟩
  case round =>
    obtain ⟨d, hd, rfl, rfl, hrr, hff, hbel⟩ := hrel
    by_cases hlt : d < n
    · have hck : wr.cell? ⟨b, off + (p + d) / 8, none⟩ = some (.int .u8 (zs.getD ((p + d) / 8) 0)) := (hbel.cell hbl hbr).trans (unhide hc _ (by omega))
      have hx : ∃ x : Nat, zs.getD ((p + d) / 8) 0 = (x : Int) ∧ x < 256 ∧ byteAt zs ((p + d) / 8) = x := ⟨(zs.getD ((p + d) / 8) 0).toNat, by have := unhide hz ((p + d) / 8); omega, by have := unhide hz ((p + d) / 8); omega, rfl⟩
      obtain ⟨x, hx1, hx2, hx3⟩ := hx
      rw [hx1] at hck
      clear hx1
      have hrr' := hide hrr
      obtain ⟨hrl, c0, c1, c2⟩ := hrr
      have b1 : ((p : Int) + d) / 8 < zs.length := by omega
      have b0 : 0 ≤ ((p : Int) + d) / 8 := by omega
      replace hx3 := hide hx3
      go_wp2_with fail
      go_quiet (fail)
      go_wp2_with fail
      · rename_i h
        obtain ⟨m, hme⟩ : ∃ m : Nat, ((n : Int) - d) = (m : Int) := ⟨((n : Int) - d).toNat, by omega⟩
        have hm8 : m ≤ 8 := by omega
        have hm0 : 0 < m := by omega
        have hpm : (p + d) % 8 + m ≤ 8 := by omega
        have hdm : d + m ≤ n := by omega
        rw [hme]
        clear hme h
        have HP := high_part zs p d m hpm
        rw [unhide hx3] at HP
        obtain ⟨u, hu, hu'⟩ : ∃ u : Nat, ((p : Int) + d) % 8 = (u : Int) ∧ (p + d) % 8 = u := ⟨(p + d) % 8, by omega, rfl⟩
        obtain ⟨s, hs, hs'⟩ : ∃ s : Nat, (8 : Int) - (u : Int) - (m : Int) = (s : Int) ∧ 8 - (p + d) % 8 - m = s := ⟨8 - (p + d) % 8 - m, by omega, rfl⟩
        have hs8 : (s : Int) ≤ 8 := by omega
        have hu8 : (u : Int) < 8 := by omega
        rw [hs'] at HP
        rw [hu]
        clear hu hu' hs'
        have hw1 : IntKind.i64.wrap (8 - (u : Int)) = 8 - (u : Int) := by rw [wrap_i64_in _ (by omega)]
        have hw2 : IntKind.i64.wrap (s : Int) = (s : Int) := by rw [wrap_i64_in _ (by omega)]
        have hcall : ∀ W : World, Calls Tryd.prog 115 #[.int .u64 ((x : Int) / 2 ^ s), .int .i64 m] W fun e w' => e = .returned (.int .u64 ((x : Int) / 2 ^ s % 2 ^ m)) ∧ w' = W := fun W => implLowBitsI _ m W (div_bd x hx2 s).1 (div_bd x hx2 s).2 hm8
        replace hcall := hide hcall
        have hrq := ReaderAt.drewN (unhide hrr') nq
        have hfq : (wr.drewN nq).frozen? ⟨r, 2, none⟩ = false := hff
        have hbq := hbel.drewN nq
        generalize wr.drewN nq = wq at hrq hfq hbq ⊢
        clear hrr' hff hbel c0 c1 c2 hck
        have hrq' := hide hrq
        obtain ⟨_, e0, e1, e2⟩ := hrq
        go_quiet ((go_at_call 115; exact Calls.quiet_of_same (unhide hcall _)))
        have HO : bits .or .u64 (IntKind.u64.wrap ((highTo zs p d : Nat) * 2 ^ m)) ((x : Int) / 2 ^ s % 2 ^ m) = (highTo zs p (d + m) : Nat) := by
          rw [HP, ← part_or (highTo zs p d) (x / 2 ^ s % 2 ^ m) d m (highTo_lt zs p d) (Nat.mod_lt _ (Nat.pow_pos (by omega))) (by omega)]
          congr 1
        replace HO := hide HO
        clear HP
        go_wp2
        go_roundw
        case rel => exact ⟨d + m, by omega, by rw [unhide HO], by go_num, by rw [show ((p + (d + m) : Nat) : Int) = ((p + d : Nat) : Int) + (m : Int) by omega]; exact (ReaderAt.drewN (unhide hrq') _).moved _, (World.frozen?_setCell _ _ _ _).trans hfq, (hbq.drewN _).setCell _ _⟩
        case measure => simp [intOf]; omega
      · rename_i h
        obtain ⟨m, hme⟩ : ∃ m : Nat, (8 - ((p : Int) + d) % 8) = (m : Int) := ⟨(8 - ((p : Int) + d) % 8).toNat, by omega⟩
        have hm8 : m ≤ 8 := by omega
        have hm0 : 0 < m := by omega
        have hpm : (p + d) % 8 + m ≤ 8 := by omega
        have hdm : d + m ≤ n := by omega
        rw [hme]
        clear hme h
        have HP := high_part zs p d m hpm
        rw [unhide hx3] at HP
        obtain ⟨u, hu, hu'⟩ : ∃ u : Nat, ((p : Int) + d) % 8 = (u : Int) ∧ (p + d) % 8 = u := ⟨(p + d) % 8, by omega, rfl⟩
        obtain ⟨s, hs, hs'⟩ : ∃ s : Nat, (8 : Int) - (u : Int) - (m : Int) = (s : Int) ∧ 8 - (p + d) % 8 - m = s := ⟨8 - (p + d) % 8 - m, by omega, rfl⟩
        have hs8 : (s : Int) ≤ 8 := by omega
        have hu8 : (u : Int) < 8 := by omega
        rw [hs'] at HP
        rw [hu]
        clear hu hu' hs'
        have hw1 : IntKind.i64.wrap (8 - (u : Int)) = 8 - (u : Int) := by rw [wrap_i64_in _ (by omega)]
        have hw2 : IntKind.i64.wrap (s : Int) = (s : Int) := by rw [wrap_i64_in _ (by omega)]
        have hcall : ∀ W : World, Calls Tryd.prog 115 #[.int .u64 ((x : Int) / 2 ^ s), .int .i64 m] W fun e w' => e = .returned (.int .u64 ((x : Int) / 2 ^ s % 2 ^ m)) ∧ w' = W := fun W => implLowBitsI _ m W (div_bd x hx2 s).1 (div_bd x hx2 s).2 hm8
        replace hcall := hide hcall
        have hrq := ReaderAt.drewN (unhide hrr') nq
        have hfq : (wr.drewN nq).frozen? ⟨r, 2, none⟩ = false := hff
        have hbq := hbel.drewN nq
        generalize wr.drewN nq = wq at hrq hfq hbq ⊢
        clear hrr' hff hbel c0 c1 c2 hck
        have hrq' := hide hrq
        obtain ⟨_, e0, e1, e2⟩ := hrq
        go_quiet ((go_at_call 115; exact Calls.quiet_of_same (unhide hcall _)))
        have HO : bits .or .u64 (IntKind.u64.wrap ((highTo zs p d : Nat) * 2 ^ m)) ((x : Int) / 2 ^ s % 2 ^ m) = (highTo zs p (d + m) : Nat) := by
          rw [HP, ← part_or (highTo zs p d) (x / 2 ^ s % 2 ^ m) d m (highTo_lt zs p d) (Nat.mod_lt _ (Nat.pow_pos (by omega))) (by omega)]
          congr 1
        replace HO := hide HO
        clear HP
        go_wp2
        go_roundw
        case rel => exact ⟨d + m, by omega, by rw [unhide HO], by go_num, by rw [show ((p + (d + m) : Nat) : Int) = ((p + d : Nat) : Int) + (m : Int) by omega]; exact (ReaderAt.drewN (unhide hrq') _).moved _, (World.frozen?_setCell _ _ _ _).trans hfq, (hbq.drewN _).setCell _ _⟩
        case measure => simp [intOf]; omega
    · have hdn : d = n := by omega
      subst hdn
      go_wp2
      go_ret2
      exact ⟨rfl, hrr, hbel⟩
end Go.Proofs.YthpkngipiapbpaaDoor
