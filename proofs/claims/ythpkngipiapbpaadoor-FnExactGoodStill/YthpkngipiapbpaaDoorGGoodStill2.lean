/- The texts behind FnExactGoodStill, part 2: what each of them says stands at its head. -/
import Derived.Test.YthpkngipiapbpaaDoorGGoodStill1
import Derived.Deep.RegionWith
import Derived.Deep.LoopGhost
import Derived.Deep.DeepCutAuto
import Derived.Deep.RegionHeld3
import Derived.ProofKit
import Derived.Deep.SlicePairs
import Derived.ChangeMaps5
import Derived.OpenShut
import Derived.Test.YthpkngipiapbpaaDoorRows
import Derived.Stop.Joined
import Derived.LaidMore
/- The walks of TakeLow and TakeHigh: the program's reader in high order. -/
namespace Go.Proofs.YthpkngipiapbpaaDoor
open Go.RowKit

theorem wrap_i64_in (n : Int) (h : -9223372036854775808 ≤ n ∧ n ≤ 9223372036854775807) : IntKind.i64.wrap n = n := by
  simp [IntKind.wrap, IntKind.bits, IntKind.signed]; omega
theorem div_bd (x : Nat) (hx : x < 256) (k : Nat) : 0 ≤ (x : Int) / 2 ^ k ∧ (x : Int) / 2 ^ k < 18446744073709551616 := by
  have h := Nat.div_le_self x (2 ^ k)
  rw [show ((x : Int) / 2 ^ k) = ((x / 2 ^ k : Nat) : Int) by simp]
  generalize x / 2 ^ k = y at h ⊢
  omega
theorem implLowBitsI (v : Int) (n : Nat) (w : World) (h0 : 0 ≤ v) (hv : v < 18446744073709551616) (hn : n ≤ 8) : Calls Tryd.prog 115 #[.int .u64 v, .int .i64 n] w fun e w' => e = .returned (.int .u64 (v % 2 ^ n)) ∧ w' = w := by
  obtain ⟨u, rfl⟩ := Int.eq_ofNat_of_zero_le h0
  have := implLowBits u n w (by omega) hn
  simpa using this

set_option maxHeartbeats 2000000 in
set_option maxRecDepth 100000 in
theorem implTakeHighIn (r b off len cap : Nat) (zs : List Int) (p n : Nat) (w : World) (hlen : zs.length = len) (hz : InB zs) (hc : BytesAt w b off zs) (hm : len ≤ 1048576) (hn : n ≤ 64) (hi : p + n ≤ 8 * len)
    (hbl : b < w.heap.size) (hbr : b ≠ r) (hfr : w.frozen? ⟨r, 2, none⟩ = false) (hr : ReaderAt w r 1 (.slice (some ⟨b, off, none⟩) len cap) p) :
    Calls Tryd.prog 113 #[.pointer (some ⟨r, 0, none⟩), .int .i64 n] w fun e w' => e = .returned (.tuple #[.int .u64 (highTo zs p n : Nat), .bool true]) ∧ ReaderAt w' r 1 (.slice (some ⟨b, off, none⟩) len cap) ((p + n : Nat) : Int) ∧ OnlyAt r w w' := by
  subst hlen
  have hH := holdsAsk r 1 _ _ _ p n w hr (by omega) (by omega) (by omega) hm
  have hq : decide ((p : Int) ≤ 8 * (zs.length : Int) - (n : Int)) = true := by simp; omega
  rw [hq] at hH
  clear hq
  replace hz := hide hz
  replace hc := hide hc
  replace hr := hide hr
  go_enter Tryd.func113, Tryd.ntmps113
  go_wp2_with fail
  refine hH.mono ?_
  rintro e w1 ⟨rfl, nq, rfl⟩
  clear hH
  go_wp2
  go_loopw [6, 7] (fun a i wr => ∃ d : Nat, d ≤ n ∧ a = .int .u64 (highTo zs p d : Nat) ∧ i = .int .i64 d ∧ ReaderAt wr r 1 (.slice (some ⟨b, off, none⟩) zs.length cap) ((p + d : Nat) : Int) ∧ wr.frozen? ⟨r, 2, none⟩ = false ∧ OnlyAt r w wr) (fun _ i _ => n - (intOf i).toNat)
  case atStart => exact ⟨0, Nat.zero_le _, rfl, rfl, unhide hr, hfr, (OnlyAt.refl _ _).drewN _⟩
  case round =>
    obtain ⟨d, hd, rfl, rfl, hrr, hff, hbel⟩ := hrel
    by_cases hlt : d < n
    · have hck : wr.cell? ⟨b, off + (p + d) / 8, none⟩ = some (.int .u8 (zs.getD ((p + d) / 8) 0)) := (hbel.cell hbl hbr).trans (unhide hc _ (by omega))
      have hx : ∃ x : Nat, zs.getD ((p + d) / 8) 0 = (x : Int) ∧ x < 256 ∧ byteAt zs ((p + d) / 8) = x := ⟨(zs.getD ((p + d) / 8) 0).toNat, by have := unhide hz ((p + d) / 8); omega, by have := unhide hz ((p + d) / 8); omega, rfl⟩
      obtain ⟨x, hx1, hx2, hx3⟩ := hx
      rw [hx1] at hck
      clear hx1
      have hrr' := hide hrr
      obtain ⟨hrl, c0, c1, c2⟩ := hrr
      have b1 : ((p : Int) + d) / 8 < zs.length := by omega
      have b0 : 0 ≤ ((p : Int) + d) / 8 := by omega
      replace hx3 := hide hx3
      go_wp2_with fail
      go_quiet (fail)
      go_wp2_with fail
      · rename_i h
        obtain ⟨m, hme⟩ : ∃ m : Nat, ((n : Int) - d) = (m : Int) := ⟨((n : Int) - d).toNat, by omega⟩
        have hm8 : m ≤ 8 := by omega
        have hm0 : 0 < m := by omega
        have hpm : (p + d) % 8 + m ≤ 8 := by omega
        have hdm : d + m ≤ n := by omega
        rw [hme]
        clear hme h
        have HP := high_part zs p d m hpm
        rw [unhide hx3] at HP
        obtain ⟨u, hu, hu'⟩ : ∃ u : Nat, ((p : Int) + d) % 8 = (u : Int) ∧ (p + d) % 8 = u := ⟨(p + d) % 8, by omega, rfl⟩
        obtain ⟨s, hs, hs'⟩ : ∃ s : Nat, (8 : Int) - (u : Int) - (m : Int) = (s : Int) ∧ 8 - (p + d) % 8 - m = s := ⟨8 - (p + d) % 8 - m, by omega, rfl⟩
        have hs8 : (s : Int) ≤ 8 := by omega
        have hu8 : (u : Int) < 8 := by omega
        rw [hs'] at HP
        rw [hu]
        clear hu hu' hs'
        have hw1 : IntKind.i64.wrap (8 - (u : Int)) = 8 - (u : Int) := by rw [wrap_i64_in _ (by omega)]
        have hw2 : IntKind.i64.wrap (s : Int) = (s : Int) := by rw [wrap_i64_in _ (by omega)]
        have hcall : ∀ W : World, Calls Tryd.prog 115 #[.int .u64 ((x : Int) / 2 ^ s), .int .i64 m] W fun e w' => e = .returned (.int .u64 ((x : Int) / 2 ^ s % 2 ^ m)) ∧ w' = W := fun W => implLowBitsI _ m W (div_bd x hx2 s).1 (div_bd x hx2 s).2 hm8
        replace hcall := hide hcall
        have hrq := ReaderAt.drewN (unhide hrr') nq
        have hfq : (wr.drewN nq).frozen? ⟨r, 2, none⟩ = false := hff
        have hbq := hbel.drewN nq
        generalize wr.drewN nq = wq at hrq hfq hbq ⊢
        clear hrr' hff hbel c0 c1 c2 hck
        have hrq' := hide hrq
        obtain ⟨_, e0, e1, e2⟩ := hrq
        go_quiet ((go_at_call 115; exact Calls.quiet_of_same (unhide hcall _)))
        have HO : bits .or .u64 (IntKind.u64.wrap ((highTo zs p d : Nat) * 2 ^ m)) ((x : Int) / 2 ^ s % 2 ^ m) = (highTo zs p (d + m) : Nat) := by
          rw [HP, ← part_or (highTo zs p d) (x / 2 ^ s % 2 ^ m) d m (highTo_lt zs p d) (Nat.mod_lt _ (Nat.pow_pos (by omega))) (by omega)]
          congr 1
        replace HO := hide HO
        clear HP
        go_wp2
        go_roundw
        case rel => exact ⟨d + m, by omega, by rw [unhide HO], by go_num, by rw [show ((p + (d + m) : Nat) : Int) = ((p + d : Nat) : Int) + (m : Int) by omega]; exact (ReaderAt.drewN (unhide hrq') _).moved _, (World.frozen?_setCell _ _ _ _).trans hfq, (hbq.drewN _).setCell _ _⟩
        case measure => simp [intOf]; omega
      · rename_i h
        obtain ⟨m, hme⟩ : ∃ m : Nat, (8 - ((p : Int) + d) % 8) = (m : Int) := ⟨(8 - ((p : Int) + d) % 8).toNat, by omega⟩
        have hm8 : m ≤ 8 := by omega
        have hm0 : 0 < m := by omega
        have hpm : (p + d) % 8 + m ≤ 8 := by omega
        have hdm : d + m ≤ n := by omega
        rw [hme]
        clear hme h
        have HP := high_part zs p d m hpm
        rw [unhide hx3] at HP
        obtain ⟨u, hu, hu'⟩ : ∃ u : Nat, ((p : Int) + d) % 8 = (u : Int) ∧ (p + d) % 8 = u := ⟨(p + d) % 8, by omega, rfl⟩
        obtain ⟨s, hs, hs'⟩ : ∃ s : Nat, (8 : Int) - (u : Int) - (m : Int) = (s : Int) ∧ 8 - (p + d) % 8 - m = s := ⟨8 - (p + d) % 8 - m, by omega, rfl⟩
        have hs8 : (s : Int) ≤ 8 := by omega
        have hu8 : (u : Int) < 8 := by omega
        rw [hs'] at HP
        rw [hu]
        clear hu hu' hs'
        have hw1 : IntKind.i64.wrap (8 - (u : Int)) = 8 - (u : Int) := by rw [wrap_i64_in _ (by omega)]
        have hw2 : IntKind.i64.wrap (s : Int) = (s : Int) := by rw [wrap_i64_in _ (by omega)]
        have hcall : ∀ W : World, Calls Tryd.prog 115 #[.int .u64 ((x : Int) / 2 ^ s), .int .i64 m] W fun e w' => e = .returned (.int .u64 ((x : Int) / 2 ^ s % 2 ^ m)) ∧ w' = W := fun W => implLowBitsI _ m W (div_bd x hx2 s).1 (div_bd x hx2 s).2 hm8
        replace hcall := hide hcall
        have hrq := ReaderAt.drewN (unhide hrr') nq
        have hfq : (wr.drewN nq).frozen? ⟨r, 2, none⟩ = false := hff
        have hbq := hbel.drewN nq
        generalize wr.drewN nq = wq at hrq hfq hbq ⊢
        clear hrr' hff hbel c0 c1 c2 hck
        have hrq' := hide hrq
        obtain ⟨_, e0, e1, e2⟩ := hrq
        go_quiet ((go_at_call 115; exact Calls.quiet_of_same (unhide hcall _)))
        have HO : bits .or .u64 (IntKind.u64.wrap ((highTo zs p d : Nat) * 2 ^ m)) ((x : Int) / 2 ^ s % 2 ^ m) = (highTo zs p (d + m) : Nat) := by
          rw [HP, ← part_or (highTo zs p d) (x / 2 ^ s % 2 ^ m) d m (highTo_lt zs p d) (Nat.mod_lt _ (Nat.pow_pos (by omega))) (by omega)]
          congr 1
        replace HO := hide HO
        clear HP
        go_wp2
        go_roundw
        case rel => exact ⟨d + m, by omega, by rw [unhide HO], by go_num, by rw [show ((p + (d + m) : Nat) : Int) = ((p + d : Nat) : Int) + (m : Int) by omega]; exact (ReaderAt.drewN (unhide hrq') _).moved _, (World.frozen?_setCell _ _ _ _).trans hfq, (hbq.drewN _).setCell _ _⟩
        case measure => simp [intOf]; omega
    · have hdn : d = n := by omega
      subst hdn
      go_wp2
      go_ret2
      exact ⟨rfl, hrr, hbel⟩
end Go.Proofs.YthpkngipiapbpaaDoor

/- Plain facts behind the writer of bits. -/
namespace Go.Proofs.YthpkngipiapbpaaDoor
open Go.RowKit

def roomI (L : Nat) : Int := (((8 - L % 8) % 8 : Nat) : Int)
theorem div_bdv (v : Nat) (hv : v < 18446744073709551616) (k : Nat) : 0 ≤ (v : Int) / 2 ^ k ∧ (v : Int) / 2 ^ k < 18446744073709551616 := by
  have h := Nat.div_le_self v (2 ^ k)
  rw [show ((v : Int) / 2 ^ k) = ((v / 2 ^ k : Nat) : Int) by simp]
  generalize v / 2 ^ k = y at h ⊢
  omega

theorem or8 (h : Bool) (x r m ch : Nat) (hx : x < 256) (hm : r + m ≤ 8) (hf : if h then x % 2 ^ (8 - r) = 0 else x < 2 ^ r) (hc : ch < 2 ^ m) : bits .or .u8 (x : Int) (IntKind.u8.wrap (IntKind.u64.wrap ((ch : Int) * 2 ^ cex h r m))) = ((x + ch * 2 ^ cex h r m : Nat) : Int) := by
  have ho := or_into h x r m ch hm hf hc
  have hl : ch * 2 ^ cex h r m < 256 := by
    have h1 : (ch + 1) * 2 ^ cex h r m ≤ 2 ^ m * 2 ^ cex h r m := Nat.mul_le_mul_right _ hc
    rw [← Nat.pow_add] at h1
    have h2 : 2 ^ (m + cex h r m) ≤ 2 ^ 8 := Nat.pow_le_pow_right (by omega) (by unfold cex; split <;> omega)
    have h3 : 0 < 2 ^ cex h r m := Nat.pow_pos (by omega)
    rw [Nat.add_mul, Nat.one_mul] at h1
    omega
  have e : IntKind.u8.wrap (IntKind.u64.wrap ((ch : Int) * 2 ^ cex h r m)) = ((ch * 2 ^ cex h r m : Nat) : Int) := by
    rw [IntKind.wrap_u64, IntKind.wrap_u8', show ((ch : Int) * 2 ^ cex h r m) = ((ch * 2 ^ cex h r m : Nat) : Int) by simp]; omega
  rw [e, u8_or_nat _ _ hx hl, ho]
end Go.Proofs.YthpkngipiapbpaaDoor

/- The walk of the writer of bits in high order: the program's. -/
namespace Go.Proofs.YthpkngipiapbpaaDoor
open Go.RowKit


end Go.Proofs.YthpkngipiapbpaaDoor

/- The walks of PackRow: the program's. -/
namespace Go.Proofs.YthpkngipiapbpaaDoor
open Go.RowKit

theorem own_nilYS (w : World) (a b : Nat) : OwnY w a b (.slice none 0 0) [] := ⟨World.ownsRow_nil _ _ _ _, fun k hk => by simp [Value.ownBlock] at hk⟩

set_option maxHeartbeats 1000000 in
theorem implGoodDepth (d : Int) (w : World) : Calls Tryd.prog 77 #[.int .i64 d] w fun e w' => e = .returned (.bool (depthOk d)) ∧ w' = w := by
  by_cases h : depthOk d = true
  · rw [h]
    rcases depthOk_cases h with e | e | e | e | e <;> subst e <;>
    · clear h
      go_enter Tryd.func77, Tryd.ntmps77
      go_wp2
      go_ret
      exact ⟨rfl, rfl⟩
  · have h' : depthOk d = false := by simpa using h
    rw [h']
    have h1 : (d == 1) = false := by unfold depthOk at h'; simp at h' ⊢; omega
    have h2 : (d == 2) = false := by unfold depthOk at h'; simp at h' ⊢; omega
    have h3 : (d == 4) = false := by unfold depthOk at h'; simp at h' ⊢; omega
    have h4 : (d == 8) = false := by unfold depthOk at h'; simp at h' ⊢; omega
    have h5 : (d == 16) = false := by unfold depthOk at h'; simp at h' ⊢; omega
    clear h h'
    go_enter Tryd.func77, Tryd.ntmps77
    go_wp2
    go_ret
    exact ⟨rfl, rfl⟩

noncomputable def smpB (zs : List Int) (d : Int) : Bool := open Classical in decide (SmpOk zs d)
theorem smpB_yes {zs : List Int} {d : Int} (h : SmpOk zs d) : smpB zs d = true := by unfold smpB; simpa using h
theorem smpB_no {zs : List Int} {d : Int} (h : ¬ SmpOk zs d) : smpB zs d = false := by unfold smpB; simpa using h
theorem smpB_iff {zs : List Int} {d : Int} : smpB zs d = true ↔ SmpOk zs d := by unfold smpB; simp

set_option maxHeartbeats 2000000 in
theorem implGoodSamples (v : Value) (zs : List Int) (D : Nat) (w : World) (hD : D ≤ 16) (hn : zs.length ≤ 1048576) (hv : RdI w v zs) :
    Calls Tryd.prog 63 #[v, .int .i64 D] w fun e w' => e = .returned (.bool (smpB zs D)) ∧ w' = w := by
  obtain ⟨ad, cap, rfl, hA⟩ := hv
  replace hA := hide hA
  have hBad : Hid (∀ k, k < zs.length → ¬ (0 ≤ zs.getD k 0 ∧ zs.getD k 0 < 2 ^ D) → smpB zs D = false) := hide (fun k hk' hb => smpB_no (fun h => hb (by have := h k hk'; simpa using this)))
  have hGood : Hid ((∀ k, k < zs.length → (0 ≤ zs.getD k 0 ∧ zs.getD k 0 < 2 ^ D)) → smpB zs D = true) := hide (fun h => smpB_yes (fun j hj => by have := h j hj; simpa using this))
  have hp := two_pow_16 hD
  go_enter Tryd.func63, Tryd.ntmps63
  go_wp2
  go_loop [9] (fun i => ∃ k : Nat, k ≤ zs.length ∧ i = .int .i64 k ∧ Hid (∀ j, j < k → (0 ≤ zs.getD j 0 ∧ zs.getD j 0 < 2 ^ D))) (fun i => zs.length - (intOf i).toNat)
  case atStart => exact ⟨0, Nat.zero_le _, rfl, fun j hj => by omega⟩
  case round =>
    obtain ⟨k, hk', rfl, hok⟩ := hrel
    by_cases hlt : k < zs.length
    · obtain ⟨b, off, rfl, hbl, hcl⟩ := (unhide hA) (ne_of_lt_length hlt)
      have hck := hcl k hlt
      have hbad := hide (unhide hBad k hlt)
      have hOk : Hid ((0 ≤ zs.getD k 0 ∧ zs.getD k 0 < 2 ^ D) → ∀ j, j < k + 1 → (0 ≤ zs.getD j 0 ∧ zs.getD j 0 < 2 ^ D)) := hide (fun h j hj => by
        rcases Nat.lt_or_eq_of_le (Nat.le_of_lt_succ hj) with h' | h'
        · exact unhide hok j h'
        · subst h'; exact h)
      clear hcl hbl
      generalize zs.getD k 0 = x at hck hbad hOk
      by_cases h1 : x < 0
      · have hB := hide (unhide hbad (fun h => by have := h.1; omega))
        clear hbad hOk
        go_wp2
        go_ret
        exact ⟨by rw [unhide hB]; rfl, rfl⟩
      · by_cases h2 : x < 2 ^ D
        · have hok2 := hide (unhide hOk ⟨by omega, h2⟩)
          clear hbad hOk
          go_wp2
          all_goals
            go_round
            case rel => exact ⟨k + 1, by omega, by go_num, unhide hok2⟩
            case measure => simp [intOf]; omega
        · have hB := hide (unhide hbad (fun h => h2 h.2))
          clear hbad hOk
          go_wp2
          go_ret
          exact ⟨by rw [unhide hB]; rfl, rfl⟩
    · have hkl : k = zs.length := by omega
      subst hkl
      have hs := hide (unhide hGood (unhide hok))
      go_wp2
      go_ret
      exact ⟨by rw [unhide hs]; rfl, rfl⟩

end Go.Proofs.YthpkngipiapbpaaDoor

/- The walk of GoodImage: the program's parts. -/
namespace Go.Proofs.YthpkngipiapbpaaDoor
open Go.RowKit

set_option maxHeartbeats 4000000 in
set_option maxRecDepth 1000000 in
theorem implGoodShape (a b p dp : Int) (vl : Value) (ad : Option Addr) (n cap : Nat) (w : World) (hvl : vl = .slice ad n cap) :
    Calls Tryd.prog 61 #[.agg #[.int .i64 a, .int .i64 b, .int .i64 p, .int .i64 dp, vl]] w fun e w' => e = .returned (.bool (shapeB a b p dp)) ∧ Upd 0 0 w w' := by
  subst hvl
  have hU := hide (Upd.of_below ((Below.refl w.heap.size w).alloc (Nat.le_refl _) (.cells #[.int .i64 a, .int .i64 b, .int .i64 p, .int .i64 dp, .slice ad n cap] 30)) 0 0)
  have hS := hide (fun W => implGoodSide a W)
  have hS2 := hide (fun W => implGoodSide b W)
  have hD := hide (fun W => implGoodDepth dp W)
  by_cases ha : 1 ≤ a ∧ a ≤ 512
  case neg =>
    rw [shapeB_no (fun h => ha h.1)]
    rw [sideB_no ha] at hS
    clear ha
    go_enter Tryd.func61, Tryd.ntmps61
    go_wp2_with fail
    refine (unhide hS _).mono ?_
    rintro e w1 ⟨rfl, rfl⟩
    go_wp2
    go_ret
    exact ⟨rfl, unhide hU⟩
  rw [sideB_yes ha] at hS
  by_cases hb : 1 ≤ b ∧ b ≤ 512
  case neg =>
    rw [shapeB_no (fun h => hb h.2.1)]
    rw [sideB_no hb] at hS2
    clear ha hb
    go_enter Tryd.func61, Tryd.ntmps61
    go_wp2_with fail
    refine (unhide hS _).mono ?_
    rintro e w1 ⟨rfl, rfl⟩
    go_wp2_with fail
    refine (unhide hS2 _).mono ?_
    rintro e w1 ⟨rfl, rfl⟩
    go_wp2
    go_ret
    exact ⟨rfl, unhide hU⟩
  rw [sideB_yes hb] at hS2
  obtain ⟨P, hP, P1, P2⟩ := prod_bd ha hb
  by_cases hP4 : 4096 < P
  · rw [shapeB_no (fun h => by have := h.2.2.1; omega)]
    have qP : decide (4096 < P) = true := by simp; omega
    clear ha hb
    go_enter Tryd.func61, Tryd.ntmps61
    go_wp2_with fail
    refine (unhide hS _).mono ?_
    rintro e w1 ⟨rfl, rfl⟩
    go_wp2_with fail
    refine (unhide hS2 _).mono ?_
    rintro e w1 ⟨rfl, rfl⟩
    go_wp2
    go_ret
    exact ⟨rfl, unhide hU⟩
  have qP : decide (4096 < P) = false := by simp; omega
  by_cases hp1 : p < 1
  · rw [shapeB_no (fun h => by have := h.2.2.2.1.1; omega)]
    have q : decide (p < 1) = true := by simp; omega
    clear ha hb
    go_enter Tryd.func61, Tryd.ntmps61
    go_wp2_with fail
    refine (unhide hS _).mono ?_
    rintro e w1 ⟨rfl, rfl⟩
    go_wp2_with fail
    refine (unhide hS2 _).mono ?_
    rintro e w1 ⟨rfl, rfl⟩
    go_wp2
    go_ret
    exact ⟨rfl, unhide hU⟩
  have q1 : decide (p < 1) = false := by simp; omega
  by_cases hp2 : 4 < p
  · rw [shapeB_no (fun h => by have := h.2.2.2.1.2; omega)]
    have q : decide (4 < p) = true := by simp; omega
    clear ha hb
    go_enter Tryd.func61, Tryd.ntmps61
    go_wp2_with fail
    refine (unhide hS _).mono ?_
    rintro e w1 ⟨rfl, rfl⟩
    go_wp2_with fail
    refine (unhide hS2 _).mono ?_
    rintro e w1 ⟨rfl, rfl⟩
    go_wp2
    go_ret
    exact ⟨rfl, unhide hU⟩
  have q2 : decide (4 < p) = false := by simp; omega
  by_cases hd : depthOk dp = true
  case neg =>
    rw [shapeB_no (fun h => hd h.2.2.2.2.1)]
    have hd' : depthOk dp = false := by simpa using hd
    rw [hd'] at hD
    clear ha hb hd hd'
    go_enter Tryd.func61, Tryd.ntmps61
    go_wp2_with fail
    refine (unhide hS _).mono ?_
    rintro e w1 ⟨rfl, rfl⟩
    go_wp2_with fail
    refine (unhide hS2 _).mono ?_
    rintro e w1 ⟨rfl, rfl⟩
    go_wp2_with fail
    refine (unhide hD _).mono ?_
    rintro e w1 ⟨rfl, rfl⟩
    go_wp2
    go_ret
    exact ⟨rfl, unhide hU⟩
  rw [hd] at hD
  by_cases h1 : p = 1
  · subst h1
    rw [shapeB_yes ⟨ha, hb, by omega, ⟨by omega, by omega⟩, hd, .inl rfl⟩]
    replace hd := hide hd
    clear ha hb
    go_enter Tryd.func61, Tryd.ntmps61
    go_wp2_with fail
    refine (unhide hS _).mono ?_
    rintro e w1 ⟨rfl, rfl⟩
    go_wp2_with fail
    refine (unhide hS2 _).mono ?_
    rintro e w1 ⟨rfl, rfl⟩
    go_wp2_with fail
    refine (unhide hD _).mono ?_
    rintro e w1 ⟨rfl, rfl⟩
    go_wp2
    go_ret
    exact ⟨rfl, unhide hU⟩
  have r1 : (p == 1) = false := beq_eq_false_iff_ne.2 h1
  by_cases h8 : 8 ≤ dp
  · rw [shapeB_yes ⟨ha, hb, by omega, ⟨by omega, by omega⟩, hd, .inr h8⟩]
    have r2 : decide (8 ≤ dp) = true := by simp; omega
    replace hd := hide hd
    clear ha hb h1
    go_enter Tryd.func61, Tryd.ntmps61
    go_wp2_with fail
    refine (unhide hS _).mono ?_
    rintro e w1 ⟨rfl, rfl⟩
    go_wp2_with fail
    refine (unhide hS2 _).mono ?_
    rintro e w1 ⟨rfl, rfl⟩
    go_wp2_with fail
    refine (unhide hD _).mono ?_
    rintro e w1 ⟨rfl, rfl⟩
    go_wp2
    go_ret
    exact ⟨rfl, unhide hU⟩
  · rw [shapeB_no (fun h => by have := h.2.2.2.2.2; omega)]
    have r2 : decide (8 ≤ dp) = false := by simp; omega
    replace hd := hide hd
    clear ha hb h1
    go_enter Tryd.func61, Tryd.ntmps61
    go_wp2_with fail
    refine (unhide hS _).mono ?_
    rintro e w1 ⟨rfl, rfl⟩
    go_wp2_with fail
    refine (unhide hS2 _).mono ?_
    rintro e w1 ⟨rfl, rfl⟩
    go_wp2_with fail
    refine (unhide hD _).mono ?_
    rintro e w1 ⟨rfl, rfl⟩
    go_wp2
    go_ret
    exact ⟨rfl, unhide hU⟩

set_option maxHeartbeats 1000000 in
theorem implCountSamples (a b p dp P Q : Int) (vl : Value) (ad : Option Addr) (n cap : Nat) (w : World) (hvl : vl = .slice ad n cap) (hP : a * b = P) (hQ : P * p = Q) (P1 : 0 ≤ P) (P2 : P ≤ 1099511627776) (Q1 : 0 ≤ Q) (Q2 : Q ≤ 1099511627776) :
    Calls Tryd.prog 62 #[.agg #[.int .i64 a, .int .i64 b, .int .i64 p, .int .i64 dp, vl]] w fun e w' => e = .returned (.int .i64 Q) ∧ Upd 0 0 w w' := by
  subst hvl
  have hU := hide (Upd.of_below ((Below.refl w.heap.size w).alloc (Nat.le_refl _) (.cells #[.int .i64 a, .int .i64 b, .int .i64 p, .int .i64 dp, .slice ad n cap] 30)) 0 0)
  go_enter Tryd.func62, Tryd.ntmps62
  go_wp2
  go_ret
  exact ⟨rfl, unhide hU⟩
end Go.Proofs.YthpkngipiapbpaaDoor

/- The walk of GoodImage: the program's. -/
namespace Go.Proofs.YthpkngipiapbpaaDoor
open Go.RowKit

set_option maxHeartbeats 8000000 in
set_option maxRecDepth 1000000 in
theorem implGoodImage (v : Value) (d : Im) (w : World) (hn : d.2.2.2.2.length ≤ 1048576) (hR : InIm d) (hv : RdIm w v d) :
    Calls Tryd.prog 35 #[v] w fun e w' => e = .returned (.bool (goodImB d)) ∧ Upd 0 0 w w' := by
  obtain ⟨vl, rfl, h⟩ := hv
  obtain ⟨ad, cap, rfl, hA⟩ := h
  obtain ⟨a, b, p, dp, zs⟩ := d
  simp only [ims, imv] at hn hA ⊢
  have hB := (Below.refl w.heap.size w).alloc (Nat.le_refl _) (.cells #[.int .i64 a, .int .i64 b, .int .i64 p, .int .i64 dp, .slice ad zs.length cap] 30)
  have hU := Upd.of_below hB 0 0
  have hA1 := hA.below hB
  have hH := held_new w [.int .i64 a, .int .i64 b, .int .i64 p, .int .i64 dp, .slice ad zs.length cap] 30
  have hS := hide (fun W => implGoodShape a b p dp _ ad zs.length cap W rfl)
  clear hR hA
  by_cases hsh : ShapeOk a b p dp
  case neg =>
    rw [goodImB_no (fun h => hsh h.1)]
    rw [shapeB_no hsh] at hS
    clear hsh hB hA1
    go_enter Tryd.func35, Tryd.ntmps35
    go_wp2_with fail
    generalize w.alloc (.cells #[.int .i64 a, .int .i64 b, .int .i64 p, .int .i64 dp, .slice ad zs.length cap] 30) = W at hU hH ⊢
    have c0 := fun x : UpdT W => (hH.updT x).2 0 _ rfl
    have c1 := fun x : UpdT W => (hH.updT x).2 1 _ rfl
    have c2 := fun x : UpdT W => (hH.updT x).2 2 _ rfl
    have c3 := fun x : UpdT W => (hH.updT x).2 3 _ rfl
    have c4 := fun x : UpdT W => (hH.updT x).2 4 _ rfl
    refine wp_region_upd (by kernel_rfl) (by kernel_rfl) ?_
    repeat (quiet_step ((go_at_call 61; exact Calls.updT _ (unhide hS _))))
    refine wpQuiet_nil ?_
    rintro _ ⟨x, rfl⟩
    have hx := hide (hU.trans x.upd)
    generalize x.to = W2 at hx ⊢
    go_wp2
    go_ret
    exact ⟨rfl, unhide hx⟩
  rw [shapeB_yes hsh] at hS
  obtain ⟨ha, hb, hab, hp, hdp, hpd⟩ := hsh
  obtain ⟨P, hP, P1, P2⟩ := prod_bd ha hb
  obtain ⟨Q, hQ, Q1, Q2⟩ := prod3_bd (P := P) (p := p) ⟨P1, by omega⟩ hp
  have hC := hide (fun W => implCountSamples a b p dp P Q _ ad zs.length cap W rfl hP hQ (by omega) (by omega) (by omega) (by omega))
  obtain ⟨D, rfl, hD1, hD16⟩ := depthOk_nat hdp
  have hG := hide (fun W => implGoodSamples (.slice ad zs.length cap) zs D W hD16 hn)
  have hlq : (zs.length : Int) = a * b * p ↔ (zs.length : Int) = Q := by rw [hP, hQ]
  by_cases hl : (zs.length : Int) = Q
  case neg =>
    rw [goodImB_no (fun h => hl (hlq.1 h.2.1))]
    have q1 : ((zs.length : Int) == Q) = false := beq_eq_false_iff_ne.2 hl
    clear ha hb hab hp hdp hpd hP hQ hl hlq hB hA1 hG
    go_enter Tryd.func35, Tryd.ntmps35
    go_wp2_with fail
    generalize w.alloc (.cells #[.int .i64 a, .int .i64 b, .int .i64 p, .int .i64 (D : Int), .slice ad zs.length cap] 30) = W at hU hH ⊢
    have c0 := fun x : UpdT W => (hH.updT x).2 0 _ rfl
    have c1 := fun x : UpdT W => (hH.updT x).2 1 _ rfl
    have c2 := fun x : UpdT W => (hH.updT x).2 2 _ rfl
    have c3 := fun x : UpdT W => (hH.updT x).2 3 _ rfl
    have c4 := fun x : UpdT W => (hH.updT x).2 4 _ rfl
    refine wp_region_upd (by kernel_rfl) (by kernel_rfl) ?_
    repeat (quiet_step (first | (go_at_call 61; exact Calls.updT _ (unhide hS _)) | (go_at_call 62; exact Calls.updT _ (unhide hC _))))
    refine wpQuiet_nil ?_
    rintro _ ⟨x, rfl⟩
    have hx := hide (hU.trans x.upd)
    generalize x.to = W2 at hx ⊢
    go_wp2
    go_ret
    exact ⟨rfl, unhide hx⟩
  have hgs : goodImB (a, b, p, (D : Int), zs) = smpB zs D := by
    by_cases hs : SmpOk zs D
    · rw [smpB_yes hs]; exact goodImB_yes ⟨⟨ha, hb, hab, hp, hdp, hpd⟩, hlq.2 hl, hs⟩
    · rw [smpB_no hs]; exact goodImB_no (fun h => hs h.2.2)
  rw [hgs]
  have q1 : ((zs.length : Int) == Q) = true := beq_iff_eq.2 hl
  generalize smpB zs D = r at hG ⊢
  clear ha hb hab hp hdp hpd hP hQ hlq hB hgs
  replace hl := hide hl
  go_enter Tryd.func35, Tryd.ntmps35
  go_wp2_with fail
  generalize w.alloc (.cells #[.int .i64 a, .int .i64 b, .int .i64 p, .int .i64 (D : Int), .slice ad zs.length cap] 30) = W at hU hH hA1 ⊢
  have hG2 := hide (fun x : UpdT W => unhide hG x.to ⟨ad, cap, rfl, hA1.below x.upd.none⟩)
  have c0 := fun x : UpdT W => (hH.updT x).2 0 _ rfl
  have c1 := fun x : UpdT W => (hH.updT x).2 1 _ rfl
  have c2 := fun x : UpdT W => (hH.updT x).2 2 _ rfl
  have c3 := fun x : UpdT W => (hH.updT x).2 3 _ rfl
  have c4 := fun x : UpdT W => (hH.updT x).2 4 _ rfl
  clear hA1
  refine wp_region_upd (by kernel_rfl) (by kernel_rfl) ?_
  repeat (quiet_step (first | (go_at_call 61; exact Calls.updT _ (unhide hS _)) | (go_at_call 62; exact Calls.updT _ (unhide hC _)) | (go_at_call 63; exact Calls.updT_same _ (unhide hG2 _))))
  refine wpQuiet_nil ?_
  rintro _ ⟨x, rfl⟩
  have hx := hide (hU.trans x.upd)
  generalize x.to = W2 at hx ⊢
  go_wp2
  go_ret
  exact ⟨rfl, unhide hx⟩
end Go.Proofs.YthpkngipiapbpaaDoor

/- GoodStill, as the program has it. -/
namespace Go.Proofs.YthpkngipiapbpaaDoor
open Go.RowKit

theorem depth_bdI {dp : Int} (h : depthOk dp = true) : 1 ≤ dp ∧ dp ≤ 16 := by
  rcases depthOk_cases h with e | e | e | e | e <;> subst e <;> omega

set_option maxHeartbeats 4000000 in
set_option maxRecDepth 1000000 in
theorem implGoodStill (v : Value) (d : St) (w : World) (hT : Held w 1 passCells) (hn : StSize d ≤ 1048576) (hR : InSt d) (hv : RdSt w v d) :
    Calls Tryd.prog 9 #[v] w fun e w' => e = .returned (.bool (pB (GoodSt d))) ∧ Upd 0 0 w w' := by
  obtain ⟨l0, l1, l2, rfl, hr0, hr1, hr2⟩ := hv
  obtain ⟨⟨a, b, p, dp, zs⟩, zp, ps, wv⟩ := d
  simp only [Stv, StSize] at hn ⊢
  obtain ⟨hRi, _, _⟩ := hR
  change RdI w l0 zs at hr0
  change RdI w l1 zp at hr1
  change RdNt w l2 ps at hr2
  change InIm (a, b, p, dp, zs) at hRi
  have hn0 : zs.length ≤ 1048576 := by omega
  have hn1 : zp.length ≤ 1048576 := by omega
  have hn2 : ntSize ps ≤ 1048576 := by omega
  have hr0' := hide hr0
  have hr1' := hide hr1
  have hr2' := hide hr2
  obtain ⟨ad, cap, rfl, _⟩ := hr0
  obtain ⟨ad1, cap1, rfl, _⟩ := hr1
  obtain ⟨ad2, cap2, rfl, _⟩ := hr2
  clear hn
  have hB0 := (Below.refl w.heap.size w).alloc (Nat.le_refl _) (.cells #[.int .i64 a, .int .i64 b, .int .i64 p, .int .i64 dp, .slice ad zs.length cap, .slice ad1 zp.length cap1, .slice ad2 ps.length cap2, .bool wv] 33)
  have hbx := hide (held_new w [.int .i64 a, .int .i64 b, .int .i64 p, .int .i64 dp, .slice ad zs.length cap, .slice ad1 zp.length cap1, .slice ad2 ps.length cap2, .bool wv] 33)
  have hGI := hide (implGoodImage _ (a, b, p, dp, zs) _ hn0 hRi ⟨_, rfl, (unhide hr0').below hB0⟩)
  have hPl := palAll_iff ((a, b, p, dp, zs), zp, ps, wv)
  replace hPl := hide hPl
  replace hB0 := hide hB0
  replace hRi := hide hRi
  replace hT := hide hT
  by_cases hg : GoodIm (a, b, p, dp, zs)
  · rw [goodImB_yes hg] at hGI
    by_cases hp1 : PalAll (a, b, p, dp, zs) zp
    · by_cases hnt : NotesOk ps
      · obtain ⟨⟨ha, hb, hab, hp, hdp, hpd⟩, hl, hsmp⟩ := id hg
        replace hdp := depth_bdI hdp
        replace hl := hide hl
        replace hab := hide hab
        replace hsmp := hide hsmp
        obtain ⟨T, hTt⟩ : ∃ T, totTo (sidesOf a b wv) p dp (sidesOf a b wv).length = T := ⟨_, rfl⟩
        have hTT : Hid (totOf (a, b, p, dp, zs) wv = T) := hide hTt
        have hTot := hide (fun W (hW : Below w.heap.size w W) => implCountRows a b p dp ad ad1 ad2 zs.length zp.length ps.length cap cap1 cap2 wv W ((unhide hT).upd (Upd.of_below hW 0 0) (.inr (Nat.zero_le _))) ha hb hp hdp T hTt)
        replace hTt := hide hTt
        replace hg := hide hg
        by_cases h6 : T ≤ 6000
        · have hE : Hid (pB (GoodSt ((a, b, p, dp, zs), zp, ps, wv)) = true) := hide (pB_yes ⟨unhide hg, ((unhide hPl).1 hp1).1, ((unhide hPl).1 hp1).2, hnt, by rw [unhide hTT]; exact h6⟩)
          go_enter Tryd.func9, Tryd.ntmps9
          go_wp2_with fail
          change Hid (Held (w.alloc (.cells #[.int .i64 a, .int .i64 b, .int .i64 p, .int .i64 dp, .slice ad zs.length cap, .slice ad1 zp.length cap1, .slice ad2 ps.length cap2, .bool wv] 33)) _ _) at hbx
          generalize w.alloc (.cells #[.int .i64 a, .int .i64 b, .int .i64 p, .int .i64 dp, .slice ad zs.length cap, .slice ad1 zp.length cap1, .slice ad2 ps.length cap2, .bool wv] 33) = w0 at hB0 hbx hGI ⊢
          refine (unhide hGI).mono ?_
          rintro e w1 ⟨rfl, hu⟩
          replace hbx := hide ((unhide hbx).keep hu)
          replace hB0 := hide (below_upd (unhide hB0) hu (Nat.le_refl _) (.inr (Nat.le_refl _)))
          clear hu
          have hC := implGoodPalette _ zp _ (a, b, p, dp, zs) w1 hn0 hn1 ((unhide hr1').below (unhide hB0)) ⟨_, rfl, (unhide hr0').below (unhide hB0)⟩
          rw [pB_yes hp1] at hC
          replace hC := hide hC
          replace hp1 := hide hp1
          have c0 := (unhide hbx).2 0 _ rfl
          have c1 := (unhide hbx).2 1 _ rfl
          have c2 := (unhide hbx).2 2 _ rfl
          have c3 := (unhide hbx).2 3 _ rfl
          have c4 := (unhide hbx).2 4 _ rfl
          have c5 := (unhide hbx).2 5 _ rfl
          have c6 := (unhide hbx).2 6 _ rfl
          have c7 := (unhide hbx).2 7 _ rfl
          have cl := (unhide hbx).1
          go_wp2_with fail
          clear c0 c1 c2 c3 c4 c5 c6 c7 cl
          refine (unhide hC).mono ?_
          rintro e w2 ⟨rfl, hu⟩
          replace hbx := hide ((unhide hbx).keep hu)
          replace hB0 := hide (below_upd (unhide hB0) hu (Nat.le_refl _) (.inr (Nat.le_refl _)))
          clear hu
          clear hC
          have hC := implGoodNotes _ ps w2 hn2 ((unhide hr2').below (unhide hB0))
          rw [pB_yes hnt] at hC
          replace hC := hide hC
          replace hnt := hide hnt
          have c0 := (unhide hbx).2 0 _ rfl
          have c1 := (unhide hbx).2 1 _ rfl
          have c2 := (unhide hbx).2 2 _ rfl
          have c3 := (unhide hbx).2 3 _ rfl
          have c4 := (unhide hbx).2 4 _ rfl
          have c5 := (unhide hbx).2 5 _ rfl
          have c6 := (unhide hbx).2 6 _ rfl
          have c7 := (unhide hbx).2 7 _ rfl
          have cl := (unhide hbx).1
          go_wp2_with fail
          clear c0 c1 c2 c3 c4 c5 c6 c7 cl
          refine (unhide hC).mono ?_
          rintro e w3 ⟨rfl, hu⟩
          replace hbx := hide ((unhide hbx).keep hu)
          replace hB0 := hide (below_upd (unhide hB0) hu (Nat.le_refl _) (.inr (Nat.le_refl _)))
          clear hu
          clear hC
          have hC := hide (unhide hTot w3 (unhide hB0))
          have c0 := (unhide hbx).2 0 _ rfl
          have c1 := (unhide hbx).2 1 _ rfl
          have c2 := (unhide hbx).2 2 _ rfl
          have c3 := (unhide hbx).2 3 _ rfl
          have c4 := (unhide hbx).2 4 _ rfl
          have c5 := (unhide hbx).2 5 _ rfl
          have c6 := (unhide hbx).2 6 _ rfl
          have c7 := (unhide hbx).2 7 _ rfl
          have cl := (unhide hbx).1
          go_wp2_with fail
          clear c0 c1 c2 c3 c4 c5 c6 c7 cl
          refine (unhide hC).mono ?_
          rintro e w4 ⟨rfl, hu⟩
          replace hbx := hide ((unhide hbx).keep hu)
          replace hB0 := hide (below_upd (unhide hB0) hu (Nat.le_refl _) (.inr (Nat.le_refl _)))
          clear hu
          clear hC hTot
          have c0 := (unhide hbx).2 0 _ rfl
          have c1 := (unhide hbx).2 1 _ rfl
          have c2 := (unhide hbx).2 2 _ rfl
          have c3 := (unhide hbx).2 3 _ rfl
          have c4 := (unhide hbx).2 4 _ rfl
          have c5 := (unhide hbx).2 5 _ rfl
          have c6 := (unhide hbx).2 6 _ rfl
          have c7 := (unhide hbx).2 7 _ rfl
          have cl := (unhide hbx).1
          go_wp2
          go_ret
          exact ⟨by rw [unhide hE]; first | rfl | (simp; done) | (simp; omega), Upd.of_below (unhide hB0) 0 0⟩
        · have hE : Hid (pB (GoodSt ((a, b, p, dp, zs), zp, ps, wv)) = false) := hide (pB_no (fun h => h6 (by rw [← unhide hTT]; exact h.2.2.2.2)))
          go_enter Tryd.func9, Tryd.ntmps9
          go_wp2_with fail
          change Hid (Held (w.alloc (.cells #[.int .i64 a, .int .i64 b, .int .i64 p, .int .i64 dp, .slice ad zs.length cap, .slice ad1 zp.length cap1, .slice ad2 ps.length cap2, .bool wv] 33)) _ _) at hbx
          generalize w.alloc (.cells #[.int .i64 a, .int .i64 b, .int .i64 p, .int .i64 dp, .slice ad zs.length cap, .slice ad1 zp.length cap1, .slice ad2 ps.length cap2, .bool wv] 33) = w0 at hB0 hbx hGI ⊢
          refine (unhide hGI).mono ?_
          rintro e w1 ⟨rfl, hu⟩
          replace hbx := hide ((unhide hbx).keep hu)
          replace hB0 := hide (below_upd (unhide hB0) hu (Nat.le_refl _) (.inr (Nat.le_refl _)))
          clear hu
          have hC := implGoodPalette _ zp _ (a, b, p, dp, zs) w1 hn0 hn1 ((unhide hr1').below (unhide hB0)) ⟨_, rfl, (unhide hr0').below (unhide hB0)⟩
          rw [pB_yes hp1] at hC
          replace hC := hide hC
          replace hp1 := hide hp1
          have c0 := (unhide hbx).2 0 _ rfl
          have c1 := (unhide hbx).2 1 _ rfl
          have c2 := (unhide hbx).2 2 _ rfl
          have c3 := (unhide hbx).2 3 _ rfl
          have c4 := (unhide hbx).2 4 _ rfl
          have c5 := (unhide hbx).2 5 _ rfl
          have c6 := (unhide hbx).2 6 _ rfl
          have c7 := (unhide hbx).2 7 _ rfl
          have cl := (unhide hbx).1
          go_wp2_with fail
          clear c0 c1 c2 c3 c4 c5 c6 c7 cl
          refine (unhide hC).mono ?_
          rintro e w2 ⟨rfl, hu⟩
          replace hbx := hide ((unhide hbx).keep hu)
          replace hB0 := hide (below_upd (unhide hB0) hu (Nat.le_refl _) (.inr (Nat.le_refl _)))
          clear hu
          clear hC
          have hC := implGoodNotes _ ps w2 hn2 ((unhide hr2').below (unhide hB0))
          rw [pB_yes hnt] at hC
          replace hC := hide hC
          replace hnt := hide hnt
          have c0 := (unhide hbx).2 0 _ rfl
          have c1 := (unhide hbx).2 1 _ rfl
          have c2 := (unhide hbx).2 2 _ rfl
          have c3 := (unhide hbx).2 3 _ rfl
          have c4 := (unhide hbx).2 4 _ rfl
          have c5 := (unhide hbx).2 5 _ rfl
          have c6 := (unhide hbx).2 6 _ rfl
          have c7 := (unhide hbx).2 7 _ rfl
          have cl := (unhide hbx).1
          go_wp2_with fail
          clear c0 c1 c2 c3 c4 c5 c6 c7 cl
          refine (unhide hC).mono ?_
          rintro e w3 ⟨rfl, hu⟩
          replace hbx := hide ((unhide hbx).keep hu)
          replace hB0 := hide (below_upd (unhide hB0) hu (Nat.le_refl _) (.inr (Nat.le_refl _)))
          clear hu
          clear hC
          have hC := hide (unhide hTot w3 (unhide hB0))
          have c0 := (unhide hbx).2 0 _ rfl
          have c1 := (unhide hbx).2 1 _ rfl
          have c2 := (unhide hbx).2 2 _ rfl
          have c3 := (unhide hbx).2 3 _ rfl
          have c4 := (unhide hbx).2 4 _ rfl
          have c5 := (unhide hbx).2 5 _ rfl
          have c6 := (unhide hbx).2 6 _ rfl
          have c7 := (unhide hbx).2 7 _ rfl
          have cl := (unhide hbx).1
          go_wp2_with fail
          clear c0 c1 c2 c3 c4 c5 c6 c7 cl
          refine (unhide hC).mono ?_
          rintro e w4 ⟨rfl, hu⟩
          replace hbx := hide ((unhide hbx).keep hu)
          replace hB0 := hide (below_upd (unhide hB0) hu (Nat.le_refl _) (.inr (Nat.le_refl _)))
          clear hu
          clear hC hTot
          have c0 := (unhide hbx).2 0 _ rfl
          have c1 := (unhide hbx).2 1 _ rfl
          have c2 := (unhide hbx).2 2 _ rfl
          have c3 := (unhide hbx).2 3 _ rfl
          have c4 := (unhide hbx).2 4 _ rfl
          have c5 := (unhide hbx).2 5 _ rfl
          have c6 := (unhide hbx).2 6 _ rfl
          have c7 := (unhide hbx).2 7 _ rfl
          have cl := (unhide hbx).1
          go_wp2
          go_ret
          exact ⟨by rw [unhide hE]; first | rfl | (simp; done) | (simp; omega), Upd.of_below (unhide hB0) 0 0⟩
      · have hE : Hid (pB (GoodSt ((a, b, p, dp, zs), zp, ps, wv)) = false) := hide (pB_no (fun h => hnt h.2.2.2.1))
        replace hg := hide hg
        go_enter Tryd.func9, Tryd.ntmps9
        go_wp2_with fail
        change Hid (Held (w.alloc (.cells #[.int .i64 a, .int .i64 b, .int .i64 p, .int .i64 dp, .slice ad zs.length cap, .slice ad1 zp.length cap1, .slice ad2 ps.length cap2, .bool wv] 33)) _ _) at hbx
        generalize w.alloc (.cells #[.int .i64 a, .int .i64 b, .int .i64 p, .int .i64 dp, .slice ad zs.length cap, .slice ad1 zp.length cap1, .slice ad2 ps.length cap2, .bool wv] 33) = w0 at hB0 hbx hGI ⊢
        refine (unhide hGI).mono ?_
        rintro e w1 ⟨rfl, hu⟩
        replace hbx := hide ((unhide hbx).keep hu)
        replace hB0 := hide (below_upd (unhide hB0) hu (Nat.le_refl _) (.inr (Nat.le_refl _)))
        clear hu
        have hC := implGoodPalette _ zp _ (a, b, p, dp, zs) w1 hn0 hn1 ((unhide hr1').below (unhide hB0)) ⟨_, rfl, (unhide hr0').below (unhide hB0)⟩
        rw [pB_yes hp1] at hC
        replace hC := hide hC
        replace hp1 := hide hp1
        have c0 := (unhide hbx).2 0 _ rfl
        have c1 := (unhide hbx).2 1 _ rfl
        have c2 := (unhide hbx).2 2 _ rfl
        have c3 := (unhide hbx).2 3 _ rfl
        have c4 := (unhide hbx).2 4 _ rfl
        have c5 := (unhide hbx).2 5 _ rfl
        have c6 := (unhide hbx).2 6 _ rfl
        have c7 := (unhide hbx).2 7 _ rfl
        have cl := (unhide hbx).1
        go_wp2_with fail
        clear c0 c1 c2 c3 c4 c5 c6 c7 cl
        refine (unhide hC).mono ?_
        rintro e w2 ⟨rfl, hu⟩
        replace hbx := hide ((unhide hbx).keep hu)
        replace hB0 := hide (below_upd (unhide hB0) hu (Nat.le_refl _) (.inr (Nat.le_refl _)))
        clear hu
        clear hC
        have hC := implGoodNotes _ ps w2 hn2 ((unhide hr2').below (unhide hB0))
        rw [pB_no hnt] at hC
        replace hC := hide hC
        replace hnt := hide hnt
        have c0 := (unhide hbx).2 0 _ rfl
        have c1 := (unhide hbx).2 1 _ rfl
        have c2 := (unhide hbx).2 2 _ rfl
        have c3 := (unhide hbx).2 3 _ rfl
        have c4 := (unhide hbx).2 4 _ rfl
        have c5 := (unhide hbx).2 5 _ rfl
        have c6 := (unhide hbx).2 6 _ rfl
        have c7 := (unhide hbx).2 7 _ rfl
        have cl := (unhide hbx).1
        go_wp2_with fail
        clear c0 c1 c2 c3 c4 c5 c6 c7 cl
        refine (unhide hC).mono ?_
        rintro e w3 ⟨rfl, hu⟩
        replace hbx := hide ((unhide hbx).keep hu)
        replace hB0 := hide (below_upd (unhide hB0) hu (Nat.le_refl _) (.inr (Nat.le_refl _)))
        clear hu
        clear hC
        have c0 := (unhide hbx).2 0 _ rfl
        have c1 := (unhide hbx).2 1 _ rfl
        have c2 := (unhide hbx).2 2 _ rfl
        have c3 := (unhide hbx).2 3 _ rfl
        have c4 := (unhide hbx).2 4 _ rfl
        have c5 := (unhide hbx).2 5 _ rfl
        have c6 := (unhide hbx).2 6 _ rfl
        have c7 := (unhide hbx).2 7 _ rfl
        have cl := (unhide hbx).1
        go_wp2
        go_ret
        exact ⟨by rw [unhide hE]; first | rfl | (simp; done) | (simp; omega), Upd.of_below (unhide hB0) 0 0⟩
    · have hE : Hid (pB (GoodSt ((a, b, p, dp, zs), zp, ps, wv)) = false) := hide (pB_no (fun h => hp1 ((unhide hPl).2 ⟨h.2.1, h.2.2.1⟩)))
      replace hg := hide hg
      go_enter Tryd.func9, Tryd.ntmps9
      go_wp2_with fail
      change Hid (Held (w.alloc (.cells #[.int .i64 a, .int .i64 b, .int .i64 p, .int .i64 dp, .slice ad zs.length cap, .slice ad1 zp.length cap1, .slice ad2 ps.length cap2, .bool wv] 33)) _ _) at hbx
      generalize w.alloc (.cells #[.int .i64 a, .int .i64 b, .int .i64 p, .int .i64 dp, .slice ad zs.length cap, .slice ad1 zp.length cap1, .slice ad2 ps.length cap2, .bool wv] 33) = w0 at hB0 hbx hGI ⊢
      refine (unhide hGI).mono ?_
      rintro e w1 ⟨rfl, hu⟩
      replace hbx := hide ((unhide hbx).keep hu)
      replace hB0 := hide (below_upd (unhide hB0) hu (Nat.le_refl _) (.inr (Nat.le_refl _)))
      clear hu
      have hC := implGoodPalette _ zp _ (a, b, p, dp, zs) w1 hn0 hn1 ((unhide hr1').below (unhide hB0)) ⟨_, rfl, (unhide hr0').below (unhide hB0)⟩
      rw [pB_no hp1] at hC
      replace hC := hide hC
      replace hp1 := hide hp1
      have c0 := (unhide hbx).2 0 _ rfl
      have c1 := (unhide hbx).2 1 _ rfl
      have c2 := (unhide hbx).2 2 _ rfl
      have c3 := (unhide hbx).2 3 _ rfl
      have c4 := (unhide hbx).2 4 _ rfl
      have c5 := (unhide hbx).2 5 _ rfl
      have c6 := (unhide hbx).2 6 _ rfl
      have c7 := (unhide hbx).2 7 _ rfl
      have cl := (unhide hbx).1
      go_wp2_with fail
      clear c0 c1 c2 c3 c4 c5 c6 c7 cl
      refine (unhide hC).mono ?_
      rintro e w2 ⟨rfl, hu⟩
      replace hbx := hide ((unhide hbx).keep hu)
      replace hB0 := hide (below_upd (unhide hB0) hu (Nat.le_refl _) (.inr (Nat.le_refl _)))
      clear hu
      clear hC
      have c0 := (unhide hbx).2 0 _ rfl
      have c1 := (unhide hbx).2 1 _ rfl
      have c2 := (unhide hbx).2 2 _ rfl
      have c3 := (unhide hbx).2 3 _ rfl
      have c4 := (unhide hbx).2 4 _ rfl
      have c5 := (unhide hbx).2 5 _ rfl
      have c6 := (unhide hbx).2 6 _ rfl
      have c7 := (unhide hbx).2 7 _ rfl
      have cl := (unhide hbx).1
      go_wp2
      go_ret
      exact ⟨by rw [unhide hE]; first | rfl | (simp; done) | (simp; omega), Upd.of_below (unhide hB0) 0 0⟩
  · have hE : Hid (pB (GoodSt ((a, b, p, dp, zs), zp, ps, wv)) = false) := hide (pB_no (fun h => hg h.1))
    rw [goodImB_no hg] at hGI
    replace hg := hide hg
    go_enter Tryd.func9, Tryd.ntmps9
    go_wp2_with fail
    change Hid (Held (w.alloc (.cells #[.int .i64 a, .int .i64 b, .int .i64 p, .int .i64 dp, .slice ad zs.length cap, .slice ad1 zp.length cap1, .slice ad2 ps.length cap2, .bool wv] 33)) _ _) at hbx
    generalize w.alloc (.cells #[.int .i64 a, .int .i64 b, .int .i64 p, .int .i64 dp, .slice ad zs.length cap, .slice ad1 zp.length cap1, .slice ad2 ps.length cap2, .bool wv] 33) = w0 at hB0 hbx hGI ⊢
    refine (unhide hGI).mono ?_
    rintro e w1 ⟨rfl, hu⟩
    replace hbx := hide ((unhide hbx).keep hu)
    replace hB0 := hide (below_upd (unhide hB0) hu (Nat.le_refl _) (.inr (Nat.le_refl _)))
    clear hu
    have c0 := (unhide hbx).2 0 _ rfl
    have c1 := (unhide hbx).2 1 _ rfl
    have c2 := (unhide hbx).2 2 _ rfl
    have c3 := (unhide hbx).2 3 _ rfl
    have c4 := (unhide hbx).2 4 _ rfl
    have c5 := (unhide hbx).2 5 _ rfl
    have c6 := (unhide hbx).2 6 _ rfl
    have c7 := (unhide hbx).2 7 _ rfl
    have cl := (unhide hbx).1
    go_wp2
    go_ret
    exact ⟨by rw [unhide hE]; first | rfl | (simp; done) | (simp; omega), Upd.of_below (unhide hB0) 0 0⟩
end Go.Proofs.YthpkngipiapbpaaDoor

/- The law on GoodStill, walked: what it calls is told by the walks of the specification and of the program. -/
namespace Go.Proofs.YthpkngipiapbpaaDoor
open Go.RowKit

set_option maxHeartbeats 1000000 in
theorem lawGoodStill_long0 (d0 : St) (ad0_0 : Option Addr) (cap0_0 : Nat) (ad0_1 : Option Addr) (cap0_1 : Nat) (ad0_2 : Option Addr) (cap0_2 : Nat) (w : World) (hz0 : (d0.1.2.2.2.2.length ≤ 9223372036854775807 ∧ d0.2.1.length ≤ 9223372036854775807 ∧ d0.2.2.1.length ≤ 9223372036854775807))  (_hn0 : 1048576 < d0.1.2.2.2.2.length + d0.2.1.length + ntSize d0.2.2.1) (hA0_0 : ArgI w ad0_0 d0.1.2.2.2.2) (hA0_1 : ArgI w ad0_1 d0.2.1) (hA0_2 : ArgNt w ad0_2 d0.2.2.1) (hR0 : InSt d0) :
    Calls Tryd.prog 3 #[.agg #[.int .i64 d0.1.1, .int .i64 d0.1.2.1, .int .i64 d0.1.2.2.1, .int .i64 d0.1.2.2.2.1, .slice ad0_0 d0.1.2.2.2.2.length cap0_0, .slice ad0_1 d0.2.1.length cap0_1, .slice ad0_2 d0.2.2.1.length cap0_2, .bool d0.2.2.2]] w fun e w' => e = .returned (.bool true) ∧ Below w.heap.size w w' := by
  replace hA0_0 := hide hA0_0
  replace hA0_1 := hide hA0_1
  replace hA0_2 := hide hA0_2
  replace hR0 := hide hR0
  have hB := hide (Below.refl w.heap.size w)
  go_enter Tryd.func3, Tryd.ntmps3
  go_wp2_with fail
  have hu := Upd.of_below ((Below.refl w.heap.size w).alloc (Nat.le_refl _) (.cells #[.int .i64 d0.1.1, .int .i64 d0.1.2.1, .int .i64 d0.1.2.2.1, .int .i64 d0.1.2.2.2.1, .slice ad0_0 d0.1.2.2.2.2.length cap0_0, .slice ad0_1 d0.2.1.length cap0_1, .slice ad0_2 d0.2.2.1.length cap0_2, .bool d0.2.2.2] 27)) 0 0
  replace hB := hide (below_upd (unhide hB) hu (Nat.le_refl _) (.inr (Nat.le_refl _)))
  have hs1 : Hid (w.heap.size + 1 ≤ (w.alloc (.cells #[.int .i64 d0.1.1, .int .i64 d0.1.2.1, .int .i64 d0.1.2.2.1, .int .i64 d0.1.2.2.2.1, .slice ad0_0 d0.1.2.2.2.2.length cap0_0, .slice ad0_1 d0.2.1.length cap0_1, .slice ad0_2 d0.2.2.1.length cap0_2, .bool d0.2.2.2] 27)).heap.size) := hide (by simp)
  have cp0 := hide (held_new w [.int .i64 d0.1.1, .int .i64 d0.1.2.1, .int .i64 d0.1.2.2.1, .int .i64 d0.1.2.2.2.1, .slice ad0_0 d0.1.2.2.2.2.length cap0_0, .slice ad0_1 d0.2.1.length cap0_1, .slice ad0_2 d0.2.2.1.length cap0_2, .bool d0.2.2.2] 27)
  clear hu
  generalize w.alloc (.cells #[.int .i64 d0.1.1, .int .i64 d0.1.2.1, .int .i64 d0.1.2.2.1, .int .i64 d0.1.2.2.2.1, .slice ad0_0 d0.1.2.2.2.2.length cap0_0, .slice ad0_1 d0.2.1.length cap0_1, .slice ad0_2 d0.2.2.1.length cap0_2, .bool d0.2.2.2] 27) = w1 at  hB hs1 cp0 ⊢
  refine (szStill_any d0.1.1 d0.1.2.1 d0.1.2.2.1 d0.1.2.2.2.1 d0.1.2.2.2.2 d0.2.1 d0.2.2.1 d0.2.2.2 ad0_0 cap0_0 ad0_1 cap0_1 ad0_2 cap0_2 (1048576) w1 (by omega) (by omega) hz0.1 hz0.2.1 hz0.2.2 (unhide hR0).2.2 ((unhide hA0_2).below (unhide hB))).mono ?_
  rintro e w2 ⟨rfl, hu⟩
  replace cp0 := hide ((unhide cp0).keep hu)
  replace hB := hide (below_upd (unhide hB) hu (Nat.le_refl _) (.inr (Nat.le_refl _)))
  have hs2 : Hid (w1.heap.size ≤ w2.heap.size) := hide hu.size
  clear hu
  rw [if_pos (by omega)]
  go_wp2
  go_ret
  exact ⟨rfl, unhide hB⟩

set_option maxHeartbeats 4000000 in
set_option maxRecDepth 100000 in
theorem lawGoodStill_short (d0 : St) (ad0_0 : Option Addr) (cap0_0 : Nat) (ad0_1 : Option Addr) (cap0_1 : Nat) (ad0_2 : Option Addr) (cap0_2 : Nat) (w : World) (hT : Held w 1 passCells) (hz0 : (d0.1.2.2.2.2.length ≤ 9223372036854775807 ∧ d0.2.1.length ≤ 9223372036854775807 ∧ d0.2.2.1.length ≤ 9223372036854775807)) (hn : d0.1.2.2.2.2.length + d0.2.1.length + ntSize d0.2.2.1 ≤ 1048576) (hA0_0 : ArgI w ad0_0 d0.1.2.2.2.2) (hA0_1 : ArgI w ad0_1 d0.2.1) (hA0_2 : ArgNt w ad0_2 d0.2.2.1) (hR0 : InSt d0) :
    Calls Tryd.prog 3 #[.agg #[.int .i64 d0.1.1, .int .i64 d0.1.2.1, .int .i64 d0.1.2.2.1, .int .i64 d0.1.2.2.2.1, .slice ad0_0 d0.1.2.2.2.2.length cap0_0, .slice ad0_1 d0.2.1.length cap0_1, .slice ad0_2 d0.2.2.1.length cap0_2, .bool d0.2.2.2]] w fun e w' => e = .returned (.bool true) ∧ Below w.heap.size w w' := by
  have hT0 := hide hT.1
  replace hT := hide hT
  have hn0 : (StSize d0 ≤ 1048576) := by unfold StSize; omega
  replace hA0_0 := hide hA0_0
  replace hA0_1 := hide hA0_1
  replace hA0_2 := hide hA0_2
  replace hR0 := hide hR0
  have hB := hide (Below.refl w.heap.size w)
  go_enter Tryd.func3, Tryd.ntmps3
  have hleft0 : (0 : Int) ≤ 1048576 := by omega
  go_wp2_with fail
  have hu := Upd.of_below ((Below.refl w.heap.size w).alloc (Nat.le_refl _) (.cells #[.int .i64 d0.1.1, .int .i64 d0.1.2.1, .int .i64 d0.1.2.2.1, .int .i64 d0.1.2.2.2.1, .slice ad0_0 d0.1.2.2.2.2.length cap0_0, .slice ad0_1 d0.2.1.length cap0_1, .slice ad0_2 d0.2.2.1.length cap0_2, .bool d0.2.2.2] 27)) 0 0
  replace hT := hide ((unhide hT).keep hu)
  replace hB := hide (below_upd (unhide hB) hu (Nat.le_refl _) (.inr (Nat.le_refl _)))
  have hs1 : Hid (w.heap.size + 1 ≤ (w.alloc (.cells #[.int .i64 d0.1.1, .int .i64 d0.1.2.1, .int .i64 d0.1.2.2.1, .int .i64 d0.1.2.2.2.1, .slice ad0_0 d0.1.2.2.2.2.length cap0_0, .slice ad0_1 d0.2.1.length cap0_1, .slice ad0_2 d0.2.2.1.length cap0_2, .bool d0.2.2.2] 27)).heap.size) := hide (by simp)
  have cp0 := hide (held_new w [.int .i64 d0.1.1, .int .i64 d0.1.2.1, .int .i64 d0.1.2.2.1, .int .i64 d0.1.2.2.2.1, .slice ad0_0 d0.1.2.2.2.2.length cap0_0, .slice ad0_1 d0.2.1.length cap0_1, .slice ad0_2 d0.2.2.1.length cap0_2, .bool d0.2.2.2] 27)
  clear hu
  generalize w.alloc (.cells #[.int .i64 d0.1.1, .int .i64 d0.1.2.1, .int .i64 d0.1.2.2.1, .int .i64 d0.1.2.2.2.1, .slice ad0_0 d0.1.2.2.2.2.length cap0_0, .slice ad0_1 d0.2.1.length cap0_1, .slice ad0_2 d0.2.2.1.length cap0_2, .bool d0.2.2.2] 27) = w1 at hT hB hs1 cp0 ⊢
  refine (szStill_any d0.1.1 d0.1.2.1 d0.1.2.2.1 d0.1.2.2.2.1 d0.1.2.2.2.2 d0.2.1 d0.2.2.1 d0.2.2.2 ad0_0 cap0_0 ad0_1 cap0_1 ad0_2 cap0_2 (1048576) w1 (by omega) (by omega) hz0.1 hz0.2.1 hz0.2.2 (unhide hR0).2.2 ((unhide hA0_2).below (unhide hB))).mono ?_
  rintro e w2 ⟨rfl, hu⟩
  replace hT := hide ((unhide hT).keep hu)
  replace cp0 := hide ((unhide cp0).keep hu)
  replace hB := hide (below_upd (unhide hB) hu (Nat.le_refl _) (.inr (Nat.le_refl _)))
  have hs2 : Hid (w1.heap.size ≤ w2.heap.size) := hide hu.size
  clear hu
  rw [if_neg (by omega)]
  have hleft0 : ¬ (1048576 - ((d0.1.2.2.2.2.length + d0.2.1.length + ntSize d0.2.2.1 : Nat) : Int) < 0) := by omega
  have kcp0_0 := (unhide cp0).2 0 _ rfl
  have kcp0_1 := (unhide cp0).2 1 _ rfl
  have kcp0_2 := (unhide cp0).2 2 _ rfl
  have kcp0_3 := (unhide cp0).2 3 _ rfl
  have kcp0_4 := (unhide cp0).2 4 _ rfl
  have kcp0_5 := (unhide cp0).2 5 _ rfl
  have kcp0_6 := (unhide cp0).2 6 _ rfl
  have kcp0_7 := (unhide cp0).2 7 _ rfl
  have kcp0_l := (unhide cp0).1
  go_wp2_with fail
  clear kcp0_0 kcp0_1 kcp0_2 kcp0_3 kcp0_4 kcp0_5 kcp0_6 kcp0_7 kcp0_l
  refine (toStill_own _ d0 w2 hn0 ⟨_, _, _, rfl, ⟨ad0_0, cap0_0, rfl, (unhide hA0_0).below (unhide hB)⟩, ⟨ad0_1, cap0_1, rfl, (unhide hA0_1).below (unhide hB)⟩, ⟨ad0_2, cap0_2, rfl, (unhide hA0_2).below (unhide hB)⟩⟩).mono ?_
  rintro e w3 ⟨vy0_w0, rfl, ho, hu⟩
  replace hT := hide ((unhide hT).keep hu)
  replace cp0 := hide ((unhide cp0).keep hu)
  replace hB := hide (below_upd (unhide hB) hu (Nat.le_refl _) (.inr (Nat.le_refl _)))
  have hs3 : Hid (w2.heap.size ≤ w3.heap.size) := hide hu.size
  have y0_w0 := hide ho
  clear hu ho
  go_wp2_with fail
  refine (specGoodStill _ d0 w3  hn0 (unhide hR0) (OwnSt.rd (unhide y0_w0))).mono ?_
  rintro e w4 ⟨rfl, hu⟩
  replace y0_w0 := hide ((unhide y0_w0).keep hu)
  replace hT := hide ((unhide hT).keep hu)
  replace cp0 := hide ((unhide cp0).keep hu)
  replace hB := hide (below_upd (unhide hB) hu (Nat.le_refl _) (.inr (Nat.le_refl _)))
  have hs4 : Hid (w3.heap.size ≤ w4.heap.size) := hide hu.size
  clear hu
  clear y0_w0
  have kcp0_0 := (unhide cp0).2 0 _ rfl
  have kcp0_1 := (unhide cp0).2 1 _ rfl
  have kcp0_2 := (unhide cp0).2 2 _ rfl
  have kcp0_3 := (unhide cp0).2 3 _ rfl
  have kcp0_4 := (unhide cp0).2 4 _ rfl
  have kcp0_5 := (unhide cp0).2 5 _ rfl
  have kcp0_6 := (unhide cp0).2 6 _ rfl
  have kcp0_7 := (unhide cp0).2 7 _ rfl
  have kcp0_l := (unhide cp0).1
  go_wp2_with fail
  clear kcp0_0 kcp0_1 kcp0_2 kcp0_3 kcp0_4 kcp0_5 kcp0_6 kcp0_7 kcp0_l
  refine (toStill_own _ d0 w4 hn0 ⟨_, _, _, rfl, ⟨ad0_0, cap0_0, rfl, (unhide hA0_0).below (unhide hB)⟩, ⟨ad0_1, cap0_1, rfl, (unhide hA0_1).below (unhide hB)⟩, ⟨ad0_2, cap0_2, rfl, (unhide hA0_2).below (unhide hB)⟩⟩).mono ?_
  rintro e w5 ⟨vx0, rfl, ho, hu⟩
  replace hT := hide ((unhide hT).keep hu)
  replace cp0 := hide ((unhide cp0).keep hu)
  replace hB := hide (below_upd (unhide hB) hu (Nat.le_refl _) (.inr (Nat.le_refl _)))
  have hs5 : Hid (w4.heap.size ≤ w5.heap.size) := hide hu.size
  have x0 := hide ho
  clear hu ho
  obtain ⟨adx0_0, capx0_0, adx0_1, capx0_1, adx0_2, capx0_2, hvx0⟩ := OwnSt.form (unhide x0)
  subst hvx0
  go_wp2_with fail
  have hu := Upd.of_below ((Below.refl w5.heap.size w5).alloc (Nat.le_refl _) (.cells #[.int .i64 d0.1.1, .int .i64 d0.1.2.1, .int .i64 d0.1.2.2.1, .int .i64 d0.1.2.2.2.1, .slice adx0_0 d0.1.2.2.2.2.length capx0_0, .slice adx0_1 d0.2.1.length capx0_1, .slice adx0_2 d0.2.2.1.length capx0_2, .bool d0.2.2.2] 33)) 0 0
  replace x0 := hide ((unhide x0).keep hu)
  replace hT := hide ((unhide hT).keep hu)
  replace cp0 := hide ((unhide cp0).keep hu)
  replace hB := hide (below_upd (unhide hB) hu (Nat.le_refl _) (.inr (Nat.le_refl _)))
  have hs6 : Hid (w5.heap.size + 1 ≤ (w5.alloc (.cells #[.int .i64 d0.1.1, .int .i64 d0.1.2.1, .int .i64 d0.1.2.2.1, .int .i64 d0.1.2.2.2.1, .slice adx0_0 d0.1.2.2.2.2.length capx0_0, .slice adx0_1 d0.2.1.length capx0_1, .slice adx0_2 d0.2.2.1.length capx0_2, .bool d0.2.2.2] 33)).heap.size) := hide (by simp)
  have cx0 := hide (held_new w5 [.int .i64 d0.1.1, .int .i64 d0.1.2.1, .int .i64 d0.1.2.2.1, .int .i64 d0.1.2.2.2.1, .slice adx0_0 d0.1.2.2.2.2.length capx0_0, .slice adx0_1 d0.2.1.length capx0_1, .slice adx0_2 d0.2.2.1.length capx0_2, .bool d0.2.2.2] 33)
  clear hu
  generalize w5.alloc (.cells #[.int .i64 d0.1.1, .int .i64 d0.1.2.1, .int .i64 d0.1.2.2.1, .int .i64 d0.1.2.2.2.1, .slice adx0_0 d0.1.2.2.2.2.length capx0_0, .slice adx0_1 d0.2.1.length capx0_1, .slice adx0_2 d0.2.2.1.length capx0_2, .bool d0.2.2.2] 33) = w6 at x0 hT cp0 hB hs6 cx0 ⊢
  refine (implGoodStill _ d0 w6 (unhide hT) hn0 (unhide hR0) (OwnSt.rd (unhide x0))).mono ?_
  rintro e w7 ⟨rfl, hu⟩
  replace x0 := hide ((unhide x0).keep hu)
  replace hT := hide ((unhide hT).keep hu)
  replace cp0 := hide ((unhide cp0).keep hu)
  replace cx0 := hide ((unhide cx0).keep hu)
  replace hB := hide (below_upd (unhide hB) hu (Nat.le_refl _) (.inr (Nat.le_refl _)))
  have hs7 : Hid (w6.heap.size ≤ w7.heap.size) := hide hu.size
  clear hu
  have kcx0_0 := (unhide cx0).2 0 _ rfl
  have kcx0_1 := (unhide cx0).2 1 _ rfl
  have kcx0_2 := (unhide cx0).2 2 _ rfl
  have kcx0_3 := (unhide cx0).2 3 _ rfl
  have kcx0_4 := (unhide cx0).2 4 _ rfl
  have kcx0_5 := (unhide cx0).2 5 _ rfl
  have kcx0_6 := (unhide cx0).2 6 _ rfl
  have kcx0_7 := (unhide cx0).2 7 _ rfl
  have kcx0_l := (unhide cx0).1
  have kcp0_0 := (unhide cp0).2 0 _ rfl
  have kcp0_1 := (unhide cp0).2 1 _ rfl
  have kcp0_2 := (unhide cp0).2 2 _ rfl
  have kcp0_3 := (unhide cp0).2 3 _ rfl
  have kcp0_4 := (unhide cp0).2 4 _ rfl
  have kcp0_5 := (unhide cp0).2 5 _ rfl
  have kcp0_6 := (unhide cp0).2 6 _ rfl
  have kcp0_7 := (unhide cp0).2 7 _ rfl
  have kcp0_l := (unhide cp0).1
  have hTo := hide (toStill_own _ d0 w7.drew hn0 ⟨_, _, _, rfl, ⟨ad0_0, cap0_0, rfl, (unhide hA0_0).below (below_drewN (unhide hB) 1)⟩, ⟨ad0_1, cap0_1, rfl, (unhide hA0_1).below (below_drewN (unhide hB) 1)⟩, ⟨ad0_2, cap0_2, rfl, (unhide hA0_2).below (below_drewN (unhide hB) 1)⟩⟩)
  go_wp2_with fail
  go_region_held3 (fun w' => w'.cell? ⟨w5.heap.size, 0, none⟩ = some (.int .i64 d0.1.1) ∧ w'.cell? ⟨w5.heap.size, 1, none⟩ = some (.int .i64 d0.1.2.1) ∧ w'.cell? ⟨w5.heap.size, 2, none⟩ = some (.int .i64 d0.1.2.2.1) ∧ w'.cell? ⟨w5.heap.size, 3, none⟩ = some (.int .i64 d0.1.2.2.2.1) ∧ w'.cell? ⟨w5.heap.size, 4, none⟩ = some (.slice adx0_0 d0.1.2.2.2.2.length capx0_0) ∧ w'.cell? ⟨w5.heap.size, 5, none⟩ = some (.slice adx0_1 d0.2.1.length capx0_1) ∧ w'.cell? ⟨w5.heap.size, 6, none⟩ = some (.slice adx0_2 d0.2.2.1.length capx0_2) ∧ w'.cell? ⟨w5.heap.size, 7, none⟩ = some (.bool d0.2.2.2) ∧ w'.cell? ⟨w.heap.size, 0, none⟩ = some (.int .i64 d0.1.1) ∧ w'.cell? ⟨w.heap.size, 1, none⟩ = some (.int .i64 d0.1.2.1) ∧ w'.cell? ⟨w.heap.size, 2, none⟩ = some (.int .i64 d0.1.2.2.1) ∧ w'.cell? ⟨w.heap.size, 3, none⟩ = some (.int .i64 d0.1.2.2.2.1) ∧ w'.cell? ⟨w.heap.size, 4, none⟩ = some (.slice ad0_0 d0.1.2.2.2.2.length cap0_0) ∧ w'.cell? ⟨w.heap.size, 5, none⟩ = some (.slice ad0_1 d0.2.1.length cap0_1) ∧ w'.cell? ⟨w.heap.size, 6, none⟩ = some (.slice ad0_2 d0.2.2.1.length cap0_2) ∧ w'.cell? ⟨w.heap.size, 7, none⟩ = some (.bool d0.2.2.2)) (first | (exact ⟨((hut.trans huf).none.cell kcx0_l).trans kcx0_0, ((hut.trans huf).none.cell kcx0_l).trans kcx0_1, ((hut.trans huf).none.cell kcx0_l).trans kcx0_2, ((hut.trans huf).none.cell kcx0_l).trans kcx0_3, ((hut.trans huf).none.cell kcx0_l).trans kcx0_4, ((hut.trans huf).none.cell kcx0_l).trans kcx0_5, ((hut.trans huf).none.cell kcx0_l).trans kcx0_6, ((hut.trans huf).none.cell kcx0_l).trans kcx0_7, ((hut.trans huf).none.cell kcp0_l).trans kcp0_0, ((hut.trans huf).none.cell kcp0_l).trans kcp0_1, ((hut.trans huf).none.cell kcp0_l).trans kcp0_2, ((hut.trans huf).none.cell kcp0_l).trans kcp0_3, ((hut.trans huf).none.cell kcp0_l).trans kcp0_4, ((hut.trans huf).none.cell kcp0_l).trans kcp0_5, ((hut.trans huf).none.cell kcp0_l).trans kcp0_6, ((hut.trans huf).none.cell kcp0_l).trans kcp0_7⟩) | (exact ⟨(hut.none.cell kcx0_l).trans kcx0_0, (hut.none.cell kcx0_l).trans kcx0_1, (hut.none.cell kcx0_l).trans kcx0_2, (hut.none.cell kcx0_l).trans kcx0_3, (hut.none.cell kcx0_l).trans kcx0_4, (hut.none.cell kcx0_l).trans kcx0_5, (hut.none.cell kcx0_l).trans kcx0_6, (hut.none.cell kcx0_l).trans kcx0_7, (hut.none.cell kcp0_l).trans kcp0_0, (hut.none.cell kcp0_l).trans kcp0_1, (hut.none.cell kcp0_l).trans kcp0_2, (hut.none.cell kcp0_l).trans kcp0_3, (hut.none.cell kcp0_l).trans kcp0_4, (hut.none.cell kcp0_l).trans kcp0_5, (hut.none.cell kcp0_l).trans kcp0_6, (hut.none.cell kcp0_l).trans kcp0_7⟩) | go_keep) (first | (go_at_call 8; refine (unhide hTo).mono ?_; rintro e wt ⟨vt, rfl, hot, hut⟩) | (go_at_call 10; refine (eqStill_rd _ _ d0 _ hn0 (OwnSt.rd (OwnSt.keep (unhide x0) (Upd.trans (Upd.drew1 _) hut))) (OwnSt.rd hot)).mono ?_; rintro e wf ⟨rfl, huf⟩))
  clear hTo kcx0_0 kcx0_1 kcx0_2 kcx0_3 kcx0_4 kcx0_5 kcx0_6 kcx0_7 kcx0_l kcp0_0 kcp0_1 kcp0_2 kcp0_3 kcp0_4 kcp0_5 kcp0_6 kcp0_7 kcp0_l
  have hu : Upd 0 0 w7 wf := (Upd.drew1 _).trans (hut.trans huf)
  clear hut hot huf
  replace x0 := hide ((unhide x0).keep hu)
  replace hT := hide ((unhide hT).keep hu)
  replace cp0 := hide ((unhide cp0).keep hu)
  replace cx0 := hide ((unhide cx0).keep hu)
  replace hB := hide (below_upd (unhide hB) hu (Nat.le_refl _) (.inr (Nat.le_refl _)))
  have hs8 : Hid (w7.heap.size ≤ wf.heap.size) := hide hu.size
  clear hu
  generalize wf = w8 at x0 hT cp0 cx0 hB hs8 ⊢
  go_wp2_with fail
  go_ret
  exact ⟨rfl, unhide hB⟩

theorem lawGoodStill (d0 : St) (ad0_0 : Option Addr) (cap0_0 : Nat) (ad0_1 : Option Addr) (cap0_1 : Nat) (ad0_2 : Option Addr) (cap0_2 : Nat) (w : World) (hT : Held w 1 passCells) (hz0 : (d0.1.2.2.2.2.length ≤ 9223372036854775807 ∧ d0.2.1.length ≤ 9223372036854775807 ∧ d0.2.2.1.length ≤ 9223372036854775807)) (hA0_0 : ArgI w ad0_0 d0.1.2.2.2.2) (hA0_1 : ArgI w ad0_1 d0.2.1) (hA0_2 : ArgNt w ad0_2 d0.2.2.1) (hR0 : InSt d0) :
    Calls Tryd.prog 3 #[.agg #[.int .i64 d0.1.1, .int .i64 d0.1.2.1, .int .i64 d0.1.2.2.1, .int .i64 d0.1.2.2.2.1, .slice ad0_0 d0.1.2.2.2.2.length cap0_0, .slice ad0_1 d0.2.1.length cap0_1, .slice ad0_2 d0.2.2.1.length cap0_2, .bool d0.2.2.2]] w fun e w' => e = .returned (.bool true) ∧ Below w.heap.size w w' := by
  by_cases h0 : 1048576 < d0.1.2.2.2.2.length + d0.2.1.length + ntSize d0.2.2.1
  · exact lawGoodStill_long0 d0 ad0_0 cap0_0 ad0_1 cap0_1 ad0_2 cap0_2 w hz0 h0 hA0_0 hA0_1 hA0_2 hR0
  exact lawGoodStill_short d0 ad0_0 cap0_0 ad0_1 cap0_1 ad0_2 cap0_2 w hT hz0 (by omega) hA0_0 hA0_1 hA0_2 hR0
end Go.Proofs.YthpkngipiapbpaaDoor

/- Opening an argument that is a byte string or a list of ints: what the form's reading of it says of cells. -/
namespace Go.Proofs.YthpkngipiapbpaaDoor
open Go.ChangeShapes Go.WideShapes Go.ChangeAt Go.RowKit

theorem Tryd.own : ownKnob Tryd.prog.godebug = none := by kernel_rfl
theorem Tryd.laidOut : laidOutB Tryd.prog = true := by kernel_rfl
theorem cellsY : Tryd.prog.cellsOf 5 = 1 := by kernel_rfl
theorem cellsI : Tryd.prog.cellsOf 3 = 1 := by kernel_rfl
theorem i64_of_wf {x : Int} (h : (Lit.int .i64 x).wf = true) : -9223372036854775808 ≤ x ∧ x ≤ 9223372036854775807 := by
  simp [Lit.wf, IntKind.min, IntKind.max, IntKind.signed, IntKind.bits] at h
  exact ⟨by omega, by omega⟩
theorem u64_of_wf {x : Int} (h : (Lit.int .u64 x).wf = true) : 0 ≤ x ∧ x ≤ 18446744073709551615 := by
  simp [Lit.wf, IntKind.min, IntKind.max, IntKind.signed, IntKind.bits] at h
  exact ⟨by omega, by omega⟩
theorem u8_of_wf {x : Int} (h : (Lit.int .u8 x).wf = true) : 0 ≤ x ∧ x < 256 := by
  simp [Lit.wf, IntKind.min, IntKind.max, IntKind.signed, IntKind.bits] at h
  exact ⟨by omega, by omega⟩

set_option maxRecDepth 100000 in
theorem open_byts {H : Type} {enc : TypeId × Value → H} {W : World} {base : Nat} {v : Value} {d : DataW H} {p : List MemPlace}
    (hv : Value.okWide Tryd.prog W .any base 37 v) (h0 : DataW.Trod enc Tryd.prog W 0 (fun _ => true) true 37 v d p) (hlt : ∀ x ∈ p, x.block < W.heap.size) :
    ∃ ad cap zs, v = .slice ad zs.length cap ∧ ArgY W ad zs ∧ InB zs := by
  obtain ⟨a0, len, cap, rfl⟩ := okWide_slice Tryd.underlying37 hv
  obtain ⟨fuel, hf⟩ := h0
  rcases open_ints Tryd.underlying37 Tryd.underlying5 cellsY hf with ⟨hcs, hx⟩ | ⟨a, len', cap', zs, hcs, _, hl, hm, hz, hx, hcell, hwz⟩
  · simp [Value.cells] at hcs
    obtain ⟨rfl, rfl, rfl⟩ := hcs
    exact ⟨none, 0, [], rfl, fun h => absurd rfl h, fun j => by simp⟩
  · simp [Value.cells] at hcs
    obtain ⟨rfl, rfl, rfl⟩ := hcs
    simp only [Prod.mk.injEq] at hx
    obtain ⟨rfl, rfl⟩ := hx
    simp only [if_true] at hz
    have hlen : (zs.take len).length = len := by rw [List.length_take]; omega
    have hget : ∀ j, j < len → (zs.take len).getD j 0 = zs.getD j 0 := fun j hj => by
      rw [List.getD_eq_getElem?_getD, List.getD_eq_getElem?_getD, List.getElem?_take, if_pos hj]
    refine ⟨some a, cap, zs.take len, by rw [hlen], ?_, ?_⟩
    · intro hne
      have hpos : 0 < len := by
        rcases Nat.eq_zero_or_pos len with h | h
        · subst h; simp at hne
        · exact h
      obtain ⟨b, off, spot⟩ := a
      have hspot : spot = none := by simpa [Addr.add] using World.cell?_spot (hcell 0 (by omega))
      subst hspot
      refine ⟨b, off, rfl, hlt (.cell b off) (MemPlace.mem_row.2 ⟨0, by omega, by simp⟩), fun j hj => ?_⟩
      rw [hget j (by omega), ← add_plain]
      exact hcell j (by omega)
    · intro j
      by_cases hj : j < len
      · rw [hget j hj, List.getD_eq_getElem?_getD, List.getElem?_eq_getElem (by omega)]
        exact u8_of_wf (hwz _ (List.getElem_mem _))
      · rw [List.getD_eq_getElem?_getD, List.getElem?_eq_none (by omega)]; simp

set_option maxRecDepth 100000 in
theorem open_intl {H : Type} {enc : TypeId × Value → H} {W : World} {base : Nat} {v : Value} {d : DataW H} {p : List MemPlace}
    (hv : Value.okWide Tryd.prog W .any base 22 v) (h0 : DataW.Trod enc Tryd.prog W 0 (fun _ => true) true 22 v d p) (hlt : ∀ x ∈ p, x.block < W.heap.size) :
    ∃ ad cap zs, v = .slice ad zs.length cap ∧ ArgI W ad zs ∧ InI zs := by
  obtain ⟨a0, len, cap, rfl⟩ := okWide_slice Tryd.underlying22 hv
  obtain ⟨fuel, hf⟩ := h0
  rcases open_ints Tryd.underlying22 Tryd.underlying3 cellsI hf with ⟨hcs, hx⟩ | ⟨a, len', cap', zs, hcs, _, hl, hm, hz, hx, hcell, hwz⟩
  · simp [Value.cells] at hcs
    obtain ⟨rfl, rfl, rfl⟩ := hcs
    exact ⟨none, 0, [], rfl, fun h => absurd rfl h, fun j => by simp⟩
  · simp [Value.cells] at hcs
    obtain ⟨rfl, rfl, rfl⟩ := hcs
    simp only [Prod.mk.injEq] at hx
    obtain ⟨rfl, rfl⟩ := hx
    simp only [if_true] at hz
    have hlen : (zs.take len).length = len := by rw [List.length_take]; omega
    have hget : ∀ j, j < len → (zs.take len).getD j 0 = zs.getD j 0 := fun j hj => by
      rw [List.getD_eq_getElem?_getD, List.getD_eq_getElem?_getD, List.getElem?_take, if_pos hj]
    refine ⟨some a, cap, zs.take len, by rw [hlen], ?_, ?_⟩
    · intro hne
      have hpos : 0 < len := by
        rcases Nat.eq_zero_or_pos len with h | h
        · subst h; simp at hne
        · exact h
      obtain ⟨b, off, spot⟩ := a
      have hspot : spot = none := by simpa [Addr.add] using World.cell?_spot (hcell 0 (by omega))
      subst hspot
      refine ⟨b, off, rfl, hlt (.cell b off) (MemPlace.mem_row.2 ⟨0, by omega, by simp⟩), fun j hj => ?_⟩
      rw [hget j (by omega), ← add_plain]
      exact hcell j (by omega)
    · intro j
      by_cases hj : j < len
      · rw [hget j hj, List.getD_eq_getElem?_getD, List.getElem?_eq_getElem (by omega)]
        exact i64_of_wf (hwz _ (List.getElem_mem _))
      · rw [List.getD_eq_getElem?_getD, List.getElem?_eq_none (by omega)]; simp
end Go.Proofs.YthpkngipiapbpaaDoor

/- Opening a list of numbers of any kind that stands in a struct's field: what the form's reading of it says of cells. -/
namespace Go.Proofs.YthpkngipiapbpaaDoor
open Go.ChangeShapes Go.WideShapes Go.ChangeAt Go.RowKit

theorem open_row_at {H : Type} {enc : TypeId × Value → H} {W : World} {t e : TypeId} {k : IntKind} {fuel : Nat} {v : Value} {x : DataW H × List MemPlace}
    (ht : Tryd.prog.underlying t = some (.slice e)) (he : Tryd.prog.underlying e = some (.int k)) (hc : Tryd.prog.cellsOf e = 1)
    (hf : DataW.trod enc Tryd.prog W 0 (fun _ => true) true fuel t [v] = some x) (hlt : ∀ y ∈ x.2, y.block < W.heap.size) :
    ∃ ad cap zs, v = .slice ad zs.length cap ∧ ReadK k W ad zs ∧ zs.length ≤ 9223372036854775807 ∧ ∀ j, j < zs.length → (Lit.int k (zs.getD j 0)).wf = true := by
  rcases open_ints ht he hc hf with ⟨hcs, hx⟩ | ⟨a, len, cap, zs, hcs, _, hl, hm, hz, hx, hcell, hwz⟩
  · simp only [List.cons.injEq, and_true] at hcs
    subst hcs
    exact ⟨none, 0, [], rfl, fun h => absurd rfl h, by simp, fun j hj => by simp at hj⟩
  · simp only [List.cons.injEq, and_true] at hcs
    subst hcs hx
    simp only [if_true] at hz
    have hlen : (zs.take len).length = len := by rw [List.length_take]; omega
    have hget : ∀ j, j < len → (zs.take len).getD j 0 = zs.getD j 0 := fun j hj => by
      rw [List.getD_eq_getElem?_getD, List.getD_eq_getElem?_getD, List.getElem?_take, if_pos hj]
    refine ⟨some a, cap, zs.take len, by rw [hlen], ?_, by rw [hlen]; unfold maxLen at hm; omega, ?_⟩
    · intro hne
      have hpos : 0 < len := by
        rcases Nat.eq_zero_or_pos len with h | h
        · subst h; simp at hne
        · exact h
      obtain ⟨b, off, spot⟩ := a
      have hspot : spot = none := by simpa [Addr.add] using World.cell?_spot (hcell 0 (by omega))
      subst hspot
      refine ⟨b, off, rfl, hlt (.cell b off) (MemPlace.mem_row.2 ⟨0, by omega, by simp⟩), fun j hj => ?_⟩
      rw [hget j (by omega), ← add_plain]
      exact hcell j (by omega)
    · intro j hj
      rw [hlen] at hj
      rw [hget j hj, List.getD_eq_getElem?_getD, List.getElem?_eq_getElem (by omega)]
      exact hwz _ (List.getElem_mem _)
theorem inI_of_wf {zs : List Int} (h : ∀ j, j < zs.length → (Lit.int .i64 (zs.getD j 0)).wf = true) : InI zs := by
  intro j
  by_cases hj : j < zs.length
  · exact i64_of_wf (h j hj)
  · rw [List.getD_eq_getElem?_getD, List.getElem?_eq_none (by omega)]; simp
theorem inB_of_wf {zs : List Int} (h : ∀ j, j < zs.length → (Lit.int .u8 (zs.getD j 0)).wf = true) : InB zs := by
  intro j
  by_cases hj : j < zs.length
  · exact u8_of_wf (h j hj)
  · rw [List.getD_eq_getElem?_getD, List.getElem?_eq_none (by omega)]; simp
end Go.Proofs.YthpkngipiapbpaaDoor

/- Opening a list of Notes: what the form's reading of it says of cells. -/
namespace Go.Proofs.YthpkngipiapbpaaDoor
open Go.ChangeShapes Go.WideShapes Go.ChangeAt Go.RowKit

theorem cellsRNt : Tryd.prog.cellsOf 90 = 2 := by kernel_rfl
theorem cellsRNtt0 : Tryd.prog.cellsOf 9 = 1 := by kernel_rfl
theorem list_of_eachNt {α : Type} (d : α) (p : Nat → α → Prop) (n : Nat) (h : ∀ i, i < n → ∃ x, p i x) : ∃ l : List α, l.length = n ∧ ∀ i, i < n → p i (l.getD i d) := by
  induction n with
  | zero => exact ⟨[], rfl, fun i hi => by omega⟩
  | succ n ih =>
    obtain ⟨l, hl, hp⟩ := ih (fun i hi => h i (by omega))
    obtain ⟨x, hx⟩ := h n (by omega)
    refine ⟨l ++ [x], by simp [hl], fun i hi => ?_⟩
    rw [List.getD_eq_getElem?_getD]
    by_cases e : i < n
    · rw [List.getElem?_append_left (by omega), ← List.getD_eq_getElem?_getD]; exact hp i e
    · have : i = l.length := by omega
      subst this
      rw [List.getElem?_append_right (Nat.le_refl _), Nat.sub_self]
      rw [hl]; exact hx

set_option maxRecDepth 100000 in
theorem open_Nt_row {H : Type} {enc : TypeId × Value → H} {W : World} {fuel : Nat} {v : Value} {x : DataW H × List MemPlace}
    (hf : DataW.trod enc Tryd.prog W 0 (fun _ => true) true fuel 25 [v] = some x) (hlt : ∀ y ∈ x.2, y.block < W.heap.size) :
    ∃ ad cap ps, v = .slice ad ps.length cap ∧ ArgNt W ad ps ∧ ps.length ≤ 9223372036854775807 ∧ InNt ps := by
  rcases Go.Deep.open_slice Tryd.underlying25 hf with ⟨hcs, hx⟩ | ⟨a, len, cap, m, n, D, Pl, hcs, _, hl, hm, hmm, hx, hcell⟩
  · simp only [List.cons.injEq, and_true] at hcs
    subst hcs
    exact ⟨none, 0, [], rfl, fun h => absurd rfl h, by simp, fun j => by simp only [List.getD_nil]; decide⟩
  · simp only [List.cons.injEq, and_true] at hcs
    subst hcs hx
    simp only [if_true] at hmm
    have each : ∀ i, i < len → ∃ x : Nt, W.cell? (a.add (i * 2)) = some (.string x.1) ∧ W.cell? (a.add (i * 2 + 1)) = some (.string x.2) ∧ x.1.size ≤ 9223372036854775807 ∧ x.2.size ≤ 9223372036854775807 := by
      intro i hi
      obtain ⟨cs', h1, h2⟩ := hcell i (by omega)
      rw [cellsRNt] at h1
      obtain ⟨_, hlen, hc⟩ := World.cells?_some h1
      obtain ⟨xs, k, hk, hxy, _, hxl, hfl⟩ := DataW.trod_struct Tryd.underlying90 h2
      match xs, hxl, cs', hlen with
      | [y0, y1], _, [v0, v1], _ =>
        have g0 := hfl 0 _ rfl
        have g1 := hfl 1 _ rfl
        simp [cellsRNtt0] at g0 g1
        have e0 := hc 0 (by omega)
        have e1 := hc 1 (by omega)
        rw [Go.Deep.add_add] at e0 e1
        obtain ⟨n0, q0, _, w0⟩ := DataW.trod_string Tryd.underlying9 g0
        obtain ⟨n1, q1, _, w1⟩ := DataW.trod_string Tryd.underlying9 g1
        simp only [List.cons.injEq, and_true] at q0 q1
        subst q0 q1
        exact ⟨(n0, n1), by simpa using e0, by simpa using e1, (by unfold maxLen at w0; exact w0), (by unfold maxLen at w1; exact w1)⟩
    obtain ⟨ps, hpl, hps⟩ := list_of_eachNt Nt0 _ len each
    refine ⟨some a, cap, ps, by rw [hpl], ?_, by rw [hpl]; unfold maxLen at hm; omega, ?_⟩
    · intro hne
      have hpos : 0 < len := by
        rcases Nat.eq_zero_or_pos len with h | h
        · subst h; exact absurd (List.length_eq_zero_iff.1 hpl) hne
        · exact h
      obtain ⟨b, off, spot⟩ := a
      have hspot : spot = none := by simpa [Addr.add] using World.cell?_spot (hps 0 hpos).1
      subst hspot
      refine ⟨b, off, rfl, hlt (.cell b off) (List.mem_append_left _ (MemPlace.mem_row.2 ⟨0, by rw [cellsRNt]; omega, by simp⟩)), fun j hj => ?_⟩
      rw [hpl] at hj
      have := hps j hj
      rw [add_plain, add_plain, ← Nat.add_assoc] at this
      exact ⟨this.1, this.2.1⟩
    · intro j
      by_cases hj : j < len
      · exact (hps j hj).2.2
      · rw [List.getD_eq_getElem?_getD, List.getElem?_eq_none (by omega)]; simp only [Option.getD_none]; decide
end Go.Proofs.YthpkngipiapbpaaDoor

/- Opening an argument that is a Still: what the form's reading of it says. -/
namespace Go.Proofs.YthpkngipiapbpaaDoor
open Go.ChangeShapes Go.WideShapes Go.ChangeAt Go.RowKit

theorem cellsSta : Tryd.prog.cellsOf 27 = 8 := by kernel_rfl
theorem cellsStt0 : Tryd.prog.cellsOf 24 = 5 := by kernel_rfl
theorem cellsStt1 : Tryd.prog.cellsOf 3 = 1 := by kernel_rfl
theorem cellsStt2 : Tryd.prog.cellsOf 22 = 1 := by kernel_rfl
theorem cellsStt3 : Tryd.prog.cellsOf 25 = 1 := by kernel_rfl
theorem cellsStt4 : Tryd.prog.cellsOf 4 = 1 := by kernel_rfl

set_option maxRecDepth 100000 in
set_option maxHeartbeats 1000000 in
theorem open_St {H : Type} {enc : TypeId × Value → H} {W : World} {base : Nat} {v : Value} {d : DataW H} {p : List MemPlace}
    (hv : Value.okWide Tryd.prog W .any base 27 v) (h0 : DataW.Trod enc Tryd.prog W 0 (fun _ => true) true 27 v d p) (hlt : ∀ x ∈ p, x.block < W.heap.size) :
    ∃ (x : St) (ad0 : Option Addr) (cap0 : Nat) (ad1 : Option Addr) (cap1 : Nat) (ad2 : Option Addr) (cap2 : Nat), v = .agg #[.int .i64 x.1.1, .int .i64 x.1.2.1, .int .i64 x.1.2.2.1, .int .i64 x.1.2.2.2.1, (.slice ad0 x.1.2.2.2.2.length cap0), (.slice ad1 x.2.1.length cap1), (.slice ad2 x.2.2.1.length cap2), .bool x.2.2.2] ∧ ArgI W ad0 x.1.2.2.2.2 ∧ ArgI W ad1 x.2.1 ∧ ArgNt W ad2 x.2.2.1 ∧ InSt x ∧ (x.1.2.2.2.2.length ≤ 9223372036854775807 ∧ x.2.1.length ≤ 9223372036854775807 ∧ x.2.2.1.length ≤ 9223372036854775807) := by
  obtain ⟨cs, rfl, hsz⟩ := okWide_struct Tryd.underlying27 hv
  rw [cellsSta] at hsz
  obtain ⟨fuel, hf⟩ := h0
  obtain ⟨xs, k, _, hxy, hcl, hxl, hfl⟩ := DataW.trod_struct Tryd.underlying27 hf
  obtain ⟨cl⟩ := cs
  simp only [List.size_toArray] at hsz
  match xs, hxl, cl, hsz with
  | [y0, y1, y2, y3], _, [v0, v1, v2, v3, v4, v5, v6, v7], _ =>
    have g0 := hfl 0 _ rfl
    have g1 := hfl 1 _ rfl
    have g2 := hfl 2 _ rfl
    have g3 := hfl 3 _ rfl
    simp [cellsStt0, cellsStt2, cellsStt3, cellsStt4, Value.cells] at g0 g1 g2 g3
    have hp : p = y0.2 ++ (y1.2 ++ (y2.2 ++ (y3.2))) := by simpa using congrArg Prod.snd hxy
    obtain ⟨zs_0, k0, _, hxy0, hcl0, hxl0, hfl0⟩ := DataW.trod_struct Tryd.underlying24 g0
    match zs_0, hxl0 with
    | [z0_0, z0_1, z0_2, z0_3, z0_4], _ =>
    have gg0 := hfl0 0 _ rfl
    have gg1 := hfl0 1 _ rfl
    have gg2 := hfl0 2 _ rfl
    have gg3 := hfl0 3 _ rfl
    have gg4 := hfl0 4 _ rfl
    simp [cellsStt1, cellsStt2] at gg0 gg1 gg2 gg3 gg4
    have hp0 : y0.2 = z0_0.2 ++ (z0_1.2 ++ (z0_2.2 ++ (z0_3.2 ++ (z0_4.2)))) := by simpa using congrArg Prod.snd hxy0
    obtain ⟨n0, q0, _, w0⟩ := DataW.trod_int Tryd.underlying3 gg0
    simp only [List.cons.injEq, and_true] at q0
    subst q0
    obtain ⟨n1, q1, _, w1⟩ := DataW.trod_int Tryd.underlying3 gg1
    simp only [List.cons.injEq, and_true] at q1
    subst q1
    obtain ⟨n2, q2, _, w2⟩ := DataW.trod_int Tryd.underlying3 gg2
    simp only [List.cons.injEq, and_true] at q2
    subst q2
    obtain ⟨n3, q3, _, w3⟩ := DataW.trod_int Tryd.underlying3 gg3
    simp only [List.cons.injEq, and_true] at q3
    subst q3
    obtain ⟨ad0, cap0, zs0, e0, hA0, hl0, hw0⟩ := open_row_at Tryd.underlying22 Tryd.underlying3 cellsI gg4 (fun y hy => hlt y (by rw [hp, hp0]; simp [hy]))
    subst e0
    obtain ⟨ad1, cap1, zs1, e1, hA1, hl1, hw1⟩ := open_row_at Tryd.underlying22 Tryd.underlying3 cellsI g1 (fun y hy => hlt y (by rw [hp]; simp [hy]))
    subst e1
    obtain ⟨ad2, cap2, zs2, e2, hA2, hl2, hw2⟩ := open_Nt_row g2 (fun y hy => hlt y (by rw [hp]; simp [hy]))
    subst e2
    obtain ⟨n7, q7, _⟩ := DataW.trod_bool Tryd.underlying4 g3
    simp only [List.cons.injEq, and_true] at q7
    subst q7
    exact ⟨((n0, n1, n2, n3, zs0), zs1, zs2, n7), ad0, cap0, ad1, cap1, ad2, cap2, rfl, hA0, hA1, hA2, ⟨⟨i64_of_wf w0, i64_of_wf w1, i64_of_wf w2, i64_of_wf w3, inI_of_wf hw0⟩, inI_of_wf hw1, hw2⟩, ⟨hl0, hl1, hl2⟩⟩
end Go.Proofs.YthpkngipiapbpaaDoor

/- What a table of numbers that a variable holds says of cells: a struct's numbers, an array of structs of numbers. -/
namespace Go.Proofs.YthpkngipiapbpaaDoor
open Go.ChangeShapes Go.WideShapes Go.ChangeAt Go.RowKit

theorem lits_struct {H : Type} {enc : TypeId × Value → H} {W : World} {base : Nat} {spare : Nat → Bool} {held : Bool} {t : TypeId} {fs : Array Go.Field} {fuel : Nat} {seg : List Value} {y : DataW H × List MemPlace} {zs : List Int}
    (ht : Tryd.prog.underlying t = some (.struct fs)) (hfs : ∀ (j : Nat) (f : Go.Field), fs[j]? = some f → f.type = 3 ∧ f.offset = j)
    (h : DataW.trod enc Tryd.prog W base spare held fuel t seg = some y) (hy : y.1 = .agg (zs.map fun z => .lit (.int .i64 z))) :
    ∀ (j : Nat) (z : Int), zs[j]? = some z → seg[j]? = some (Value.int .i64 z) := by
  obtain ⟨ys, k, _, rfl, hl, hyl, hfl⟩ := DataW.trod_struct ht h
  simp only [DataW.agg.injEq] at hy
  intro j z hz
  have hlen : ys.length = zs.length := by have := congrArg List.length hy; simpa using this
  have hj : j < ys.length := by have := (List.getElem?_eq_some_iff.1 hz).1; omega
  have hjf : j < fs.size := by omega
  obtain ⟨e1, e2⟩ := hfs j fs[j] (Array.getElem?_eq_getElem hjf)
  have hj2 := hfl j fs[j] (Array.getElem?_eq_getElem hjf)
  rw [e1, e2, cellsI, List.getElem?_eq_getElem hj] at hj2
  obtain ⟨n, q, q2, _⟩ := DataW.trod_int Tryd.underlying3 hj2
  have hv : ys[j].1 = .lit (.int .i64 z) := by
    have h1 := congrArg (fun l => l[j]?) hy
    simp only [List.getElem?_map, List.getElem?_eq_getElem hj, hz, Option.map_some, Option.some.injEq] at h1
    exact h1
  have hn : n = z := by
    have := q2
    rw [this] at hv
    simpa using hv
  subst hn
  have h3 : ((seg.drop j).take 1)[0]? = some (Value.int .i64 n) := by rw [q]; rfl
  rw [List.getElem?_take, if_pos (by omega), List.getElem?_drop] at h3
  simpa using h3
theorem lits_array {H : Type} {enc : TypeId × Value → H} {W : World} {base : Nat} {spare : Nat → Bool} {held : Bool} {t e : TypeId} {fs : Array Go.Field} {n m fuel : Nat} {cs : List Value} {y : DataW H × List MemPlace} {zss : List (List Int)}
    (ht : Tryd.prog.underlying t = some (.array n e)) (he : Tryd.prog.underlying e = some (.struct fs)) (hfs : ∀ (j : Nat) (f : Go.Field), fs[j]? = some f → f.type = 3 ∧ f.offset = j) (hm : Tryd.prog.cellsOf e = m)
    (h : DataW.trod enc Tryd.prog W base spare held fuel t cs = some y) (hy : y.1 = .agg (zss.map fun zs => .agg (zs.map fun z => .lit (.int .i64 z)))) (hz : ∀ zs ∈ zss, zs.length = m) (hn : zss.length = n) :
    ∀ (i j : Nat) (z : Int) (zs : List Int), zss[i]? = some zs → zs[j]? = some z → cs[i * m + j]? = some (Value.int .i64 z) := by
  obtain ⟨xs, k, _, rfl, hl, hxl, hel⟩ := DataW.trod_array ht h
  simp only [DataW.agg.injEq] at hy
  intro i j z zs hzs hjz
  have hi : i < xs.length := by have := (List.getElem?_eq_some_iff.1 hzs).1; omega
  have h1 := hel i (by omega)
  rw [List.getElem?_eq_getElem hi, hm] at h1
  have hv : xs[i].1 = .agg (zs.map fun z => .lit (.int .i64 z)) := by
    have h1 := congrArg (fun l => l[i]?) hy
    simp only [List.getElem?_map, List.getElem?_eq_getElem hi, hzs, Option.map_some, Option.some.injEq] at h1
    exact h1
  have h2 := lits_struct he hfs h1 hv j z hjz
  have hjm : j < m := by have := (List.getElem?_eq_some_iff.1 hjz).1; have := hz zs (List.mem_of_getElem? hzs); omega
  rw [List.getElem?_take, if_pos hjm, List.getElem?_drop] at h2
  exact h2
end Go.Proofs.YthpkngipiapbpaaDoor

/- What the listed table of passes says of cells. -/
namespace Go.Proofs.YthpkngipiapbpaaDoor
open Go.ChangeShapes Go.WideShapes Go.ChangeAt Go.RowKit

def passZss : List (List Int) := [[0, 0, 8, 8, 0, 0], [4, 0, 8, 8, 0, 0], [0, 4, 4, 8, 0, 0], [2, 0, 4, 4, 0, 0], [0, 2, 2, 4, 0, 0], [1, 0, 2, 2, 0, 0], [0, 1, 1, 2, 0, 0]]
theorem passGlobal : Tryd.prog.globalNamed "loop.example/g00016/impl.passSteps" = some 1 := by kernel_rfl
theorem passGlobalT : (Tryd.prog.globals[1]?).map (·.type) = some 122 := by kernel_rfl
theorem passCellsOf : Tryd.prog.cellsOf 101 = 6 := by kernel_rfl
theorem passFlat : passCells = passZss.flatten.map (.int .i64) := rfl
theorem passFlat_at : ∀ j, j < 42 → passZss.flatten[j]? = (passZss[j / 6]?).bind (·[j % 6]?) := by decide
theorem laid_passes {W : World} (h : laidMetH Tryd.prog [("loop.example/g00016/impl.passSteps", Rows.laid_loop_example_g00016_impl_passSteps)] W) : Held W 1 passCells := by
  rw [MakeChecks.laidMetH_plain _ _ _ (by kernel_rfl)] at h
  obtain ⟨ps, ⟨g0, t0, cs0, f0, p0, q0, hg0, ht0, hv0, hd0, _, _⟩, _, _⟩ := h
  obtain rfl := Option.some.inj (passGlobal.symm.trans hg0)
  obtain rfl := Option.some.inj (passGlobalT.symm.trans ht0)
  have hc := lits_array (zss := passZss) Tryd.underlying122 Tryd.underlying101 (fun j f hf => by
    match j, hf with
    | 0, hf => simp at hf; subst hf; exact ⟨rfl, rfl⟩
    | 1, hf => simp at hf; subst hf; exact ⟨rfl, rfl⟩
    | 2, hf => simp at hf; subst hf; exact ⟨rfl, rfl⟩
    | 3, hf => simp at hf; subst hf; exact ⟨rfl, rfl⟩
    | 4, hf => simp at hf; subst hf; exact ⟨rfl, rfl⟩
    | 5, hf => simp at hf; subst hf; exact ⟨rfl, rfl⟩
    | j + 6, hf => simp at hf) passCellsOf hd0 rfl (by decide) rfl
  have hcell := fun o => World.var?_cell hg0 hv0 o
  refine ⟨?_, fun j v hj => ?_⟩
  · have h0 := hc 0 0 0 _ rfl rfl
    have h1 := hcell 0
    rw [show cs0[0]? = some (Value.int .i64 0) by simpa using h0] at h1
    exact World.block_lt_of_cell? _ _ h1
  · have hlt : j < 42 := (List.getElem?_eq_some_iff.1 hj).1
    have e := hcell j
    have hv : ∃ z zs, passZss[j / 6]? = some zs ∧ zs[j % 6]? = some z ∧ v = .int .i64 z := by
      rw [passFlat, List.getElem?_map] at hj
      have h2 := passFlat_at j hlt
      cases h3 : passZss.flatten[j]? with
      | none => rw [h3] at hj; simp at hj
      | some z =>
        rw [h3] at hj h2
        simp only [Option.map_some, Option.some.injEq] at hj
        cases h4 : passZss[j / 6]? with
        | none => rw [h4] at h2; simp at h2
        | some zs =>
          rw [h4] at h2
          exact ⟨z, zs, rfl, by simpa using h2.symm, hj.symm⟩
    obtain ⟨z, zs, a, b, rfl⟩ := hv
    have h2 := hc (j / 6) (j % 6) z zs a b
    rw [show j / 6 * 6 + j % 6 = j by omega] at h2
    rw [e]
    simpa using h2
end Go.Proofs.YthpkngipiapbpaaDoor
