/- The walks of TakeLow and TakeHigh: the program's small parts. -/
import Derived.Test.YtnoojbppfbmbgaaDoorPlainT
import Derived.Test.YtnoojbppfbmbgaaDoorWBytes2
namespace Go.Proofs.YtnoojbppfbmbgaaDoor
open Go.RowKit

set_option maxHeartbeats 400000 in
theorem goodWidthYes (n : Int) (w : World) (h0 : 0 ≤ n) (h1 : n ≤ 64) : Calls Tryd.prog 96 #[.int .i64 n] w fun e w' => e = .returned (.bool true) ∧ w' = w := by
  have q1 : decide ((0 : Int) ≤ n) = true := by simp; omega
  have q2 : decide (n ≤ (64 : Int)) = true := by simp; omega
  go_enter Tryd.func96, Tryd.ntmps96
  go_wp2
  go_ret
  exact ⟨rfl, rfl⟩
set_option maxHeartbeats 400000 in
theorem goodWidthNo (n : Int) (w : World) (h : ¬ (0 ≤ n ∧ n ≤ 64)) : Calls Tryd.prog 96 #[.int .i64 n] w fun e w' => e = .returned (.bool false) ∧ w' = w := by
  by_cases h0 : 0 ≤ n
  · have h1 : ¬ n ≤ 64 := by omega
    clear h
    have q1 : decide ((0 : Int) ≤ n) = true := by simp; omega
    have q2 : decide (n ≤ (64 : Int)) = false := by simp; omega
    go_enter Tryd.func96, Tryd.ntmps96
    go_wp2
    go_ret
    exact ⟨rfl, rfl⟩
  · clear h
    have q1 : decide ((0 : Int) ≤ n) = false := by simp; omega
    go_enter Tryd.func96, Tryd.ntmps96
    go_wp2
    go_ret
    exact ⟨rfl, rfl⟩

set_option maxHeartbeats 400000 in
theorem implLowBits (v n : Nat) (w : World) (hv : v < 18446744073709551616) (hn : n ≤ 8) : Calls Tryd.prog 98 #[.int .u64 v, .int .i64 n] w fun e w' => e = .returned (.int .u64 (v % 2 ^ n : Nat)) ∧ w' = w := by
  go_enter Tryd.func98, Tryd.ntmps98
  go_wp2
  go_ret
  exact ⟨ret_int (mask_bits v n hv (by omega)), rfl⟩

/-- The reader in the variable at block r. -/
def ReaderAt (w : World) (r : Nat) (o : Int) (s : Value) (p : Int) : Prop := r < w.heap.size ∧ w.cell? ⟨r, 0, none⟩ = some (.int .i64 o) ∧ w.cell? ⟨r, 1, none⟩ = some s ∧ w.cell? ⟨r, 2, none⟩ = some (.int .i64 p)

set_option maxHeartbeats 1000000 in
theorem holdsNo1 (r : Nat) (o : Int) (ad : Option Addr) (len cap : Nat) (p n : Int) (w : World) (hr : ReaderAt w r o (.slice ad len cap) p) (h : ¬ (0 ≤ n ∧ n ≤ 64)) :
    Calls Tryd.prog 61 #[.pointer (some ⟨r, 0, none⟩), .int .i64 n] w fun e w' => e = .returned (.bool false) ∧ ∃ nq, w' = w.drewN nq := by
  obtain ⟨_, c0, c1, c2⟩ := hr
  go_enter Tryd.func61, Tryd.ntmps61
  go_wp2_with fail
  go_quiet ((go_at_call 96; exact Calls.quiet_of_same (goodWidthNo n _ h)))
  go_wp2
  go_ret
  exact ⟨rfl, _, rfl⟩

set_option maxHeartbeats 1000000 in
theorem holdsNo2 (r : Nat) (o : Int) (ad : Option Addr) (len cap : Nat) (p n : Int) (w : World) (hr : ReaderAt w r o (.slice ad len cap) p) (h0 : 0 ≤ n) (h1 : n ≤ 64) (h2 : p < 0) :
    Calls Tryd.prog 61 #[.pointer (some ⟨r, 0, none⟩), .int .i64 n] w fun e w' => e = .returned (.bool false) ∧ ∃ nq, w' = w.drewN nq := by
  obtain ⟨_, c0, c1, c2⟩ := hr
  have q1 : decide ((0 : Int) ≤ p) = false := by simp; omega
  go_enter Tryd.func61, Tryd.ntmps61
  go_wp2_with fail
  go_quiet ((go_at_call 96; exact Calls.quiet_of_same (goodWidthYes n _ h0 h1)))
  go_wp2
  go_ret
  exact ⟨rfl, _, rfl⟩
set_option maxHeartbeats 1000000 in
theorem holdsAsk (r : Nat) (o : Int) (ad : Option Addr) (len cap : Nat) (p n : Int) (w : World) (hr : ReaderAt w r o (.slice ad len cap) p) (h0 : 0 ≤ n) (h1 : n ≤ 64) (h2 : 0 ≤ p) (hl : len ≤ 1048576) :
    Calls Tryd.prog 61 #[.pointer (some ⟨r, 0, none⟩), .int .i64 n] w fun e w' => e = .returned (.bool (decide (p ≤ 8 * len - n))) ∧ ∃ nq, w' = w.drewN nq := by
  obtain ⟨_, c0, c1, c2⟩ := hr
  have q1 : decide ((0 : Int) ≤ p) = true := by simp; omega
  go_enter Tryd.func61, Tryd.ntmps61
  go_wp2_with fail
  go_quiet ((go_at_call 96; exact Calls.quiet_of_same (goodWidthYes n _ h0 h1)))
  go_wp2
  go_ret
  exact ⟨rfl, _, rfl⟩
/-- The world is as it was but for block r, and for what is new. -/
structure OnlyAt (r : Nat) (w w' : World) : Prop where
  os : w'.os = w.os
  tape : w'.tape = w.tape
  output : w'.output = w.output
  size : w.heap.size ≤ w'.heap.size
  block : ∀ k, k < w.heap.size → k ≠ r → w'.heap[k]? = w.heap[k]?
theorem OnlyAt.refl (r : Nat) (w : World) : OnlyAt r w w := ⟨rfl, rfl, rfl, Nat.le_refl _, fun _ _ _ => rfl⟩
theorem OnlyAt.trans {r : Nat} {a w w' : World} (h : OnlyAt r a w) (k : OnlyAt r w w') : OnlyAt r a w' :=
  ⟨k.os.trans h.os, k.tape.trans h.tape, k.output.trans h.output, Nat.le_trans h.size k.size, fun i hi hn => (k.block i (Nat.lt_of_lt_of_le hi h.size) hn).trans (h.block i hi hn)⟩
theorem OnlyAt.drewN {r : Nat} {a w : World} (h : OnlyAt r a w) (n : Nat) : OnlyAt r a (w.drewN n) := h.trans ⟨rfl, rfl, rfl, Nat.le_refl _, fun _ _ _ => rfl⟩
theorem OnlyAt.setCell {r : Nat} {a w : World} (h : OnlyAt r a w) (o : Nat) (u : Value) : OnlyAt r a (w.setCell ⟨r, o, none⟩ u) :=
  h.trans ⟨rfl, rfl, rfl, by simp, fun k _ hk => Below.heap_setCell w ⟨r, o, none⟩ u k hk⟩
theorem OnlyAt.cell {r : Nat} {w w' : World} (h : OnlyAt r w w') {p : Addr} (hp : p.block < w.heap.size) (hr : p.block ≠ r) : w'.cell? p = w.cell? p := World.cell?_of_block (h.block p.block hp hr)
theorem OnlyAt.frozen {r : Nat} {w w' : World} (h : OnlyAt r w w') {p : Addr} (hp : p.block < w.heap.size) (hr : p.block ≠ r) : w'.frozen? p = w.frozen? p := World.frozen?_of_block (h.block p.block hp hr)
theorem OnlyAt.below {r B : Nat} {w w' : World} (h : OnlyAt r w w') (hB : B ≤ r) (hs : B ≤ w.heap.size) : Below B w w' :=
  ⟨h.os, h.tape, h.output, h.size, fun k hk => h.block k (by omega) (by omega)⟩
theorem ReaderAt.drewN {w : World} {r : Nat} {o : Int} {s : Value} {p : Int} (h : ReaderAt w r o s p) (nq : Nat) : ReaderAt (w.drewN nq) r o s p := h
theorem ReaderAt.moved {w : World} {r : Nat} {o : Int} {s : Value} {p : Int} (h : ReaderAt w r o s p) (q : Int) : ReaderAt (w.setCell ⟨r, 2, none⟩ (.int .i64 q)) r o s q := by
  obtain ⟨h0, h1, h2, h3⟩ := h
  refine ⟨by simpa using h0, ?_, ?_, ?_⟩
  · rw [World.cell?_setCell_other _ _ _ _ (by simp)]; exact h1
  · rw [World.cell?_setCell_other _ _ _ _ (by simp)]; exact h2
  · exact World.cell?_setCell_same _ _ _ h3

set_option maxHeartbeats 2000000 in
set_option maxRecDepth 100000 in
theorem implTakeLowIn (r b off len cap : Nat) (zs : List Int) (p n : Nat) (w : World) (hlen : zs.length = len) (hz : InB zs) (hc : BytesAt w b off zs) (hm : len ≤ 1048576) (hn : n ≤ 64) (hi : p + n ≤ 8 * len)
    (hbl : b < w.heap.size) (hbr : b ≠ r) (hfr : w.frozen? ⟨r, 2, none⟩ = false) (hr : ReaderAt w r 0 (.slice (some ⟨b, off, none⟩) len cap) p) :
    Calls Tryd.prog 109 #[.pointer (some ⟨r, 0, none⟩), .int .i64 n] w fun e w' => e = .returned (.tuple #[.int .u64 (lowTo zs p n : Nat), .bool true]) ∧ ReaderAt w' r 0 (.slice (some ⟨b, off, none⟩) len cap) ((p + n : Nat) : Int) ∧ OnlyAt r w w' := by
  subst hlen
  have hH := holdsAsk r 0 _ _ _ p n w hr (by omega) (by omega) (by omega) hm
  have hq : decide ((p : Int) ≤ 8 * (zs.length : Int) - (n : Int)) = true := by simp; omega
  rw [hq] at hH
  clear hq
  replace hz := hide hz
  replace hc := hide hc
  replace hr := hide hr
  go_enter Tryd.func109, Tryd.ntmps109
  go_wp2_with fail
  refine hH.mono ?_
  rintro e w1 ⟨rfl, nq, rfl⟩
  clear hH
  go_wp2
  go_loopw [6, 7] (fun a i wr => ∃ d : Nat, d ≤ n ∧ a = .int .u64 (lowTo zs p d : Nat) ∧ i = .int .i64 d ∧ ReaderAt wr r 0 (.slice (some ⟨b, off, none⟩) zs.length cap) ((p + d : Nat) : Int) ∧ wr.frozen? ⟨r, 2, none⟩ = false ∧ OnlyAt r w wr) (fun _ i _ => n - (intOf i).toNat)
  case atStart => exact ⟨0, Nat.zero_le _, rfl, rfl, unhide hr, hfr, (OnlyAt.refl _ _).drewN _⟩
  case round =>
    obtain ⟨d, hd, rfl, rfl, hrr, hff, hbel⟩ := hrel
    by_cases hlt : d < n
    · have hck : wr.cell? ⟨b, off + (p + d) / 8, none⟩ = some (.int .u8 (zs.getD ((p + d) / 8) 0)) := (hbel.cell hbl hbr).trans (unhide hc _ (by omega))
      have hx : ∃ x : Nat, zs.getD ((p + d) / 8) 0 = (x : Int) ∧ x < 256 ∧ byteAt zs ((p + d) / 8) = x := ⟨(zs.getD ((p + d) / 8) 0).toNat, by have := unhide hz ((p + d) / 8); omega, by have := unhide hz ((p + d) / 8); omega, rfl⟩
      obtain ⟨x, hx1, hx2, hx3⟩ := hx
      rw [hx1] at hck
      clear hx1
      have hrr' := hide hrr
      obtain ⟨hrl, c0, c1, c2⟩ := hrr
      have b1 : ((p : Int) + d) / 8 < zs.length := by omega
      have b0 : 0 ≤ ((p : Int) + d) / 8 := by omega
      replace hx3 := hide hx3
      go_wp2_with fail
      go_quiet (fail)
      go_wp2_with fail
      · rename_i h
        obtain ⟨m, hme⟩ : ∃ m : Nat, ((n : Int) - d) = (m : Int) := ⟨((n : Int) - d).toNat, by omega⟩
        have hm8 : m ≤ 8 := by omega
        have hm0 : 0 < m := by omega
        have hpm : (p + d) % 8 + m ≤ 8 := by omega
        have hdm : d + m ≤ n := by omega
        rw [hme]
        clear hme h
        have HP := low_part zs p d m hpm
        rw [unhide hx3] at HP
        rw [show ((x : Int) / 2 ^ ((p + d) % 8)) = ((x / 2 ^ ((p + d) % 8) : Nat) : Int) by simp]
        have hy : x / 2 ^ ((p + d) % 8) ≤ x := Nat.div_le_self _ _
        generalize x / 2 ^ ((p + d) % 8) = y at hy HP ⊢
        have HO := or_part (lowTo zs p d) (y % 2 ^ m) d m (lowTo_lt zs p d) (Nat.mod_lt _ (Nat.pow_pos (by omega))) (by omega)
        rw [← HP] at HO
        clear HP
        replace HO := hide HO
        refine (implLowBits y m _ (by omega) hm8).mono ?_
        rintro e w2 ⟨rfl, rfl⟩
        generalize y % 2 ^ m = c at HO ⊢
        go_wp2
        go_roundw
        case rel => exact ⟨d + m, by omega, by rw [unhide HO], by go_num, by rw [show ((p + (d + m) : Nat) : Int) = ((p + d : Nat) : Int) + (m : Int) by omega]; exact (ReaderAt.drewN (unhide hrr') nq).moved _, (World.frozen?_setCell _ _ _ _).trans hff, (hbel.drewN nq).setCell _ _⟩
        case measure => simp [intOf]; omega
      · rename_i h
        obtain ⟨m, hme⟩ : ∃ m : Nat, (8 - ((p : Int) + d) % 8) = (m : Int) := ⟨(8 - ((p : Int) + d) % 8).toNat, by omega⟩
        have hm8 : m ≤ 8 := by omega
        have hm0 : 0 < m := by omega
        have hpm : (p + d) % 8 + m ≤ 8 := by omega
        have hdm : d + m ≤ n := by omega
        rw [hme]
        clear hme h
        have HP := low_part zs p d m hpm
        rw [unhide hx3] at HP
        rw [show ((x : Int) / 2 ^ ((p + d) % 8)) = ((x / 2 ^ ((p + d) % 8) : Nat) : Int) by simp]
        have hy : x / 2 ^ ((p + d) % 8) ≤ x := Nat.div_le_self _ _
        generalize x / 2 ^ ((p + d) % 8) = y at hy HP ⊢
        have HO := or_part (lowTo zs p d) (y % 2 ^ m) d m (lowTo_lt zs p d) (Nat.mod_lt _ (Nat.pow_pos (by omega))) (by omega)
        rw [← HP] at HO
        clear HP
        replace HO := hide HO
        refine (implLowBits y m _ (by omega) hm8).mono ?_
        rintro e w2 ⟨rfl, rfl⟩
        generalize y % 2 ^ m = c at HO ⊢
        go_wp2
        go_roundw
        case rel => exact ⟨d + m, by omega, by rw [unhide HO], by go_num, by rw [show ((p + (d + m) : Nat) : Int) = ((p + d : Nat) : Int) + (m : Int) by omega]; exact (ReaderAt.drewN (unhide hrr') nq).moved _, (World.frozen?_setCell _ _ _ _).trans hff, (hbel.drewN nq).setCell _ _⟩
        case measure => simp [intOf]; omega
    · have hdn : d = n := by omega
      subst hdn
      go_wp2
      go_ret2
      exact ⟨rfl, hrr, hbel⟩
end Go.Proofs.YtnoojbppfbmbgaaDoor
