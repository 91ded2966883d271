/- The walks of the cursor that draws numbers out of a byte string: each returns, in its range, and writes into its own variable alone. -/
import Derived.Test.YtcmabocmcgkmdaaWTake3
import Derived.Deep.RegionHeld
namespace Go.Proofs.Ytcmabocmcgkmdaa
open Go.RowKit

def CurAt (w : World) (c : Nat) (ad : Option Addr) (cap : Nat) (zs : List Int) (p s : Int) : Prop :=
  c < w.heap.size ∧ w.cell? ⟨c, 0, none⟩ = some (.slice ad zs.length cap) ∧ w.cell? ⟨c, 1, none⟩ = some (.int .i64 p) ∧ w.cell? ⟨c, 2, none⟩ = some (.int .u64 s) ∧
  w.frozen? ⟨c, 1, none⟩ = false ∧ w.frozen? ⟨c, 2, none⟩ = false ∧ InB zs ∧ (zs ≠ [] → ∃ b off, ad = some ⟨b, off, none⟩ ∧ b < w.heap.size ∧ b ≠ c ∧ BytesAt w b off zs)

theorem CurAt.drewN {w : World} {c : Nat} {ad : Option Addr} {cap : Nat} {zs : List Int} {p s : Int} (h : CurAt w c ad cap zs p s) (n : Nat) : CurAt (w.drewN n) c ad cap zs p s := h
theorem CurAt.moved {w : World} {c : Nat} {ad : Option Addr} {cap : Nat} {zs : List Int} {p s : Int} (h : CurAt w c ad cap zs p s) (q : Int) : CurAt (w.setCell ⟨c, 1, none⟩ (.int .i64 q)) c ad cap zs q s := by
  obtain ⟨h0, h1, h2, h3, f1, f2, hz, hb⟩ := h
  refine ⟨by simpa using h0, ?_, World.cell?_setCell_same _ _ _ h2, ?_, (World.frozen?_setCell _ _ _ _).trans f1, (World.frozen?_setCell _ _ _ _).trans f2, hz, fun hne => ?_⟩
  · rw [World.cell?_setCell_other _ _ _ _ (by simp)]; exact h1
  · rw [World.cell?_setCell_other _ _ _ _ (by simp)]; exact h3
  · obtain ⟨b, off, e, hl, hbc, hB⟩ := hb hne
    refine ⟨b, off, e, by simpa using hl, hbc, fun j hj => ?_⟩
    rw [World.cell?_setCell_far _ _ _ _ (by simpa using fun h => hbc h.symm)]; exact hB j hj
theorem CurAt.seeded {w : World} {c : Nat} {ad : Option Addr} {cap : Nat} {zs : List Int} {p s : Int} (h : CurAt w c ad cap zs p s) (q : Int) : CurAt (w.setCell ⟨c, 2, none⟩ (.int .u64 q)) c ad cap zs p q := by
  obtain ⟨h0, h1, h2, h3, f1, f2, hz, hb⟩ := h
  refine ⟨by simpa using h0, ?_, ?_, World.cell?_setCell_same _ _ _ h3, (World.frozen?_setCell _ _ _ _).trans f1, (World.frozen?_setCell _ _ _ _).trans f2, hz, fun hne => ?_⟩
  · rw [World.cell?_setCell_other _ _ _ _ (by simp)]; exact h1
  · rw [World.cell?_setCell_other _ _ _ _ (by simp)]; exact h2
  · obtain ⟨b, off, e, hl, hbc, hB⟩ := hb hne
    refine ⟨b, off, e, by simpa using hl, hbc, fun j hj => ?_⟩
    rw [World.cell?_setCell_far _ _ _ _ (by simpa using fun h => hbc h.symm)]; exact hB j hj
theorem u64_wrap_bd (n : Int) : 0 ≤ IntKind.u64.wrap n ∧ IntKind.u64.wrap n < 18446744073709551616 := by rw [IntKind.wrap_u64]; omega
theorem and_255 (n : Int) (h0 : 0 ≤ n) (h1 : n < 18446744073709551616) : bits .and .u64 n 255 = n % 256 := by go_bits2

theorem seed_bd (n : Int) : 0 ≤ wrap64 (bits .and .u64 (IntKind.u64.wrap n / 1099511627776) 255) ∧ wrap64 (bits .and .u64 (IntKind.u64.wrap n / 1099511627776) 255) < 256 := by
  have h := u64_wrap_bd n
  rw [and_255 _ (by omega) (by omega)]
  unfold wrap64; omega
set_option maxHeartbeats 2000000 in
set_option maxRecDepth 100000 in
theorem curNext (c : Nat) (ad : Option Addr) (cap : Nat) (zs : List Int) (p s : Int) (w : World) (h : CurAt w c ad cap zs p s) (hp0 : 0 ≤ p) (hp1 : p ≤ 1099511627776) (hl : zs.length ≤ 1048576) :
    Calls Try.prog 67 #[.pointer (some ⟨c, 0, none⟩)] w fun e w' => ∃ x s', e = .returned (.int .i64 x) ∧ 0 ≤ x ∧ x < 256 ∧ 0 ≤ s' ∧ s' < 18446744073709551616 ∧ CurAt w' c ad cap zs (p + 1) s' ∧ OnlyAt c w w' := by
  have hh := hide h
  obtain ⟨_, c0, c1, c2, f1, f2, hz, hb⟩ := h
  by_cases hlt : p < zs.length
  · obtain ⟨q, rfl⟩ := Int.eq_ofNat_of_zero_le hp0
    obtain ⟨b, off, rfl, hbl, hbc, hB⟩ := hb (by rintro rfl; simp at hlt; omega)
    have hck := hB q (by omega)
    have hzq := hz q
    clear hz hb hB
    generalize zs.getD q 0 = x at hck hzq
    have hdl : decide ((q : Int) < (zs.length : Int)) = true := by simp; omega
    go_enter Try.func67, Try.ntmps67
    go_wp2_with fail
    go_quiet (fail)
    go_wp2_with fail
    go_quiet (fail)
    go_wp2_with fail
    go_quiet (fail)
    go_wp2
    go_ret
    refine ⟨x, _, rfl, hzq.1, hzq.2, ?_, ?_, ((((unhide hh).drewN _).moved _).seeded _).drewN _, ((((OnlyAt.refl _ _).drewN _).setCell _ _).setCell _ _).drewN _⟩
    · exact (u64_wrap_bd _).1
    · exact (u64_wrap_bd _).2
  · clear hb
    have hdl : decide ((p : Int) < (zs.length : Int)) = false := by simp; omega
    have hdl2 : decide ((p : Int) + 1 ≤ (zs.length : Int)) = false := by simp; omega
    go_enter Try.func67, Try.ntmps67
    go_wp2_with fail
    go_quiet (fail)
    go_wp2_with fail
    go_quiet (fail)
    go_wp2
    go_ret
    refine ⟨_, _, rfl, (seed_bd _).1, (seed_bd _).2, (u64_wrap_bd _).1, (u64_wrap_bd _).2, ((((unhide hh).drewN _).moved _).seeded _).drewN _, ((((OnlyAt.refl _ _).drewN _).setCell _ _).setCell _ _).drewN _⟩

/-- The cursor as the laws use it: somewhere in its bytes, at most so far. -/
def CurIn (w : World) (c : Nat) (ad : Option Addr) (cap : Nat) (zs : List Int) (m : Nat) : Prop :=
  ∃ p s : Int, CurAt w c ad cap zs p s ∧ 0 ≤ p ∧ p ≤ m ∧ 0 ≤ s ∧ s < 18446744073709551616
theorem curNextIn (c : Nat) (ad : Option Addr) (cap : Nat) (zs : List Int) (m : Nat) (w : World) (h : CurIn w c ad cap zs m) (hm : m ≤ 1099511627776) (hl : zs.length ≤ 1048576) :
    Calls Try.prog 67 #[.pointer (some ⟨c, 0, none⟩)] w fun e w' => ∃ x, e = .returned (.int .i64 x) ∧ 0 ≤ x ∧ x < 256 ∧ CurIn w' c ad cap zs (m + 1) ∧ OnlyAt c w w' := by
  obtain ⟨p, s, hc, h0, h1, _, _⟩ := h
  refine (curNext c ad cap zs p s w hc h0 (by omega) hl).mono ?_
  rintro e w' ⟨x, s', rfl, x0, x1, s0, s1, hc', ho⟩
  exact ⟨x, rfl, x0, x1, ⟨p + 1, s', hc', by omega, by omega, s0, s1⟩, ho⟩

set_option maxHeartbeats 1000000 in
theorem curPick (c : Nat) (ad : Option Addr) (cap : Nat) (zs : List Int) (m : Nat) (n : Int) (w : World) (h : CurIn w c ad cap zs m) (hm : m ≤ 1099511627776) (hl : zs.length ≤ 1048576) (hn : 1 < n) (hn2 : n ≤ 200) :
    Calls Try.prog 54 #[.pointer (some ⟨c, 0, none⟩), .int .i64 n] w fun e w' => ∃ x, e = .returned (.int .i64 x) ∧ 0 ≤ x ∧ x < n ∧ CurIn w' c ad cap zs (m + 1) ∧ OnlyAt c w w' := by
  have hN := hide (curNextIn c ad cap zs m w h hm hl)
  clear h
  go_enter Try.func54, Try.ntmps54
  go_wp2_with fail
  refine (unhide hN).mono ?_
  rintro e w1 ⟨x, rfl, x0, x1, hc, ho⟩
  clear hN
  go_wp2
  go_ret
  exact ⟨x % n, rfl, Int.emod_nonneg _ (by omega), Int.emod_lt_of_pos _ (by omega), hc, ho⟩

set_option maxHeartbeats 1000000 in
theorem curOne (c : Nat) (ad : Option Addr) (cap : Nat) (zs : List Int) (m : Nat) (n : Int) (w : World) (h : CurIn w c ad cap zs m) (hm : m ≤ 1099511627776) (hl : zs.length ≤ 1048576) (hn : 1 < n) (hn2 : n ≤ 200) :
    Calls Try.prog 53 #[.pointer (some ⟨c, 0, none⟩), .int .i64 n] w fun e w' => ∃ b, e = .returned (.bool b) ∧ CurIn w' c ad cap zs (m + 1) ∧ OnlyAt c w w' := by
  have hN := hide (curPick c ad cap zs m n w h hm hl hn hn2)
  clear h
  go_enter Try.func53, Try.ntmps53
  go_wp2_with fail
  refine (unhide hN).mono ?_
  rintro e w1 ⟨x, rfl, x0, x1, hc, ho⟩
  clear hN
  go_wp2
  all_goals go_ret
  all_goals exact ⟨_, rfl, hc, ho⟩

set_option maxHeartbeats 1000000 in
theorem curWide (c : Nat) (ad : Option Addr) (cap : Nat) (zs : List Int) (m : Nat) (w : World) (h : CurIn w c ad cap zs m) (hm : m ≤ 1099511627000) (hl : zs.length ≤ 1048576) :
    Calls Try.prog 55 #[.pointer (some ⟨c, 0, none⟩)] w fun e w' => ∃ x, e = .returned (.int .u64 x) ∧ 0 ≤ x ∧ x < 18446744073709551616 ∧ CurIn w' c ad cap zs (m + 10) ∧ OnlyAt c w w' := by
  have hN := hide (curPick c ad cap zs m 9 w h (by omega) hl (by omega) (by omega))
  clear h
  go_enter Try.func55, Try.ntmps55
  go_wp2_with fail
  refine (unhide hN).mono ?_
  rintro e w1 ⟨k, rfl, k0, k1, hc, ho⟩
  clear hN
  obtain ⟨k, rfl⟩ := Int.eq_ofNat_of_zero_le k0
  replace hc := hide hc
  replace ho := hide ho
  go_wp2
  go_loopw [3, 4] (fun a i wr => ∃ v : Int, ∃ j : Nat, j ≤ 8 ∧ a = .int .u64 v ∧ 0 ≤ v ∧ v < 18446744073709551616 ∧ i = .int .i64 j ∧ CurIn wr c ad cap zs (m + 9 - j) ∧ OnlyAt c w wr) (fun _ i _ => (intOf i).toNat)
  case atStart =>
    refine ⟨0, k, by omega, rfl, by omega, by omega, rfl, ?_, unhide ho⟩
    obtain ⟨p, s, hc', h0, h1, h2, h3⟩ := unhide hc
    exact ⟨p, s, hc', h0, by omega, h2, h3⟩
  case round =>
    clear hc ho
    obtain ⟨v, j, hj, rfl, hv0, hv1, rfl, hc, ho⟩ := hrel
    by_cases hlt : 0 < j
    · have hN := hide (curNextIn c ad cap zs (m + 9 - j) wr hc (by omega) hl)
      clear hc
      go_wp2_with (go_at_call 67; refine (unhide hN).mono ?_; rintro e w2 ⟨x, rfl, x0, x1, hc2, ho2⟩)
      go_roundw
      case rel =>
        refine ⟨_, j - 1, by omega, rfl, (u64_wrap_bd _).1, (u64_wrap_bd _).2, by go_num, ?_, ho.trans ho2⟩
        rw [show m + 9 - (j - 1) = m + 9 - j + 1 by omega]; exact hc2
      case measure => simp [intOf]; omega
    · have hj0 : j = 0 := by omega
      subst hj0
      have hc9 : CurIn wr c ad cap zs (m + 10) := by
        obtain ⟨p, s, hc', h0, h1, h2, h3⟩ := hc
        exact ⟨p, s, hc', h0, by omega, h2, h3⟩
      clear hc
      replace hc9 := hide hc9
      go_wp2
      go_ret
      exact ⟨v, rfl, hv0, hv1, unhide hc9, ho⟩

theorem curIn_new (w : World) (ad : Option Addr) (cap : Nat) (zs : List Int) (h : ArgB w ad zs) :
    CurIn (w.alloc (.cells #[.slice ad zs.length cap, .int .i64 0, .int .u64 0] 63)) w.heap.size ad cap zs 0 := by
  refine ⟨0, 0, ⟨by simp, ?_, ?_, ?_, World.frozen?_alloc_at _ _ _ _ rfl, World.frozen?_alloc_at _ _ _ _ rfl, h.1, fun hne => ?_⟩, by omega, by omega, by omega, by omega⟩
  · rw [World.cell?_alloc_at _ _ _ _ rfl]; rfl
  · rw [World.cell?_alloc_at _ _ _ _ rfl]; rfl
  · rw [World.cell?_alloc_at _ _ _ _ rfl]; rfl
  · obtain ⟨b, off, e, hl, hB⟩ := h.2 hne
    exact ⟨b, off, e, by simp; omega, by omega, fun j hj => by rw [World.cell?_alloc_past _ _ _ hl]; exact hB j hj⟩

set_option maxHeartbeats 1000000 in
theorem specDrawPut (ad : Option Addr) (cap : Nat) (zs : List Int) (w : World) (h : ArgB w ad zs) (hl : zs.length ≤ 1048576) :
    Calls Try.prog 24 #[.slice ad zs.length cap] w fun e w' => ∃ n : Nat, e = .returned (.int .u64 n) ∧ n < 2 ^ 64 ∧ Below w.heap.size w w' := by
  have hc := hide (curIn_new w ad cap zs h)
  have hbel := hide ((Below.refl w.heap.size w).alloc (Nat.le_refl _) (.cells #[.slice ad zs.length cap, .int .i64 0, .int .u64 0] 63))
  have hnat : ∀ x : Int, 0 ≤ x → x < 18446744073709551616 → ∃ n : Nat, (Ending.returned (.int .u64 x) : Ending) = .returned (.int .u64 n) ∧ n < 2 ^ 64 := fun x h0 h1 => ⟨x.toNat, ret_int (by omega), by omega⟩
  replace hnat := hide hnat
  go_enter Try.func24, Try.ntmps24
  go_wp2_with fail
  refine (curOne _ ad cap zs 0 2 _ (unhide hc) (by omega) hl (by omega) (by omega)).mono ?_
  rintro e w1 ⟨b, rfl, hc1, ho1⟩
  have hb1 := hide ((unhide hbel).trans (ho1.below (Nat.le_refl _) (unhide hbel).size))
  clear hc hbel ho1
  cases b
  · have hN := hide (curWide w.heap.size ad cap zs 1 w1 hc1 (by omega) hl)
    clear hc1
    go_wp2_with fail
    refine (unhide hN).mono ?_
    rintro e w2 ⟨x, rfl, x0, x1, _, ho2⟩
    have hb2 := (unhide hb1).trans (ho2.below (Nat.le_refl _) (unhide hb1).size)
    go_wp2
    go_ret
    obtain ⟨n, hn, hn2⟩ := unhide hnat x x0 x1
    exact ⟨n, hn, hn2, hb2⟩
  · have hN := hide (curPick w.heap.size ad cap zs 1 64 w1 hc1 (by omega) hl (by omega) (by omega))
    clear hc1
    go_wp2_with fail
    refine (unhide hN).mono ?_
    rintro e w2 ⟨x, rfl, x0, x1, hc2, ho2⟩
    have hb2 := hide ((unhide hb1).trans (ho2.below (Nat.le_refl _) (unhide hb1).size))
    clear hN hb1
    obtain ⟨x, rfl⟩ := Int.eq_ofNat_of_zero_le x0
    have hN := hide (curPick w.heap.size ad cap zs 2 2 w2 hc2 (by omega) hl (by omega) (by omega))
    clear hc2
    go_wp2_with fail
    refine (unhide hN).mono ?_
    rintro e w3 ⟨y, rfl, y0, y1, _, ho3⟩
    have hb3 := (unhide hb2).trans (ho3.below (Nat.le_refl _) (unhide hb2).size)
    go_wp2
    go_ret
    obtain ⟨n, hn, hn2⟩ := unhide hnat _ (u64_wrap_bd (IntKind.u64.wrap (2 ^ x) - y)).1 (u64_wrap_bd (IntKind.u64.wrap (2 ^ x) - y)).2
    exact ⟨n, hn, hn2, hb3⟩
end Go.Proofs.Ytcmabocmcgkmdaa
