/- The walks of the cursor that draws numbers out of a byte string: each returns, in its range, and writes into its own variable alone. -/
import Derived.Test.YtocoeodoihdkgaaWTake3
import Derived.Deep.RegionHeld
namespace Go.Proofs.Ytocoeodoihdkgaa
open Go.RowKit

def CurAt (w : World) (c : Nat) (ad : Option Addr) (cap : Nat) (zs : List Int) (p s : Int) : Prop :=
  c < w.heap.size ∧ w.cell? ⟨c, 0, none⟩ = some (.slice ad zs.length cap) ∧ w.cell? ⟨c, 1, none⟩ = some (.int .i64 p) ∧ w.cell? ⟨c, 2, none⟩ = some (.int .u64 s) ∧
  w.frozen? ⟨c, 1, none⟩ = false ∧ w.frozen? ⟨c, 2, none⟩ = false ∧ InB zs ∧ (zs ≠ [] → ∃ b off, ad = some ⟨b, off, none⟩ ∧ b < w.heap.size ∧ b ≠ c ∧ BytesAt w b off zs)

theorem CurAt.drewN {w : World} {c : Nat} {ad : Option Addr} {cap : Nat} {zs : List Int} {p s : Int} (h : CurAt w c ad cap zs p s) (n : Nat) : CurAt (w.drewN n) c ad cap zs p s := h
theorem CurAt.moved {w : World} {c : Nat} {ad : Option Addr} {cap : Nat} {zs : List Int} {p s : Int} (h : CurAt w c ad cap zs p s) (q : Int) : CurAt (w.setCell ⟨c, 1, none⟩ (.int .i64 q)) c ad cap zs q s := by
  obtain ⟨h0, h1, h2, h3, f1, f2, hz, hb⟩ := h
  refine ⟨by simpa using h0, ?_, World.cell?_setCell_same _ _ _ h2, ?_, (World.frozen?_setCell _ _ _ _).trans f1, (World.frozen?_setCell _ _ _ _).trans f2, hz, fun hne => ?_⟩
  · rw [World.cell?_setCell_other _ _ _ _ (by simp)]; exact h1
  · rw [World.cell?_setCell_other _ _ _ _ (by simp)]; exact h3
  · obtain ⟨b, off, e, hl, hbc, hB⟩ := hb hne
    refine ⟨b, off, e, by simpa using hl, hbc, fun j hj => ?_⟩
    rw [World.cell?_setCell_far _ _ _ _ (by simpa using fun h => hbc h.symm)]; exact hB j hj
theorem CurAt.seeded {w : World} {c : Nat} {ad : Option Addr} {cap : Nat} {zs : List Int} {p s : Int} (h : CurAt w c ad cap zs p s) (q : Int) : CurAt (w.setCell ⟨c, 2, none⟩ (.int .u64 q)) c ad cap zs p q := by
  obtain ⟨h0, h1, h2, h3, f1, f2, hz, hb⟩ := h
  refine ⟨by simpa using h0, ?_, ?_, World.cell?_setCell_same _ _ _ h3, (World.frozen?_setCell _ _ _ _).trans f1, (World.frozen?_setCell _ _ _ _).trans f2, hz, fun hne => ?_⟩
  · rw [World.cell?_setCell_other _ _ _ _ (by simp)]; exact h1
  · rw [World.cell?_setCell_other _ _ _ _ (by simp)]; exact h2
  · obtain ⟨b, off, e, hl, hbc, hB⟩ := hb hne
    refine ⟨b, off, e, by simpa using hl, hbc, fun j hj => ?_⟩
    rw [World.cell?_setCell_far _ _ _ _ (by simpa using fun h => hbc h.symm)]; exact hB j hj
theorem u64_wrap_bd (n : Int) : 0 ≤ IntKind.u64.wrap n ∧ IntKind.u64.wrap n < 18446744073709551616 := by rw [IntKind.wrap_u64]; omega
theorem and_255 (n : Int) (h0 : 0 ≤ n) (h1 : n < 18446744073709551616) : bits .and .u64 n 255 = n % 256 := by go_bits2

theorem seed_bd (n : Int) : 0 ≤ wrap64 (bits .and .u64 (IntKind.u64.wrap n / 1099511627776) 255) ∧ wrap64 (bits .and .u64 (IntKind.u64.wrap n / 1099511627776) 255) < 256 := by
  have h := u64_wrap_bd n
  rw [and_255 _ (by omega) (by omega)]
  unfold wrap64; omega
set_option maxHeartbeats 2000000 in
set_option maxRecDepth 100000 in
theorem curNext (c : Nat) (ad : Option Addr) (cap : Nat) (zs : List Int) (p s : Int) (w : World) (h : CurAt w c ad cap zs p s) (hp0 : 0 ≤ p) (hp1 : p ≤ 1099511627776) (hl : zs.length ≤ 1048576) :
    Calls Try.prog 110 #[.pointer (some ⟨c, 0, none⟩)] w fun e w' => ∃ x s', e = .returned (.int .i64 x) ∧ 0 ≤ x ∧ x < 256 ∧ 0 ≤ s' ∧ s' < 18446744073709551616 ∧ CurAt w' c ad cap zs (p + 1) s' ∧ OnlyAt c w w' := by
  have hh := hide h
  obtain ⟨_, c0, c1, c2, f1, f2, hz, hb⟩ := h
  by_cases hlt : p < zs.length
  · obtain ⟨q, rfl⟩ := Int.eq_ofNat_of_zero_le hp0
    obtain ⟨b, off, rfl, hbl, hbc, hB⟩ := hb (by rintro rfl; simp at hlt; omega)
    have hck := hB q (by omega)
    have hzq := hz q
    clear hz hb hB
    generalize zs.getD q 0 = x at hck hzq
    have hdl : decide ((q : Int) < (zs.length : Int)) = true := by simp; omega
    go_enter Try.func110, Try.ntmps110
    go_wp2_with fail
    go_quiet (fail)
    go_wp2_with fail
    go_quiet (fail)
    go_wp2_with fail
    go_quiet (fail)
    go_wp2
    go_ret
    refine ⟨x, _, rfl, hzq.1, hzq.2, ?_, ?_, ((((unhide hh).drewN _).moved _).seeded _).drewN _, ((((OnlyAt.refl _ _).drewN _).setCell _ _).setCell _ _).drewN _⟩
    · exact (u64_wrap_bd _).1
    · exact (u64_wrap_bd _).2
  · clear hb
    have hdl : decide ((p : Int) < (zs.length : Int)) = false := by simp; omega
    have hdl2 : decide ((p : Int) + 1 ≤ (zs.length : Int)) = false := by simp; omega
    go_enter Try.func110, Try.ntmps110
    go_wp2_with fail
    go_quiet (fail)
    go_wp2_with fail
    go_quiet (fail)
    go_wp2
    go_ret
    refine ⟨_, _, rfl, (seed_bd _).1, (seed_bd _).2, (u64_wrap_bd _).1, (u64_wrap_bd _).2, ((((unhide hh).drewN _).moved _).seeded _).drewN _, ((((OnlyAt.refl _ _).drewN _).setCell _ _).setCell _ _).drewN _⟩

/-- The cursor as the laws use it: somewhere in its bytes, at most so far. -/
def CurIn (w : World) (c : Nat) (ad : Option Addr) (cap : Nat) (zs : List Int) (m : Nat) : Prop :=
  ∃ p s : Int, CurAt w c ad cap zs p s ∧ 0 ≤ p ∧ p ≤ m ∧ 0 ≤ s ∧ s < 18446744073709551616
theorem curNextIn (c : Nat) (ad : Option Addr) (cap : Nat) (zs : List Int) (m : Nat) (w : World) (h : CurIn w c ad cap zs m) (hm : m ≤ 1099511627776) (hl : zs.length ≤ 1048576) :
    Calls Try.prog 110 #[.pointer (some ⟨c, 0, none⟩)] w fun e w' => ∃ x, e = .returned (.int .i64 x) ∧ 0 ≤ x ∧ x < 256 ∧ CurIn w' c ad cap zs (m + 1) ∧ OnlyAt c w w' := by
  obtain ⟨p, s, hc, h0, h1, _, _⟩ := h
  refine (curNext c ad cap zs p s w hc h0 (by omega) hl).mono ?_
  rintro e w' ⟨x, s', rfl, x0, x1, s0, s1, hc', ho⟩
  exact ⟨x, rfl, x0, x1, ⟨p + 1, s', hc', by omega, by omega, s0, s1⟩, ho⟩

set_option maxHeartbeats 1000000 in
theorem curPick (c : Nat) (ad : Option Addr) (cap : Nat) (zs : List Int) (m : Nat) (n : Int) (w : World) (h : CurIn w c ad cap zs m) (hm : m ≤ 1099511627776) (hl : zs.length ≤ 1048576) (hn : 1 < n) (hn2 : n ≤ 200) :
    Calls Try.prog 71 #[.pointer (some ⟨c, 0, none⟩), .int .i64 n] w fun e w' => ∃ x, e = .returned (.int .i64 x) ∧ 0 ≤ x ∧ x < n ∧ CurIn w' c ad cap zs (m + 1) ∧ OnlyAt c w w' := by
  have hN := hide (curNextIn c ad cap zs m w h hm hl)
  clear h
  go_enter Try.func71, Try.ntmps71
  go_wp2_with fail
  refine (unhide hN).mono ?_
  rintro e w1 ⟨x, rfl, x0, x1, hc, ho⟩
  clear hN
  go_wp2
  go_ret
  exact ⟨x % n, rfl, Int.emod_nonneg _ (by omega), Int.emod_lt_of_pos _ (by omega), hc, ho⟩

set_option maxHeartbeats 1000000 in
theorem curOne (c : Nat) (ad : Option Addr) (cap : Nat) (zs : List Int) (m : Nat) (n : Int) (w : World) (h : CurIn w c ad cap zs m) (hm : m ≤ 1099511627776) (hl : zs.length ≤ 1048576) (hn : 1 < n) (hn2 : n ≤ 200) :
    Calls Try.prog 72 #[.pointer (some ⟨c, 0, none⟩), .int .i64 n] w fun e w' => ∃ b, e = .returned (.bool b) ∧ CurIn w' c ad cap zs (m + 1) ∧ OnlyAt c w w' := by
  have hN := hide (curPick c ad cap zs m n w h hm hl hn hn2)
  clear h
  go_enter Try.func72, Try.ntmps72
  go_wp2_with fail
  refine (unhide hN).mono ?_
  rintro e w1 ⟨x, rfl, x0, x1, hc, ho⟩
  clear hN
  go_wp2
  all_goals go_ret
  all_goals exact ⟨_, rfl, hc, ho⟩

theorem curIn_new (w : World) (ad : Option Addr) (cap : Nat) (zs : List Int) (h : ArgB w ad zs) :
    CurIn (w.alloc (.cells #[.slice ad zs.length cap, .int .i64 0, .int .u64 0] 76)) w.heap.size ad cap zs 0 := by
  refine ⟨0, 0, ⟨by simp, ?_, ?_, ?_, World.frozen?_alloc_at _ _ _ _ rfl, World.frozen?_alloc_at _ _ _ _ rfl, h.1, fun hne => ?_⟩, by omega, by omega, by omega, by omega⟩
  · rw [World.cell?_alloc_at _ _ _ _ rfl]; rfl
  · rw [World.cell?_alloc_at _ _ _ _ rfl]; rfl
  · rw [World.cell?_alloc_at _ _ _ _ rfl]; rfl
  · obtain ⟨b, off, e, hl, hB⟩ := h.2 hne
    exact ⟨b, off, e, by simp; omega, by omega, fun j hj => by rw [World.cell?_alloc_past _ _ _ hl]; exact hB j hj⟩

end Go.Proofs.Ytocoeodoihdkgaa
