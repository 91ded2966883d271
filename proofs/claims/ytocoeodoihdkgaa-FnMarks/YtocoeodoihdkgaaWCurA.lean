/- The cursor that draws: a number below any bound, and lists of samples. -/
import Derived.Test.YtocoeodoihdkgaaWCur
import Derived.Test.YtocoeodoihdkgaaWInts
import Derived.Test.YtocoeodoihdkgaaWOwn2
namespace Go.Proofs.Ytocoeodoihdkgaa
open Go.RowKit

theorem CurIn.more {w : World} {c : Nat} {ad : Option Addr} {cap : Nat} {zs : List Int} {m m' : Nat} (h : CurIn w c ad cap zs m) (hm : m ≤ m') : CurIn w c ad cap zs m' := by
  obtain ⟨p, s, hc, h0, h1, h2, h3⟩ := h
  exact ⟨p, s, hc, h0, by omega, h2, h3⟩

set_option maxHeartbeats 2000000 in
/-- A number below n, whatever n is. -/
theorem curPickAny (c : Nat) (ad : Option Addr) (cap : Nat) (zs : List Int) (m : Nat) (n : Int) (w : World) (h : CurIn w c ad cap zs m) (hm : m ≤ 1099511627000) (hl : zs.length ≤ 1048576) (hn2 : n ≤ 1000000) :
    Calls Try.prog 71 #[.pointer (some ⟨c, 0, none⟩), .int .i64 n] w fun e w' => ∃ x, e = .returned (.int .i64 x) ∧ 0 ≤ x ∧ (1 ≤ n → x < n) ∧ CurIn w' c ad cap zs (m + 3) ∧ OnlyAt c w w' := by
  by_cases h1 : n ≤ 1
  · have hc := hide (h.more (show m ≤ m + 3 by omega))
    clear h
    go_enter Try.func71, Try.ntmps71
    go_wp2
    go_ret
    exact ⟨0, rfl, by omega, fun h => by omega, unhide hc, OnlyAt.refl _ _⟩
  · by_cases h2 : n ≤ 200
    · refine (curPick c ad cap zs m n w h (by omega) hl (by omega) h2).mono ?_
      rintro e w' ⟨x, rfl, x0, x1, hc, ho⟩
      exact ⟨x, rfl, x0, fun _ => x1, hc.more (by omega), ho⟩
    · have hN := hide (curNextIn c ad cap zs m w h (by omega) hl)
      clear h
      by_cases h3 : n ≤ 50000
      · go_enter Try.func71, Try.ntmps71
        go_wp2_with fail
        refine (unhide hN).mono ?_
        rintro e w1 ⟨x, rfl, x0, x1, hc, ho⟩
        clear hN
        have hN2 := hide (curNextIn c ad cap zs (m + 1) w1 hc (by omega) hl)
        clear hc
        go_wp2_with fail
        refine (unhide hN2).mono ?_
        rintro e w2 ⟨y, rfl, y0, y1, hc2, ho2⟩
        have hc3 := hide (hc2.more (show m + 1 + 1 ≤ m + 3 by omega))
        have ho3 := hide (ho.trans ho2)
        clear hN2 hc2 ho ho2
        go_wp2
        go_ret
        exact ⟨_, rfl, Int.emod_nonneg _ (by omega), fun _ => Int.emod_lt_of_pos _ (by omega), unhide hc3, unhide ho3⟩
      · go_enter Try.func71, Try.ntmps71
        go_wp2_with fail
        refine (unhide hN).mono ?_
        rintro e w1 ⟨x, rfl, x0, x1, hc, ho⟩
        clear hN
        have hN2 := hide (curNextIn c ad cap zs (m + 1) w1 hc (by omega) hl)
        clear hc
        go_wp2_with fail
        refine (unhide hN2).mono ?_
        rintro e w2 ⟨y, rfl, y0, y1, hc2, ho2⟩
        have hN3 := hide (curNextIn c ad cap zs (m + 1 + 1) w2 hc2 (by omega) hl)
        clear hN2 hc2
        go_wp2_with fail
        refine (unhide hN3).mono ?_
        rintro e w3 ⟨z, rfl, z0, z1, hc3, ho3⟩
        have hc4 := hide (hc3.more (show m + 1 + 1 + 1 ≤ m + 3 by omega))
        have ho4 := hide ((ho.trans ho2).trans ho3)
        clear hN3 hc3 ho ho2 ho3
        go_wp2
        go_ret
        exact ⟨_, rfl, Int.emod_nonneg _ (by omega), fun _ => Int.emod_lt_of_pos _ (by omega), unhide hc4, unhide ho4⟩

/-- All in 0 .. T - 1. -/
def InT (T : Int) (xs : List Int) : Prop := ∀ j, j < xs.length → 0 ≤ xs.getD j 0 ∧ xs.getD j 0 < T
theorem InT.set {T : Int} {xs : List Int} (h : InT T xs) {x : Int} (h0 : 0 ≤ x) (h1 : x < T) (k : Nat) : InT T (xs.set k x) := by
  intro j hj
  rw [List.length_set] at hj
  rw [List.getD_eq_getElem?_getD]
  by_cases e : k = j
  · subst e; rw [List.getElem?_set_self hj]; exact ⟨h0, h1⟩
  · rw [List.getElem?_set_ne e, ← List.getD_eq_getElem?_getD]; exact h j hj
theorem inT_zeros {T : Int} (hT : 0 < T) (n : Nat) : InT T (List.replicate n 0) := by
  intro j hj
  rw [List.getD_eq_getElem?_getD, List.getElem?_replicate]
  split <;> simp <;> omega
theorem ints_zeros (n : Nat) : ints (List.replicate n 0) = List.replicate n (.int .i64 0) := by unfold ints; simp
theorem ints_set (xs : List Int) (k : Nat) (x : Int) : (ints xs).set k (.int .i64 x) = ints (xs.set k x) := by unfold ints; rw [List.map_set]
theorem owns_onlyI {w w' : World} {base r g : Nat} {e : TypeId} {size n c : Nat} {xs : List Value} (h : w.ownsRow base e size (.slice (some ⟨g, 0, none⟩) n c) n xs) (hne : g ≠ r) (ho : OnlyAt r w w') : w'.ownsRow base e size (.slice (some ⟨g, 0, none⟩) n c) n xs := by
  refine ⟨h.1, ?_⟩
  rcases h.2 with hn | ⟨g', cap, cur, e', h1, h2, h3⟩
  · exact .inl hn
  · simp only [Value.slice.injEq, Option.some.injEq, Addr.mk.injEq, and_true, true_and] at e'
    obtain ⟨rfl, rfl⟩ := e'
    exact .inr ⟨g, c, cur, rfl, h1, by rw [ho.block g (h.lt g rfl).2 hne]; exact h2, h3⟩
/-- The cursor stays where new blocks come. -/
theorem CurIn.grown {w w' : World} {c : Nat} {ad : Option Addr} {cap : Nat} {zs : List Int} {m : Nat} (h : CurIn w c ad cap zs m) (hb : Below w.heap.size w w') : CurIn w' c ad cap zs m := by
  obtain ⟨p, s, ⟨h0, h1, h2, h3, f1, f2, hz, hbs⟩, r⟩ := h
  refine ⟨p, s, ⟨Nat.lt_of_lt_of_le h0 hb.size, (hb.cell (by simpa using h0)).trans h1, (hb.cell (by simpa using h0)).trans h2, (hb.cell (by simpa using h0)).trans h3, (hb.frozen (by simpa using h0)).trans f1, (hb.frozen (by simpa using h0)).trans f2, hz, fun hne => ?_⟩, r⟩
  obtain ⟨b, off, e, hl, hbc, hB⟩ := hbs hne
  exact ⟨b, off, e, Nat.lt_of_lt_of_le hl hb.size, hbc, fun j hj => (hb.cell (by simpa using hl)).trans (hB j hj)⟩
theorem CurIn.setFar {w : World} {c g o : Nat} {u : Value} {ad : Option Addr} {cap : Nat} {zs : List Int} {m : Nat} (h : CurIn w c ad cap zs m) (hg : g ≠ c) (hga : ∀ b off, ad = some ⟨b, off, none⟩ → zs ≠ [] → g ≠ b) : CurIn (w.setCell ⟨g, o, none⟩ u) c ad cap zs m := by
  obtain ⟨p, s, ⟨h0, h1, h2, h3, f1, f2, hz, hbs⟩, r⟩ := h
  refine ⟨p, s, ⟨by simpa using h0, ?_, ?_, ?_, (World.frozen?_setCell _ _ _ _).trans f1, (World.frozen?_setCell _ _ _ _).trans f2, hz, fun hne => ?_⟩, r⟩
  · rw [World.cell?_setCell_far _ _ _ _ (by simpa using hg)]; exact h1
  · rw [World.cell?_setCell_far _ _ _ _ (by simpa using hg)]; exact h2
  · rw [World.cell?_setCell_far _ _ _ _ (by simpa using hg)]; exact h3
  · obtain ⟨b, off, e, hl, hbc, hB⟩ := hbs hne
    exact ⟨b, off, e, by simpa using hl, hbc, fun j hj => by rw [World.cell?_setCell_far _ _ _ _ (by simpa using hga b off e hne)]; exact hB j hj⟩
end Go.Proofs.Ytocoeodoihdkgaa
