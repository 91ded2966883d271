/- The cursor that draws: byte strings. -/
import Derived.Test.YthndnehadkgibaaWCurB
import Derived.Test.YthndnehadkgibaaWByts
namespace Go.Proofs.Ythndnehadkgibaa
open Go.RowKit

theorem byts_zeros (n : Nat) : byts (List.replicate n 0) = List.replicate n (.int .u8 0) := by unfold byts; simp
theorem byts_set (xs : List Int) (k : Nat) (x : Int) : (byts xs).set k (.int .u8 x) = byts (xs.set k x) := by unfold byts; rw [List.map_set]
theorem inB_zeros (n : Nat) : InB (List.replicate n 0) := by
  intro j; rw [List.getD_eq_getElem?_getD, List.getElem?_replicate]; split <;> simp
theorem inB_set {xs : List Int} (h : InB xs) (k : Nat) {x : Int} (hx : 0 ≤ x ∧ x < 256) : InB (xs.set k x) := by
  intro j
  rw [List.getD_eq_getElem?_getD]
  by_cases e : k = j
  · subst e
    by_cases hk : k < xs.length
    · rw [List.getElem?_set_self hk]; exact hx
    · rw [List.getElem?_eq_none (by simp; omega)]; simp
  · rw [List.getElem?_set_ne e, ← List.getD_eq_getElem?_getD]; exact h j

/-- A value of the call's own that is not empty lies at the head of a block. -/
theorem own_at {e : TypeId} {s : Nat} {w : World} {a b : Nat} {v : Value} {n : Nat} {xs : List Value} (h : Own e s w a b v n xs) (hn : 0 < n) : ∃ g cp, v = .slice (some ⟨g, 0, none⟩) n cp ∧ a ≤ g ∧ g < b := by
  rcases h.1.2 with ⟨_, h0⟩ | ⟨g, cp, cur, e, h1, _⟩
  · omega
  · exact ⟨g, cp, e, h1, h.2 g (by rw [e]; rfl)⟩
theorem CurIn.upd {w w' : World} {c : Nat} {ad : Option Addr} {cap : Nat} {zs : List Int} {m a b : Nat} (h : CurIn w c ad cap zs m) (u : Upd a b w w') (hc : c < a) (hb : ∀ b' off, ad = some ⟨b', off, none⟩ → zs ≠ [] → b' < a) : CurIn w' c ad cap zs m := by
  obtain ⟨p, s, ⟨h0, h1, h2, h3, f1, f2, hz, hbs⟩, r⟩ := h
  have hk := u.block c h0 (.inl hc)
  have hcell : ∀ j, w'.cell? ⟨c, j, none⟩ = w.cell? ⟨c, j, none⟩ := fun j => World.cell?_of_block (a := ⟨c, j, none⟩) hk
  have hfz : ∀ j, w'.frozen? ⟨c, j, none⟩ = w.frozen? ⟨c, j, none⟩ := fun j => World.frozen?_of_block (a := ⟨c, j, none⟩) hk
  refine ⟨p, s, ⟨Nat.lt_of_lt_of_le h0 u.size, (hcell 0).trans h1, (hcell 1).trans h2, (hcell 2).trans h3, (hfz 1).trans f1, (hfz 2).trans f2, hz, fun hne => ?_⟩, r⟩
  obtain ⟨b2, off, e, hl, hbc, hB⟩ := hbs hne
  exact ⟨b2, off, e, Nat.lt_of_lt_of_le hl u.size, hbc, fun j hj => (World.cell?_of_block (a := ⟨b2, off + j, none⟩) (u.block b2 hl (.inl (hb b2 off e hne)))).trans (hB j hj)⟩

set_option maxHeartbeats 4000000 in
theorem curBytes (c : Nat) (ad : Option Addr) (cap : Nat) (zs : List Int) (m N : Nat) (w : World) (h : CurIn w c ad cap zs m) (hm : m ≤ 1099511000000) (hl : zs.length ≤ 1048576) (hN : N ≤ 16384) :
    Calls Try.prog 59 #[.pointer (some ⟨c, 0, none⟩), .int .i64 N] w fun e w' => ∃ v xs, e = .returned v ∧ v = .slice (some ⟨w.heap.size, 0, none⟩) N N ∧ xs.length = N ∧ InB xs ∧ OwnY w' w.heap.size w'.heap.size v xs ∧ CurIn w' c ad cap zs (m + N) ∧ OnlyAt c w w' := by
  obtain ⟨i0, hi, hz0, hz1, hz2⟩ := info_parts infoB
  have hcl : c < w.heap.size := by obtain ⟨_, _, ⟨h0, _⟩, _⟩ := h; exact h0
  have hadl : ∀ b' off, ad = some ⟨b', off, none⟩ → zs ≠ [] → b' < w.heap.size := fun b' off e hne => by
    obtain ⟨_, _, ⟨_, _, _, _, _, _, _, hbs⟩, _⟩ := h
    obtain ⟨b2, off2, e2, hl2, _⟩ := hbs hne
    rw [e] at e2
    simp only [Option.some.injEq, Addr.mk.injEq, and_true] at e2
    omega
  replace hadl := hide hadl
  have hnext := hide (fun (m' : Nat) (W : World) (hc : CurIn W c ad cap zs m') (h1 : m' ≤ 1099511627776) => curNextIn c ad cap zs m' W hc h1 hl)
  replace h := hide h
  go_enter Try.func59, Try.ntmps59
  go_wp2_with (at_make; refine wpList_make_full _ rfl _ _ 22 rfl w.heap.size 5 i0 (.int .u8 0) 1 Try.underlying22 hi hz0 hz1 .i64 .i64 _ _ N rfl rfl (by omega) (by omega) (by rw [hz2]; omega) (by unfold maxLen; omega) (Nat.le_refl _) ?_; intro w1 hown hgrow)
  have hbel := (Below.refl w.heap.size w).grown hgrow (Nat.le_refl _) (by simp)
  have hc0 := hide ((unhide h).grown hbel)
  have hg0 := hide (show OnlyAt c w w1 from ⟨hbel.os, hbel.tape, hbel.output, hbel.size, fun k hk _ => hbel.block k hk⟩)
  have hos : w1.ownsRow w.heap.size 5 1 (.slice (some ⟨w.heap.size, 0, none⟩) N N) N (byts (List.replicate N 0)) := by
    rw [byts_zeros]; simpa [toList_madeCells_one, Value.cells] using hown
  have ho0 := hide hos
  clear hown hgrow hos hbel h
  go_wp2_with fail
  go_loopw [11] (fun i wr => ∃ k : Nat, ∃ xs : List Int, k ≤ N ∧ i = .int .i64 k ∧ xs.length = N ∧ Hid (InB xs) ∧ Hid (wr.ownsRow w.heap.size 5 1 (.slice (some ⟨w.heap.size, 0, none⟩) N N) N (byts xs)) ∧ Hid (CurIn wr c ad cap zs (m + k)) ∧ Hid (OnlyAt c w wr)) (fun i _ => N - (intOf i).toNat)
  case atStart => exact ⟨0, List.replicate N 0, Nat.zero_le _, rfl, by simp, hide (inB_zeros N), ho0, hc0, hg0⟩
  case round =>
    clear ho0 hc0 hg0
    obtain ⟨k, xs, hk, rfl, hxl, hxT, hox, hcx, hgx⟩ := hrel
    by_cases hlt : k < N
    · go_wp2_with fail
      refine (unhide hnext (m + k) wr (unhide hcx) (by omega)).mono ?_
      rintro e wq ⟨pk, rfl, pk0, pk1, hcq, hoq⟩
      replace hox := hide (owns_onlyI (unhide hox) (by omega) hoq)
      replace hcx := hide hcq
      replace hgx := hide ((unhide hgx).trans hoq)
      clear hcq hoq
      have hox' := unhide hox
      have hcell : ∃ u, wq.cell? ⟨w.heap.size, k, none⟩ = some u := by
        rw [hox'.cellAt k (by omega)]; exact ⟨_, List.getElem?_eq_getElem (by have := hox'.1; omega)⟩
      obtain ⟨uu, hdst⟩ := hcell
      have hfz := hox'.frozenAt k
      have hpw : IntKind.u8.wrap pk = pk := by rw [IntKind.wrap_u8]; omega
      have hst := hide (by have := (hox'.stored k (.int .u8 pk)).1; rw [byts_set] at this; exact this)
      have hcs := hide ((unhide hcx).setFar (g := w.heap.size) (o := k) (u := .int .u8 pk) (by omega) (fun b' off e hne => by have := unhide hadl b' off e hne; omega))
      have hgs := hide (show OnlyAt c w (wq.setCell ⟨w.heap.size, k, none⟩ (.int .u8 pk)) from (unhide hgx).trans2 k (.int .u8 pk))
      clear hox' hox hcx hgx
      go_wp2
      all_goals
        go_roundw
        case rel =>
          exact ⟨k + 1, xs.set k _, by omega, by go_num, by simp [hxl], hide (inB_set (unhide hxT) k ⟨pk0, pk1⟩), hst, hcs, hgs⟩
        case measure => simp [intOf]; omega
    · have hkN : k = N := by omega
      subst hkN
      have ho : OwnY wr w.heap.size wr.heap.size (.slice (some ⟨w.heap.size, 0, none⟩) k k) xs := by
        unfold OwnY; rw [hxl]; exact Own.of (unhide hox)
      replace ho := hide ho
      clear hox
      go_wp2
      go_ret
      exact ⟨_, xs, rfl, rfl, hxl, unhide hxT, unhide ho, unhide hcx, unhide hgx⟩
end Go.Proofs.Ythndnehadkgibaa
