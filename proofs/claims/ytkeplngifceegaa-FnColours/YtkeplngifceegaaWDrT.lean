/- The drawing of colours. -/
import Derived.Test.YtkeplngifceegaaWCurA
import Derived.Test.YtkeplngifceegaaWTr
namespace Go.Proofs.Ytkeplngifceegaa
open Go.RowKit

theorem HeldF.only {w w' : World} {g r : Nat} {cs : List Value} (h : HeldF w g cs) (o : OnlyAt r w w') (hne : g ≠ r) : HeldF w' g cs :=
  ⟨⟨Nat.lt_of_lt_of_le h.1.1 o.size, fun j v hj => (o.cell (p := ⟨g, j, none⟩) h.1.1 hne).trans (h.1.2 j v hj)⟩, fun j => (o.frozen (p := ⟨g, j, none⟩) h.1.1 hne).trans (h.2 j)⟩
theorem OnlyAt.past {c g : Nat} {w w' : World} (h : OnlyAt c w w') (hg : w.heap.size ≤ g) {k : Nat} {u : Value} : OnlyAt c w (w'.setCell ⟨g, k, none⟩ u) :=
  ⟨h.os, h.tape, h.output, by simpa using h.size, fun j hj hjc => (Below.heap_setCell w' ⟨g, k, none⟩ u j (by simp; omega)).trans (h.block j hj hjc)⟩
set_option maxHeartbeats 4000000 in
set_option maxRecDepth 100000 in
theorem curTriple (c : Nat) (ad : Option Addr) (cap : Nat) (zs : List Int) (m : Nat) (n : Int) (w : World) (h : CurIn w c ad cap zs m) (hm : m ≤ 1099511000000) (hl : zs.length ≤ 1048576) (hn : 1 ≤ n) (hn2 : n ≤ 1000) :
    Calls Try.prog 70 #[.pointer (some ⟨c, 0, none⟩), .int .i64 n] w fun e w' => ∃ x y z, e = .returned (.agg #[.int .i64 x, .int .i64 y, .int .i64 z]) ∧ (0 ≤ x ∧ x < n) ∧ (0 ≤ y ∧ y < n) ∧ (0 ≤ z ∧ z < n) ∧ CurIn w' c ad cap zs (m + 9) ∧ OnlyAt c w w' := by
  have hbz : Hid (∀ b off, ad = some ⟨b, off, none⟩ → zs ≠ [] → w.heap.size ≠ b) := hide (fun b off e hz => by
    obtain ⟨p, s, ⟨_, _, _, _, _, _, _, hbs⟩, _⟩ := h
    obtain ⟨b', off', e', hl', _⟩ := hbs hz
    rw [e] at e'; cases e'; omega)
  have hcw : c < w.heap.size := by obtain ⟨p, s, hc, _⟩ := h; exact hc.1
  have hc0 := hide (h.grown ((Below.refl w.heap.size w).alloc (Nat.le_refl _) (.cells #[.int .i64 0, .int .i64 0, .int .i64 0] 24)))
  have ho0 : OnlyAt c w (w.alloc (.cells #[.int .i64 0, .int .i64 0, .int .i64 0] 24)) := ⟨rfl, rfl, rfl, by simp, fun k hk _ => Below.heap_alloc _ _ _ hk⟩
  have hrs := hide (heldF_new w [.int .i64 0, .int .i64 0, .int .i64 0] 24)
  clear h
  go_enter Try.func70, Try.ntmps70
  go_wp2_with fail
  generalize hw0 : w.alloc (.cells #[.int .i64 0, .int .i64 0, .int .i64 0] 24) = w0 at hc0 hrs ho0 ⊢
  clear hw0
  replace ho0 := hide ho0
  refine (curPickAny c ad cap zs m n _ (unhide hc0) (by omega) hl (by omega)).mono ?_
  rintro e w1 ⟨x, rfl, x0, x1, hc1, ho⟩
  replace hrs := hide ((unhide hrs).only ho (by omega))
  replace ho0 := hide ((unhide ho0).trans ho)
  replace x1 := x1 hn
  replace hc1 := hide hc1
  clear ho hc0
  go_wp2_with fail
  refine (curPickAny c ad cap zs (m + 3) n _ (unhide hc1) (by omega) hl (by omega)).mono ?_
  rintro e w2 ⟨y, rfl, y0, y1, hc2, ho⟩
  replace hrs := hide ((unhide hrs).only ho (by omega))
  replace ho0 := hide ((unhide ho0).trans ho)
  replace y1 := y1 hn
  replace hc2 := hide hc2
  clear ho hc1
  go_wp2_with fail
  refine (curPickAny c ad cap zs (m + 6) n _ (unhide hc2) (by omega) hl (by omega)).mono ?_
  rintro e w3 ⟨z, rfl, z0, z1, hc3, ho⟩
  replace hrs := hide ((unhide hrs).only ho (by omega))
  replace ho0 := hide ((unhide ho0).trans ho)
  replace z1 := z1 hn
  replace hc3 := hide hc3
  clear ho hc2
  have k0 := (unhide hrs).1.2 0 _ rfl
  have k1 := (unhide hrs).1.2 1 _ rfl
  have k2 := (unhide hrs).1.2 2 _ rfl
  have f0 := (unhide hrs).2 0
  have f1 := (unhide hrs).2 1
  have f2 := (unhide hrs).2 2
  go_wp2
  refine bodyPost_ret (v := .agg #[.int .i64 x, .int .i64 y, .int .i64 z]) (by simp [results, Try.results70, go_sem, k0, k1, k2]) rfl ⟨x, y, z, rfl, ⟨x0, x1⟩, ⟨y0, y1⟩, ⟨z0, z1⟩, ?_, ?_⟩
  · exact (((unhide hc3).setFar (by omega) (unhide hbz)).setFar (by omega) (unhide hbz)).setFar (by omega) (unhide hbz)
  · exact (((unhide ho0).past (Nat.le_refl _)).past (Nat.le_refl _)).past (Nat.le_refl _)
end Go.Proofs.Ytkeplngifceegaa
