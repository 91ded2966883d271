/- The program's Unlift. -/
import Derived.Test.YtkeplngifceegaaWTrG
namespace Go.Proofs.Ytkeplngifceegaa
open Go.RowKit

theorem wrap64_spec (x : Int) : ∃ k : Int, wrap64 x = x - 18446744073709551616 * k ∧ -9223372036854775808 ≤ wrap64 x ∧ wrap64 x ≤ 9223372036854775807 := by
  refine ⟨(x + 9223372036854775808) / 18446744073709551616, ?_⟩
  unfold wrap64
  omega
theorem unlift_wrap {a b c : Int} (h : InTr (a, b, c)) : unliftF (a, b, c) = if Near 1000000 (wrap64 (c + wrap64 (a - wrap64 (b + c) / 4)), wrap64 (a - wrap64 (b + c) / 4), wrap64 (b + wrap64 (a - wrap64 (b + c) / 4))) then (wrap64 (c + wrap64 (a - wrap64 (b + c) / 4)), wrap64 (a - wrap64 (b + c) / 4), wrap64 (b + wrap64 (a - wrap64 (b + c) / 4))) else (0, 0, 0) := by
  obtain ⟨⟨a1, a2⟩, ⟨b1, b2⟩, c1, c2⟩ := h
  simp only at a1 a2 b1 b2 c1 c2
  obtain ⟨k1, e1, l1, m1⟩ := wrap64_spec (b + c)
  generalize wrap64 (b + c) = s at e1 l1 m1
  obtain ⟨k2, e2, l2, m2⟩ := wrap64_spec (a - s / 4)
  generalize wrap64 (a - s / 4) = g at e2 l2 m2
  obtain ⟨k3, e3, l3, m3⟩ := wrap64_spec (c + g)
  generalize wrap64 (c + g) = r at e3 l3 m3
  obtain ⟨k4, e4, l4, m4⟩ := wrap64_spec (b + g)
  generalize wrap64 (b + g) = q at e4 l4 m4
  unfold unliftF
  have hG : unliftG (a, b, c) = a - (b + c) / 4 := rfl
  simp only
  rw [hG]
  by_cases hn : Near 1000000 (r, g, q)
  · rw [if_pos hn]
    obtain ⟨⟨h1, h2⟩, ⟨h3, h4⟩, h5, h6⟩ := hn
    simp only at h1 h2 h3 h4 h5 h6
    have z3 : k3 = 0 := by omega
    have z4 : k4 = 0 := by omega
    have z1 : k1 = 0 := by omega
    subst z1
    have z2 : k2 = 0 := by omega
    subst z2 z3 z4
    have hs : s = b + c := by omega
    subst hs
    have hg : g = a - (b + c) / 4 := by omega
    rw [← hg, show c + g = r by omega, show b + g = q by omega]
    rw [if_pos]
    unfold Near
    simp only
    omega
  · rw [if_neg hn, if_neg]
    rintro ⟨h1, h2⟩
    obtain ⟨⟨n1, n2⟩, ⟨n3, n4⟩, n5, n6⟩ := h1
    obtain ⟨⟨o1, o2⟩, ⟨o3, o4⟩, o5, o6⟩ := h2
    simp only at n1 n2 n3 n4 n5 n6 o1 o2 o3 o4 o5 o6
    apply hn
    have z1 : k1 = 0 := by omega
    subst z1
    have z2 : k2 = 0 := by omega
    subst z2
    have z3 : k3 = 0 := by omega
    have z4 : k4 = 0 := by omega
    subst z3 z4
    unfold Near
    simp only
    omega
set_option maxHeartbeats 4000000 in
set_option maxRecDepth 100000 in
theorem implUnlift (v : Value) (d : Tr) (w : World) (_hn : TrSize d ≤ 1048576) (hR : InTr d) (hv : RdTr w v d) :
    Calls Try.prog 14 #[v] w fun e w' => ∃ u, e = .returned u ∧ OwnTr w' w.heap.size w'.heap.size u (unliftF d) ∧ Upd 0 0 w w' := by
  subst hv
  obtain ⟨a, b, c⟩ := d
  simp only [Trv]
  replace hR := hide hR
  have hD := hide (fun d W => implMayLiftT d W)
  have hu := Upd.of_below (((Below.refl w.heap.size w).alloc (Nat.le_refl _) (.cells #[.int .i64 a, .int .i64 b, .int .i64 c] 24)).alloc (by simp) (.cells #[.int .i64 0, .int .i64 0, .int .i64 0] 24)) 0 0
  have hs : ((w.alloc (.cells #[.int .i64 a, .int .i64 b, .int .i64 c] 24)).alloc (.cells #[.int .i64 0, .int .i64 0, .int .i64 0] 24)).heap.size = w.heap.size + 2 := by simp
  have hbx := (heldF_new w [.int .i64 a, .int .i64 b, .int .i64 c] 24).keep (Upd.of_below ((Below.refl _ _).alloc (Nat.le_refl _) (.cells #[.int .i64 0, .int .i64 0, .int .i64 0] 24)) 0 0)
  have hrs := heldF_new (w.alloc (.cells #[.int .i64 a, .int .i64 b, .int .i64 c] 24)) [.int .i64 0, .int .i64 0, .int .i64 0] 24
  have e1 : (w.alloc (.cells #[.int .i64 a, .int .i64 b, .int .i64 c] 24)).heap.size = w.heap.size + 1 := by simp
  rw [e1] at hrs
  clear e1
  replace hu := hide hu
  replace hbx := hide hbx
  replace hrs := hide hrs
  go_enter Try.func14, Try.ntmps14
  go_wp2_with fail
  have hF := hide (unlift_wrap (unhide hR))
  generalize hg : wrap64 (a - wrap64 (b + c) / 4) = g at hF ⊢
  generalize hr : wrap64 (c + g) = r at hF ⊢
  generalize hq : wrap64 (b + g) = q at hF ⊢
  clear hg hr hq
  have hs1 : w.heap.size + 2 ≤ ((w.alloc (.cells #[.int .i64 a, .int .i64 b, .int .i64 c] 24)).alloc (.cells #[.int .i64 0, .int .i64 0, .int .i64 0] 24)).heap.size := by simp
  generalize (w.alloc (.cells #[.int .i64 a, .int .i64 b, .int .i64 c] 24)).alloc (.cells #[.int .i64 0, .int .i64 0, .int .i64 0] 24) = w1 at hu hbx hrs hs hs1 ⊢
  have hu2 := hide (Upd.of_below ((Below.refl w1.heap.size w1).alloc (Nat.le_refl _) (.cells #[.int .i64 r, .int .i64 g, .int .i64 q] 24)) 0 0)
  have hot := hide (heldF_new w1 [.int .i64 r, .int .i64 g, .int .i64 q] 24)
  rw [hs] at hot
  replace hrs := hide ((unhide hrs).keep (unhide hu2))
  have hB := hide ((unhide hu).trans (unhide hu2)).none
  clear hu hu2 hbx hs1 hR hs
  generalize w1.alloc (.cells #[.int .i64 r, .int .i64 g, .int .i64 q] 24) = w2 at hB hot hrs ⊢
  refine (unhide hD (r, g, q) _).mono ?_
  rintro e w3 ⟨rfl, hw⟩
  replace hrs := hide ((unhide hrs).keep hw)
  replace hot := hide ((unhide hot).keep hw)
  replace hB := hide (below_upd (unhide hB) hw (Nat.le_refl _) (.inr (Nat.le_refl _)))
  clear hw hD
  have z0 := (unhide hrs).1.2 0 _ rfl
  have z1 := (unhide hrs).1.2 1 _ rfl
  have z2 := (unhide hrs).1.2 2 _ rfl
  have f0 := (unhide hrs).2 0
  have f1 := (unhide hrs).2 1
  have f2 := (unhide hrs).2 2
  have o0 := (unhide hot).1.2 0 _ rfl
  have o1 := (unhide hot).1.2 1 _ rfl
  have o2 := (unhide hot).1.2 2 _ rfl
  clear hrs hot
  by_cases hm : Near 1000000 (r, g, q)
  · replace hF := hide ((unhide hF).trans (if_pos hm))
    rw [decide_eq_true hm]
    clear hm
    go_wp2
    refine bodyPost_ret (v := .agg #[.int .i64 r, .int .i64 g, .int .i64 q]) (by simp [results, Try.results14, go_sem, z0, z1, z2]) rfl ⟨_, rfl, by rw [unhide hF]; rfl, Upd.of_below ((((unhide hB).setCell (by simp) _).setCell (by simp) _).setCell (by simp) _) 0 0⟩
  · replace hF := hide ((unhide hF).trans (if_neg hm))
    rw [decide_eq_false hm]
    clear hm
    go_wp2
    refine bodyPost_ret (v := .agg #[.int .i64 0, .int .i64 0, .int .i64 0]) (by simp [results, Try.results14, go_sem, z0, z1, z2]) rfl ⟨_, rfl, by rw [unhide hF]; rfl, Upd.of_below ((((unhide hB).setCell (by simp) _).setCell (by simp) _).setCell (by simp) _) 0 0⟩
end Go.Proofs.Ytkeplngifceegaa
