/- The walk of ReadSymbols: the specification's. -/
import Derived.Test.YtcoegccnkdhpjaaWRead2
namespace Go.Proofs.Ytcoegccnkdhpjaa
open Go.RowKit

set_option maxHeartbeats 4000000 in
theorem specReadBad (v : Value) (zs : List Int) (u : Value) (p m : Int) (w : World) (hn : zs.length ≤ 1048576) (hR : InI zs) (hv : RdI w v zs) (h : kindF zs = 0 ∨ p < 0 ∨ m < 0 ∨ 20000 < m) :
    Calls Try.prog 42 #[v, u, .int .i64 p, .int .i64 m] w fun e w' => e = .returned (.agg #[.int .i64 1, .slice none 0 0, .int .i64 0]) ∧ Upd 0 0 w w' := by
  have hB := (Below.refl w.heap.size w).alloc (Nat.le_refl _) (.cells #[.int .i64 0, .slice none 0 0, .int .i64 0] 46)
  have hT := three_new w (.int .i64 0) (.slice none 0 0) (.int .i64 0) 46
  have hK := hide (specCodeKind v zs _ hn hR (hv.below hB))
  have H : (kindF zs == 0) = true ∨ ((kindF zs == 0) = false ∧ p < 0) ∨ ((kindF zs == 0) = false ∧ 0 ≤ p ∧ m < 0) ∨ ((kindF zs == 0) = false ∧ 0 ≤ p ∧ 0 ≤ m ∧ 20000 < m) := by
    by_cases h0 : kindF zs = 0
    · exact .inl (by simpa using h0)
    · have e : (kindF zs == 0) = false := by simpa using h0
      rcases h with h | h | h | h
      · exact absurd h h0
      · exact .inr (.inl ⟨e, h⟩)
      · by_cases h1 : p < 0
        · exact .inr (.inl ⟨e, h1⟩)
        · exact .inr (.inr (.inl ⟨e, by omega, h⟩))
      · by_cases h1 : p < 0
        · exact .inr (.inl ⟨e, h1⟩)
        · exact .inr (.inr (.inr ⟨e, by omega, by omega, h⟩))
  replace hB := hide hB
  replace hT := hide hT
  clear h hv
  rcases H with q0 | ⟨q0, q1⟩ | ⟨q0, q1, q2⟩ | ⟨q0, q1, q2, q3⟩
  all_goals
    go_enter Try.func42, Try.ntmps42
    go_wp2_with fail
    refine (unhide hK).mono ?_
    rintro e w1 ⟨rfl, hu⟩
    have hT1 := (unhide hT).below hu.none (unhide hT).1
    obtain ⟨t0, ⟨t1, t2, t3⟩, t4, t5, t6⟩ := hT1
    replace hu := hide ((Upd.of_below (unhide hB) 0 0).trans hu)
    clear hK hT hB
    go_wp2
    refine bodyPost_ret (v := .agg #[.int .i64 1, .slice none 0 0, .int .i64 0]) (by simp [results, Try.results42, go_sem, t1, t2, t3]) rfl ⟨rfl, ?_⟩
    refine Upd.of_below ?_ 0 0
    repeat (first | exact (unhide hu).none | refine Below.setCell ?_ (by simp) _)
end Go.Proofs.Ytcoegccnkdhpjaa
