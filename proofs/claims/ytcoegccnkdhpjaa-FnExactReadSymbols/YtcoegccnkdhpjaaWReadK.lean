/- ReadSymbols' two walks, as a law's walk takes them. -/
import Derived.Test.YtcoegccnkdhpjaaWRead4
import Derived.Test.YtcoegccnkdhpjaaWReadJ
namespace Go.Proofs.Ytcoegccnkdhpjaa
open Go.RowKit

theorem specReadSymbols (v : Value) (zs : List Int) (u : Value) (d : List Int) (p m : Int) (w : World) (hn : zs.length ≤ 1048576) (hR : InI zs) (hv : RdI w v zs) (hd : d.length ≤ 1048576) (hD : InB d) (hud : RdY w u d)
    (_hl : -9223372036854775808 ≤ p) (hh : p ≤ 9223372036854775807) (_hl' : -9223372036854775808 ≤ m) (_hh' : m ≤ 9223372036854775807) :
    Calls Try.prog 42 #[v, u, .int .i64 p, .int .i64 m] w fun e w' => ∃ x, e = .returned x ∧ OwnSy w' w.heap.size w'.heap.size x (readF zs d p m) ∧ Upd 0 0 w w' := by
  by_cases hb : kindF zs = 0 ∨ p < 0 ∨ m < 0 ∨ 20000 < m
  · rw [readF_bad hb]
    exact (specReadBad v zs u p m w hn hR hv hb).mono fun e w' ⟨he, hu⟩ => ⟨_, he, ⟨_, rfl, own_nilI _ _ _⟩, hu⟩
  · obtain ⟨P, rfl⟩ := Int.eq_ofNat_of_zero_le (show 0 ≤ p by omega)
    obtain ⟨M, rfl⟩ := Int.eq_ofNat_of_zero_le (show 0 ≤ m by omega)
    have hk : ¬ kindF zs = 0 := fun h => hb (.inl h)
    rw [readF_good hk (by omega)]
    exact specReadGood v zs u d P M w hn hR hv hd hD hud hk (by omega) (by omega)
theorem implReadSymbols (v : Value) (zs : List Int) (u : Value) (d : List Int) (p m : Int) (w : World) (hn : zs.length ≤ 1048576) (hR : InI zs) (hv : RdI w v zs) (hd : d.length ≤ 1048576) (hD : InB d) (hud : RdY w u d)
    (_hl : -9223372036854775808 ≤ p) (hh : p ≤ 9223372036854775807) (_hl' : -9223372036854775808 ≤ m) (_hh' : m ≤ 9223372036854775807) :
    Calls Try.prog 30 #[v, u, .int .i64 p, .int .i64 m] w fun e w' => ∃ x, e = .returned x ∧ OwnSy w' w.heap.size w'.heap.size x (readF zs d p m) ∧ Upd 0 0 w w' := by
  by_cases hb : kindF zs = 0 ∨ p < 0 ∨ m < 0 ∨ 20000 < m
  · rw [readF_bad hb]
    exact (implReadBad v zs u p m w hn hR hv hb).mono fun e w' ⟨he, hu⟩ => ⟨_, he, ⟨_, rfl, own_nilI _ _ _⟩, hu⟩
  · obtain ⟨P, rfl⟩ := Int.eq_ofNat_of_zero_le (show 0 ≤ p by omega)
    obtain ⟨M, rfl⟩ := Int.eq_ofNat_of_zero_le (show 0 ≤ m by omega)
    have hk : ¬ kindF zs = 0 := fun h => hb (.inl h)
    rw [readF_good hk (by omega)]
    exact implReadGood v zs u d P M w hn hR hv hd hD hud hk (by omega) (by omega)
end Go.Proofs.Ytcoegccnkdhpjaa
