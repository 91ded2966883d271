/- PackLow and PackHigh, walked: what a law on both takes. -/
import Derived.Test.YthpkngipiapbpaaWFields4
import Derived.Test.YthpkngipiapbpaaWPack
namespace Go.Proofs.Ythpkngipiapbpaa
open Go.RowKit

theorem packF_len (h : Bool) (fs : List (Int × Int)) : (packF h fs).length ≤ 1048576 := by
  by_cases h1 : fs.length ≤ 20000
  · by_cases h2 : ∀ j, j < fs.length → okF (fs.getD j (0, 0))
    · rw [packF_good h fs h1 h2]
      have := packTo_inv h fs fs.length (Nat.le_refl _) h2
      have := this.1.1; omega
    · have e : packF h fs = [] := if_neg (fun h => h2 h.2)
      rw [e]; simp
  · rw [packF_many h fs (by omega)]; simp
theorem owns_belowV {w w' : World} {base : Nat} {e : TypeId} {size n B : Nat} {v : Value} {xs : List Value} (h : w.ownsRow base e size v n xs) (hB : ∀ k, v.ownBlock = some k → k < B) (hb : Below B w w') : w'.ownsRow base e size v n xs := by
  refine ⟨h.1, ?_⟩
  rcases h.2 with hn | ⟨g, cap, cur, rfl, h1, h2, h3⟩
  · exact .inl hn
  · exact .inr ⟨g, cap, cur, rfl, h1, by rw [hb.block g (hB g rfl)]; exact h2, h3⟩
theorem owns_only {w w' : World} {base r : Nat} {e : TypeId} {size n : Nat} {v : Value} {xs : List Value} (h : w.ownsRow base e size v n xs) (hne : ∀ k, v.ownBlock = some k → k ≠ r) (ho : OnlyAt r w w') : w'.ownsRow base e size v n xs := by
  refine ⟨h.1, ?_⟩
  rcases h.2 with hn | ⟨g, cap, cur, rfl, h1, h2, h3⟩
  · exact .inl hn
  · exact .inr ⟨g, cap, cur, rfl, h1, by rw [ho.block g (h.lt g rfl).2 (hne g rfl)]; exact h2, h3⟩

/-- A value of the call's own: packed bytes that lie in blocks from base on, below top. -/
def Res (w : World) (base top : Nat) (v : Value) (zs : List Nat) : Prop := w.ownsRow base 5 1 v zs.length (vals zs) ∧ ∀ k, v.ownBlock = some k → k < top
theorem Res.of {w : World} {base : Nat} {v : Value} {zs : List Nat} (h : w.ownsRow base 5 1 v zs.length (vals zs)) : Res w base w.heap.size v zs := ⟨h, fun k hk => (h.lt k hk).2⟩
theorem Res.below {w w' : World} {base top B : Nat} {v : Value} {zs : List Nat} (h : Res w base top v zs) (hb : Below B w w') (ht : top ≤ B) : Res w' base top v zs :=
  ⟨owns_belowV h.1 (fun k hk => Nat.lt_of_lt_of_le (h.2 k hk) ht) hb, h.2⟩

set_option maxHeartbeats 1000000 in
theorem implPackHigh (hPut : PutSaid true) (g cap : Nat) (fs : List (Int × Int)) (w : World) (hI : InF fs) (hO : OwnF w g fs) :
    Calls Try.prog 24 #[.slice (some ⟨g, 0, none⟩) fs.length cap] w fun e w' => ∃ v, e = .returned v ∧ w'.ownsRow w.heap.size 5 1 v (packF true fs).length (vals (packF true fs)) ∧ Below w.heap.size w w' := by
  have hC : Calls Try.prog 28 #[.slice (some ⟨g, 0, none⟩) fs.length cap, .int .i64 1] w fun e w' => ∃ v, e = .returned v ∧ w'.ownsRow w.heap.size 5 1 v (packF true fs).length (vals (packF true fs)) ∧ Below w.heap.size w w' := by
    by_cases hn : fs.length ≤ 20000
    · exact implPackFew true hPut g cap fs w hI hn hO
    · rw [packF_many true fs (by omega)]
      exact (implPackMany 1 _ _ cap w (by omega)).mono fun e w' ⟨he, hb⟩ => ⟨_, he, World.ownsRow_nil _ _ _ _, hb⟩
  replace hC := hide hC
  clear hI hO hPut
  go_enter Try.func24, Try.ntmps24
  go_wp2_with fail
  refine (unhide hC).mono ?_
  rintro e w1 ⟨v, rfl, hown, hb⟩
  replace hown := hide hown
  clear hC
  go_wp2
  go_ret
  exact ⟨v, rfl, unhide hown, hb⟩

end Go.Proofs.Ythpkngipiapbpaa
