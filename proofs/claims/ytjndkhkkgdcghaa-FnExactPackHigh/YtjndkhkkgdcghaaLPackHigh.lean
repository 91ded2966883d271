/- The law on PackHigh, walked over what the program's writer does. -/
import Derived.Test.YtjndkhkkgdcghaaWFields4
import Derived.Test.YtjndkhkkgdcghaaWPack
namespace Go.Proofs.Ytjndkhkkgdcghaa
open Go.RowKit

theorem packF_len (h : Bool) (fs : List (Int × Int)) : (packF h fs).length ≤ 1048576 := by
  by_cases h1 : fs.length ≤ 20000
  · by_cases h2 : ∀ j, j < fs.length → okF (fs.getD j (0, 0))
    · rw [packF_good h fs h1 h2]
      have := packTo_inv h fs fs.length (Nat.le_refl _) h2
      have := this.1.1; omega
    · have e : packF h fs = [] := if_neg (fun h => h2 h.2)
      rw [e]; simp
  · rw [packF_many h fs (by omega)]; simp
theorem owns_belowV {w w' : World} {base : Nat} {e : TypeId} {size n B : Nat} {v : Value} {xs : List Value} (h : w.ownsRow base e size v n xs) (hB : ∀ k, v.ownBlock = some k → k < B) (hb : Below B w w') : w'.ownsRow base e size v n xs := by
  refine ⟨h.1, ?_⟩
  rcases h.2 with hn | ⟨g, cap, cur, rfl, h1, h2, h3⟩
  · exact .inl hn
  · exact .inr ⟨g, cap, cur, rfl, h1, by rw [hb.block g (hB g rfl)]; exact h2, h3⟩
theorem owns_only {w w' : World} {base r : Nat} {e : TypeId} {size n : Nat} {v : Value} {xs : List Value} (h : w.ownsRow base e size v n xs) (hne : ∀ k, v.ownBlock = some k → k ≠ r) (ho : OnlyAt r w w') : w'.ownsRow base e size v n xs := by
  refine ⟨h.1, ?_⟩
  rcases h.2 with hn | ⟨g, cap, cur, rfl, h1, h2, h3⟩
  · exact .inl hn
  · exact .inr ⟨g, cap, cur, rfl, h1, by rw [ho.block g (h.lt g rfl).2 (hne g rfl)]; exact h2, h3⟩

/-- A value of the call's own: packed bytes that lie in blocks from base on, below top. -/
def Res (w : World) (base top : Nat) (v : Value) (zs : List Nat) : Prop := w.ownsRow base 5 1 v zs.length (vals zs) ∧ ∀ k, v.ownBlock = some k → k < top
theorem Res.of {w : World} {base : Nat} {v : Value} {zs : List Nat} (h : w.ownsRow base 5 1 v zs.length (vals zs)) : Res w base w.heap.size v zs := ⟨h, fun k hk => (h.lt k hk).2⟩
theorem Res.below {w w' : World} {base top B : Nat} {v : Value} {zs : List Nat} (h : Res w base top v zs) (hb : Below B w w') (ht : top ≤ B) : Res w' base top v zs :=
  ⟨owns_belowV h.1 (fun k hk => Nat.lt_of_lt_of_le (h.2 k hk) ht) hb, h.2⟩

set_option maxHeartbeats 1000000 in
theorem specPackHigh (g cap : Nat) (fs : List (Int × Int)) (w : World) (hI : InF fs) (hO : OwnF w g fs) :
    Calls Try.prog 21 #[.slice (some ⟨g, 0, none⟩) fs.length cap] w fun e w' => ∃ v, e = .returned v ∧ w'.ownsRow w.heap.size 5 1 v (packF true fs).length (vals (packF true fs)) ∧ Below w.heap.size w w' := by
  have hC : Calls Try.prog 51 #[.slice (some ⟨g, 0, none⟩) fs.length cap, .bool true] w fun e w' => ∃ v, e = .returned v ∧ w'.ownsRow w.heap.size 5 1 v (packF true fs).length (vals (packF true fs)) ∧ Below w.heap.size w w' := by
    by_cases hn : fs.length ≤ 20000
    · exact specPackFew true g cap fs w hI hn hO
    · rw [packF_many true fs (by omega)]
      exact (specPackMany true _ _ cap w (by omega)).mono fun e w' ⟨he, hb⟩ => ⟨_, he, World.ownsRow_nil _ _ _ _, hb⟩
  replace hC := hide hC
  clear hI hO
  go_enter Try.func21, Try.ntmps21
  go_wp2_with fail
  refine (unhide hC).mono ?_
  rintro e w1 ⟨v, rfl, hown, hb⟩
  replace hown := hide hown
  clear hC
  go_wp2
  go_ret
  exact ⟨v, rfl, unhide hown, hb⟩
set_option maxHeartbeats 1000000 in
theorem implPackHigh (hPut : PutSaid true) (g cap : Nat) (fs : List (Int × Int)) (w : World) (hI : InF fs) (hO : OwnF w g fs) :
    Calls Try.prog 18 #[.slice (some ⟨g, 0, none⟩) fs.length cap] w fun e w' => ∃ v, e = .returned v ∧ w'.ownsRow w.heap.size 5 1 v (packF true fs).length (vals (packF true fs)) ∧ Below w.heap.size w w' := by
  have hC : Calls Try.prog 50 #[.slice (some ⟨g, 0, none⟩) fs.length cap, .int .i64 1] w fun e w' => ∃ v, e = .returned v ∧ w'.ownsRow w.heap.size 5 1 v (packF true fs).length (vals (packF true fs)) ∧ Below w.heap.size w w' := by
    by_cases hn : fs.length ≤ 20000
    · exact implPackFew true hPut g cap fs w hI hn hO
    · rw [packF_many true fs (by omega)]
      exact (implPackMany 1 _ _ cap w (by omega)).mono fun e w' ⟨he, hb⟩ => ⟨_, he, World.ownsRow_nil _ _ _ _, hb⟩
  replace hC := hide hC
  clear hI hO hPut
  go_enter Try.func18, Try.ntmps18
  go_wp2_with fail
  refine (unhide hC).mono ?_
  rintro e w1 ⟨v, rfl, hown, hb⟩
  replace hown := hide hown
  clear hC
  go_wp2
  go_ret
  exact ⟨v, rfl, unhide hown, hb⟩

set_option maxHeartbeats 1000000 in
theorem lawPackHigh_long (ad : Option Addr) (n cap : Nat) (w : World) (hn : 1048576 < n) (hn2 : n ≤ 9223372036854775807) :
    Calls Try.prog 7 #[.slice ad n cap] w fun e w' => e = .returned (.bool true) ∧ Below w.heap.size w w' := by
  have hz := szFieldS_any ad n cap 1048576 w (by omega) (by omega) hn2
  rw [if_pos (by omega)] at hz
  replace hz := hide hz
  clear hn hn2
  go_enter Try.func7, Try.ntmps7
  go_wp2_with fail
  refine (unhide hz).mono ?_
  rintro e w1 ⟨rfl, hw1⟩
  subst hw1
  go_wp2
  go_ret
  exact ⟨rfl, Below.refl _ _⟩

set_option maxHeartbeats 4000000 in
theorem lawPackHigh_short (hPut : PutSaid true) (ad : Option Addr) (cap : Nat) (fs : List (Int × Int)) (w : World) (h : ArgF w ad fs) (hn : fs.length ≤ 1048576) :
    Calls Try.prog 7 #[.slice ad fs.length cap] w fun e w' => e = .returned (.bool true) ∧ Below w.heap.size w w' := by
  have hz := szFieldS_any ad fs.length cap 1048576 w (by omega) (by omega) (by omega)
  rw [if_neg (by omega)] at hz
  replace hz := hide hz
  have hI := hide h.1
  have hlen := hide (packF_len true fs)
  have hnn : ¬ ((1048576 : Int) - (fs.length : Int) < 0) := by omega
  replace h := hide h
  replace hPut := hide hPut
  go_enter Try.func7, Try.ntmps7
  go_wp2_with fail
  refine (unhide hz).mono ?_
  rintro e w0 ⟨rfl, hw0⟩
  subst hw0
  clear hz
  go_wp2_with fail
  refine (toFieldS_arg ad cap fs w0 (unhide h) hn).mono ?_
  rintro e w1 ⟨g1, ys1, rfl, hf1, _, _, hb1⟩
  go_wp2_with fail
  refine (specPackHigh g1 fs.length fs w1 (unhide hI) hf1).mono ?_
  rintro e w2 ⟨v0, rfl, hr0, hb2⟩
  have r0 := hide (Res.of hr0)
  have hB := hide (hb1.trans (hb2.mono hb1.size))
  obtain ⟨b0, hb0⟩ : ∃ b, b = w1.heap.size := ⟨_, rfl⟩
  rw [← hb0] at r0
  obtain ⟨t0, ht0⟩ : ∃ t, t = w2.heap.size := ⟨_, rfl⟩
  rw [← ht0] at r0
  replace ht0 := hide ht0
  clear hr0 hb1 hb2 hf1 hb0
  go_wp2_with fail
  refine (toFieldS_arg ad cap fs w2 ((unhide h).below (unhide hB)) hn).mono ?_
  rintro e w3 ⟨g2, ys2, rfl, hf2, hg2, hrow2, hb3⟩
  have hgt : t0 ≤ g2 := by rw [unhide ht0]; exact hg2
  have hgw : w0.heap.size ≤ g2 := Nat.le_trans (unhide hB).size hg2
  replace r0 := hide ((unhide r0).below hb3 (by rw [unhide ht0]; exact Nat.le_refl _))
  have ht3 : t0 ≤ w3.heap.size := by rw [unhide ht0]; exact hb3.size
  replace hB := hide ((unhide hB).trans (hb3.mono (unhide hB).size))
  clear hb3 ht0 hg2
  have hg3 := hf2.1
  replace hrow2 := hide hrow2
  go_wp2_with fail
  refine (implPackHigh (unhide hPut) g2 fs.length fs w3 (unhide hI) hf2).mono ?_
  rintro e w4 ⟨v1, rfl, hr1, hb4⟩
  have r1 := hide (Res.of hr1)
  obtain ⟨b1, hbe1⟩ : ∃ b, b = w3.heap.size := ⟨_, rfl⟩
  rw [← hbe1] at r1
  have hgb1 : g2 < b1 := by omega
  have htb1 : t0 ≤ b1 := by omega
  have hwb1 : w0.heap.size ≤ b1 := by have := (unhide hB).size; omega
  replace r0 := hide ((unhide r0).below hb4 ht3)
  have hf2' := hide (hf2.below hb4)
  replace hrow2 := hide (owns_below (unhide hrow2) hb4)
  have ht4 : t0 ≤ w4.heap.size := Nat.le_trans ht3 hb4.size
  have hb14 : b1 ≤ w4.heap.size := by rw [hbe1]; exact hb4.size
  replace hB := hide ((unhide hB).trans (hb4.mono (unhide hB).size))
  clear hr1 hb4 hf2 hbe1 ht3 hg3
  go_wp2_with fail
  refine (eqByteS_res b1 b0 v1 v0 (packF true fs) w4 (unhide hlen) (unhide r1).1 (unhide r0).1).mono ?_
  rintro e w5 ⟨rfl, hb5⟩
  replace r0 := hide ((unhide r0).below hb5 ht4)
  replace r1 := hide ((unhide r1).below hb5 (Nat.le_refl _))
  replace hf2' := hide ((unhide hf2').below hb5)
  replace hrow2 := hide (owns_below (unhide hrow2) hb5)
  replace hB := hide ((unhide hB).trans (hb5.mono (unhide hB).size))
  have h45 := hb5.size
  obtain ⟨t1, ht1⟩ : ∃ t, t = w4.heap.size := ⟨_, rfl⟩
  rw [← ht1] at r1 ht4 hb14 h45
  clear hb5 ht1
  go_wp2_with fail
  refine (toFieldS_arg ad cap fs w5 ((unhide h).below (unhide hB)) hn).mono ?_
  rintro e w6 ⟨g3, ys3, rfl, hf3, _, _, hb6⟩
  replace r0 := hide ((unhide r0).below hb6 (Nat.le_trans ht4 h45))
  replace r1 := hide ((unhide r1).below hb6 h45)
  replace hf2' := hide ((unhide hf2').below hb6)
  replace hrow2 := hide (owns_below (unhide hrow2) hb6)
  replace hB := hide ((unhide hB).trans (hb6.mono (unhide hB).size))
  have h46 := Nat.le_trans h45 hb6.size
  clear hb6 h45
  go_wp2_with fail
  refine (eqFieldS_own g2 g3 fs.length fs.length fs w6 hn (unhide hf2') hf3).mono ?_
  rintro e w7 ⟨rfl, hb7⟩
  replace r0 := hide ((unhide r0).below hb7 (Nat.le_trans ht4 h46))
  replace r1 := hide ((unhide r1).below hb7 h46)
  replace hrow2 := hide (owns_below (unhide hrow2) hb7)
  replace hB := hide ((unhide hB).trans (hb7.mono (unhide hB).size))
  have h47 := Nat.le_trans h46 hb7.size
  clear hb7 h46 hf3 hf2'
  go_wp2_with fail
  refine (markFieldS_own _ g2 fs.length fs.length _ w7 hn (unhide hrow2)).mono ?_
  rintro e w8 ⟨rfl, ho8⟩
  replace r0 : Hid (Res w8 b0 t0 v0 (packF true fs)) := ⟨owns_only (unhide r0).1 (fun k hk => by have := (unhide r0).2 k hk; omega) ho8, (unhide r0).2⟩
  replace r1 : Hid (Res w8 b1 t1 v1 (packF true fs)) := ⟨owns_only (unhide r1).1 (fun k hk => by have := ((unhide r1).1.lt k hk).1; omega) ho8, (unhide r1).2⟩
  replace hB := hide ((unhide hB).trans (ho8.below hgw (unhide hB).size))
  have h48 := Nat.le_trans h47 ho8.size
  clear ho8 h47 hrow2
  go_wp2_with fail
  refine (eqByteS_res b1 b0 v1 v0 (packF true fs) w8 (unhide hlen) (unhide r1).1 (unhide r0).1).mono ?_
  rintro e w9 ⟨rfl, hb9⟩
  replace r0 := hide ((unhide r0).below hb9 (Nat.le_trans ht4 h48))
  replace r1 := hide ((unhide r1).below hb9 h48)
  replace hB := hide ((unhide hB).trans (hb9.mono (unhide hB).size))
  have h49 := Nat.le_trans h48 hb9.size
  clear hb9 h48
  go_wp2_with fail
  refine (markByteS_res b1 v1 (packF true fs) w9 (unhide hlen) (unhide r1).1 (Nat.le_trans hb14 h49)).mono ?_
  rintro e wA ⟨rfl, hM, hbA⟩
  replace hM := hide hM
  replace r0 := hide ((unhide r0).below hbA htb1)
  replace hB := hide ((unhide hB).trans (hbA.mono hwb1))
  have h4A := Nat.le_trans h49 hbA.size
  clear hbA h49 r1
  go_wp2_with fail
  refine (heldByteS_res v1 _ wA (unhide hlen) (unhide hM)).mono ?_
  rintro e wA' ⟨rfl, hwA⟩
  subst hwA
  have hk0 : ¬ (((1 + (packF true fs).length : Nat) : Int) < 0) := by omega
  go_wp2_with fail
  refine (toFieldS_arg ad cap fs wA' ((unhide h).below (unhide hB)) hn).mono ?_
  rintro e wB ⟨g4, ys4, rfl, hf4, _, _, hbB⟩
  replace hM := hide ((unhide hM).below hbB)
  replace r0 := hide ((unhide r0).below hbB (Nat.le_trans ht4 h4A))
  replace hB := hide ((unhide hB).trans (hbB.mono (unhide hB).size))
  have h4B := Nat.le_trans h4A hbB.size
  clear hbB h4A
  go_wp2_with fail
  refine (implPackHigh (unhide hPut) g4 fs.length fs wB (unhide hI) hf4).mono ?_
  rintro e wC ⟨v2, rfl, hr2, hbC⟩
  replace hM := hide ((unhide hM).below hbC)
  replace r0 := hide ((unhide r0).below hbC (Nat.le_trans ht4 h4B))
  replace hB := hide ((unhide hB).trans (hbC.mono (unhide hB).size))
  clear hbC hf4 h4B
  go_wp2_with fail
  refine (eqByteS_res _ b0 v2 v0 (packF true fs) wC (unhide hlen) hr2 (unhide r0).1).mono ?_
  rintro e wD ⟨rfl, hbD⟩
  replace hM := hide ((unhide hM).below hbD)
  replace hB := hide ((unhide hB).trans (hbD.mono (unhide hB).size))
  clear hbD hr2 r0
  go_wp2_with fail
  refine (heldByteS_res v1 _ wD (unhide hlen) (unhide hM)).mono ?_
  rintro e wD' ⟨rfl, hwD⟩
  subst hwD
  go_wp2_with fail
  go_ret
  exact ⟨rfl, unhide hB⟩
theorem lawPackHighOver (hPut : PutSaid true) (ad : Option Addr) (cap : Nat) (fs : List (Int × Int)) (w : World) (h : ArgF w ad fs ∧ fs.length ≤ 9223372036854775807) :
    Calls Try.prog 7 #[.slice ad fs.length cap] w fun e w' => e = .returned (.bool true) ∧ Below w.heap.size w w' := by
  by_cases hn : 1048576 < fs.length
  · exact lawPackHigh_long ad _ cap w hn h.2
  · exact lawPackHigh_short hPut ad cap fs w h.1 (by omega)
end Go.Proofs.Ytjndkhkkgdcghaa
