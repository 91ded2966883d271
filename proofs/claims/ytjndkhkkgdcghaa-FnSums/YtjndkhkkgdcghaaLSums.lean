/- The law on check sums, walked. -/
import Derived.Test.YtjndkhkkgdcghaaWSums2
import Derived.Test.YtjndkhkkgdcghaaPlainC
import Derived.Deep.RegionWith
namespace Go.Proofs.Ytjndkhkkgdcghaa
open Go.RowKit

theorem flip_bd (z t : Int) (h0 : 0 ≤ z) (h1 : z < 256) (t0 : 0 < t) (t1 : t < 256) : 0 ≤ bits .xor .u8 z t ∧ bits .xor .u8 z t < 256 ∧ bits .xor .u8 z t ≠ z := by
  rw [u8_xor z t h0 h1 (by omega) t1]
  have hl : z.toNat ^^^ t.toNat < 256 := Nat.xor_lt_two_pow (n := 8) (by omega) (by omega)
  refine ⟨by omega, by omega, fun e => ?_⟩
  have e2 : z.toNat ^^^ t.toNat = z.toNat ^^^ 0 := by rw [Nat.xor_zero]; omega
  have := xor_left _ _ _ e2
  omega
theorem pow_bd (x : Int) : (0 : Int) < 2 ^ min (x % 8).toNat 8 % 256 ∧ (2 : Int) ^ min (x % 8).toNat 8 % 256 < 256 := by
  have hs : (x % 8).toNat = 0 ∨ (x % 8).toNat = 1 ∨ (x % 8).toNat = 2 ∨ (x % 8).toNat = 3 ∨ (x % 8).toNat = 4 ∨ (x % 8).toNat = 5 ∨ (x % 8).toNat = 6 ∨ (x % 8).toNat = 7 := by omega
  rcases hs with h | h | h | h | h | h | h | h <;> rw [h] <;> decide

set_option maxHeartbeats 1000000 in
theorem lawSums_long1 (ad ad' : Option Addr) (n cap n' cap' : Nat) (w : World) (hn : 1048576 < n) :
    Calls Try.prog 5 #[.slice ad n cap, .slice ad' n' cap'] w fun e w' => e = .returned (.bool true) ∧ Below w.heap.size w w' := by
  have q : decide ((1048576 : Int) < (n : Int)) = true := by simp; omega
  go_enter Try.func5, Try.ntmps5
  go_wp2
  go_ret
  exact ⟨rfl, Below.refl _ _⟩
set_option maxHeartbeats 1000000 in
theorem lawSums_long2 (ad ad' : Option Addr) (n cap n' cap' : Nat) (w : World) (hn : ¬ 1048576 < n) (hn' : 1048576 < n') :
    Calls Try.prog 5 #[.slice ad n cap, .slice ad' n' cap'] w fun e w' => e = .returned (.bool true) ∧ Below w.heap.size w w' := by
  have q : decide ((1048576 : Int) < (n : Int)) = false := by simp; omega
  have q' : decide ((1048576 : Int) < (n' : Int)) = true := by simp; omega
  go_enter Try.func5, Try.ntmps5
  go_wp2
  go_ret
  exact ⟨rfl, Below.refl _ _⟩

set_option maxHeartbeats 1000000 in
theorem lawSums_none (ad ad' : Option Addr) (cap cap' : Nat) (ys : List Int) (w : World) (h : ArgB w ad []) (hn' : ys.length ≤ 1048576) :
    Calls Try.prog 5 #[.slice ad 0 cap, .slice ad' ys.length cap'] w fun e w' => e = .returned (.bool true) ∧ Below w.heap.size w w' := by
  have q' : decide ((1048576 : Int) < (ys.length : Int)) = false := by simp; omega
  have c1 := hide (implCrcArg ad cap [] w h (by simp))
  go_enter Try.func5, Try.ntmps5
  go_wp2_with fail
  refine (unhide c1).mono ?_
  rintro e w1 ⟨rfl, hb1⟩
  have h1 := h.below hb1
  have c2 := hide (specCrcArg ad cap [] w1 h1 (by simp))
  go_wp2_with fail
  refine (unhide c2).mono ?_
  rintro e w2 ⟨rfl, hb2⟩
  have h2 := h1.below hb2
  have c3 := hide (implAdlerArg ad cap [] w2 h2 (by simp))
  go_wp2_with fail
  refine (unhide c3).mono ?_
  rintro e w3 ⟨rfl, hb3⟩
  have h3 := h2.below hb3
  have c4 := hide (specAdlerArg ad cap [] w3 h3 (by simp))
  go_wp2_with fail
  refine (unhide c4).mono ?_
  rintro e w4 ⟨rfl, hb4⟩
  have hb12 := hb1.trans (hb2.mono hb1.size)
  have hb13 := hb12.trans (hb3.mono hb12.size)
  have hb14 := hb13.trans (hb4.mono hb13.size)
  go_wp2_with fail
  go_ret
  exact ⟨rfl, hb14⟩

set_option maxHeartbeats 2000000 in
set_option maxRecDepth 100000 in
theorem lawSums_some (b off cap cap' : Nat) (ad' : Option Addr) (zs ys : List Int) (w : World) (h : ArgB w (some ⟨b, off, none⟩) zs) (hbl : b < w.heap.size) (hB : BytesAt w b off zs) (h' : ArgB w ad' ys) (hn : zs.length ≤ 1048576) (hn' : ys.length ≤ 1048576) (hpos : 0 < zs.length) :
    Calls Try.prog 5 #[.slice (some ⟨b, off, none⟩) zs.length cap, .slice ad' ys.length cap'] w fun e w' => e = .returned (.bool true) ∧ Below w.heap.size w w' := by
  have q : decide ((1048576 : Int) < (zs.length : Int)) = false := by simp; omega
  have q' : decide ((1048576 : Int) < (ys.length : Int)) = false := by simp; omega
  have q0 : ((zs.length : Int) == 0) = false := beq_eq_false_iff_ne.2 (by omega)
  obtain ⟨i0, hi, hz0, hz1, hz2⟩ := info_parts infoB
  have c1 := hide (implCrcArg _ cap zs w h hn)
  replace h := hide h
  replace h' := hide h'
  replace hB := hide hB
  go_enter Try.func5, Try.ntmps5
  go_wp2_with fail
  refine (unhide c1).mono ?_
  rintro e w1 ⟨rfl, hb1⟩
  replace hb1 := hide hb1
  have c2 := hide (specCrcArg _ cap zs w1 ((unhide h).below (unhide hb1)) hn)
  go_wp2_with fail
  refine (unhide c2).mono ?_
  rintro e w2 ⟨rfl, hb2⟩
  replace hb2 := hide ((unhide hb1).trans (hb2.mono (unhide hb1).size))
  clear c1 c2 hb1
  have c3 := hide (implAdlerArg _ cap zs w2 ((unhide h).below (unhide hb2)) hn)
  go_wp2_with fail
  refine (unhide c3).mono ?_
  rintro e w3 ⟨rfl, hb3⟩
  replace hb3 := hide ((unhide hb2).trans (hb3.mono (unhide hb2).size))
  clear c3 hb2
  have c4 := hide (specAdlerArg _ cap zs w3 ((unhide h).below (unhide hb3)) hn)
  go_wp2_with fail
  refine (unhide c4).mono ?_
  rintro e w4 ⟨rfl, hb4⟩
  replace hb4 := hide ((unhide hb3).trans (hb4.mono (unhide hb3).size))
  clear c4 hb3
  go_wp2_with (at_builtin; refine wpList_append_own _ rfl (.tmp 30) (.tmp 31) 22 rfl w4.heap.size 5 i0 (.int .u8 0) 1 1 Try.underlying22 hi hz0 hz1 hz2 rfl (by decide) _ _ _ rfl (World.ownsRow_made w4 #[] 0 (Nat.le_refl _) (by unfold maxLen; omega) rfl) ⟨b, off, none⟩ zs.length cap (zs.map (.int .u8)) rfl (by simp) ?c1 ?c2 ?c3 ?c4 ?c5 ?_)
  case c1 =>
    intro j u hj
    have hjl : j < zs.length := by
      rcases Nat.lt_or_ge j zs.length with h | h
      · exact h
      · rw [List.getElem?_eq_none (by simpa using h)] at hj; cases hj
    rw [getD_map_int zs .u8 j hjl] at hj
    injection hj with hj
    subst hj
    rw [Go.WideShapes.add_plain, World.cell?_alloc_past _ _ _ (Nat.lt_of_lt_of_le hbl (unhide hb4).size), (unhide hb4).cell (by simpa using hbl)]
    exact unhide hB j hjl
  case c2 => exact ints_oneCell _ _
  case c3 => unfold maxLen; omega
  case c4 => omega
  case c5 => simp
  intro v' w5 hown hgrow _
  have hsh : ∃ g cp, v' = .slice (some ⟨g, 0, none⟩) zs.length cp := by
    rcases hown.2 with ⟨_, h0⟩ | ⟨g, cp, cur, e, _⟩
    · omega
    · exact ⟨g, cp, e⟩
  obtain ⟨g, cp, rfl⟩ := hsh
  have hb5 := hide (((unhide hb4).alloc (unhide hb4).size (.cells #[] 5)).grown hgrow (by have := (unhide hb4).size; simp; omega) (by simp [Value.ownBlock]; exact (unhide hb4).size))
  have hgw := hown.lt g rfl
  have hge : w.heap.size ≤ g := Nat.le_trans (unhide hb4).size hgw.1
  replace hown := hide hown
  clear hgrow hb4 hi hz0 hz1 hz2
  have W0 := hide (wByteIn ad' cap' ys 0 w5 ((unhide h').below (unhide hb5)) hn' (by omega) (by omega))
  have W1 := hide (wByteIn ad' cap' ys 1 w5 ((unhide h').below (unhide hb5)) hn' (by omega) (by omega))
  have W2 := hide (wByteIn ad' cap' ys 2 w5 ((unhide h').below (unhide hb5)) hn' (by omega) (by omega))
  go_wp2_with fail
  refine (unhide W0).mono ?_
  rintro e w6 ⟨x0, rfl, x00, x01, hw6⟩
  subst hw6
  go_wp2_with fail
  refine (unhide W1).mono ?_
  rintro e w7 ⟨x1, rfl, x10, x11, hw7⟩
  subst hw7
  go_wp2_with fail
  refine (unhide W2).mono ?_
  rintro e w8 ⟨x2, rfl, x20, x21, hw8⟩
  subst hw8
  go_wp2_with fail
  obtain ⟨k, hk⟩ : ∃ k : Nat, (x0 + 256 * x1 + 65536 * x2) % (zs.length : Int) = (k : Int) := ⟨((x0 + 256 * x1 + 65536 * x2) % (zs.length : Int)).toNat, by have := Int.emod_nonneg (x0 + 256 * x1 + 65536 * x2) (show (zs.length : Int) ≠ 0 by omega); omega⟩
  have hkl : k < zs.length := by have := Int.emod_lt_of_pos (x0 + 256 * x1 + 65536 * x2) (show (0 : Int) < zs.length by omega); omega
  rw [hk]
  clear hk W0 W1 W2 x00 x01 x10 x11 x20 x21
  have hk0 : (0 : Int) ≤ (k : Int) := by omega
  have hk1 : (k : Int) < (zs.length : Int) := by omega
  have hck : w8.cell? ⟨g, k, none⟩ = some (.int .u8 (zs.getD k 0)) := by rw [(unhide hown).cellAt k (by omega)]; exact getD_map_int zs .u8 k hkl
  have hfz := (unhide hown).frozenAt k
  have hA' := hide ((unhide h').below (unhide hb5))
  have hzk := (unhide h).1 k
  generalize hz : zs.getD k 0 = z at hck hzk
  replace hz := hide hz
  go_region_with (go_at_call 34; refine (wByteIn ad' cap' ys 3 _ (by exact unhide hA') hn' (by omega) (by omega)).mono ?_; rintro e w9 ⟨x3, rfl, x30, x31, rfl⟩)
  all_goals
    go_wp2_with fail
    have hy := flip_bd z (2 ^ min (x3 % 8).toNat 8 % 256) hzk.1 hzk.2 (pow_bd x3).1 (pow_bd x3).2
    generalize bits .xor .u8 z (2 ^ min (x3 % 8).toNat 8 % 256) = y at hy ⊢
    have hst := ((unhide hown).stored k (.int .u8 y)).1
    rw [← List.map_set] at hst
    have ho := ownB_of_owns (by simp) hst.drew
    have hbW := ((unhide hb5).setCell (p := ⟨g, k, none⟩) hge (.int .u8 y)).drew
    generalize (w8.setCell ⟨g, k, none⟩ (.int .u8 y)).drew = wW at ho hbW ⊢
    have hIn : InB (zs.set k y) := fun j => by
      rw [List.getD_eq_getElem?_getD, List.getElem?_set]
      by_cases e : k = j
      · subst e; simp [hkl]; omega
      · rw [if_neg e, ← List.getD_eq_getElem?_getD]; exact (unhide h).1 j
    have hne := crc_ne zs k y hkl (by rw [unhide hz]; exact hzk.1) (by rw [unhide hz]; exact hzk.2) hy.1 hy.2.1 (by rw [unhide hz]; exact hy.2.2)
    have c5 := hide (implCrc g 0 zs.length cp (zs.set k y) wW (by simp) (by omega) ho.1 hIn (fun j hj => ho.2 j (by simpa using hj)))
    have hbW' := hide hbW
    clear hst ho hIn hbW hy hz hck hfz hA' hown hb5
    refine (unhide c5).mono ?_
    rintro e wX ⟨rfl, hbX⟩
    have hb6 := hide ((unhide hbW').trans (hbX.mono (unhide hbW').size))
    have c6 := hide (implCrcArg _ cap zs wX ((unhide h).below (unhide hb6)) hn)
    clear c5
    generalize crcF (zs.set k y) = A at hne ⊢
    go_wp2_with fail
    refine (unhide c6).mono ?_
    rintro e wY ⟨rfl, hbY⟩
    have hb7 := (unhide hb6).trans (hbY.mono (unhide hb6).size)
    clear c6
    generalize crcF zs = C at hne ⊢
    have hneB : (A == C) = false := beq_eq_false_iff_ne.2 hne
    have hneC : (A != C) = true := by rw [bne_iff_ne]; exact hne
    go_wp2
    go_ret
    exact ⟨by simp, hb7⟩

theorem lawSums (ad : Option Addr) (cap : Nat) (zs : List Int) (ad' : Option Addr) (cap' : Nat) (ys : List Int) (w : World) (h : ArgB w ad zs) (h' : ArgB w ad' ys) :
    Calls Try.prog 5 #[.slice ad zs.length cap, .slice ad' ys.length cap'] w fun e w' => e = .returned (.bool true) ∧ Below w.heap.size w w' := by
  by_cases hn : 1048576 < zs.length
  · exact lawSums_long1 ad ad' _ cap _ cap' w hn
  by_cases hn' : 1048576 < ys.length
  · exact lawSums_long2 ad ad' _ cap _ cap' w hn hn'
  by_cases hne : zs = []
  · subst hne
    exact lawSums_none ad ad' cap cap' ys w h (by omega)
  · obtain ⟨b, off, rfl, hl, hc⟩ := h.2 hne
    exact lawSums_some b off cap cap' ad' zs ys w h hl hc h' (by omega) (by omega) (List.length_pos_iff.2 hne)
end Go.Proofs.Ytjndkhkkgdcghaa
