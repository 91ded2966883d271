/- slices.Concat of int slices. -/
import Derived.Test.YtpofmcepjmbmcaaWConcI
namespace Go.Proofs.Ytpofmcepjmbmcaa
open Go.RowKit

abbrev PartsZ := List (Value × List Int)
def catToZ (ps : PartsZ) (k : Nat) : List Int := ((ps.take k).map (·.2)).flatten
def catFZ (ps : PartsZ) : List Int := (ps.map (·.2)).flatten
theorem catTo_allZ (ps : PartsZ) : catToZ ps ps.length = catFZ ps := by unfold catToZ catFZ; rw [List.take_length]
theorem catTo_succZ (ps : PartsZ) (k : Nat) (h : k < ps.length) : catToZ ps (k + 1) = catToZ ps k ++ (ps.getD k (.slice none 0 0, [])).2 := by
  unfold catToZ; rw [take_snoc_getD ps (.slice none 0 0, []) k h]; simp
theorem catTo_leZ (ps : PartsZ) (k : Nat) : (catToZ ps k).length ≤ (catFZ ps).length := by
  have : catFZ ps = catToZ ps k ++ ((ps.drop k).map (·.2)).flatten := by
    unfold catFZ catToZ; rw [← List.flatten_append, ← List.map_append, List.take_append_drop]
  rw [this, List.length_append]; omega
/-- Slices of bytes, one behind the other in a block, that can be read. -/
def PartsAtZ (w : World) (b off : Nat) (ps : PartsZ) : Prop := ∀ j, j < ps.length → w.cell? ⟨b, off + j, none⟩ = some (ps.getD j (.slice none 0 0, [])).1 ∧ RdJ w (ps.getD j (.slice none 0 0, [])).1 (ps.getD j (.slice none 0 0, [])).2
theorem partsAt_newZ (w : World) (ps : PartsZ) (t : TypeId) (h : ∀ j, j < ps.length → RdJ w (ps.getD j (.slice none 0 0, [])).1 (ps.getD j (.slice none 0 0, [])).2) :
    PartsAtZ (w.alloc (.cells (ps.map (·.1)).toArray t)) w.heap.size 0 ps := by
  intro j hj
  constructor
  · rw [World.cell?_alloc_at _ _ _ _ rfl, Nat.zero_add]
    simp [List.getD_eq_getElem?_getD, List.getElem?_eq_getElem hj]
  · exact (h j hj).below ((Below.refl w.heap.size w).alloc (Nat.le_refl _) _)
theorem catF_twoZ (a b : Value) (x y : List Int) : catFZ [(a, x), (b, y)] = x ++ y := by simp [catFZ]
theorem catF_threeZ (a b c : Value) (x y z : List Int) : catFZ [(a, x), (b, y), (c, z)] = x ++ y ++ z := by simp [catFZ]
theorem rds_twoZ {w : World} {a b : Value} {x y : List Int} (h1 : RdJ w a x) (h2 : RdJ w b y) : ∀ j, j < [(a, x), (b, y)].length → RdJ w (([(a, x), (b, y)] : PartsZ).getD j (.slice none 0 0, [])).1 (([(a, x), (b, y)] : PartsZ).getD j (.slice none 0 0, [])).2 := by
  intro j hj
  match j, hj with
  | 0, _ => exact h1
  | 1, _ => exact h2
theorem rds_threeZ {w : World} {a b c : Value} {x y z : List Int} (h1 : RdJ w a x) (h2 : RdJ w b y) (h3 : RdJ w c z) : ∀ j, j < [(a, x), (b, y), (c, z)].length → RdJ w (([(a, x), (b, y), (c, z)] : PartsZ).getD j (.slice none 0 0, [])).1 (([(a, x), (b, y), (c, z)] : PartsZ).getD j (.slice none 0 0, [])).2 := by
  intro j hj
  match j, hj with
  | 0, _ => exact h1
  | 1, _ => exact h2
  | 2, _ => exact h3


set_option maxHeartbeats 2000000 in
theorem concatYZ (b off cap : Nat) (ps : PartsZ) (w : World) (hn : ps.length ≤ 1099511627776) (hl : (catFZ ps).length ≤ 1099511627776) (hb : b < w.heap.size) (hp : PartsAtZ w b off ps) :
    Calls Try.prog 56 #[.slice (some ⟨b, off, none⟩) ps.length cap] w fun e w' => ∃ v, e = .returned v ∧ w'.ownsRow w.heap.size 3 1 v (catFZ ps).length (ints (catFZ ps)) ∧ Below w.heap.size w w' := by
  replace hp := hide hp
  have hE := hide (catTo_allZ ps)
  replace hl := hide hl
  go_enter Try.func56, Try.ntmps56
  go_wp2
  go_loop [3, 11] (fun s i => ∃ k : Nat, k ≤ ps.length ∧ i = .int .i64 k ∧ s = .int .i64 ((catToZ ps k).length : Nat)) (fun _ i => ps.length - (intOf i).toNat)
  case atStart => exact ⟨0, Nat.zero_le _, rfl, rfl⟩
  case round =>
    obtain ⟨k, hk, rfl, rfl⟩ := hrel
    by_cases hlt : k < ps.length
    · obtain ⟨hc, hr⟩ := unhide hp k hlt
      have hs := hide (catTo_succZ ps k hlt)
      have hle := catTo_leZ ps k
      have hle' := catTo_leZ ps (k + 1)
      obtain ⟨ad, cp, hf⟩ := hr.form
      rw [hf] at hc
      have hle2 := hle'
      rw [unhide hs, List.length_append] at hle2
      have hl1 := unhide hl
      clear hr hf
      generalize (ps.getD k (.slice none 0 0, [])).2 = ys at hc hs hle2
      generalize hm : (catToZ ps k).length = m at hle hle2
      have hm' : Hid ((catToZ ps (k + 1)).length = m + ys.length) := hide (by rw [unhide hs, List.length_append, hm])
      clear hs hm hle'
      go_wp2
      go_round
      case rel => exact ⟨k + 1, by omega, by go_num, by rw [unhide hm']; go_num⟩
      case measure => simp [intOf]; omega
    · have hkl : k = ps.length := by omega
      subst hkl
      rw [unhide hE]
      have hl1 := unhide hl
      have hG := hide (growYZ (catFZ ps).length w hl1)
      generalize (catFZ ps).length = m at hG hl1
      clear hl1
      go_wp2_with fail
      refine (unhide hG).mono ?_
      rintro e w1 ⟨v1, rfl, ho1, hb1⟩
      clear hG
      replace ho1 := hide ho1
      replace hb1 := hide hb1
      go_wp2
      go_loopw [6, 27] (fun v i wx => ∃ k : Nat, k ≤ ps.length ∧ i = .int .i64 k ∧ wx.ownsRow w.heap.size 3 1 v (catToZ ps k).length (ints (catToZ ps k)) ∧ Below w.heap.size w wx) (fun _ i _ => ps.length - (intOf i).toNat)
      case atStart => exact ⟨0, Nat.zero_le _, rfl, unhide ho1, unhide hb1⟩
      case round =>
        clear ho1 hb1
        obtain ⟨k, hk, rfl, hown, hbel⟩ := hrel
        by_cases hlt : k < ps.length
        · obtain ⟨hc, hr⟩ := unhide hp k hlt
          replace hc := (hbel.cell (p := ⟨b, off + k, none⟩) (by simpa using hb)).trans hc
          replace hr := hide (hr.below hbel)
          have hs := hide (catTo_succZ ps k hlt)
          have hle' := catTo_leZ ps (k + 1)
          rw [unhide hs, List.length_append] at hle'
          have hsz := hbel.size
          replace hle' := hide hle'
          replace hown := hide hown
          replace hbel := hide hbel
          obtain ⟨u, hu⟩ : ∃ u, u = (ps.getD k (.slice none 0 0, [])).1 := ⟨_, rfl⟩
          rw [← hu] at hc hr
          clear hu
          generalize (ps.getD k (.slice none 0 0, [])).2 = ys at hr hs hle'
          go_wp2_with (at_builtin; go_loud (refine wpList_appI rfl (.tmp 31) (.tmp 32) rfl w.heap.size _ _ rfl (unhide hown) _ _ rfl (unhide hr) (by have := unhide hle'; have := unhide hl; omega) hsz ?_))
          intro v2 w2 ho2 hg2 _
          have hb2 := hide (below_upd (unhide hbel) (upd_of_grownI hg2 (unhide hown)) (Nat.le_refl _) (.inl (Nat.le_refl _)))
          rw [← List.length_append] at ho2
          rw [← unhide hs] at ho2
          replace ho2 := hide ho2
          clear hg2 hbel hown
          go_wp2
          go_roundw
          case rel => exact ⟨k + 1, by omega, by go_num, unhide ho2, unhide hb2⟩
          case measure => simp [intOf]; omega
        · have hkl : k = ps.length := by omega
          subst hkl
          rw [unhide hE] at hown
          replace hown := hide hown
          go_wp2
          go_ret
          exact ⟨_, rfl, unhide hown, hbel⟩

set_option maxHeartbeats 1000000 in
theorem concat2Z (a b : Value) (x y : List Int) (w : World) (t : TypeId) (hl : x.length + y.length ≤ 1099511627776) (h1 : RdJ w a x) (h2 : RdJ w b y) :
    Calls Try.prog 56 #[.slice (some ⟨w.heap.size, 0, none⟩) 2 2] (w.alloc (.cells #[a, b] t)) fun e w' => ∃ v, e = .returned v ∧ OwnI w' w.heap.size w'.heap.size v (x ++ y) ∧ Upd 0 0 w w' := by
  have h := concatYZ w.heap.size 0 2 [(a, x), (b, y)] (w.alloc (.cells #[a, b] t)) (by simp) (by rw [catF_twoZ, List.length_append]; exact hl) (by simp) (partsAt_newZ w _ t (rds_twoZ h1 h2))
  rw [catF_twoZ] at h
  refine h.mono ?_
  rintro e w' ⟨v, rfl, ho, hb⟩
  exact ⟨v, rfl, own_mono (Own.of ho) (by simp) (Nat.le_refl _), Upd.of_below (((Below.refl w.heap.size w).alloc (Nat.le_refl _) _).trans (hb.mono (by simp))) 0 0⟩
set_option maxHeartbeats 1000000 in
theorem concat3Z (a b c : Value) (x y z : List Int) (w : World) (t : TypeId) (hl : x.length + y.length + z.length ≤ 1099511627776) (h1 : RdJ w a x) (h2 : RdJ w b y) (h3 : RdJ w c z) :
    Calls Try.prog 56 #[.slice (some ⟨w.heap.size, 0, none⟩) 3 3] (w.alloc (.cells #[a, b, c] t)) fun e w' => ∃ v, e = .returned v ∧ OwnI w' w.heap.size w'.heap.size v (x ++ y ++ z) ∧ Upd 0 0 w w' := by
  have h := concatYZ w.heap.size 0 3 [(a, x), (b, y), (c, z)] (w.alloc (.cells #[a, b, c] t)) (by simp) (by rw [catF_threeZ, List.length_append, List.length_append]; exact hl) (by simp) (partsAt_newZ w _ t (rds_threeZ h1 h2 h3))
  rw [catF_threeZ] at h
  refine h.mono ?_
  rintro e w' ⟨v, rfl, ho, hb⟩
  exact ⟨v, rfl, own_mono (Own.of ho) (by simp) (Nat.le_refl _), Upd.of_below (((Below.refl w.heap.size w).alloc (Nat.le_refl _) _).trans (hb.mono (by simp))) 0 0⟩
end Go.Proofs.Ytpofmcepjmbmcaa
