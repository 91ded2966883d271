/- The walk of JoinPieces: the program's. -/
import Derived.Test.YtddjaockpdibdaaWJoin2
import Derived.Test.YtddjaockpdibdaaWThree
import Derived.Test.YtddjaockpdibdaaWPlain
namespace Go.Proofs.Ytddjaockpdibdaa
open Go.RowKit

theorem joinStep_err {l : List Int} {p : Pc} (h : (joinStep l p).1 ≠ 0) : joinStep l p = ((joinStep l p).1, []) := by
  unfold joinStep at h ⊢
  split
  · split
    · rfl
    · rename_i h1 h2; rw [if_pos h1, if_neg h2] at h; simp at h
  · split
    · split
      · rfl
      · split
        · rfl
        · rename_i h1 h2 h3 h4; rw [if_neg h1, if_pos h2, if_neg h3, if_neg h4] at h; simp at h
    · rfl
theorem joinStep_in {l : List Int} {p : Pc} (h : InB l) : InB (joinStep l p).2 := by
  unfold joinStep
  split
  · rename_i hl
    split
    · intro j; simp
    · exact inB_snoc h hl.2.2.1 (by have := hl.2.2.2; omega)
  · split
    · split
      · intro j; simp
      · split
        · intro j; simp
        · exact inB_copyN h
    · intro j; simp
theorem own_nilY (w : World) (a b : Nat) : OwnY w a b (.slice none 0 0) [] := ⟨World.ownsRow_nil _ _ _ _, fun k hk => by simp [Value.ownBlock] at hk⟩
theorem ownPl_err (w : World) (a b : Nat) (x : Int) : OwnPl w a b (.agg #[.int .i64 x, .slice none 0 0, .int .i64 0]) (x, [], 0) := ⟨_, rfl, own_nilY _ _ _⟩
theorem jo_new (w : World) (most : Nat) : Jo (w.alloc (.cells #[.slice none 0 0, .int .i64 most] 107)) w.heap.size 0 none [] most :=
  ⟨.slice none 0 0, rfl, ⟨by simp, by rw [World.cell?_alloc_at _ _ _ _ rfl]; rfl, by rw [World.cell?_alloc_at _ _ _ _ rfl]; rfl, World.frozen?_alloc_at _ _ _ _ rfl⟩, World.ownsRow_nil _ _ _ _⟩

set_option maxHeartbeats 1000000 in
theorem implJoinMany (v : Value) (ps : List Pc) (w : World) (hv : RdP w v ps) (h : 40000 < ps.length) :
    Calls Try.prog 33 #[v] w fun e w' => ∃ u, e = .returned u ∧ OwnPl w' w.heap.size w'.heap.size u (joinF ps) ∧ Upd 0 0 w w' := by
  obtain ⟨ad, cap, rfl, hA⟩ := hv
  clear hA
  have hE := hide (joinF_many h)
  go_enter Try.func33, Try.ntmps33
  go_wp2
  refine bodyPost_ret (v := .agg #[.int .i64 7, .slice none 0 0, .int .i64 0]) (by simp [results, Try.results33, go_sem]) rfl ?_
  rw [unhide hE]
  exact ⟨_, rfl, ownPl_err _ _ _ _, Upd.of_below ((Below.refl _ _).alloc (Nat.le_refl _) _) 0 0⟩

set_option maxHeartbeats 4000000 in
theorem implJoinFew (v : Value) (ps : List Pc) (w : World) (hv : RdP w v ps) (h : ps.length ≤ 40000) :
    Calls Try.prog 33 #[v] w fun e w' => ∃ u, e = .returned u ∧ OwnPl w' w.heap.size w'.heap.size u (joinF ps) ∧ Upd 0 0 w w' := by
  obtain ⟨ad, cap, rfl, hA⟩ := hv
  have hT := three_new w (.int .i64 0) (.slice none 0 0) (.int .i64 0) 54
  have hB := (Below.refl w.heap.size w).alloc (Nat.le_refl _) (.cells #[.int .i64 0, .slice none 0 0, .int .i64 0] 54)
  have hs0 : (w.alloc (.cells #[.int .i64 0, .slice none 0 0, .int .i64 0] 54)).heap.size = w.heap.size + 1 := by simp
  have hJ := jo_new (w.alloc (.cells #[.int .i64 0, .slice none 0 0, .int .i64 0] 54)) 40000
  have hB1 := (Below.refl (w.heap.size + 1) (w.alloc (.cells #[.int .i64 0, .slice none 0 0, .int .i64 0] 54))).alloc (by simp) (.cells #[.slice none 0 0, .int .i64 40000] 107)
  rw [hs0] at hJ
  replace hA := hide hA
  replace hT := hide (hT.below hB1 (by omega))
  replace hB := hide (hB.trans (hB1.mono (by omega)))
  replace hJ := hide hJ
  clear hB1 hs0
  have q : decide ((40000 : Int) < (ps.length : Int)) = false := by simp; omega
  go_enter Try.func33, Try.ntmps33
  go_wp2
  generalize (w.alloc (.cells #[.int .i64 0, .slice none 0 0, .int .i64 0] 54)).alloc (.cells #[.slice none 0 0, .int .i64 40000] 107) = w2 at hT hB hJ ⊢
  go_loopw [14] (fun i wr => ∃ k : Nat, ∃ g' l, k ≤ ps.length ∧ i = .int .i64 k ∧ Hid (joinTo ps k = (0, l)) ∧ Hid (InB l) ∧ Hid (Jo wr (w.heap.size + 1) 0 g' l 40000) ∧ Hid (Below (w.heap.size + 1) w2 wr)) (fun i _ => ps.length - (intOf i).toNat)
  case atStart => exact ⟨0, none, [], Nat.zero_le _, rfl, rfl, fun j => by simp, hJ, Below.refl _ _⟩
  case round =>
    clear hJ
    obtain ⟨k, g', l, hk, rfl, hj, hI, hJ, hG⟩ := hrel
    have hcl := (unhide hJ).lt
    have hBr := hide ((unhide hB).trans ((unhide hG).mono (show w.heap.size ≤ w.heap.size + 1 by omega)))
    by_cases hlt : k < ps.length
    · obtain ⟨b, off, rfl, hbl, hc⟩ := (unhide hA) (ne_of_lt_length hlt)
      have d0 := ((unhide hBr).cell (p := ⟨b, off + k * 3, none⟩) (by simpa using hbl)).trans (hc k hlt).1
      have d1 := ((unhide hBr).cell (p := ⟨b, off + k * 3 + 1, none⟩) (by simpa using hbl)).trans (hc k hlt).2.1
      have d2 := ((unhide hBr).cell (p := ⟨b, off + k * 3 + 2, none⟩) (by simpa using hbl)).trans (hc k hlt).2.2
      have hst := hide (fun x => joinF_stop (x := x) h hlt (unhide hj))
      have hnx := joinTo_next (unhide hj)
      have hlb := joinTo_bd ps k
      rw [unhide hj] at hlb
      simp only at hlb
      generalize ps.getD k pc0 = f at d0 d1 d2 hst hnx
      obtain ⟨x, y, z⟩ := f
      simp only at d0 d1 d2
      have hal := (Below.refl wr.heap.size wr).alloc (Nat.le_refl _) (.cells #[.int .i64 x, .int .i64 y, .int .i64 z] 102)
      have hJ1 := (unhide hJ).below hal
      have hG1 := hide ((unhide hG).trans (hal.mono (show w.heap.size + 1 ≤ wr.heap.size by omega)))
      have hcall := hide (joPiece (w.heap.size + 1) 0 g' l x y z _ hJ1 (unhide hI) hlb)
      have hstI := hide (joinStep_in (p := (x, y, z)) (unhide hI))
      have hserr := hide (fun hh => joinStep_err (l := l) (p := (x, y, z)) hh)
      have hrow := hide hJ1.row
      have hcl1 : w.heap.size + 1 < (wr.alloc (.cells #[.int .i64 x, .int .i64 y, .int .i64 z] 102)).heap.size := by simp; omega
      generalize joinStep l (x, y, z) = s at hst hnx hcall hstI hserr
      replace hnx := hide hnx
      clear hal hJ1 hJ hG hc hj hBr
      by_cases hs : s.1 = 0
      · have q1 : (s.1 != 0) = false := by simp [hs]
        replace hs := hide hs
        go_wp2_with fail
        refine (unhide hcall).mono ?_
        rintro e w5 ⟨g5, hG5, rfl, hJ5⟩
        have hG6 := hide ((unhide hG1).trans (hG5.below (unhide hrow) hcl1))
        replace hJ5 := hide (hJ5 (unhide hs))
        clear hG5 hG1 hcall d0 d1 d2
        go_wp2
        go_roundw
        case rel => exact ⟨k + 1, g5, s.2, by omega, by go_num, by rw [unhide hnx, ← unhide hs]; exact hide rfl, hstI, hJ5, hG6⟩
        case measure => simp [intOf]; omega
      · have q1 : (s.1 != 0) = true := by simp [hs]
        have hE := hide (unhide hst s.1 (unhide hserr hs) hs)
        replace hs := hide hs
        go_wp2_with fail
        refine (unhide hcall).mono ?_
        rintro e w5 ⟨g5, hG5, rfl, hJ5⟩
        have hG6 := (unhide hG1).trans (hG5.below (unhide hrow) hcl1)
        have hT5 := (unhide hT).below hG6 (by omega)
        obtain ⟨t0, ⟨t1, t2, t3⟩, t4, t5, t6⟩ := hT5
        have hB5 := hide ((unhide hB).trans (hG6.mono (show w.heap.size ≤ w.heap.size + 1 by omega)))
        clear hG5 hG1 hcall d0 d1 d2 hG6 hJ5
        go_wp2
        refine bodyPost_ret (v := .agg #[.int .i64 s.1, .slice none 0 0, .int .i64 0]) (by simp [results, Try.results33, go_sem, t1, t2, t3]) rfl ?_
        rw [unhide hE]
        refine ⟨_, rfl, ownPl_err _ _ _ _, Upd.of_below ?_ 0 0⟩
        repeat (first | exact unhide hB5 | refine Below.setCell ?_ (by simp) _)
    · have hkl : k = ps.length := by omega
      subst hkl
      have hE := hide (joinF_all h (unhide hj))
      obtain ⟨vr, hvr, ⟨h0, h1, h2, h3⟩, ho⟩ := unhide hJ
      obtain ⟨adr, capr, rfl, hAr⟩ := OwnY.rd (Own.of ho)
      have hT5 := (unhide hT).below (unhide hG) (by omega)
      obtain ⟨t0, ⟨t1, t2, t3⟩, t4, t5, t6⟩ := hT5
      replace ho := hide ho
      clear hAr hJ hvr hj
      go_wp2
      refine bodyPost_ret (v := .agg #[.int .i64 0, .slice adr l.length capr, .int .i64 0]) (by simp [results, Try.results33, go_sem, t1, t2, t3]) rfl ?_
      rw [unhide hE]
      refine ⟨_, rfl, ⟨_, rfl, ?_⟩, Upd.of_below ?_ 0 0⟩
      · have hfin := fun (W : World) (hW : W.ownsRow (w.heap.size + 1 + 1) 5 1 (.slice adr l.length capr) l.length (byts l)) => own_mono (a' := w.heap.size) (Own.of hW) (by omega) (Nat.le_refl _)
        refine hfin _ ?_
        repeat (first | exact unhide ho | refine ownsRow_setCell_below ?_ (show w.heap.size < w.heap.size + 1 + 1 by omega) _)
      · repeat (first | exact unhide hBr | refine Below.setCell ?_ (by simp) _)
end Go.Proofs.Ytddjaockpdibdaa
