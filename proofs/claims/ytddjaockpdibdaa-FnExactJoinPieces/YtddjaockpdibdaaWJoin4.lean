/- The walk of JoinPieces: the specification's. -/
import Derived.Test.YtddjaockpdibdaaWJoin3
namespace Go.Proofs.Ytddjaockpdibdaa
open Go.RowKit

set_option maxHeartbeats 1000000 in
theorem specJoinMany (v : Value) (ps : List Pc) (w : World) (hv : RdP w v ps) (h : 40000 < ps.length) :
    Calls Try.prog 35 #[v] w fun e w' => ∃ u, e = .returned u ∧ OwnPl w' w.heap.size w'.heap.size u (joinF ps) ∧ Upd 0 0 w w' := by
  obtain ⟨ad, cap, rfl, hA⟩ := hv
  clear hA
  have hE := hide (joinF_many h)
  go_enter Try.func35, Try.ntmps35
  go_wp2
  refine bodyPost_ret (v := .agg #[.int .i64 7, .slice none 0 0, .int .i64 0]) (by simp [results, Try.results35, go_sem]) rfl ?_
  rw [unhide hE]
  exact ⟨_, rfl, ownPl_err _ _ _ _, Upd.of_below ((Below.refl _ _).alloc (Nat.le_refl _) _) 0 0⟩

/-- One byte more in a row of the call's own: what append leaves. -/
theorem grown_ne {w w' : World} {row : Option Nat} {P : Nat} (h : w.grownBy w' row) (hP : P < w.heap.size) (hr : some P ≠ row) (j : Nat) : w'.cell? ⟨P, j, none⟩ = w.cell? ⟨P, j, none⟩ := World.cell?_of_block (a := ⟨P, j, none⟩) (h.block P hP hr)

set_option maxHeartbeats 8000000 in
set_option maxRecDepth 100000 in
theorem specJoinFew (v : Value) (ps : List Pc) (w : World) (hv : RdP w v ps) (h : ps.length ≤ 40000) :
    Calls Try.prog 35 #[v] w fun e w' => ∃ u, e = .returned u ∧ OwnPl w' w.heap.size w'.heap.size u (joinF ps) ∧ Upd 0 0 w w' := by
  obtain ⟨i0, hi0, hz0, hz1, hz2⟩ := info_parts infoB
  obtain ⟨ad, cap, rfl, hA⟩ := hv
  have hT := hide (three_new w (.int .i64 0) (.slice none 0 0) (.int .i64 0) 54)
  have hB := hide ((Below.refl w.heap.size w).alloc (Nat.le_refl _) (.cells #[.int .i64 0, .slice none 0 0, .int .i64 0] 54))
  have hs1 : w.heap.size + 1 ≤ (w.alloc (.cells #[.int .i64 0, .slice none 0 0, .int .i64 0] 54)).heap.size := by simp
  replace hA := hide hA
  have q : decide ((40000 : Int) < (ps.length : Int)) = false := by simp; omega
  go_enter Try.func35, Try.ntmps35
  go_wp2
  generalize w.alloc (.cells #[.int .i64 0, .slice none 0 0, .int .i64 0] 54) = w1 at hT hB hs1 ⊢
  go_loopw [3, 14] (fun vo i wr => ∃ k : Nat, ∃ l, k ≤ ps.length ∧ i = .int .i64 k ∧ Hid (joinTo ps k = (0, l)) ∧ Hid (InB l) ∧ Hid (wr.ownsRow (w.heap.size + 1) 5 1 vo l.length (byts l)) ∧ Hid (Below (w.heap.size + 1) w1 wr)) (fun _ i _ => ps.length - (intOf i).toNat)
  case atStart => exact ⟨0, [], Nat.zero_le _, rfl, rfl, fun j => by simp, World.ownsRow_nil _ _ _ _, Below.refl _ _⟩
  case round =>
    obtain ⟨k, l, hk, rfl, hj, hI, ho, hG⟩ := hrel
    obtain ⟨ado, capo, rfl, hAo⟩ := OwnY.rd (Own.of (unhide ho))
    clear hAo
    have hsr := Nat.le_trans hs1 (unhide hG).size
    have hBr := hide ((unhide hB).trans ((unhide hG).mono (show w.heap.size ≤ w.heap.size + 1 by omega)))
    by_cases hlt : k < ps.length
    · obtain ⟨b, off, rfl, hbl, hc⟩ := (unhide hA) (ne_of_lt_length hlt)
      have d0 := ((unhide hBr).cell (p := ⟨b, off + k * 3, none⟩) (by simpa using hbl)).trans (hc k hlt).1
      have d1 := ((unhide hBr).cell (p := ⟨b, off + k * 3 + 1, none⟩) (by simpa using hbl)).trans (hc k hlt).2.1
      have d2 := ((unhide hBr).cell (p := ⟨b, off + k * 3 + 2, none⟩) (by simpa using hbl)).trans (hc k hlt).2.2
      have hst := hide (fun x => joinF_stop (x := x) h hlt (unhide hj))
      have hnx := joinTo_next (unhide hj)
      have hlb := joinTo_bd ps k
      rw [unhide hj] at hlb
      simp only at hlb
      generalize ps.getD k pc0 = f at d0 d1 d2 hst hnx
      obtain ⟨x, y, z⟩ := f
      simp only at d0 d1 d2
      have hal := (Below.refl wr.heap.size wr).alloc (Nat.le_refl _) (.cells #[.int .i64 x, .int .i64 y, .int .i64 z] 102)
      have ho1 := hide (ownsP_below (unhide ho) hal)
      have hG1 := hide ((unhide hG).trans (hal.mono (show w.heap.size + 1 ≤ wr.heap.size by omega)))
      have hrow : (Value.slice ado l.length capo).ownBlock ≠ some wr.heap.size := fun e => by have := ((unhide ho).lt _ e).2; omega
      have c0 : (wr.alloc (.cells #[.int .i64 x, .int .i64 y, .int .i64 z] 102)).cell? ⟨wr.heap.size, 0, none⟩ = some (.int .i64 x) := by rw [World.cell?_alloc_at _ _ _ _ rfl]; rfl
      have c1 : (wr.alloc (.cells #[.int .i64 x, .int .i64 y, .int .i64 z] 102)).cell? ⟨wr.heap.size, 1, none⟩ = some (.int .i64 y) := by rw [World.cell?_alloc_at _ _ _ _ rfl]; rfl
      have c2 : (wr.alloc (.cells #[.int .i64 x, .int .i64 y, .int .i64 z] 102)).cell? ⟨wr.heap.size, 2, none⟩ = some (.int .i64 z) := by rw [World.cell?_alloc_at _ _ _ _ rfl]; rfl
      have hs2 : wr.heap.size < (wr.alloc (.cells #[.int .i64 x, .int .i64 y, .int .i64 z] 102)).heap.size := by simp
      have hcall := hide (l3PieceOk_any x y z (wr.alloc (.cells #[.int .i64 x, .int .i64 y, .int .i64 z] 102)))
      have hC : Hid (Below (wr.alloc (.cells #[.int .i64 x, .int .i64 y, .int .i64 z] 102)).heap.size (wr.alloc (.cells #[.int .i64 x, .int .i64 y, .int .i64 z] 102)) (wr.alloc (.cells #[.int .i64 x, .int .i64 y, .int .i64 z] 102))) := hide (Below.refl _ _)
      clear hal ho hG hc hj hBr hC
      replace hnx := hide hnx
      replace hrow := hide hrow
      by_cases hok : okPc (x, y, z)
      · have qk : decide (okPc (x, y, z)) = true := decide_eq_true hok
        go_wp2_with fail
        generalize wr.alloc (.cells #[.int .i64 x, .int .i64 y, .int .i64 z] 102) = w2 at ho1 hG1 c0 c1 c2 hs2 hcall ⊢
        refine (unhide hcall).mono ?_
        rintro e w3 ⟨rfl, hb3⟩
        have e0 := (hb3.cell (p := ⟨wr.heap.size, 0, none⟩) (by simpa using hs2)).trans c0
        have e1 := (hb3.cell (p := ⟨wr.heap.size, 1, none⟩) (by simpa using hs2)).trans c1
        have e2 := (hb3.cell (p := ⟨wr.heap.size, 2, none⟩) (by simpa using hs2)).trans c2
        have hs3 := Nat.lt_of_lt_of_le hs2 hb3.size
        have ho3 := hide (ownsP_below (unhide ho1) hb3)
        have hG3 := hide ((unhide hG1).trans (hb3.mono (show w.heap.size + 1 ≤ w2.heap.size by omega)))
        clear hcall c0 c1 c2 hb3 ho1 hG1 d0 d1 d2
        by_cases hL : litP (x, y, z)
        · have hx0 : 0 ≤ x := hL.2.2.1
          have hx1 : x ≤ 255 := hL.2.2.2
          have hw := u8_wrap_in x hx0 hx1
          obtain ⟨hy, hz⟩ : y = 0 ∧ z = 0 := ⟨hL.1, hL.2.1⟩
          subst hy
          subst hz
          by_cases hf : 40000 ≤ l.length
          · have hE := hide (unhide hst 7 (joinStep_lit_many hL hf) (by decide))
            replace hL := hide hL
            have q2 : decide ((40000 : Int) < (l.length : Int) + 1) = true := by simp; omega
            have hT5 := (unhide hT).below (unhide hG3) (by omega)
            obtain ⟨t0, ⟨t1, t2, t3⟩, t4, t5, t6⟩ := hT5
            have hB5 := hide ((unhide hB).trans ((unhide hG3).mono (show w.heap.size ≤ w.heap.size + 1 by omega)))
            go_wp2
            refine bodyPost_ret (v := .agg #[.int .i64 7, .slice none 0 0, .int .i64 0]) (by simp [results, Try.results35, go_sem, t1, t2, t3]) rfl ?_
            rw [unhide hE]
            refine ⟨_, rfl, ownPl_err _ _ _ _, Upd.of_below ?_ 0 0⟩
            repeat (first | exact unhide hB5 | refine Below.setCell ?_ (by simp) _)
          · have hS := hide ((unhide hnx).trans (joinStep_lit hL (l := l) (by omega)))
            have hI2 := hide (inB_snoc (unhide hI) hx0 (by omega : x < 256))
            have q2 : decide ((40000 : Int) < (l.length : Int) + 1) = false := by simp; omega
            replace hL := hide hL
            go_wp2_with (at_builtin; refine wpList_append_own_at _ rfl (.tmp 41) (.tmp 45) 22 rfl (w.heap.size + 1) 5 i0 (.int .u8 0) 1 1 Try.underlying22 hi0 hz0 hz1 hz2 rfl (by decide) _ _ _ rfl ((unhide ho3).alloc _) ⟨w3.heap.size, 0, none⟩ 1 1 [.int .u8 x] rfl rfl (one_newY w3 _) (one_oneY x) (by unfold maxLen; omega) (by omega) (by simp; omega) ?_)
            intro v' w4 hown' hgrow _ hblk
            have hsh : ∃ g2 cp, v' = .slice (some ⟨g2, 0, none⟩) (l.length + 1) cp := by
              rcases hown'.2 with ⟨_, h0'⟩ | ⟨g2, cp, cur, e, _⟩
              · omega
              · exact ⟨g2, cp, e⟩
            obtain ⟨g2, cp, rfl⟩ := hsh
            rw [byts_snoc] at hown'
            have f1 : w4.cell? ⟨wr.heap.size, 1, none⟩ = some (.int .i64 0) := (grown_ne hgrow (by simp; omega) (fun e => unhide hrow e.symm) 1).trans ((World.cell?_alloc_past _ _ _ hs3).trans e1)
            have hG4 := hide ((unhide hG3).trans (((Below.refl (w.heap.size + 1) w3).alloc (by omega) (.cells #[.int .u8 x] 5)).grown hgrow (by simp; omega) (fun k hk => ((unhide ho3).lt k hk).1)))
            replace hown' := hide hown'
            clear hgrow hblk e0 e1 e2 ho3 hG3
            go_wp2
            go_loopw [3, 7] (fun vo i wx => vo = .slice (some ⟨g2, 0, none⟩) (l.length + 1) cp ∧ i = .int .i64 0 ∧ wx = w4) (fun _ _ _ => 0)
            case atStart => exact ⟨rfl, rfl, rfl⟩
            case round =>
              obtain ⟨rfl, rfl, rfl⟩ := hrel
              go_wp2
              go_roundw
              case rel => exact ⟨k + 1, l ++ [x], by omega, by go_num, hS, hI2, by rw [List.length_append]; exact hown', hG4⟩
              case measure => simp [intOf]; omega
        · have hC : copP (x, y, z) := by rcases hok with h | h; exact absurd h hL; exact h
          obtain ⟨Y, rfl⟩ := Int.eq_ofNat_of_zero_le (show 0 ≤ y by have := hC.2.1; simp only at this; omega)
          obtain ⟨Z, rfl⟩ := Int.eq_ofNat_of_zero_le (show 0 ≤ z by have := hC.2.2.2.1; simp only at this; omega)
          have hY : Y ≤ 1000 := by have := hC.2.2.1; simp only at this; omega
          have hY3 : 3 ≤ Y := by have := hC.2.1; simp only at this; omega
          have hZ : 0 < Z := by have := hC.2.2.2.1; simp only at this; omega
          have hZ2 : Z ≤ 32768 := by have := hC.2.2.2.2; simp only at this; omega
          have q3 : ((Y : Int) == 0) = false := by simp; omega
          by_cases hr : l.length < Z
          · have hE := hide (unhide hst 5 (joinStep_range hC (by simp only; omega)) (by decide))
            have q2 : decide ((l.length : Int) < (Z : Int)) = true := by simp; omega
            replace hL := hide hL
            replace hC := hide hC
            have hT5 := (unhide hT).below (unhide hG3) (by omega)
            obtain ⟨t0, ⟨t1, t2, t3⟩, t4, t5, t6⟩ := hT5
            have hB5 := hide ((unhide hB).trans ((unhide hG3).mono (show w.heap.size ≤ w.heap.size + 1 by omega)))
            go_wp2
            refine bodyPost_ret (v := .agg #[.int .i64 5, .slice none 0 0, .int .i64 0]) (by simp [results, Try.results35, go_sem, t1, t2, t3]) rfl ?_
            rw [unhide hE]
            refine ⟨_, rfl, ownPl_err _ _ _ _, Upd.of_below ?_ 0 0⟩
            repeat (first | exact unhide hB5 | refine Below.setCell ?_ (by simp) _)
          · have q2 : decide (l.length < Z) = false := by simp; omega
            by_cases hf : 40000 < l.length + Y
            · have hE := hide (unhide hst 7 (joinStep_many hC (by simp only; omega) (by simp only [Int.toNat_natCast]; omega)) (by decide))
              have q4 : decide ((40000 : Int) < (l.length : Int) + (Y : Int)) = true := by simp; omega
              replace hL := hide hL
              replace hC := hide hC
              have hT5 := (unhide hT).below (unhide hG3) (by omega)
              obtain ⟨t0, ⟨t1, t2, t3⟩, t4, t5, t6⟩ := hT5
              have hB5 := hide ((unhide hB).trans ((unhide hG3).mono (show w.heap.size ≤ w.heap.size + 1 by omega)))
              go_wp2
              refine bodyPost_ret (v := .agg #[.int .i64 7, .slice none 0 0, .int .i64 0]) (by simp [results, Try.results35, go_sem, t1, t2, t3]) rfl ?_
              rw [unhide hE]
              refine ⟨_, rfl, ownPl_err _ _ _ _, Upd.of_below ?_ 0 0⟩
              repeat (first | exact unhide hB5 | refine Below.setCell ?_ (by simp) _)
            · have hS := hide ((unhide hnx).trans (joinStep_copy hC (by simp only; omega) (by simp only [Int.toNat_natCast]; omega)))
              simp only [Int.toNat_natCast] at hS
              have q4 : decide ((40000 : Int) < (l.length : Int) + (Y : Int)) = false := by simp; omega
              replace hL := hide hL
              replace hC := hide hC
              go_wp2
              generalize wr.heap.size = P at hrow hs2 hs3 e1 e2 hsr e0 ⊢
              clear hT hB
              go_loopw [3, 7] (fun vo i wx => ∃ j : Nat, j ≤ Y ∧ i = .int .i64 j ∧ Hid (wx.ownsRow (w.heap.size + 1) 5 1 vo (l.length + j) (byts (copyN Z j l))) ∧ Hid (vo.ownBlock ≠ some P) ∧ P < wx.heap.size ∧ wx.cell? ⟨P, 1, none⟩ = some (.int .i64 Y) ∧ wx.cell? ⟨P, 2, none⟩ = some (.int .i64 Z) ∧ Hid (Below (w.heap.size + 1) w1 wx)) (fun _ i _ => Y - (intOf i).toNat)
              case atStart => exact ⟨0, Nat.zero_le _, rfl, ho3, hrow, hs3, e1, e2, hG3⟩
              case round =>
                clear ho3 hG3 e0 e1 e2 hs3
                obtain ⟨j, hjY, rfl, ho4, hrow4, hs4, f1, f2, hG4⟩ := hrel
                by_cases hjl : j < Y
                · have hml := copyN_length Z j l
                  have hIn := (inB_copyN (back := Z) (n := j) (unhide hI)) (l.length + j - Z)
                  have hsu := hide (copyN_succ Z j l)
                  generalize copyN Z j l = m at hml hIn hsu ho4
                  rw [← hml] at ho4
                  obtain ⟨adm, cp, rfl, hAm⟩ := OwnY.rd (Own.of (unhide ho4))
                  obtain ⟨g2, rfl⟩ : ∃ g2, adm = some ⟨g2, 0, none⟩ := by
                    rcases (unhide ho4).2 with ⟨_, h0'⟩ | ⟨g2, cp, cur, e, _⟩
                    · omega
                    · cases e; exact ⟨g2, rfl⟩
                  clear hAm
                  obtain ⟨i, hi, hi2⟩ : ∃ i : Nat, (m.length : Int) - (Z : Int) = (i : Int) ∧ l.length + j - Z = i := ⟨m.length - Z, by omega, by omega⟩
                  have hcc : wr.cell? ⟨g2, i, none⟩ = some (.int .u8 (m.getD i 0)) := by
                    rw [(unhide ho4).cellAt i (by omega)]; exact getD_map_int m .u8 i (by omega)
                  rw [hi2] at hIn hsu
                  have hi3 : (i : Int) < (m.length : Int) := by omega
                  generalize m.getD i 0 = xx at hcc hIn hsu
                  have hml2 : m.length ≤ 40000 := by omega
                  replace hml := hide hml
                  clear hi2
                  go_wp2_with (at_builtin; refine wpList_append_own_at _ rfl (.tmp 53) (.tmp 62) 22 rfl (w.heap.size + 1) 5 i0 (.int .u8 0) 1 1 Try.underlying22 hi0 hz0 hz1 hz2 rfl (by decide) _ _ _ rfl ((unhide ho4).alloc _) ⟨wr.heap.size, 0, none⟩ 1 1 [.int .u8 xx] rfl rfl (one_newY wr _) (one_oneY xx) (by unfold maxLen; omega) (by omega) (by simp; omega) ?_)
                  intro v' w5 hown' hgrow _ hblk
                  have hsh : ∃ g2 cp, v' = .slice (some ⟨g2, 0, none⟩) (m.length + 1) cp := by
                    rcases hown'.2 with ⟨_, h0'⟩ | ⟨g2, cp, cur, e, _⟩
                    · omega
                    · exact ⟨g2, cp, e⟩
                  obtain ⟨g3, cp3, rfl⟩ := hsh
                  rw [byts_snoc] at hown'
                  have k1 := (grown_ne hgrow (by simp; omega) (fun e => unhide hrow4 e.symm) 1).trans ((World.cell?_alloc_past _ _ _ hs4).trans f1)
                  have k2 := (grown_ne hgrow (by simp; omega) (fun e => unhide hrow4 e.symm) 2).trans ((World.cell?_alloc_past _ _ _ hs4).trans f2)
                  have hs5 : P < w5.heap.size := Nat.lt_of_lt_of_le (show P < _ by simp; omega) hgrow.size
                  have hrow5 : Hid ((Value.slice (some ⟨g3, 0, none⟩) (m.length + 1) cp3).ownBlock ≠ some P) := hide (fun e => by
                    rcases hblk with h | h
                    · exact unhide hrow4 (h.symm.trans e)
                    · rw [e] at h; injection h with h; omega)
                  have hG5 := hide ((unhide hG4).trans (((Below.refl (w.heap.size + 1) wr).alloc (by omega) (.cells #[.int .u8 xx] 5)).grown hgrow (by simp; omega) (fun k hk => ((unhide ho4).lt k hk).1)))
                  replace hown' := hide hown'
                  clear hgrow hblk hcc f1 f2 ho4 hG4 hrow4
                  go_wp2
                  go_roundw
                  case rel => exact ⟨j + 1, by omega, by go_num, by rw [unhide hsu, ← Nat.add_assoc, ← unhide hml]; exact hown', hrow5, hs5, k1, k2, hG5⟩
                  case measure => simp [intOf]; omega
                · have hjl : j = Y := by omega
                  subst hjl
                  go_wp2
                  go_roundw
                  case rel => exact ⟨k + 1, copyN Z j l, by omega, by go_num, hS, inB_copyN (unhide hI), by rw [copyN_length]; exact ho4, hG4⟩
                  case measure => simp [intOf]; omega
      · have qk : decide (okPc (x, y, z)) = false := decide_eq_false hok
        have hE := hide (unhide hst 1 (joinStep_bad (fun h => hok (.inl h)) (fun h => hok (.inr h))) (by decide))
        go_wp2_with fail
        generalize wr.alloc (.cells #[.int .i64 x, .int .i64 y, .int .i64 z] 102) = w2 at ho1 hG1 c0 c1 c2 hs2 hcall ⊢
        refine (unhide hcall).mono ?_
        rintro e w3 ⟨rfl, hb3⟩
        have hG3 := (unhide hG1).trans (hb3.mono (show w.heap.size + 1 ≤ w2.heap.size by omega))
        have hT5 := (unhide hT).below hG3 (by omega)
        obtain ⟨t0, ⟨t1, t2, t3⟩, t4, t5, t6⟩ := hT5
        have hB5 := hide ((unhide hB).trans (hG3.mono (show w.heap.size ≤ w.heap.size + 1 by omega)))
        clear hcall c0 c1 c2 hb3 ho1 hG1 d0 d1 d2 hG3
        go_wp2
        refine bodyPost_ret (v := .agg #[.int .i64 1, .slice none 0 0, .int .i64 0]) (by simp [results, Try.results35, go_sem, t1, t2, t3]) rfl ?_
        rw [unhide hE]
        refine ⟨_, rfl, ownPl_err _ _ _ _, Upd.of_below ?_ 0 0⟩
        repeat (first | exact unhide hB5 | refine Below.setCell ?_ (by simp) _)
    · have hkl : k = ps.length := by omega
      subst hkl
      have hE := hide (joinF_all h (unhide hj))
      have hT5 := (unhide hT).below (unhide hG) (by omega)
      obtain ⟨t0, ⟨t1, t2, t3⟩, t4, t5, t6⟩ := hT5
      clear hj
      go_wp2
      refine bodyPost_ret (v := .agg #[.int .i64 0, .slice ado l.length capo, .int .i64 0]) (by simp [results, Try.results35, go_sem, t1, t2, t3]) rfl ?_
      rw [unhide hE]
      refine ⟨_, rfl, ⟨_, rfl, ?_⟩, Upd.of_below ?_ 0 0⟩
      · have hfin := fun (W : World) (hW : W.ownsRow (w.heap.size + 1) 5 1 (.slice ado l.length capo) l.length (byts l)) => own_mono (a' := w.heap.size) (Own.of hW) (by omega) (Nat.le_refl _)
        refine hfin _ ?_
        repeat (first | exact unhide ho | refine ownsRow_setCell_below ?_ (show w.heap.size < w.heap.size + 1 by omega) _)
      · repeat (first | exact unhide hBr | refine Below.setCell ?_ (by simp) _)
end Go.Proofs.Ytddjaockpdibdaa
