/- Good stills, as the program has them: values, lists of notes, palettes. -/
import Derived.Test.YthpkngipiapbpaaDoorWGsB
import Derived.Deep.RegionWith
namespace Go.Proofs.YthpkngipiapbpaaDoor
open Go.RowKit

theorem indexByte_neg (l : List UInt8) (c : UInt8) : Lib.indexByte l c < 0 ↔ ∀ x ∈ l, x ≠ c := by
  induction l with
  | nil => simp [Lib.indexByte]
  | cons b l ih =>
    have hge := Lib.indexByte_ge l c
    unfold Lib.indexByte
    by_cases hb : b == c
    · rw [if_pos hb]; simp at hb; subst hb; simp
    · rw [if_neg hb]
      simp at hb
      by_cases hm : Lib.indexByte l c == -1
      · rw [if_pos hm]
        have h1 : Lib.indexByte l c < 0 := by have := beq_iff_eq.1 hm; omega
        simp only [List.mem_cons, forall_eq_or_imp]
        exact ⟨fun _ => ⟨hb, ih.1 h1⟩, fun _ => by decide⟩
      · rw [if_neg hm]
        have h1 : ¬ Lib.indexByte l c < 0 := by
          intro h; exact hm (beq_iff_eq.2 (by omega))
        simp only [List.mem_cons, forall_eq_or_imp]
        exact ⟨fun h => by omega, fun h => absurd (ih.2 h.2) h1⟩
theorem valOk_iff (s : ByteArray) : ValOk s ↔ s.size ≤ 1000 ∧ Lib.indexByte s.data.toList 0 < 0 := by
  rw [indexByte_neg]
  unfold ValOk
  constructor
  · rintro ⟨h1, h2⟩
    refine ⟨h1, fun x hx he => ?_⟩
    obtain ⟨k, hk, rfl⟩ := List.getElem_of_mem hx
    have hk' : k < s.size := by simpa using hk
    have := h2 k hk'
    rw [strB_getD s k hk'] at this
    apply this
    have e : s[k]'hk' = s.data.toList[k] := by simp; rfl
    rw [e, he]; rfl
  · rintro ⟨h1, h2⟩
    refine ⟨h1, fun k hk he => ?_⟩
    rw [strB_getD s k hk] at he
    have hk' : k < s.data.toList.length := by simpa using hk
    refine h2 (s.data.toList[k]) (List.getElem_mem hk') ?_
    have e : s[k]'hk = s.data.toList[k] := by simp; rfl
    rw [← e]
    apply UInt8.toNat_inj.1
    show (s[k]'hk).toNat = 0
    omega

set_option maxHeartbeats 1000000 in
theorem implGoodValue (s : ByteArray) (w : World) (h1 : s.size ≤ 1048576) :
    Calls Tryd.prog 67 #[.string s] w fun e w' => e = .returned (.bool (pB (ValOk s))) ∧ w' = w := by
  have hI := hide (stringsIndexByte s 0 w)
  have hv := hide (valOk_iff s)
  have e0 : (0 : Int).toNat.toUInt8 = 0 := rfl
  rw [e0] at hI
  clear e0
  obtain ⟨x, hx⟩ : ∃ x, Lib.indexByte s.data.toList 0 = x := ⟨_, rfl⟩
  have hge := Lib.indexByte_ge s.data.toList 0
  rw [hx] at hI hv hge
  clear hx
  by_cases c1 : s.size ≤ 1000
  · by_cases c2 : x < 0
    · rw [pB_yes ((unhide hv).2 ⟨c1, c2⟩)]
      go_enter Tryd.func67, Tryd.ntmps67
      go_wp2_with fail
      refine (unhide hI).mono ?_
      rintro e w1 ⟨rfl, rfl⟩
      go_wp2
      go_ret
      exact ⟨by first | rfl | (simp; omega), rfl⟩
    · rw [pB_no (fun h => c2 ((unhide hv).1 h).2)]
      go_enter Tryd.func67, Tryd.ntmps67
      go_wp2_with fail
      refine (unhide hI).mono ?_
      rintro e w1 ⟨rfl, rfl⟩
      go_wp2
      go_ret
      exact ⟨by first | rfl | (simp; omega), rfl⟩
  · rw [pB_no (fun h => c1 ((unhide hv).1 h).1)]
    have c3 : ¬ ((s.size : Int) ≤ 1000) := by omega
    go_enter Tryd.func67, Tryd.ntmps67
    go_wp2
    go_ret
    exact ⟨by first | rfl | (simp; omega), rfl⟩

set_option maxHeartbeats 4000000 in
theorem implGoodNotes (v : Value) (ps : List Nt) (w : World) (hsz : ntSize ps ≤ 1048576) (hv : RdNt w v ps) :
    Calls Tryd.prog 37 #[v] w fun e w' => e = .returned (.bool (pB (NotesOk ps))) ∧ Upd 0 0 w w' := by
  obtain ⟨ad, cap, rfl, hA⟩ := hv
  have hn : ps.length ≤ 1048576 := by unfold ntSize at hsz; omega
  have hEach : Hid (∀ k, k < ps.length → (ps.getD k Nt0).1.size ≤ 1048576 ∧ (ps.getD k Nt0).2.size ≤ 1048576) := hide (fun k hk => by
    have h1 := ntTo_succ ps k hk
    have h2 := ntTo_le ps (k + 1)
    unfold ntSize at hsz; omega)
  replace hA := hide hA
  by_cases h20 : ps.length ≤ 20
  · have hBad : Hid (∀ k, k < ps.length → ¬ NoteOk (ps.getD k Nt0) → pB (NotesOk ps) = false) := hide (fun k hk hb => pB_no (fun h => hb (h.2 k hk)))
    have hGood : Hid ((∀ k, k < ps.length → NoteOk (ps.getD k Nt0)) → pB (NotesOk ps) = true) := hide (fun h => pB_yes ⟨h20, h⟩)
    go_enter Tryd.func37, Tryd.ntmps37
    go_wp2
    go_loopw [10] (fun i wx => ∃ k : Nat, k ≤ ps.length ∧ i = .int .i64 k ∧ Hid (∀ j, j < k → NoteOk (ps.getD j Nt0)) ∧ Below w.heap.size w wx) (fun i _ => ps.length - (intOf i).toNat)
    case atStart => exact ⟨0, Nat.zero_le _, rfl, fun j hj => by omega, Below.refl _ _⟩
    case round =>
      obtain ⟨k, hk, rfl, hok, hbel⟩ := hrel
      by_cases hlt : k < ps.length
      · obtain ⟨b, off, rfl, hbl, hc⟩ := ((unhide hA).below hbel) (ne_of_lt_length hlt)
        obtain ⟨d0, d1⟩ := hc k hlt
        obtain ⟨z0, z1⟩ := unhide hEach k hlt
        have hbad := hide (unhide hBad k hlt)
        have hOk : Hid (NoteOk (ps.getD k Nt0) → ∀ j, j < k + 1 → NoteOk (ps.getD j Nt0)) := hide (fun h j hj => by
          rcases Nat.lt_or_eq_of_le (Nat.le_of_lt_succ hj) with h' | h'
          · exact unhide hok j h'
          · subst h'; exact h)
        clear hc hbl hok
        generalize ps.getD k Nt0 = f at d0 d1 z0 z1 hbad hOk
        obtain ⟨s, t⟩ := f
        simp only at d0 d1 z0 z1
        have hK := hide (fun W => implGoodKey s W z0)
        have hV := hide (fun W => implGoodValue t W z1)
        have hb2 := hide (hbel.alloc hbel.size (.cells #[.string s, .string t] 58))
        by_cases c1 : KeyOk s
        · by_cases c2 : ValOk t
          · have hok2 := hide (unhide hOk ⟨c1, c2⟩)
            rw [pB_yes c1] at hK
            rw [pB_yes c2] at hV
            replace c1 := hide c1
            replace c2 := hide c2
            clear hbad hOk
            go_wp2_with fail
            refine (unhide hK _).mono ?_
            rintro e w1 ⟨rfl, rfl⟩
            go_wp2_with fail
            refine (unhide hV _).mono ?_
            rintro e w1 ⟨rfl, rfl⟩
            go_wp2
            go_roundw
            case rel => exact ⟨k + 1, by omega, by go_num, unhide hok2, unhide hb2⟩
            case measure => simp [intOf]; omega
          · have hB := hide (unhide hbad (fun h => c2 h.2))
            rw [pB_yes c1] at hK
            rw [pB_no c2] at hV
            replace c1 := hide c1
            replace c2 := hide c2
            clear hbad hOk
            go_wp2_with fail
            refine (unhide hK _).mono ?_
            rintro e w1 ⟨rfl, rfl⟩
            go_wp2_with fail
            refine (unhide hV _).mono ?_
            rintro e w1 ⟨rfl, rfl⟩
            go_wp2
            go_ret
            exact ⟨by rw [unhide hB]; rfl, Upd.of_below (unhide hb2) 0 0⟩
        · have hB := hide (unhide hbad (fun h => c1 h.1))
          rw [pB_no c1] at hK
          replace c1 := hide c1
          clear hbad hOk
          go_wp2_with fail
          refine (unhide hK _).mono ?_
          rintro e w1 ⟨rfl, rfl⟩
          go_wp2
          go_ret
          exact ⟨by rw [unhide hB]; rfl, Upd.of_below (unhide hb2) 0 0⟩
      · have hkl : k = ps.length := by omega
        subst hkl
        have hg := hide (unhide hGood (unhide hok))
        replace hbel := hide hbel
        go_wp2
        go_ret
        exact ⟨by rw [unhide hg]; rfl, Upd.of_below (unhide hbel) 0 0⟩
  · have hE := hide (pB_no (p := NotesOk ps) (fun h => h20 h.1))
    have h3 : 20 < ps.length := by omega
    go_enter Tryd.func37, Tryd.ntmps37
    go_wp2
    go_ret
    exact ⟨by rw [unhide hE]; rfl, Upd.refl _ _ _⟩
end Go.Proofs.YthpkngipiapbpaaDoor
