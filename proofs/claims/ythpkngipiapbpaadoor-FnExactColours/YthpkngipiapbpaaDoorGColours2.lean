/- The texts behind FnExactColours, part 2: what each of them says stands at its head. -/
import Derived.Test.YthpkngipiapbpaaDoorGColours1
import Derived.Lib.Bytealg
import Derived.Lib.Strings
import Derived.Deep.RegionWith
import Derived.Deep.LoopGhost
import Derived.Deep.DeepCutAuto
import Derived.Lib.SliceRun
import Derived.Laws.IdiomStrings
import Derived.Deep.RegionHeld3
import Derived.ProofKit
import Derived.Deep.SlicePairs
import Derived.ChangeMaps5
import Derived.OpenShut
import Derived.Test.YthpkngipiapbpaaDoorRows
import Derived.Stop.Joined
import Derived.LaidMore
/- Good stills, as the program has them: keys, values, colours and notes. -/
namespace Go.Proofs.YthpkngipiapbpaaDoor
open Go.RowKit

set_option maxHeartbeats 2000000 in
theorem implGoodKey (s : ByteArray) (w : World) (h1 : s.size ≤ 1048576) :
    Calls Tryd.prog 66 #[.string s] w fun e w' => e = .returned (.bool (pB (KeyOk s))) ∧ w' = w := by
  have hBad1 : Hid (∀ k, (h : k < s.size) → ¬ ((32 : Int) ≤ ((s[k]'h).toNat : Int) ∧ ((s[k]'h).toNat : Int) ≤ 126) → pB (KeyOk s) = false) := hide (fun k hk hb => pB_no (fun h => hb (by have := h.2 k hk; rw [strB_getD s k hk] at this; exact this)))
  have hGood : Hid ((∀ k, (h : k < s.size) → ((32 : Int) ≤ ((s[k]'h).toNat : Int) ∧ ((s[k]'h).toNat : Int) ≤ 126)) → 1 ≤ s.size → s.size ≤ 40 → pB (KeyOk s) = true) := hide (fun a b c => pB_yes ⟨⟨b, c⟩, fun k hk => by rw [strB_getD s k hk]; exact a k hk⟩)
  have hLen : Hid (¬ (1 ≤ s.size ∧ s.size ≤ 40) → pB (KeyOk s) = false) := hide (fun h => pB_no (fun h' => h h'.1))
  go_enter Tryd.func66, Tryd.ntmps66
  go_wp2
  go_loop [6] (fun i => ∃ k : Nat, k ≤ s.size ∧ i = .int .i64 k ∧ Hid (∀ j, (h : j < s.size) → j < k → ((32 : Int) ≤ ((s[j]'h).toNat : Int) ∧ ((s[j]'h).toNat : Int) ≤ 126))) (fun i => s.size - (intOf i).toNat)
  case atStart => exact ⟨0, Nat.zero_le _, rfl, fun j hj hlt => by omega⟩
  case round =>
    obtain ⟨k, hk, rfl, hok⟩ := hrel
    by_cases hlt : k < s.size
    · have hb := hide (unhide hBad1 k hlt)
      have ho := hide (fun (h : (32 : Int) ≤ ((s[k]'hlt).toNat : Int) ∧ ((s[k]'hlt).toNat : Int) ≤ 126) => show ∀ j, (h : j < s.size) → j < k + 1 → ((32 : Int) ≤ ((s[j]'h).toNat : Int) ∧ ((s[j]'h).toNat : Int) ≤ 126) from fun j hj hjk => by
        rcases Nat.lt_or_eq_of_le (Nat.le_of_lt_succ hjk) with h' | h'
        · exact unhide hok j hj h'
        · subst h'; exact h)
      by_cases c1 : ((s[k]'hlt).toNat : Int) < 32
      · have hb2 := hide (unhide hb (by omega))
        clear hb ho
        go_wp2
        go_ret
        exact ⟨by rw [unhide hb2]; rfl, rfl⟩
      · by_cases c2 : ((s[k]'hlt).toNat : Int) ≤ 126
        · have ho2 := hide (unhide ho ⟨by omega, c2⟩)
          clear hb ho
          go_wp2
          go_round
          case rel => exact ⟨k + 1, by omega, by go_num, unhide ho2⟩
          case measure => simp [intOf]; omega
        · have hb2 := hide (unhide hb (by omega))
          have c3 : (126 : Int) < ((s[k]'hlt).toNat : Int) := by omega
          clear hb ho
          go_wp2
          go_ret
          exact ⟨by rw [unhide hb2]; rfl, rfl⟩
    · have hkl : k = s.size := by omega
      subst hkl
      have hall := hide (unhide hGood (fun j h => unhide hok j h h))
      clear hok
      by_cases c1 : 1 ≤ s.size
      · have c1' : (1 : Int) ≤ s.size := by omega
        by_cases c2 : s.size ≤ 40
        · have hg := hide (unhide hall c1 c2)
          have c2' : (s.size : Int) ≤ 40 := by omega
          clear hall
          go_wp2
          go_ret
          exact ⟨by rw [unhide hg]; first | rfl | (simp; omega), rfl⟩
        · have hg := hide (unhide hLen (fun h => c2 h.2))
          have c2' : ¬ (s.size : Int) ≤ 40 := by omega
          clear hall
          go_wp2
          go_ret
          exact ⟨by rw [unhide hg]; first | rfl | (simp; omega), rfl⟩
      · have hg := hide (unhide hLen (fun h => c1 h.1))
        have c1' : ¬ (1 : Int) ≤ s.size := by omega
        clear hall
        go_wp2
        go_ret
        exact ⟨by rw [unhide hg]; first | rfl | (simp; omega), rfl⟩

set_option maxHeartbeats 1000000 in
set_option maxRecDepth 100000 in
theorem liteIndexByte (s : ByteArray) (c : Int) (w : World) :
    Calls Tryd.prog 83 #[.string s, .int .u8 c] w fun e w' => e = .returned (.int .i64 (Lib.indexByte s.data.toList c.toNat.toUInt8)) ∧ w' = w := by
  go_enter Tryd.func83, Tryd.ntmps83
  go_wp2
  rw [run_callFunc_extern Tryd.func85 (by kernel_rfl) (by kernel_rfl) (by kernel_rfl) (e := Extern.BytealgIndexByte.indexByte) (by kernel_rfl), Lib.run_indexByteString]
  simp only [Result.andThen]
  rw [Oper.upon_value]
  go_wp2
  go_ret
  exact ⟨rfl, rfl⟩
set_option maxHeartbeats 1000000 in
theorem stringsIndexByte (s : ByteArray) (c : Int) (w : World) :
    Calls Tryd.prog 78 #[.string s, .int .u8 c] w fun e w' => e = .returned (.int .i64 (Lib.indexByte s.data.toList c.toNat.toUInt8)) ∧ w' = w := by
  go_enter Tryd.func78, Tryd.ntmps78
  go_wp2_with (go_at_call 83; refine (liteIndexByte _ _ _).mono ?_; rintro e w' ⟨rfl, rfl⟩)
  go_ret
  exact ⟨rfl, rfl⟩
end Go.Proofs.YthpkngipiapbpaaDoor

/- Good stills, as the program has them: values, lists of notes, palettes. -/
namespace Go.Proofs.YthpkngipiapbpaaDoor
open Go.RowKit

theorem indexByte_neg (l : List UInt8) (c : UInt8) : Lib.indexByte l c < 0 ↔ ∀ x ∈ l, x ≠ c := by
  induction l with
  | nil => simp [Lib.indexByte]
  | cons b l ih =>
    have hge := Lib.indexByte_ge l c
    unfold Lib.indexByte
    by_cases hb : b == c
    · rw [if_pos hb]; simp at hb; subst hb; simp
    · rw [if_neg hb]
      simp at hb
      by_cases hm : Lib.indexByte l c == -1
      · rw [if_pos hm]
        have h1 : Lib.indexByte l c < 0 := by have := beq_iff_eq.1 hm; omega
        simp only [List.mem_cons, forall_eq_or_imp]
        exact ⟨fun _ => ⟨hb, ih.1 h1⟩, fun _ => by decide⟩
      · rw [if_neg hm]
        have h1 : ¬ Lib.indexByte l c < 0 := by
          intro h; exact hm (beq_iff_eq.2 (by omega))
        simp only [List.mem_cons, forall_eq_or_imp]
        exact ⟨fun h => by omega, fun h => absurd (ih.2 h.2) h1⟩
theorem valOk_iff (s : ByteArray) : ValOk s ↔ s.size ≤ 1000 ∧ Lib.indexByte s.data.toList 0 < 0 := by
  rw [indexByte_neg]
  unfold ValOk
  constructor
  · rintro ⟨h1, h2⟩
    refine ⟨h1, fun x hx he => ?_⟩
    obtain ⟨k, hk, rfl⟩ := List.getElem_of_mem hx
    have hk' : k < s.size := by simpa using hk
    have := h2 k hk'
    rw [strB_getD s k hk'] at this
    apply this
    have e : s[k]'hk' = s.data.toList[k] := by simp; rfl
    rw [e, he]; rfl
  · rintro ⟨h1, h2⟩
    refine ⟨h1, fun k hk he => ?_⟩
    rw [strB_getD s k hk] at he
    have hk' : k < s.data.toList.length := by simpa using hk
    refine h2 (s.data.toList[k]) (List.getElem_mem hk') ?_
    have e : s[k]'hk = s.data.toList[k] := by simp; rfl
    rw [← e]
    apply UInt8.toNat_inj.1
    show (s[k]'hk).toNat = 0
    omega

set_option maxHeartbeats 1000000 in
theorem implGoodValue (s : ByteArray) (w : World) (h1 : s.size ≤ 1048576) :
    Calls Tryd.prog 67 #[.string s] w fun e w' => e = .returned (.bool (pB (ValOk s))) ∧ w' = w := by
  have hI := hide (stringsIndexByte s 0 w)
  have hv := hide (valOk_iff s)
  have e0 : (0 : Int).toNat.toUInt8 = 0 := rfl
  rw [e0] at hI
  clear e0
  obtain ⟨x, hx⟩ : ∃ x, Lib.indexByte s.data.toList 0 = x := ⟨_, rfl⟩
  have hge := Lib.indexByte_ge s.data.toList 0
  rw [hx] at hI hv hge
  clear hx
  by_cases c1 : s.size ≤ 1000
  · by_cases c2 : x < 0
    · rw [pB_yes ((unhide hv).2 ⟨c1, c2⟩)]
      go_enter Tryd.func67, Tryd.ntmps67
      go_wp2_with fail
      refine (unhide hI).mono ?_
      rintro e w1 ⟨rfl, rfl⟩
      go_wp2
      go_ret
      exact ⟨by first | rfl | (simp; omega), rfl⟩
    · rw [pB_no (fun h => c2 ((unhide hv).1 h).2)]
      go_enter Tryd.func67, Tryd.ntmps67
      go_wp2_with fail
      refine (unhide hI).mono ?_
      rintro e w1 ⟨rfl, rfl⟩
      go_wp2
      go_ret
      exact ⟨by first | rfl | (simp; omega), rfl⟩
  · rw [pB_no (fun h => c1 ((unhide hv).1 h).1)]
    have c3 : ¬ ((s.size : Int) ≤ 1000) := by omega
    go_enter Tryd.func67, Tryd.ntmps67
    go_wp2
    go_ret
    exact ⟨by first | rfl | (simp; omega), rfl⟩

set_option maxHeartbeats 4000000 in
theorem implGoodNotes (v : Value) (ps : List Nt) (w : World) (hsz : ntSize ps ≤ 1048576) (hv : RdNt w v ps) :
    Calls Tryd.prog 37 #[v] w fun e w' => e = .returned (.bool (pB (NotesOk ps))) ∧ Upd 0 0 w w' := by
  obtain ⟨ad, cap, rfl, hA⟩ := hv
  have hn : ps.length ≤ 1048576 := by unfold ntSize at hsz; omega
  have hEach : Hid (∀ k, k < ps.length → (ps.getD k Nt0).1.size ≤ 1048576 ∧ (ps.getD k Nt0).2.size ≤ 1048576) := hide (fun k hk => by
    have h1 := ntTo_succ ps k hk
    have h2 := ntTo_le ps (k + 1)
    unfold ntSize at hsz; omega)
  replace hA := hide hA
  by_cases h20 : ps.length ≤ 20
  · have hBad : Hid (∀ k, k < ps.length → ¬ NoteOk (ps.getD k Nt0) → pB (NotesOk ps) = false) := hide (fun k hk hb => pB_no (fun h => hb (h.2 k hk)))
    have hGood : Hid ((∀ k, k < ps.length → NoteOk (ps.getD k Nt0)) → pB (NotesOk ps) = true) := hide (fun h => pB_yes ⟨h20, h⟩)
    go_enter Tryd.func37, Tryd.ntmps37
    go_wp2
    go_loopw [10] (fun i wx => ∃ k : Nat, k ≤ ps.length ∧ i = .int .i64 k ∧ Hid (∀ j, j < k → NoteOk (ps.getD j Nt0)) ∧ Below w.heap.size w wx) (fun i _ => ps.length - (intOf i).toNat)
    case atStart => exact ⟨0, Nat.zero_le _, rfl, fun j hj => by omega, Below.refl _ _⟩
    case round =>
      obtain ⟨k, hk, rfl, hok, hbel⟩ := hrel
      by_cases hlt : k < ps.length
      · obtain ⟨b, off, rfl, hbl, hc⟩ := ((unhide hA).below hbel) (ne_of_lt_length hlt)
        obtain ⟨d0, d1⟩ := hc k hlt
        obtain ⟨z0, z1⟩ := unhide hEach k hlt
        have hbad := hide (unhide hBad k hlt)
        have hOk : Hid (NoteOk (ps.getD k Nt0) → ∀ j, j < k + 1 → NoteOk (ps.getD j Nt0)) := hide (fun h j hj => by
          rcases Nat.lt_or_eq_of_le (Nat.le_of_lt_succ hj) with h' | h'
          · exact unhide hok j h'
          · subst h'; exact h)
        clear hc hbl hok
        generalize ps.getD k Nt0 = f at d0 d1 z0 z1 hbad hOk
        obtain ⟨s, t⟩ := f
        simp only at d0 d1 z0 z1
        have hK := hide (fun W => implGoodKey s W z0)
        have hV := hide (fun W => implGoodValue t W z1)
        have hb2 := hide (hbel.alloc hbel.size (.cells #[.string s, .string t] 58))
        by_cases c1 : KeyOk s
        · by_cases c2 : ValOk t
          · have hok2 := hide (unhide hOk ⟨c1, c2⟩)
            rw [pB_yes c1] at hK
            rw [pB_yes c2] at hV
            replace c1 := hide c1
            replace c2 := hide c2
            clear hbad hOk
            go_wp2_with fail
            refine (unhide hK _).mono ?_
            rintro e w1 ⟨rfl, rfl⟩
            go_wp2_with fail
            refine (unhide hV _).mono ?_
            rintro e w1 ⟨rfl, rfl⟩
            go_wp2
            go_roundw
            case rel => exact ⟨k + 1, by omega, by go_num, unhide hok2, unhide hb2⟩
            case measure => simp [intOf]; omega
          · have hB := hide (unhide hbad (fun h => c2 h.2))
            rw [pB_yes c1] at hK
            rw [pB_no c2] at hV
            replace c1 := hide c1
            replace c2 := hide c2
            clear hbad hOk
            go_wp2_with fail
            refine (unhide hK _).mono ?_
            rintro e w1 ⟨rfl, rfl⟩
            go_wp2_with fail
            refine (unhide hV _).mono ?_
            rintro e w1 ⟨rfl, rfl⟩
            go_wp2
            go_ret
            exact ⟨by rw [unhide hB]; rfl, Upd.of_below (unhide hb2) 0 0⟩
        · have hB := hide (unhide hbad (fun h => c1 h.1))
          rw [pB_no c1] at hK
          replace c1 := hide c1
          clear hbad hOk
          go_wp2_with fail
          refine (unhide hK _).mono ?_
          rintro e w1 ⟨rfl, rfl⟩
          go_wp2
          go_ret
          exact ⟨by rw [unhide hB]; rfl, Upd.of_below (unhide hb2) 0 0⟩
      · have hkl : k = ps.length := by omega
        subst hkl
        have hg := hide (unhide hGood (unhide hok))
        replace hbel := hide hbel
        go_wp2
        go_ret
        exact ⟨by rw [unhide hg]; rfl, Upd.of_below (unhide hbel) 0 0⟩
  · have hE := hide (pB_no (p := NotesOk ps) (fun h => h20 h.1))
    have h3 : 20 < ps.length := by omega
    go_enter Tryd.func37, Tryd.ntmps37
    go_wp2
    go_ret
    exact ⟨by rw [unhide hE]; rfl, Upd.refl _ _ _⟩
end Go.Proofs.YthpkngipiapbpaaDoor

/- Good stills, as the program has them: palettes. -/
namespace Go.Proofs.YthpkngipiapbpaaDoor
open Go.RowKit

set_option maxHeartbeats 2000000 in
theorem implAreColours (v u : Value) (zs ys : List Int) (w : World) (hn : zs.length ≤ 1048576) (_hn2 : ys.length ≤ 1048576) (hv : RdI w v zs) (hu : RdI w u ys) :
    Calls Tryd.prog 65 #[v, u] w fun e w' => e = .returned (.bool (pB (SmpIn zs ys.length))) ∧ w' = w := by
  obtain ⟨ad, cap, rfl, hA⟩ := hv
  obtain ⟨ad2, cap2, rfl, _⟩ := hu
  replace hA := hide hA
  generalize ys.length = n at _hn2 ⊢
  have hBad : Hid (∀ k, k < zs.length → ¬ (zs.getD k 0 < (n : Int)) → pB (SmpIn zs n) = false) := hide (fun k hk hb => pB_no (fun h => hb (h k hk)))
  have hGood : Hid ((∀ k, k < zs.length → zs.getD k 0 < (n : Int)) → pB (SmpIn zs n) = true) := hide (fun h => pB_yes h)
  go_enter Tryd.func65, Tryd.ntmps65
  go_wp2
  go_loop [9] (fun i => ∃ k : Nat, k ≤ zs.length ∧ i = .int .i64 k ∧ Hid (∀ j, j < k → zs.getD j 0 < (n : Int))) (fun i => zs.length - (intOf i).toNat)
  case atStart => exact ⟨0, Nat.zero_le _, rfl, fun j hj => by omega⟩
  case round =>
    obtain ⟨k, hk', rfl, hok⟩ := hrel
    by_cases hlt : k < zs.length
    · obtain ⟨b, off, rfl, hbl, hcl⟩ := (unhide hA) (ne_of_lt_length hlt)
      have hck := hcl k hlt
      have hbad := hide (unhide hBad k hlt)
      have hOk : Hid (zs.getD k 0 < (n : Int) → ∀ j, j < k + 1 → zs.getD j 0 < (n : Int)) := hide (fun h j hj => by
        rcases Nat.lt_or_eq_of_le (Nat.le_of_lt_succ hj) with h' | h'
        · exact unhide hok j h'
        · subst h'; exact h)
      clear hcl hbl
      generalize zs.getD k 0 = x at hck hbad hOk
      by_cases h1 : x < (n : Int)
      · have hok2 := hide (unhide hOk h1)
        have h2 : ¬ ((n : Int) ≤ x) := by omega
        clear hbad hOk
        go_wp2
        go_round
        case rel => exact ⟨k + 1, by omega, by go_num, unhide hok2⟩
        case measure => simp [intOf]; omega
      · have hB := hide (unhide hbad (by omega))
        have h2 : (n : Int) ≤ x := by omega
        clear hbad hOk
        go_wp2
        go_ret
        exact ⟨by rw [unhide hB]; rfl, rfl⟩
    · have hkl : k = zs.length := by omega
      subst hkl
      have hs := hide (unhide hGood (unhide hok))
      go_wp2
      go_ret
      exact ⟨by rw [unhide hs]; rfl, rfl⟩

def mayB (p d : Int) : Bool := decide (p = 1 ∧ d ≤ 8)
set_option maxHeartbeats 1000000 in
theorem implMayHavePalette (a b p d : Int) (ad : Option Addr) (n cap : Nat) (w : World) :
    Calls Tryd.prog 64 #[.agg #[.int .i64 a, .int .i64 b, .int .i64 p, .int .i64 d, .slice ad n cap]] w fun e w' => e = .returned (.bool (mayB p d)) ∧ Upd 0 0 w w' := by
  have hB := hide (Upd.of_below ((Below.refl w.heap.size w).alloc (Nat.le_refl _) (.cells #[.int .i64 a, .int .i64 b, .int .i64 p, .int .i64 d, .slice ad n cap] 30)) 0 0)
  by_cases h1 : p = 1
  · subst h1
    by_cases h2 : d ≤ 8
    · have hE : mayB 1 d = true := by unfold mayB; simp [h2]
      rw [hE]
      go_enter Tryd.func64, Tryd.ntmps64
      go_wp2
      go_ret
      exact ⟨by first | rfl | (simp; omega), unhide hB⟩
    · have hE : mayB 1 d = false := by unfold mayB; simp; omega
      rw [hE]
      go_enter Tryd.func64, Tryd.ntmps64
      go_wp2
      go_ret
      exact ⟨by first | rfl | (simp; omega), unhide hB⟩
  · have hE : mayB p d = false := by unfold mayB; simp; omega
    have q : (p == 1) = false := by simpa using h1
    rw [hE]
    go_enter Tryd.func64, Tryd.ntmps64
    go_wp2
    go_ret
    exact ⟨by first | rfl | (simp; omega), unhide hB⟩

/-- What the program asks of a palette and a good image. -/
def PalAll (d : Im) (zp : List Int) : Prop := zp.length = 0 ∨ (ColOk zp ∧ (d.2.2.1 = 1 ∧ d.2.2.2.1 ≤ 8) ∧ SmpIn (ims d) zp.length)
theorem palAll_iff (d : St) : PalAll d.1 d.2.1 ↔ ColOk d.2.1 ∧ PalOk d := by
  unfold PalAll PalOk
  constructor
  · rintro (h | ⟨h1, h2, h3⟩)
    · exact ⟨⟨by omega, fun j hj => by omega⟩, fun h' => by omega⟩
    · exact ⟨h1, fun _ => ⟨h2.1, h2.2, h3⟩⟩
  · rintro ⟨h1, h2⟩
    by_cases h : d.2.1.length = 0
    · exact .inl h
    · have := h2 (by omega)
      exact .inr ⟨h1, ⟨this.1, this.2.1⟩, this.2.2⟩

set_option maxHeartbeats 4000000 in
theorem implGoodPalette (v : Value) (zp : List Int) (u : Value) (d : Im) (w : World) (hn : (ims d).length ≤ 1048576) (hn2 : zp.length ≤ 1048576) (hv : RdI w v zp) (hu : RdIm w u d) :
    Calls Tryd.prog 36 #[v, u] w fun e w' => e = .returned (.bool (pB (PalAll d zp))) ∧ Upd 0 0 w w' := by
  have hv0 := hide hv
  obtain ⟨ad, cap, rfl, hA⟩ := hv
  obtain ⟨vl, rfl, hl⟩ := hu
  have hl0 := hide hl
  obtain ⟨ad2, cap2, rfl, _⟩ := hl
  obtain ⟨a, b, p, dp, zs⟩ := d
  simp only [ims, imv] at hn hl0 ⊢
  replace hA := hide hA
  have hB0 := (Below.refl w.heap.size w).alloc (Nat.le_refl _) (.cells #[.int .i64 a, .int .i64 b, .int .i64 p, .int .i64 dp, .slice ad2 zs.length cap2] 30)
  have hcol := hide (implAreColours _ _ zs zp _ hn hn2 ((unhide hl0).below hB0) ((unhide hv0).below hB0))
  replace hB0 := hide (Upd.of_below hB0 0 0)
  by_cases h0 : zp.length = 0
  · rw [pB_yes (p := PalAll (a, b, p, dp, zs) zp) (.inl h0)]
    have q : ((zp.length : Int) == 0) = true := by simp [h0]
    clear hcol
    go_enter Tryd.func36, Tryd.ntmps36
    go_wp2
    go_ret
    exact ⟨rfl, unhide hB0⟩
  · have q : ((zp.length : Int) == 0) = false := beq_eq_false_iff_ne.2 (by omega)
    have hBad : Hid (∀ k, k < zp.length → ¬ (0 ≤ zp.getD k 0 ∧ zp.getD k 0 ≤ 16777215) → pB (PalAll (a, b, p, dp, zs) zp) = false) := hide (fun k hk hb => pB_no (fun h => by rcases h with h | h; omega; exact hb (h.1.2 k hk)))
    have hLong : Hid (¬ zp.length ≤ 256 → pB (PalAll (a, b, p, dp, zs) zp) = false) := hide (fun h => pB_no (fun h' => by rcases h' with h' | h'; omega; exact h h'.1.1))
    have hMay : Hid (mayB p dp = false → pB (PalAll (a, b, p, dp, zs) zp) = false) := hide (fun h => pB_no (fun h' => by
      rcases h' with h' | h'
      · omega
      · exact Bool.noConfusion ((decide_eq_true h'.2.1).symm.trans h)))
    have hCol : Hid (¬ SmpIn zs zp.length → pB (PalAll (a, b, p, dp, zs) zp) = false) := hide (fun h => pB_no (fun h' => by rcases h' with h' | h'; omega; exact h h'.2.2))
    have hGood : Hid ((∀ k, k < zp.length → (0 ≤ zp.getD k 0 ∧ zp.getD k 0 ≤ 16777215)) → zp.length ≤ 256 → mayB p dp = true → SmpIn zs zp.length → pB (PalAll (a, b, p, dp, zs) zp) = true) := hide (fun h1 h2 h3 h4 => pB_yes (.inr ⟨⟨h2, h1⟩, by unfold mayB at h3; simpa using h3, h4⟩))
    have hh := hide (held_new w [.int .i64 a, .int .i64 b, .int .i64 p, .int .i64 dp, .slice ad2 zs.length cap2] 30)
    go_enter Tryd.func36, Tryd.ntmps36
    go_wp2
    have hD : Hid (∀ j, j < zp.length → ∃ b' off', ad = some ⟨b', off', none⟩ ∧ (w.alloc (.cells #[.int .i64 a, .int .i64 b, .int .i64 p, .int .i64 dp, .slice ad2 zs.length cap2] 30)).cell? ⟨b', off' + j, none⟩ = some (.int .i64 (zp.getD j 0))) := hide (fun j hj => by
      obtain ⟨b', off', e, hbl, hc⟩ := (unhide hA) (ne_of_lt_length hj)
      exact ⟨b', off', e, (World.cell?_alloc_past _ _ _ (by first | exact hbl | (simp; omega))).trans (hc j hj)⟩)
    change Hid (Held (w.alloc (.cells #[.int .i64 a, .int .i64 b, .int .i64 p, .int .i64 dp, .slice ad2 zs.length cap2] 30)) _ _) at hh
    generalize w.alloc (.cells #[.int .i64 a, .int .i64 b, .int .i64 p, .int .i64 dp, .slice ad2 zs.length cap2] 30) = w1 at hcol hB0 hD hh ⊢
    have c0 := (unhide hh).2 0 _ rfl
    have c1 := (unhide hh).2 1 _ rfl
    have c2 := (unhide hh).2 2 _ rfl
    have c3 := (unhide hh).2 3 _ rfl
    have c4 := (unhide hh).2 4 _ rfl
    go_loop [12] (fun i => ∃ k : Nat, k ≤ zp.length ∧ i = .int .i64 k ∧ Hid (∀ j, j < k → (0 ≤ zp.getD j 0 ∧ zp.getD j 0 ≤ 16777215))) (fun i => zp.length - (intOf i).toNat)
    case atStart => exact ⟨0, Nat.zero_le _, rfl, fun j hj => by omega⟩
    case round =>
      obtain ⟨k, hk', rfl, hok⟩ := hrel
      by_cases hlt : k < zp.length
      · obtain ⟨b', off', rfl, hck⟩ := (unhide hD) k hlt
        have hbad := hide (unhide hBad k hlt)
        have hOk : Hid ((0 ≤ zp.getD k 0 ∧ zp.getD k 0 ≤ 16777215) → ∀ j, j < k + 1 → (0 ≤ zp.getD j 0 ∧ zp.getD j 0 ≤ 16777215)) := hide (fun h j hj => by
          rcases Nat.lt_or_eq_of_le (Nat.le_of_lt_succ hj) with h' | h'
          · exact unhide hok j h'
          · subst h'; exact h)
        clear hcol
        generalize zp.getD k 0 = x at hck hbad hOk
        by_cases h1 : x < 0
        · have hB := hide (unhide hbad (fun h => by have := h.1; omega))
          clear hbad hOk
          go_wp2
          go_ret
          exact ⟨by rw [unhide hB]; rfl, unhide hB0⟩
        · by_cases h2 : x ≤ 16777215
          · have hok2 := hide (unhide hOk ⟨by omega, h2⟩)
            clear hbad hOk
            go_wp2
            all_goals
              go_round
              case rel => exact ⟨k + 1, by omega, by go_num, unhide hok2⟩
              case measure => simp [intOf]; omega
          · have hB := hide (unhide hbad (fun h => h2 h.2))
            have h3 : 16777215 < x := by omega
            clear hbad hOk
            go_wp2
            go_ret
            exact ⟨by rw [unhide hB]; rfl, unhide hB0⟩
      · have hkl : k = zp.length := by omega
        subst hkl
        have hM := hide (implMayHavePalette a b p dp ad2 zs.length cap2 w1)
        by_cases l2 : zp.length ≤ 256
        · have l2' : (zp.length : Int) ≤ 256 := by omega
          cases hm : mayB p dp with
          | false =>
            have hB := hide (unhide hMay hm)
            rw [hm] at hM
            replace hm := hide hm
            go_wp2_with fail
            refine (unhide hM).mono ?_
            rintro e w2 ⟨rfl, hu2⟩
            have hu := hide ((unhide hB0).trans hu2)
            clear hu2 c0 c1 c2 c3 c4
            go_wp2
            go_ret
            exact ⟨by rw [unhide hB]; first | rfl | (simp; omega), unhide hu⟩
          | true =>
            rw [hm] at hM
            have hcol2 := hide (fun W (hW : Upd 0 0 w1 W) => implAreColours _ _ zs zp W hn hn2 ((unhide hl0).below ((unhide hB0).trans hW).none) ((unhide hv0).below ((unhide hB0).trans hW).none))
            clear hcol
            go_wp2_with fail
            refine (unhide hM).mono ?_
            rintro e w2 ⟨rfl, hu2⟩
            have hu := hide ((unhide hB0).trans hu2)
            have hC2 := hide (unhide hcol2 w2 hu2)
            replace hh := hide ((unhide hh).keep hu2)
            clear hu2 c0 c1 c2 c3 c4 hcol2
            have c0 := (unhide hh).2 0 _ rfl
            have c1 := (unhide hh).2 1 _ rfl
            have c2 := (unhide hh).2 2 _ rfl
            have c3 := (unhide hh).2 3 _ rfl
            have c4 := (unhide hh).2 4 _ rfl
            by_cases hs : SmpIn zs zp.length
            · have hB := hide (unhide hGood (unhide hok) l2 hm hs)
              replace hm := hide hm
              rw [pB_yes hs] at hC2
              replace hs := hide hs
              go_wp2_with fail
              refine (unhide hC2).mono ?_
              rintro e w3 ⟨rfl, rfl⟩
              go_wp2
              go_ret
              exact ⟨by rw [unhide hB]; first | rfl | (simp; omega), unhide hu⟩
            · have hB := hide (unhide hCol hs)
              replace hm := hide hm
              rw [pB_no hs] at hC2
              replace hs := hide hs
              go_wp2_with fail
              refine (unhide hC2).mono ?_
              rintro e w3 ⟨rfl, rfl⟩
              go_wp2
              go_ret
              exact ⟨by rw [unhide hB]; first | rfl | (simp; omega), unhide hu⟩
        · have hB := hide (unhide hLong l2)
          have l2' : ¬ (zp.length : Int) ≤ 256 := by omega
          clear hM hcol
          go_wp2
          go_ret
          exact ⟨by rw [unhide hB]; first | rfl | (simp; omega), unhide hB0⟩
end Go.Proofs.YthpkngipiapbpaaDoor

/- The walks of TakeLow and TakeHigh: the program's reader in high order. -/
namespace Go.Proofs.YthpkngipiapbpaaDoor
open Go.RowKit

theorem wrap_i64_in (n : Int) (h : -9223372036854775808 ≤ n ∧ n ≤ 9223372036854775807) : IntKind.i64.wrap n = n := by
  simp [IntKind.wrap, IntKind.bits, IntKind.signed]; omega
theorem div_bd (x : Nat) (hx : x < 256) (k : Nat) : 0 ≤ (x : Int) / 2 ^ k ∧ (x : Int) / 2 ^ k < 18446744073709551616 := by
  have h := Nat.div_le_self x (2 ^ k)
  rw [show ((x : Int) / 2 ^ k) = ((x / 2 ^ k : Nat) : Int) by simp]
  generalize x / 2 ^ k = y at h ⊢
  omega
theorem implLowBitsI (v : Int) (n : Nat) (w : World) (h0 : 0 ≤ v) (hv : v < 18446744073709551616) (hn : n ≤ 8) : Calls Tryd.prog 115 #[.int .u64 v, .int .i64 n] w fun e w' => e = .returned (.int .u64 (v % 2 ^ n)) ∧ w' = w := by
  obtain ⟨u, rfl⟩ := Int.eq_ofNat_of_zero_le h0
  have := implLowBits u n w (by omega) hn
  simpa using this

set_option maxHeartbeats 2000000 in
set_option maxRecDepth 100000 in
theorem implTakeHighIn (r b off len cap : Nat) (zs : List Int) (p n : Nat) (w : World) (hlen : zs.length = len) (hz : InB zs) (hc : BytesAt w b off zs) (hm : len ≤ 1048576) (hn : n ≤ 64) (hi : p + n ≤ 8 * len)
    (hbl : b < w.heap.size) (hbr : b ≠ r) (hfr : w.frozen? ⟨r, 2, none⟩ = false) (hr : ReaderAt w r 1 (.slice (some ⟨b, off, none⟩) len cap) p) :
    Calls Tryd.prog 113 #[.pointer (some ⟨r, 0, none⟩), .int .i64 n] w fun e w' => e = .returned (.tuple #[.int .u64 (highTo zs p n : Nat), .bool true]) ∧ ReaderAt w' r 1 (.slice (some ⟨b, off, none⟩) len cap) ((p + n : Nat) : Int) ∧ OnlyAt r w w' := by
  subst hlen
  have hH := holdsAsk r 1 _ _ _ p n w hr (by omega) (by omega) (by omega) hm
  have hq : decide ((p : Int) ≤ 8 * (zs.length : Int) - (n : Int)) = true := by simp; omega
  rw [hq] at hH
  clear hq
  replace hz := hide hz
  replace hc := hide hc
  replace hr := hide hr
  go_enter Tryd.func113, Tryd.ntmps113
  go_wp2_with fail
  refine hH.mono ?_
  rintro e w1 ⟨rfl, nq, rfl⟩
  clear hH
  go_wp2
  go_loopw [6, 7] (fun a i wr => ∃ d : Nat, d ≤ n ∧ a = .int .u64 (highTo zs p d : Nat) ∧ i = .int .i64 d ∧ ReaderAt wr r 1 (.slice (some ⟨b, off, none⟩) zs.length cap) ((p + d : Nat) : Int) ∧ wr.frozen? ⟨r, 2, none⟩ = false ∧ OnlyAt r w wr) (fun _ i _ => n - (intOf i).toNat)
  case atStart => exact ⟨0, Nat.zero_le _, rfl, rfl, unhide hr, hfr, (OnlyAt.refl _ _).drewN _⟩
  case round =>
    obtain ⟨d, hd, rfl, rfl, hrr, hff, hbel⟩ := hrel
    by_cases hlt : d < n
    · have hck : wr.cell? ⟨b, off + (p + d) / 8, none⟩ = some (.int .u8 (zs.getD ((p + d) / 8) 0)) := (hbel.cell hbl hbr).trans (unhide hc _ (by omega))
      have hx : ∃ x : Nat, zs.getD ((p + d) / 8) 0 = (x : Int) ∧ x < 256 ∧ byteAt zs ((p + d) / 8) = x := ⟨(zs.getD ((p + d) / 8) 0).toNat, by have := unhide hz ((p + d) / 8); omega, by have := unhide hz ((p + d) / 8); omega, rfl⟩
      obtain ⟨x, hx1, hx2, hx3⟩ := hx
      rw [hx1] at hck
      clear hx1
      have hrr' := hide hrr
      obtain ⟨hrl, c0, c1, c2⟩ := hrr
      have b1 : ((p : Int) + d) / 8 < zs.length := by omega
      have b0 : 0 ≤ ((p : Int) + d) / 8 := by omega
      replace hx3 := hide hx3
      go_wp2_with fail
      go_quiet (fail)
      go_wp2_with fail
      · rename_i h
        obtain ⟨m, hme⟩ : ∃ m : Nat, ((n : Int) - d) = (m : Int) := ⟨((n : Int) - d).toNat, by omega⟩
        have hm8 : m ≤ 8 := by omega
        have hm0 : 0 < m := by omega
        have hpm : (p + d) % 8 + m ≤ 8 := by omega
        have hdm : d + m ≤ n := by omega
        rw [hme]
        clear hme h
        have HP := high_part zs p d m hpm
        rw [unhide hx3] at HP
        obtain ⟨u, hu, hu'⟩ : ∃ u : Nat, ((p : Int) + d) % 8 = (u : Int) ∧ (p + d) % 8 = u := ⟨(p + d) % 8, by omega, rfl⟩
        obtain ⟨s, hs, hs'⟩ : ∃ s : Nat, (8 : Int) - (u : Int) - (m : Int) = (s : Int) ∧ 8 - (p + d) % 8 - m = s := ⟨8 - (p + d) % 8 - m, by omega, rfl⟩
        have hs8 : (s : Int) ≤ 8 := by omega
        have hu8 : (u : Int) < 8 := by omega
        rw [hs'] at HP
        rw [hu]
        clear hu hu' hs'
        have hw1 : IntKind.i64.wrap (8 - (u : Int)) = 8 - (u : Int) := by rw [wrap_i64_in _ (by omega)]
        have hw2 : IntKind.i64.wrap (s : Int) = (s : Int) := by rw [wrap_i64_in _ (by omega)]
        have hcall : ∀ W : World, Calls Tryd.prog 115 #[.int .u64 ((x : Int) / 2 ^ s), .int .i64 m] W fun e w' => e = .returned (.int .u64 ((x : Int) / 2 ^ s % 2 ^ m)) ∧ w' = W := fun W => implLowBitsI _ m W (div_bd x hx2 s).1 (div_bd x hx2 s).2 hm8
        replace hcall := hide hcall
        have hrq := ReaderAt.drewN (unhide hrr') nq
        have hfq : (wr.drewN nq).frozen? ⟨r, 2, none⟩ = false := hff
        have hbq := hbel.drewN nq
        generalize wr.drewN nq = wq at hrq hfq hbq ⊢
        clear hrr' hff hbel c0 c1 c2 hck
        have hrq' := hide hrq
        obtain ⟨_, e0, e1, e2⟩ := hrq
        go_quiet ((go_at_call 115; exact Calls.quiet_of_same (unhide hcall _)))
        have HO : bits .or .u64 (IntKind.u64.wrap ((highTo zs p d : Nat) * 2 ^ m)) ((x : Int) / 2 ^ s % 2 ^ m) = (highTo zs p (d + m) : Nat) := by
          rw [HP, ← part_or (highTo zs p d) (x / 2 ^ s % 2 ^ m) d m (highTo_lt zs p d) (Nat.mod_lt _ (Nat.pow_pos (by omega))) (by omega)]
          congr 1
        replace HO := hide HO
        clear HP
        go_wp2
        go_roundw
        case rel => exact ⟨d + m, by omega, by rw [unhide HO], by go_num, by rw [show ((p + (d + m) : Nat) : Int) = ((p + d : Nat) : Int) + (m : Int) by omega]; exact (ReaderAt.drewN (unhide hrq') _).moved _, (World.frozen?_setCell _ _ _ _).trans hfq, (hbq.drewN _).setCell _ _⟩
        case measure => simp [intOf]; omega
      · rename_i h
        obtain ⟨m, hme⟩ : ∃ m : Nat, (8 - ((p : Int) + d) % 8) = (m : Int) := ⟨(8 - ((p : Int) + d) % 8).toNat, by omega⟩
        have hm8 : m ≤ 8 := by omega
        have hm0 : 0 < m := by omega
        have hpm : (p + d) % 8 + m ≤ 8 := by omega
        have hdm : d + m ≤ n := by omega
        rw [hme]
        clear hme h
        have HP := high_part zs p d m hpm
        rw [unhide hx3] at HP
        obtain ⟨u, hu, hu'⟩ : ∃ u : Nat, ((p : Int) + d) % 8 = (u : Int) ∧ (p + d) % 8 = u := ⟨(p + d) % 8, by omega, rfl⟩
        obtain ⟨s, hs, hs'⟩ : ∃ s : Nat, (8 : Int) - (u : Int) - (m : Int) = (s : Int) ∧ 8 - (p + d) % 8 - m = s := ⟨8 - (p + d) % 8 - m, by omega, rfl⟩
        have hs8 : (s : Int) ≤ 8 := by omega
        have hu8 : (u : Int) < 8 := by omega
        rw [hs'] at HP
        rw [hu]
        clear hu hu' hs'
        have hw1 : IntKind.i64.wrap (8 - (u : Int)) = 8 - (u : Int) := by rw [wrap_i64_in _ (by omega)]
        have hw2 : IntKind.i64.wrap (s : Int) = (s : Int) := by rw [wrap_i64_in _ (by omega)]
        have hcall : ∀ W : World, Calls Tryd.prog 115 #[.int .u64 ((x : Int) / 2 ^ s), .int .i64 m] W fun e w' => e = .returned (.int .u64 ((x : Int) / 2 ^ s % 2 ^ m)) ∧ w' = W := fun W => implLowBitsI _ m W (div_bd x hx2 s).1 (div_bd x hx2 s).2 hm8
        replace hcall := hide hcall
        have hrq := ReaderAt.drewN (unhide hrr') nq
        have hfq : (wr.drewN nq).frozen? ⟨r, 2, none⟩ = false := hff
        have hbq := hbel.drewN nq
        generalize wr.drewN nq = wq at hrq hfq hbq ⊢
        clear hrr' hff hbel c0 c1 c2 hck
        have hrq' := hide hrq
        obtain ⟨_, e0, e1, e2⟩ := hrq
        go_quiet ((go_at_call 115; exact Calls.quiet_of_same (unhide hcall _)))
        have HO : bits .or .u64 (IntKind.u64.wrap ((highTo zs p d : Nat) * 2 ^ m)) ((x : Int) / 2 ^ s % 2 ^ m) = (highTo zs p (d + m) : Nat) := by
          rw [HP, ← part_or (highTo zs p d) (x / 2 ^ s % 2 ^ m) d m (highTo_lt zs p d) (Nat.mod_lt _ (Nat.pow_pos (by omega))) (by omega)]
          congr 1
        replace HO := hide HO
        clear HP
        go_wp2
        go_roundw
        case rel => exact ⟨d + m, by omega, by rw [unhide HO], by go_num, by rw [show ((p + (d + m) : Nat) : Int) = ((p + d : Nat) : Int) + (m : Int) by omega]; exact (ReaderAt.drewN (unhide hrq') _).moved _, (World.frozen?_setCell _ _ _ _).trans hfq, (hbq.drewN _).setCell _ _⟩
        case measure => simp [intOf]; omega
    · have hdn : d = n := by omega
      subst hdn
      go_wp2
      go_ret2
      exact ⟨rfl, hrr, hbel⟩
end Go.Proofs.YthpkngipiapbpaaDoor

/- Plain facts behind the writer of bits. -/
namespace Go.Proofs.YthpkngipiapbpaaDoor
open Go.RowKit

def roomI (L : Nat) : Int := (((8 - L % 8) % 8 : Nat) : Int)
theorem div_bdv (v : Nat) (hv : v < 18446744073709551616) (k : Nat) : 0 ≤ (v : Int) / 2 ^ k ∧ (v : Int) / 2 ^ k < 18446744073709551616 := by
  have h := Nat.div_le_self v (2 ^ k)
  rw [show ((v : Int) / 2 ^ k) = ((v / 2 ^ k : Nat) : Int) by simp]
  generalize v / 2 ^ k = y at h ⊢
  omega

theorem or8 (h : Bool) (x r m ch : Nat) (hx : x < 256) (hm : r + m ≤ 8) (hf : if h then x % 2 ^ (8 - r) = 0 else x < 2 ^ r) (hc : ch < 2 ^ m) : bits .or .u8 (x : Int) (IntKind.u8.wrap (IntKind.u64.wrap ((ch : Int) * 2 ^ cex h r m))) = ((x + ch * 2 ^ cex h r m : Nat) : Int) := by
  have ho := or_into h x r m ch hm hf hc
  have hl : ch * 2 ^ cex h r m < 256 := by
    have h1 : (ch + 1) * 2 ^ cex h r m ≤ 2 ^ m * 2 ^ cex h r m := Nat.mul_le_mul_right _ hc
    rw [← Nat.pow_add] at h1
    have h2 : 2 ^ (m + cex h r m) ≤ 2 ^ 8 := Nat.pow_le_pow_right (by omega) (by unfold cex; split <;> omega)
    have h3 : 0 < 2 ^ cex h r m := Nat.pow_pos (by omega)
    rw [Nat.add_mul, Nat.one_mul] at h1
    omega
  have e : IntKind.u8.wrap (IntKind.u64.wrap ((ch : Int) * 2 ^ cex h r m)) = ((ch * 2 ^ cex h r m : Nat) : Int) := by
    rw [IntKind.wrap_u64, IntKind.wrap_u8', show ((ch : Int) * 2 ^ cex h r m) = ((ch * 2 ^ cex h r m : Nat) : Int) by simp]; omega
  rw [e, u8_or_nat _ _ hx hl, ho]
end Go.Proofs.YthpkngipiapbpaaDoor

/- The walk of the writer of bits in high order: the program's. -/
namespace Go.Proofs.YthpkngipiapbpaaDoor
open Go.RowKit


end Go.Proofs.YthpkngipiapbpaaDoor

/- The walks of PackRow: the program's. -/
namespace Go.Proofs.YthpkngipiapbpaaDoor
open Go.RowKit

theorem own_nilYS (w : World) (a b : Nat) : OwnY w a b (.slice none 0 0) [] := ⟨World.ownsRow_nil _ _ _ _, fun k hk => by simp [Value.ownBlock] at hk⟩

set_option maxHeartbeats 1000000 in
theorem implGoodDepth (d : Int) (w : World) : Calls Tryd.prog 77 #[.int .i64 d] w fun e w' => e = .returned (.bool (depthOk d)) ∧ w' = w := by
  by_cases h : depthOk d = true
  · rw [h]
    rcases depthOk_cases h with e | e | e | e | e <;> subst e <;>
    · clear h
      go_enter Tryd.func77, Tryd.ntmps77
      go_wp2
      go_ret
      exact ⟨rfl, rfl⟩
  · have h' : depthOk d = false := by simpa using h
    rw [h']
    have h1 : (d == 1) = false := by unfold depthOk at h'; simp at h' ⊢; omega
    have h2 : (d == 2) = false := by unfold depthOk at h'; simp at h' ⊢; omega
    have h3 : (d == 4) = false := by unfold depthOk at h'; simp at h' ⊢; omega
    have h4 : (d == 8) = false := by unfold depthOk at h'; simp at h' ⊢; omega
    have h5 : (d == 16) = false := by unfold depthOk at h'; simp at h' ⊢; omega
    clear h h'
    go_enter Tryd.func77, Tryd.ntmps77
    go_wp2
    go_ret
    exact ⟨rfl, rfl⟩

noncomputable def smpB (zs : List Int) (d : Int) : Bool := open Classical in decide (SmpOk zs d)
theorem smpB_yes {zs : List Int} {d : Int} (h : SmpOk zs d) : smpB zs d = true := by unfold smpB; simpa using h
theorem smpB_no {zs : List Int} {d : Int} (h : ¬ SmpOk zs d) : smpB zs d = false := by unfold smpB; simpa using h
theorem smpB_iff {zs : List Int} {d : Int} : smpB zs d = true ↔ SmpOk zs d := by unfold smpB; simp

set_option maxHeartbeats 2000000 in
theorem implGoodSamples (v : Value) (zs : List Int) (D : Nat) (w : World) (hD : D ≤ 16) (hn : zs.length ≤ 1048576) (hv : RdI w v zs) :
    Calls Tryd.prog 63 #[v, .int .i64 D] w fun e w' => e = .returned (.bool (smpB zs D)) ∧ w' = w := by
  obtain ⟨ad, cap, rfl, hA⟩ := hv
  replace hA := hide hA
  have hBad : Hid (∀ k, k < zs.length → ¬ (0 ≤ zs.getD k 0 ∧ zs.getD k 0 < 2 ^ D) → smpB zs D = false) := hide (fun k hk' hb => smpB_no (fun h => hb (by have := h k hk'; simpa using this)))
  have hGood : Hid ((∀ k, k < zs.length → (0 ≤ zs.getD k 0 ∧ zs.getD k 0 < 2 ^ D)) → smpB zs D = true) := hide (fun h => smpB_yes (fun j hj => by have := h j hj; simpa using this))
  have hp := two_pow_16 hD
  go_enter Tryd.func63, Tryd.ntmps63
  go_wp2
  go_loop [9] (fun i => ∃ k : Nat, k ≤ zs.length ∧ i = .int .i64 k ∧ Hid (∀ j, j < k → (0 ≤ zs.getD j 0 ∧ zs.getD j 0 < 2 ^ D))) (fun i => zs.length - (intOf i).toNat)
  case atStart => exact ⟨0, Nat.zero_le _, rfl, fun j hj => by omega⟩
  case round =>
    obtain ⟨k, hk', rfl, hok⟩ := hrel
    by_cases hlt : k < zs.length
    · obtain ⟨b, off, rfl, hbl, hcl⟩ := (unhide hA) (ne_of_lt_length hlt)
      have hck := hcl k hlt
      have hbad := hide (unhide hBad k hlt)
      have hOk : Hid ((0 ≤ zs.getD k 0 ∧ zs.getD k 0 < 2 ^ D) → ∀ j, j < k + 1 → (0 ≤ zs.getD j 0 ∧ zs.getD j 0 < 2 ^ D)) := hide (fun h j hj => by
        rcases Nat.lt_or_eq_of_le (Nat.le_of_lt_succ hj) with h' | h'
        · exact unhide hok j h'
        · subst h'; exact h)
      clear hcl hbl
      generalize zs.getD k 0 = x at hck hbad hOk
      by_cases h1 : x < 0
      · have hB := hide (unhide hbad (fun h => by have := h.1; omega))
        clear hbad hOk
        go_wp2
        go_ret
        exact ⟨by rw [unhide hB]; rfl, rfl⟩
      · by_cases h2 : x < 2 ^ D
        · have hok2 := hide (unhide hOk ⟨by omega, h2⟩)
          clear hbad hOk
          go_wp2
          all_goals
            go_round
            case rel => exact ⟨k + 1, by omega, by go_num, unhide hok2⟩
            case measure => simp [intOf]; omega
        · have hB := hide (unhide hbad (fun h => h2 h.2))
          clear hbad hOk
          go_wp2
          go_ret
          exact ⟨by rw [unhide hB]; rfl, rfl⟩
    · have hkl : k = zs.length := by omega
      subst hkl
      have hs := hide (unhide hGood (unhide hok))
      go_wp2
      go_ret
      exact ⟨by rw [unhide hs]; rfl, rfl⟩

end Go.Proofs.YthpkngipiapbpaaDoor

/- The walk of GoodImage: the program's parts. -/
namespace Go.Proofs.YthpkngipiapbpaaDoor
open Go.RowKit

set_option maxHeartbeats 4000000 in
set_option maxRecDepth 1000000 in
theorem implGoodShape (a b p dp : Int) (vl : Value) (ad : Option Addr) (n cap : Nat) (w : World) (hvl : vl = .slice ad n cap) :
    Calls Tryd.prog 61 #[.agg #[.int .i64 a, .int .i64 b, .int .i64 p, .int .i64 dp, vl]] w fun e w' => e = .returned (.bool (shapeB a b p dp)) ∧ Upd 0 0 w w' := by
  subst hvl
  have hU := hide (Upd.of_below ((Below.refl w.heap.size w).alloc (Nat.le_refl _) (.cells #[.int .i64 a, .int .i64 b, .int .i64 p, .int .i64 dp, .slice ad n cap] 30)) 0 0)
  have hS := hide (fun W => implGoodSide a W)
  have hS2 := hide (fun W => implGoodSide b W)
  have hD := hide (fun W => implGoodDepth dp W)
  by_cases ha : 1 ≤ a ∧ a ≤ 512
  case neg =>
    rw [shapeB_no (fun h => ha h.1)]
    rw [sideB_no ha] at hS
    clear ha
    go_enter Tryd.func61, Tryd.ntmps61
    go_wp2_with fail
    refine (unhide hS _).mono ?_
    rintro e w1 ⟨rfl, rfl⟩
    go_wp2
    go_ret
    exact ⟨rfl, unhide hU⟩
  rw [sideB_yes ha] at hS
  by_cases hb : 1 ≤ b ∧ b ≤ 512
  case neg =>
    rw [shapeB_no (fun h => hb h.2.1)]
    rw [sideB_no hb] at hS2
    clear ha hb
    go_enter Tryd.func61, Tryd.ntmps61
    go_wp2_with fail
    refine (unhide hS _).mono ?_
    rintro e w1 ⟨rfl, rfl⟩
    go_wp2_with fail
    refine (unhide hS2 _).mono ?_
    rintro e w1 ⟨rfl, rfl⟩
    go_wp2
    go_ret
    exact ⟨rfl, unhide hU⟩
  rw [sideB_yes hb] at hS2
  obtain ⟨P, hP, P1, P2⟩ := prod_bd ha hb
  by_cases hP4 : 4096 < P
  · rw [shapeB_no (fun h => by have := h.2.2.1; omega)]
    have qP : decide (4096 < P) = true := by simp; omega
    clear ha hb
    go_enter Tryd.func61, Tryd.ntmps61
    go_wp2_with fail
    refine (unhide hS _).mono ?_
    rintro e w1 ⟨rfl, rfl⟩
    go_wp2_with fail
    refine (unhide hS2 _).mono ?_
    rintro e w1 ⟨rfl, rfl⟩
    go_wp2
    go_ret
    exact ⟨rfl, unhide hU⟩
  have qP : decide (4096 < P) = false := by simp; omega
  by_cases hp1 : p < 1
  · rw [shapeB_no (fun h => by have := h.2.2.2.1.1; omega)]
    have q : decide (p < 1) = true := by simp; omega
    clear ha hb
    go_enter Tryd.func61, Tryd.ntmps61
    go_wp2_with fail
    refine (unhide hS _).mono ?_
    rintro e w1 ⟨rfl, rfl⟩
    go_wp2_with fail
    refine (unhide hS2 _).mono ?_
    rintro e w1 ⟨rfl, rfl⟩
    go_wp2
    go_ret
    exact ⟨rfl, unhide hU⟩
  have q1 : decide (p < 1) = false := by simp; omega
  by_cases hp2 : 4 < p
  · rw [shapeB_no (fun h => by have := h.2.2.2.1.2; omega)]
    have q : decide (4 < p) = true := by simp; omega
    clear ha hb
    go_enter Tryd.func61, Tryd.ntmps61
    go_wp2_with fail
    refine (unhide hS _).mono ?_
    rintro e w1 ⟨rfl, rfl⟩
    go_wp2_with fail
    refine (unhide hS2 _).mono ?_
    rintro e w1 ⟨rfl, rfl⟩
    go_wp2
    go_ret
    exact ⟨rfl, unhide hU⟩
  have q2 : decide (4 < p) = false := by simp; omega
  by_cases hd : depthOk dp = true
  case neg =>
    rw [shapeB_no (fun h => hd h.2.2.2.2.1)]
    have hd' : depthOk dp = false := by simpa using hd
    rw [hd'] at hD
    clear ha hb hd hd'
    go_enter Tryd.func61, Tryd.ntmps61
    go_wp2_with fail
    refine (unhide hS _).mono ?_
    rintro e w1 ⟨rfl, rfl⟩
    go_wp2_with fail
    refine (unhide hS2 _).mono ?_
    rintro e w1 ⟨rfl, rfl⟩
    go_wp2_with fail
    refine (unhide hD _).mono ?_
    rintro e w1 ⟨rfl, rfl⟩
    go_wp2
    go_ret
    exact ⟨rfl, unhide hU⟩
  rw [hd] at hD
  by_cases h1 : p = 1
  · subst h1
    rw [shapeB_yes ⟨ha, hb, by omega, ⟨by omega, by omega⟩, hd, .inl rfl⟩]
    replace hd := hide hd
    clear ha hb
    go_enter Tryd.func61, Tryd.ntmps61
    go_wp2_with fail
    refine (unhide hS _).mono ?_
    rintro e w1 ⟨rfl, rfl⟩
    go_wp2_with fail
    refine (unhide hS2 _).mono ?_
    rintro e w1 ⟨rfl, rfl⟩
    go_wp2_with fail
    refine (unhide hD _).mono ?_
    rintro e w1 ⟨rfl, rfl⟩
    go_wp2
    go_ret
    exact ⟨rfl, unhide hU⟩
  have r1 : (p == 1) = false := beq_eq_false_iff_ne.2 h1
  by_cases h8 : 8 ≤ dp
  · rw [shapeB_yes ⟨ha, hb, by omega, ⟨by omega, by omega⟩, hd, .inr h8⟩]
    have r2 : decide (8 ≤ dp) = true := by simp; omega
    replace hd := hide hd
    clear ha hb h1
    go_enter Tryd.func61, Tryd.ntmps61
    go_wp2_with fail
    refine (unhide hS _).mono ?_
    rintro e w1 ⟨rfl, rfl⟩
    go_wp2_with fail
    refine (unhide hS2 _).mono ?_
    rintro e w1 ⟨rfl, rfl⟩
    go_wp2_with fail
    refine (unhide hD _).mono ?_
    rintro e w1 ⟨rfl, rfl⟩
    go_wp2
    go_ret
    exact ⟨rfl, unhide hU⟩
  · rw [shapeB_no (fun h => by have := h.2.2.2.2.2; omega)]
    have r2 : decide (8 ≤ dp) = false := by simp; omega
    replace hd := hide hd
    clear ha hb h1
    go_enter Tryd.func61, Tryd.ntmps61
    go_wp2_with fail
    refine (unhide hS _).mono ?_
    rintro e w1 ⟨rfl, rfl⟩
    go_wp2_with fail
    refine (unhide hS2 _).mono ?_
    rintro e w1 ⟨rfl, rfl⟩
    go_wp2_with fail
    refine (unhide hD _).mono ?_
    rintro e w1 ⟨rfl, rfl⟩
    go_wp2
    go_ret
    exact ⟨rfl, unhide hU⟩

set_option maxHeartbeats 1000000 in
theorem implCountSamples (a b p dp P Q : Int) (vl : Value) (ad : Option Addr) (n cap : Nat) (w : World) (hvl : vl = .slice ad n cap) (hP : a * b = P) (hQ : P * p = Q) (P1 : 0 ≤ P) (P2 : P ≤ 1099511627776) (Q1 : 0 ≤ Q) (Q2 : Q ≤ 1099511627776) :
    Calls Tryd.prog 62 #[.agg #[.int .i64 a, .int .i64 b, .int .i64 p, .int .i64 dp, vl]] w fun e w' => e = .returned (.int .i64 Q) ∧ Upd 0 0 w w' := by
  subst hvl
  have hU := hide (Upd.of_below ((Below.refl w.heap.size w).alloc (Nat.le_refl _) (.cells #[.int .i64 a, .int .i64 b, .int .i64 p, .int .i64 dp, .slice ad n cap] 30)) 0 0)
  go_enter Tryd.func62, Tryd.ntmps62
  go_wp2
  go_ret
  exact ⟨rfl, unhide hU⟩
end Go.Proofs.YthpkngipiapbpaaDoor

/- The walk of GoodImage: the program's. -/
namespace Go.Proofs.YthpkngipiapbpaaDoor
open Go.RowKit

set_option maxHeartbeats 8000000 in
set_option maxRecDepth 1000000 in
theorem implGoodImage (v : Value) (d : Im) (w : World) (hn : d.2.2.2.2.length ≤ 1048576) (hR : InIm d) (hv : RdIm w v d) :
    Calls Tryd.prog 35 #[v] w fun e w' => e = .returned (.bool (goodImB d)) ∧ Upd 0 0 w w' := by
  obtain ⟨vl, rfl, h⟩ := hv
  obtain ⟨ad, cap, rfl, hA⟩ := h
  obtain ⟨a, b, p, dp, zs⟩ := d
  simp only [ims, imv] at hn hA ⊢
  have hB := (Below.refl w.heap.size w).alloc (Nat.le_refl _) (.cells #[.int .i64 a, .int .i64 b, .int .i64 p, .int .i64 dp, .slice ad zs.length cap] 30)
  have hU := Upd.of_below hB 0 0
  have hA1 := hA.below hB
  have hH := held_new w [.int .i64 a, .int .i64 b, .int .i64 p, .int .i64 dp, .slice ad zs.length cap] 30
  have hS := hide (fun W => implGoodShape a b p dp _ ad zs.length cap W rfl)
  clear hR hA
  by_cases hsh : ShapeOk a b p dp
  case neg =>
    rw [goodImB_no (fun h => hsh h.1)]
    rw [shapeB_no hsh] at hS
    clear hsh hB hA1
    go_enter Tryd.func35, Tryd.ntmps35
    go_wp2_with fail
    generalize w.alloc (.cells #[.int .i64 a, .int .i64 b, .int .i64 p, .int .i64 dp, .slice ad zs.length cap] 30) = W at hU hH ⊢
    have c0 := fun x : UpdT W => (hH.updT x).2 0 _ rfl
    have c1 := fun x : UpdT W => (hH.updT x).2 1 _ rfl
    have c2 := fun x : UpdT W => (hH.updT x).2 2 _ rfl
    have c3 := fun x : UpdT W => (hH.updT x).2 3 _ rfl
    have c4 := fun x : UpdT W => (hH.updT x).2 4 _ rfl
    refine wp_region_upd (by kernel_rfl) (by kernel_rfl) ?_
    repeat (quiet_step ((go_at_call 61; exact Calls.updT _ (unhide hS _))))
    refine wpQuiet_nil ?_
    rintro _ ⟨x, rfl⟩
    have hx := hide (hU.trans x.upd)
    generalize x.to = W2 at hx ⊢
    go_wp2
    go_ret
    exact ⟨rfl, unhide hx⟩
  rw [shapeB_yes hsh] at hS
  obtain ⟨ha, hb, hab, hp, hdp, hpd⟩ := hsh
  obtain ⟨P, hP, P1, P2⟩ := prod_bd ha hb
  obtain ⟨Q, hQ, Q1, Q2⟩ := prod3_bd (P := P) (p := p) ⟨P1, by omega⟩ hp
  have hC := hide (fun W => implCountSamples a b p dp P Q _ ad zs.length cap W rfl hP hQ (by omega) (by omega) (by omega) (by omega))
  obtain ⟨D, rfl, hD1, hD16⟩ := depthOk_nat hdp
  have hG := hide (fun W => implGoodSamples (.slice ad zs.length cap) zs D W hD16 hn)
  have hlq : (zs.length : Int) = a * b * p ↔ (zs.length : Int) = Q := by rw [hP, hQ]
  by_cases hl : (zs.length : Int) = Q
  case neg =>
    rw [goodImB_no (fun h => hl (hlq.1 h.2.1))]
    have q1 : ((zs.length : Int) == Q) = false := beq_eq_false_iff_ne.2 hl
    clear ha hb hab hp hdp hpd hP hQ hl hlq hB hA1 hG
    go_enter Tryd.func35, Tryd.ntmps35
    go_wp2_with fail
    generalize w.alloc (.cells #[.int .i64 a, .int .i64 b, .int .i64 p, .int .i64 (D : Int), .slice ad zs.length cap] 30) = W at hU hH ⊢
    have c0 := fun x : UpdT W => (hH.updT x).2 0 _ rfl
    have c1 := fun x : UpdT W => (hH.updT x).2 1 _ rfl
    have c2 := fun x : UpdT W => (hH.updT x).2 2 _ rfl
    have c3 := fun x : UpdT W => (hH.updT x).2 3 _ rfl
    have c4 := fun x : UpdT W => (hH.updT x).2 4 _ rfl
    refine wp_region_upd (by kernel_rfl) (by kernel_rfl) ?_
    repeat (quiet_step (first | (go_at_call 61; exact Calls.updT _ (unhide hS _)) | (go_at_call 62; exact Calls.updT _ (unhide hC _))))
    refine wpQuiet_nil ?_
    rintro _ ⟨x, rfl⟩
    have hx := hide (hU.trans x.upd)
    generalize x.to = W2 at hx ⊢
    go_wp2
    go_ret
    exact ⟨rfl, unhide hx⟩
  have hgs : goodImB (a, b, p, (D : Int), zs) = smpB zs D := by
    by_cases hs : SmpOk zs D
    · rw [smpB_yes hs]; exact goodImB_yes ⟨⟨ha, hb, hab, hp, hdp, hpd⟩, hlq.2 hl, hs⟩
    · rw [smpB_no hs]; exact goodImB_no (fun h => hs h.2.2)
  rw [hgs]
  have q1 : ((zs.length : Int) == Q) = true := beq_iff_eq.2 hl
  generalize smpB zs D = r at hG ⊢
  clear ha hb hab hp hdp hpd hP hQ hlq hB hgs
  replace hl := hide hl
  go_enter Tryd.func35, Tryd.ntmps35
  go_wp2_with fail
  generalize w.alloc (.cells #[.int .i64 a, .int .i64 b, .int .i64 p, .int .i64 (D : Int), .slice ad zs.length cap] 30) = W at hU hH hA1 ⊢
  have hG2 := hide (fun x : UpdT W => unhide hG x.to ⟨ad, cap, rfl, hA1.below x.upd.none⟩)
  have c0 := fun x : UpdT W => (hH.updT x).2 0 _ rfl
  have c1 := fun x : UpdT W => (hH.updT x).2 1 _ rfl
  have c2 := fun x : UpdT W => (hH.updT x).2 2 _ rfl
  have c3 := fun x : UpdT W => (hH.updT x).2 3 _ rfl
  have c4 := fun x : UpdT W => (hH.updT x).2 4 _ rfl
  clear hA1
  refine wp_region_upd (by kernel_rfl) (by kernel_rfl) ?_
  repeat (quiet_step (first | (go_at_call 61; exact Calls.updT _ (unhide hS _)) | (go_at_call 62; exact Calls.updT _ (unhide hC _)) | (go_at_call 63; exact Calls.updT_same _ (unhide hG2 _))))
  refine wpQuiet_nil ?_
  rintro _ ⟨x, rfl⟩
  have hx := hide (hU.trans x.upd)
  generalize x.to = W2 at hx ⊢
  go_wp2
  go_ret
  exact ⟨rfl, unhide hx⟩
end Go.Proofs.YthpkngipiapbpaaDoor

/- GoodStill, as the program has it. -/
namespace Go.Proofs.YthpkngipiapbpaaDoor
open Go.RowKit

theorem depth_bdI {dp : Int} (h : depthOk dp = true) : 1 ≤ dp ∧ dp ≤ 16 := by
  rcases depthOk_cases h with e | e | e | e | e <;> subst e <;> omega

set_option maxHeartbeats 4000000 in
set_option maxRecDepth 1000000 in
theorem implGoodStill (v : Value) (d : St) (w : World) (hT : Held w 1 passCells) (hn : StSize d ≤ 1048576) (hR : InSt d) (hv : RdSt w v d) :
    Calls Tryd.prog 9 #[v] w fun e w' => e = .returned (.bool (pB (GoodSt d))) ∧ Upd 0 0 w w' := by
  obtain ⟨l0, l1, l2, rfl, hr0, hr1, hr2⟩ := hv
  obtain ⟨⟨a, b, p, dp, zs⟩, zp, ps, wv⟩ := d
  simp only [Stv, StSize] at hn ⊢
  obtain ⟨hRi, _, _⟩ := hR
  change RdI w l0 zs at hr0
  change RdI w l1 zp at hr1
  change RdNt w l2 ps at hr2
  change InIm (a, b, p, dp, zs) at hRi
  have hn0 : zs.length ≤ 1048576 := by omega
  have hn1 : zp.length ≤ 1048576 := by omega
  have hn2 : ntSize ps ≤ 1048576 := by omega
  have hr0' := hide hr0
  have hr1' := hide hr1
  have hr2' := hide hr2
  obtain ⟨ad, cap, rfl, _⟩ := hr0
  obtain ⟨ad1, cap1, rfl, _⟩ := hr1
  obtain ⟨ad2, cap2, rfl, _⟩ := hr2
  clear hn
  have hB0 := (Below.refl w.heap.size w).alloc (Nat.le_refl _) (.cells #[.int .i64 a, .int .i64 b, .int .i64 p, .int .i64 dp, .slice ad zs.length cap, .slice ad1 zp.length cap1, .slice ad2 ps.length cap2, .bool wv] 33)
  have hbx := hide (held_new w [.int .i64 a, .int .i64 b, .int .i64 p, .int .i64 dp, .slice ad zs.length cap, .slice ad1 zp.length cap1, .slice ad2 ps.length cap2, .bool wv] 33)
  have hGI := hide (implGoodImage _ (a, b, p, dp, zs) _ hn0 hRi ⟨_, rfl, (unhide hr0').below hB0⟩)
  have hPl := palAll_iff ((a, b, p, dp, zs), zp, ps, wv)
  replace hPl := hide hPl
  replace hB0 := hide hB0
  replace hRi := hide hRi
  replace hT := hide hT
  by_cases hg : GoodIm (a, b, p, dp, zs)
  · rw [goodImB_yes hg] at hGI
    by_cases hp1 : PalAll (a, b, p, dp, zs) zp
    · by_cases hnt : NotesOk ps
      · obtain ⟨⟨ha, hb, hab, hp, hdp, hpd⟩, hl, hsmp⟩ := id hg
        replace hdp := depth_bdI hdp
        replace hl := hide hl
        replace hab := hide hab
        replace hsmp := hide hsmp
        obtain ⟨T, hTt⟩ : ∃ T, totTo (sidesOf a b wv) p dp (sidesOf a b wv).length = T := ⟨_, rfl⟩
        have hTT : Hid (totOf (a, b, p, dp, zs) wv = T) := hide hTt
        have hTot := hide (fun W (hW : Below w.heap.size w W) => implCountRows a b p dp ad ad1 ad2 zs.length zp.length ps.length cap cap1 cap2 wv W ((unhide hT).upd (Upd.of_below hW 0 0) (.inr (Nat.zero_le _))) ha hb hp hdp T hTt)
        replace hTt := hide hTt
        replace hg := hide hg
        by_cases h6 : T ≤ 6000
        · have hE : Hid (pB (GoodSt ((a, b, p, dp, zs), zp, ps, wv)) = true) := hide (pB_yes ⟨unhide hg, ((unhide hPl).1 hp1).1, ((unhide hPl).1 hp1).2, hnt, by rw [unhide hTT]; exact h6⟩)
          go_enter Tryd.func9, Tryd.ntmps9
          go_wp2_with fail
          change Hid (Held (w.alloc (.cells #[.int .i64 a, .int .i64 b, .int .i64 p, .int .i64 dp, .slice ad zs.length cap, .slice ad1 zp.length cap1, .slice ad2 ps.length cap2, .bool wv] 33)) _ _) at hbx
          generalize w.alloc (.cells #[.int .i64 a, .int .i64 b, .int .i64 p, .int .i64 dp, .slice ad zs.length cap, .slice ad1 zp.length cap1, .slice ad2 ps.length cap2, .bool wv] 33) = w0 at hB0 hbx hGI ⊢
          refine (unhide hGI).mono ?_
          rintro e w1 ⟨rfl, hu⟩
          replace hbx := hide ((unhide hbx).keep hu)
          replace hB0 := hide (below_upd (unhide hB0) hu (Nat.le_refl _) (.inr (Nat.le_refl _)))
          clear hu
          have hC := implGoodPalette _ zp _ (a, b, p, dp, zs) w1 hn0 hn1 ((unhide hr1').below (unhide hB0)) ⟨_, rfl, (unhide hr0').below (unhide hB0)⟩
          rw [pB_yes hp1] at hC
          replace hC := hide hC
          replace hp1 := hide hp1
          have c0 := (unhide hbx).2 0 _ rfl
          have c1 := (unhide hbx).2 1 _ rfl
          have c2 := (unhide hbx).2 2 _ rfl
          have c3 := (unhide hbx).2 3 _ rfl
          have c4 := (unhide hbx).2 4 _ rfl
          have c5 := (unhide hbx).2 5 _ rfl
          have c6 := (unhide hbx).2 6 _ rfl
          have c7 := (unhide hbx).2 7 _ rfl
          have cl := (unhide hbx).1
          go_wp2_with fail
          clear c0 c1 c2 c3 c4 c5 c6 c7 cl
          refine (unhide hC).mono ?_
          rintro e w2 ⟨rfl, hu⟩
          replace hbx := hide ((unhide hbx).keep hu)
          replace hB0 := hide (below_upd (unhide hB0) hu (Nat.le_refl _) (.inr (Nat.le_refl _)))
          clear hu
          clear hC
          have hC := implGoodNotes _ ps w2 hn2 ((unhide hr2').below (unhide hB0))
          rw [pB_yes hnt] at hC
          replace hC := hide hC
          replace hnt := hide hnt
          have c0 := (unhide hbx).2 0 _ rfl
          have c1 := (unhide hbx).2 1 _ rfl
          have c2 := (unhide hbx).2 2 _ rfl
          have c3 := (unhide hbx).2 3 _ rfl
          have c4 := (unhide hbx).2 4 _ rfl
          have c5 := (unhide hbx).2 5 _ rfl
          have c6 := (unhide hbx).2 6 _ rfl
          have c7 := (unhide hbx).2 7 _ rfl
          have cl := (unhide hbx).1
          go_wp2_with fail
          clear c0 c1 c2 c3 c4 c5 c6 c7 cl
          refine (unhide hC).mono ?_
          rintro e w3 ⟨rfl, hu⟩
          replace hbx := hide ((unhide hbx).keep hu)
          replace hB0 := hide (below_upd (unhide hB0) hu (Nat.le_refl _) (.inr (Nat.le_refl _)))
          clear hu
          clear hC
          have hC := hide (unhide hTot w3 (unhide hB0))
          have c0 := (unhide hbx).2 0 _ rfl
          have c1 := (unhide hbx).2 1 _ rfl
          have c2 := (unhide hbx).2 2 _ rfl
          have c3 := (unhide hbx).2 3 _ rfl
          have c4 := (unhide hbx).2 4 _ rfl
          have c5 := (unhide hbx).2 5 _ rfl
          have c6 := (unhide hbx).2 6 _ rfl
          have c7 := (unhide hbx).2 7 _ rfl
          have cl := (unhide hbx).1
          go_wp2_with fail
          clear c0 c1 c2 c3 c4 c5 c6 c7 cl
          refine (unhide hC).mono ?_
          rintro e w4 ⟨rfl, hu⟩
          replace hbx := hide ((unhide hbx).keep hu)
          replace hB0 := hide (below_upd (unhide hB0) hu (Nat.le_refl _) (.inr (Nat.le_refl _)))
          clear hu
          clear hC hTot
          have c0 := (unhide hbx).2 0 _ rfl
          have c1 := (unhide hbx).2 1 _ rfl
          have c2 := (unhide hbx).2 2 _ rfl
          have c3 := (unhide hbx).2 3 _ rfl
          have c4 := (unhide hbx).2 4 _ rfl
          have c5 := (unhide hbx).2 5 _ rfl
          have c6 := (unhide hbx).2 6 _ rfl
          have c7 := (unhide hbx).2 7 _ rfl
          have cl := (unhide hbx).1
          go_wp2
          go_ret
          exact ⟨by rw [unhide hE]; first | rfl | (simp; done) | (simp; omega), Upd.of_below (unhide hB0) 0 0⟩
        · have hE : Hid (pB (GoodSt ((a, b, p, dp, zs), zp, ps, wv)) = false) := hide (pB_no (fun h => h6 (by rw [← unhide hTT]; exact h.2.2.2.2)))
          go_enter Tryd.func9, Tryd.ntmps9
          go_wp2_with fail
          change Hid (Held (w.alloc (.cells #[.int .i64 a, .int .i64 b, .int .i64 p, .int .i64 dp, .slice ad zs.length cap, .slice ad1 zp.length cap1, .slice ad2 ps.length cap2, .bool wv] 33)) _ _) at hbx
          generalize w.alloc (.cells #[.int .i64 a, .int .i64 b, .int .i64 p, .int .i64 dp, .slice ad zs.length cap, .slice ad1 zp.length cap1, .slice ad2 ps.length cap2, .bool wv] 33) = w0 at hB0 hbx hGI ⊢
          refine (unhide hGI).mono ?_
          rintro e w1 ⟨rfl, hu⟩
          replace hbx := hide ((unhide hbx).keep hu)
          replace hB0 := hide (below_upd (unhide hB0) hu (Nat.le_refl _) (.inr (Nat.le_refl _)))
          clear hu
          have hC := implGoodPalette _ zp _ (a, b, p, dp, zs) w1 hn0 hn1 ((unhide hr1').below (unhide hB0)) ⟨_, rfl, (unhide hr0').below (unhide hB0)⟩
          rw [pB_yes hp1] at hC
          replace hC := hide hC
          replace hp1 := hide hp1
          have c0 := (unhide hbx).2 0 _ rfl
          have c1 := (unhide hbx).2 1 _ rfl
          have c2 := (unhide hbx).2 2 _ rfl
          have c3 := (unhide hbx).2 3 _ rfl
          have c4 := (unhide hbx).2 4 _ rfl
          have c5 := (unhide hbx).2 5 _ rfl
          have c6 := (unhide hbx).2 6 _ rfl
          have c7 := (unhide hbx).2 7 _ rfl
          have cl := (unhide hbx).1
          go_wp2_with fail
          clear c0 c1 c2 c3 c4 c5 c6 c7 cl
          refine (unhide hC).mono ?_
          rintro e w2 ⟨rfl, hu⟩
          replace hbx := hide ((unhide hbx).keep hu)
          replace hB0 := hide (below_upd (unhide hB0) hu (Nat.le_refl _) (.inr (Nat.le_refl _)))
          clear hu
          clear hC
          have hC := implGoodNotes _ ps w2 hn2 ((unhide hr2').below (unhide hB0))
          rw [pB_yes hnt] at hC
          replace hC := hide hC
          replace hnt := hide hnt
          have c0 := (unhide hbx).2 0 _ rfl
          have c1 := (unhide hbx).2 1 _ rfl
          have c2 := (unhide hbx).2 2 _ rfl
          have c3 := (unhide hbx).2 3 _ rfl
          have c4 := (unhide hbx).2 4 _ rfl
          have c5 := (unhide hbx).2 5 _ rfl
          have c6 := (unhide hbx).2 6 _ rfl
          have c7 := (unhide hbx).2 7 _ rfl
          have cl := (unhide hbx).1
          go_wp2_with fail
          clear c0 c1 c2 c3 c4 c5 c6 c7 cl
          refine (unhide hC).mono ?_
          rintro e w3 ⟨rfl, hu⟩
          replace hbx := hide ((unhide hbx).keep hu)
          replace hB0 := hide (below_upd (unhide hB0) hu (Nat.le_refl _) (.inr (Nat.le_refl _)))
          clear hu
          clear hC
          have hC := hide (unhide hTot w3 (unhide hB0))
          have c0 := (unhide hbx).2 0 _ rfl
          have c1 := (unhide hbx).2 1 _ rfl
          have c2 := (unhide hbx).2 2 _ rfl
          have c3 := (unhide hbx).2 3 _ rfl
          have c4 := (unhide hbx).2 4 _ rfl
          have c5 := (unhide hbx).2 5 _ rfl
          have c6 := (unhide hbx).2 6 _ rfl
          have c7 := (unhide hbx).2 7 _ rfl
          have cl := (unhide hbx).1
          go_wp2_with fail
          clear c0 c1 c2 c3 c4 c5 c6 c7 cl
          refine (unhide hC).mono ?_
          rintro e w4 ⟨rfl, hu⟩
          replace hbx := hide ((unhide hbx).keep hu)
          replace hB0 := hide (below_upd (unhide hB0) hu (Nat.le_refl _) (.inr (Nat.le_refl _)))
          clear hu
          clear hC hTot
          have c0 := (unhide hbx).2 0 _ rfl
          have c1 := (unhide hbx).2 1 _ rfl
          have c2 := (unhide hbx).2 2 _ rfl
          have c3 := (unhide hbx).2 3 _ rfl
          have c4 := (unhide hbx).2 4 _ rfl
          have c5 := (unhide hbx).2 5 _ rfl
          have c6 := (unhide hbx).2 6 _ rfl
          have c7 := (unhide hbx).2 7 _ rfl
          have cl := (unhide hbx).1
          go_wp2
          go_ret
          exact ⟨by rw [unhide hE]; first | rfl | (simp; done) | (simp; omega), Upd.of_below (unhide hB0) 0 0⟩
      · have hE : Hid (pB (GoodSt ((a, b, p, dp, zs), zp, ps, wv)) = false) := hide (pB_no (fun h => hnt h.2.2.2.1))
        replace hg := hide hg
        go_enter Tryd.func9, Tryd.ntmps9
        go_wp2_with fail
        change Hid (Held (w.alloc (.cells #[.int .i64 a, .int .i64 b, .int .i64 p, .int .i64 dp, .slice ad zs.length cap, .slice ad1 zp.length cap1, .slice ad2 ps.length cap2, .bool wv] 33)) _ _) at hbx
        generalize w.alloc (.cells #[.int .i64 a, .int .i64 b, .int .i64 p, .int .i64 dp, .slice ad zs.length cap, .slice ad1 zp.length cap1, .slice ad2 ps.length cap2, .bool wv] 33) = w0 at hB0 hbx hGI ⊢
        refine (unhide hGI).mono ?_
        rintro e w1 ⟨rfl, hu⟩
        replace hbx := hide ((unhide hbx).keep hu)
        replace hB0 := hide (below_upd (unhide hB0) hu (Nat.le_refl _) (.inr (Nat.le_refl _)))
        clear hu
        have hC := implGoodPalette _ zp _ (a, b, p, dp, zs) w1 hn0 hn1 ((unhide hr1').below (unhide hB0)) ⟨_, rfl, (unhide hr0').below (unhide hB0)⟩
        rw [pB_yes hp1] at hC
        replace hC := hide hC
        replace hp1 := hide hp1
        have c0 := (unhide hbx).2 0 _ rfl
        have c1 := (unhide hbx).2 1 _ rfl
        have c2 := (unhide hbx).2 2 _ rfl
        have c3 := (unhide hbx).2 3 _ rfl
        have c4 := (unhide hbx).2 4 _ rfl
        have c5 := (unhide hbx).2 5 _ rfl
        have c6 := (unhide hbx).2 6 _ rfl
        have c7 := (unhide hbx).2 7 _ rfl
        have cl := (unhide hbx).1
        go_wp2_with fail
        clear c0 c1 c2 c3 c4 c5 c6 c7 cl
        refine (unhide hC).mono ?_
        rintro e w2 ⟨rfl, hu⟩
        replace hbx := hide ((unhide hbx).keep hu)
        replace hB0 := hide (below_upd (unhide hB0) hu (Nat.le_refl _) (.inr (Nat.le_refl _)))
        clear hu
        clear hC
        have hC := implGoodNotes _ ps w2 hn2 ((unhide hr2').below (unhide hB0))
        rw [pB_no hnt] at hC
        replace hC := hide hC
        replace hnt := hide hnt
        have c0 := (unhide hbx).2 0 _ rfl
        have c1 := (unhide hbx).2 1 _ rfl
        have c2 := (unhide hbx).2 2 _ rfl
        have c3 := (unhide hbx).2 3 _ rfl
        have c4 := (unhide hbx).2 4 _ rfl
        have c5 := (unhide hbx).2 5 _ rfl
        have c6 := (unhide hbx).2 6 _ rfl
        have c7 := (unhide hbx).2 7 _ rfl
        have cl := (unhide hbx).1
        go_wp2_with fail
        clear c0 c1 c2 c3 c4 c5 c6 c7 cl
        refine (unhide hC).mono ?_
        rintro e w3 ⟨rfl, hu⟩
        replace hbx := hide ((unhide hbx).keep hu)
        replace hB0 := hide (below_upd (unhide hB0) hu (Nat.le_refl _) (.inr (Nat.le_refl _)))
        clear hu
        clear hC
        have c0 := (unhide hbx).2 0 _ rfl
        have c1 := (unhide hbx).2 1 _ rfl
        have c2 := (unhide hbx).2 2 _ rfl
        have c3 := (unhide hbx).2 3 _ rfl
        have c4 := (unhide hbx).2 4 _ rfl
        have c5 := (unhide hbx).2 5 _ rfl
        have c6 := (unhide hbx).2 6 _ rfl
        have c7 := (unhide hbx).2 7 _ rfl
        have cl := (unhide hbx).1
        go_wp2
        go_ret
        exact ⟨by rw [unhide hE]; first | rfl | (simp; done) | (simp; omega), Upd.of_below (unhide hB0) 0 0⟩
    · have hE : Hid (pB (GoodSt ((a, b, p, dp, zs), zp, ps, wv)) = false) := hide (pB_no (fun h => hp1 ((unhide hPl).2 ⟨h.2.1, h.2.2.1⟩)))
      replace hg := hide hg
      go_enter Tryd.func9, Tryd.ntmps9
      go_wp2_with fail
      change Hid (Held (w.alloc (.cells #[.int .i64 a, .int .i64 b, .int .i64 p, .int .i64 dp, .slice ad zs.length cap, .slice ad1 zp.length cap1, .slice ad2 ps.length cap2, .bool wv] 33)) _ _) at hbx
      generalize w.alloc (.cells #[.int .i64 a, .int .i64 b, .int .i64 p, .int .i64 dp, .slice ad zs.length cap, .slice ad1 zp.length cap1, .slice ad2 ps.length cap2, .bool wv] 33) = w0 at hB0 hbx hGI ⊢
      refine (unhide hGI).mono ?_
      rintro e w1 ⟨rfl, hu⟩
      replace hbx := hide ((unhide hbx).keep hu)
      replace hB0 := hide (below_upd (unhide hB0) hu (Nat.le_refl _) (.inr (Nat.le_refl _)))
      clear hu
      have hC := implGoodPalette _ zp _ (a, b, p, dp, zs) w1 hn0 hn1 ((unhide hr1').below (unhide hB0)) ⟨_, rfl, (unhide hr0').below (unhide hB0)⟩
      rw [pB_no hp1] at hC
      replace hC := hide hC
      replace hp1 := hide hp1
      have c0 := (unhide hbx).2 0 _ rfl
      have c1 := (unhide hbx).2 1 _ rfl
      have c2 := (unhide hbx).2 2 _ rfl
      have c3 := (unhide hbx).2 3 _ rfl
      have c4 := (unhide hbx).2 4 _ rfl
      have c5 := (unhide hbx).2 5 _ rfl
      have c6 := (unhide hbx).2 6 _ rfl
      have c7 := (unhide hbx).2 7 _ rfl
      have cl := (unhide hbx).1
      go_wp2_with fail
      clear c0 c1 c2 c3 c4 c5 c6 c7 cl
      refine (unhide hC).mono ?_
      rintro e w2 ⟨rfl, hu⟩
      replace hbx := hide ((unhide hbx).keep hu)
      replace hB0 := hide (below_upd (unhide hB0) hu (Nat.le_refl _) (.inr (Nat.le_refl _)))
      clear hu
      clear hC
      have c0 := (unhide hbx).2 0 _ rfl
      have c1 := (unhide hbx).2 1 _ rfl
      have c2 := (unhide hbx).2 2 _ rfl
      have c3 := (unhide hbx).2 3 _ rfl
      have c4 := (unhide hbx).2 4 _ rfl
      have c5 := (unhide hbx).2 5 _ rfl
      have c6 := (unhide hbx).2 6 _ rfl
      have c7 := (unhide hbx).2 7 _ rfl
      have cl := (unhide hbx).1
      go_wp2
      go_ret
      exact ⟨by rw [unhide hE]; first | rfl | (simp; done) | (simp; omega), Upd.of_below (unhide hB0) 0 0⟩
  · have hE : Hid (pB (GoodSt ((a, b, p, dp, zs), zp, ps, wv)) = false) := hide (pB_no (fun h => hg h.1))
    rw [goodImB_no hg] at hGI
    replace hg := hide hg
    go_enter Tryd.func9, Tryd.ntmps9
    go_wp2_with fail
    change Hid (Held (w.alloc (.cells #[.int .i64 a, .int .i64 b, .int .i64 p, .int .i64 dp, .slice ad zs.length cap, .slice ad1 zp.length cap1, .slice ad2 ps.length cap2, .bool wv] 33)) _ _) at hbx
    generalize w.alloc (.cells #[.int .i64 a, .int .i64 b, .int .i64 p, .int .i64 dp, .slice ad zs.length cap, .slice ad1 zp.length cap1, .slice ad2 ps.length cap2, .bool wv] 33) = w0 at hB0 hbx hGI ⊢
    refine (unhide hGI).mono ?_
    rintro e w1 ⟨rfl, hu⟩
    replace hbx := hide ((unhide hbx).keep hu)
    replace hB0 := hide (below_upd (unhide hB0) hu (Nat.le_refl _) (.inr (Nat.le_refl _)))
    clear hu
    have c0 := (unhide hbx).2 0 _ rfl
    have c1 := (unhide hbx).2 1 _ rfl
    have c2 := (unhide hbx).2 2 _ rfl
    have c3 := (unhide hbx).2 3 _ rfl
    have c4 := (unhide hbx).2 4 _ rfl
    have c5 := (unhide hbx).2 5 _ rfl
    have c6 := (unhide hbx).2 6 _ rfl
    have c7 := (unhide hbx).2 7 _ rfl
    have cl := (unhide hbx).1
    go_wp2
    go_ret
    exact ⟨by rw [unhide hE]; first | rfl | (simp; done) | (simp; omega), Upd.of_below (unhide hB0) 0 0⟩
end Go.Proofs.YthpkngipiapbpaaDoor

/- slices.Clone of a list of ints. -/
namespace Go.Proofs.YthpkngipiapbpaaDoor
open Go.RowKit

set_option maxHeartbeats 1000000 in
set_option maxRecDepth 100000 in
theorem cloneI (u : Value) (zs : List Int) (w : World) (hn : zs.length ≤ 1048576) (hr : RdJ w u zs) :
    Calls Tryd.prog 51 #[u] w fun e w' => ∃ v, e = .returned v ∧ OwnI w' w.heap.size w'.heap.size v zs ∧ Upd 0 0 w w' := by
  have hr0 := hide hr
  rcases hr with ⟨rfl, rfl⟩ | ⟨b, off, cap, rfl, _, _⟩
  · have hq := Lib.run_eql_slice_nil (P := Tryd.prog) w 22 3 none 0 0 0 0 Tryd.underlying22
    go_enter Tryd.func51, Tryd.ntmps51
    go_wp2
    go_ret
    exact ⟨_, rfl, own_nilI _ _ _, Upd.refl _ _ _⟩
  · have hq := Lib.run_eql_slice_nil (P := Tryd.prog) w 22 3 (some ⟨b, off, none⟩) zs.length cap 0 0 Tryd.underlying22
    have hb1 := (Below.refl w.heap.size w).alloc (Nat.le_refl _) (.cells #[] 3)
    have ho1 := World.ownsRow_made (base := w.heap.size) (e := 3) (size := 1) w #[] 0 (Nat.le_refl _) (by unfold maxLen; omega) rfl
    have hr1 := hide ((unhide hr0).below hb1)
    replace hb1 := hide hb1
    replace ho1 := hide ho1
    go_enter Tryd.func51, Tryd.ntmps51
    go_wp2_with (at_builtin; go_loud (refine wpList_appI rfl (.tmp 5) (.tmp 6) rfl w.heap.size _ [] rfl (unhide ho1) _ zs rfl (unhide hr1) (by simp; omega) (by simp) ?_))
    intro v2 w2 ho2 hg2 _
    have hb2 := hide (below_upd (unhide hb1) (upd_of_grownI hg2 (unhide ho1)) (Nat.le_refl _) (.inl (Nat.le_refl _)))
    have hO := hide (Own.of (show w2.ownsRow w.heap.size 3 1 v2 zs.length (ints zs) from ho2))
    clear ho2 hg2
    go_wp2
    go_ret
    exact ⟨_, rfl, unhide hO, Upd.of_below (unhide hb2) 0 0⟩
end Go.Proofs.YthpkngipiapbpaaDoor

/- Colours, as the program has it. -/
namespace Go.Proofs.YthpkngipiapbpaaDoor
open Go.RowKit

set_option maxHeartbeats 8000000 in
set_option maxRecDepth 1000000 in
theorem implColours (v : Value) (d : St) (w : World) (hT : Held w 1 passCells) (hn : StSize d ≤ 1048576) (hR : InSt d) (hv : RnSt w v d) :
    Calls Tryd.prog 20 #[v] w fun e w' => ∃ u, e = .returned u ∧ OwnIm w' w.heap.size w'.heap.size u (coloursF d) ∧ Upd 0 0 w w' := by
  have hv0 := hv.rd
  obtain ⟨l0, l1, l2, rfl, hr0, hr1, hr2⟩ := hv
  obtain ⟨⟨a, b, p, dp, zs⟩, zp, ps, wv⟩ := d
  change RdJ w l0 zs at hr0
  have hrJ := hide hr0
  replace hr0 := rdI_of_rdJ hr0
  change RdI w l1 zp at hr1
  change RdNt w l2 ps at hr2
  have hr0' := hide hr0
  have hr1' := hide hr1
  obtain ⟨ad, cap, rfl, hA0⟩ := hr0
  obtain ⟨ad1, cap1, rfl, hA1⟩ := hr1
  obtain ⟨ad2, cap2, rfl, _⟩ := hr2
  replace hA0 := hide hA0
  replace hA1 := hide hA1
  simp only [Stv]
  have hB0 := ((Below.refl w.heap.size w).alloc (Nat.le_refl _) (.cells (stcC a b p dp (.slice ad zs.length cap) (.slice ad1 zp.length cap1) (.slice ad2 ps.length cap2) wv).toArray 33)).alloc (by simp) (.cells (imcC 0 0 0 0 (.slice none 0 0)).toArray 30)
  have hbx := hide ((heldF_new w (stcC a b p dp (.slice ad zs.length cap) (.slice ad1 zp.length cap1) (.slice ad2 ps.length cap2) wv) 33).keep (Upd.of_below ((Below.refl _ _).alloc (Nat.le_refl _) (.cells (imcC 0 0 0 0 (.slice none 0 0)).toArray 30)) 0 0))
  have hrs := hide (heldF_new (w.alloc (.cells (stcC a b p dp (.slice ad zs.length cap) (.slice ad1 zp.length cap1) (.slice ad2 ps.length cap2) wv).toArray 33)) (imcC 0 0 0 0 (.slice none 0 0)) 30)
  have hG := hide (implGoodStill _ ((a, b, p, dp, zs), zp, ps, wv) _ (hT.upd (Upd.of_below hB0 0 0) (.inr (Nat.zero_le _))) hn hR (hv0.below hB0))
  clear hv0 hR hn hT
  have es : (w.alloc (.cells (stcC a b p dp (.slice ad zs.length cap) (.slice ad1 zp.length cap1) (.slice ad2 ps.length cap2) wv).toArray 33)).heap.size = w.heap.size + 1 := by simp
  rw [es] at hrs
  have es2 : ((w.alloc (.cells (stcC a b p dp (.slice ad zs.length cap) (.slice ad1 zp.length cap1) (.slice ad2 ps.length cap2) wv).toArray 33)).alloc (.cells (imcC 0 0 0 0 (.slice none 0 0)).toArray 30)).heap.size = w.heap.size + 2 := by simp
  clear es
  replace hB0 := hide hB0
  go_enter Tryd.func20, Tryd.ntmps20
  go_wp2_with fail
  change Hid (HeldF ((w.alloc (.cells #[.int .i64 a, .int .i64 b, .int .i64 p, .int .i64 dp, .slice ad zs.length cap, .slice ad1 zp.length cap1, .slice ad2 ps.length cap2, .bool wv] 33)).alloc (.cells #[.int .i64 0, .int .i64 0, .int .i64 0, .int .i64 0, .slice none 0 0] 30)) _ _) at hbx
  change Hid (HeldF ((w.alloc (.cells #[.int .i64 a, .int .i64 b, .int .i64 p, .int .i64 dp, .slice ad zs.length cap, .slice ad1 zp.length cap1, .slice ad2 ps.length cap2, .bool wv] 33)).alloc (.cells #[.int .i64 0, .int .i64 0, .int .i64 0, .int .i64 0, .slice none 0 0] 30)) _ _) at hrs
  change ((w.alloc (.cells #[.int .i64 a, .int .i64 b, .int .i64 p, .int .i64 dp, .slice ad zs.length cap, .slice ad1 zp.length cap1, .slice ad2 ps.length cap2, .bool wv] 33)).alloc (.cells #[.int .i64 0, .int .i64 0, .int .i64 0, .int .i64 0, .slice none 0 0] 30)).heap.size = _ at es2
  generalize ((w.alloc (.cells #[.int .i64 a, .int .i64 b, .int .i64 p, .int .i64 dp, .slice ad zs.length cap, .slice ad1 zp.length cap1, .slice ad2 ps.length cap2, .bool wv] 33)).alloc (.cells #[.int .i64 0, .int .i64 0, .int .i64 0, .int .i64 0, .slice none 0 0] 30)) = w0 at hbx hrs hB0 hG es2 ⊢
  refine (unhide hG).mono ?_
  rintro e w1 ⟨rfl, hu⟩
  replace hbx := hide ((unhide hbx).keep hu)
  replace hrs := hide ((unhide hrs).keep hu)
  replace hB0 := hide (below_upd (unhide hB0) hu (Nat.le_refl _) (.inr (Nat.le_refl _)))
  have hs1 : w.heap.size + 2 ≤ w1.heap.size := by have := hu.size; omega
  clear hu hG es2
  have c0 := (unhide hbx).1.2 0 _ rfl
  have c1 := (unhide hbx).1.2 1 _ rfl
  have c2 := (unhide hbx).1.2 2 _ rfl
  have c3 := (unhide hbx).1.2 3 _ rfl
  have c4 := (unhide hbx).1.2 4 _ rfl
  have c5 := (unhide hbx).1.2 5 _ rfl
  have r0 := (unhide hrs).1.2 0 _ rfl
  have r1 := (unhide hrs).1.2 1 _ rfl
  have r2 := (unhide hrs).1.2 2 _ rfl
  have r3 := (unhide hrs).1.2 3 _ rfl
  have r4 := (unhide hrs).1.2 4 _ rfl
  have z0 := (unhide hrs).2 0
  have z1 := (unhide hrs).2 1
  have z2 := (unhide hrs).2 2
  have z3 := (unhide hrs).2 3
  have z4 := (unhide hrs).2 4
  have cl := (unhide hbx).1.1
  have rl := (unhide hrs).1.1
  by_cases hgd : GoodSt ((a, b, p, dp, zs), zp, ps, wv)
  · rw [pB_yes hgd]
    have hzl : zs.length ≤ 16384 := goodIm_len hgd.1
    by_cases h0 : zp.length = 0
    · have hE := hide (coloursF_plain hgd h0)
      have q : ((zp.length : Int) == 0) = true := by rw [h0]; rfl
      replace hgd := hide hgd
      replace h0 := hide h0
      have hbi := hide (heldF_new w1 (imcC a b p dp (.slice ad zs.length cap)) 30)
      have hb2 := hide ((unhide hB0).alloc (unhide hB0).size (.cells #[.int .i64 a, .int .i64 b, .int .i64 p, .int .i64 dp, .slice ad zs.length cap] 30))
      have hrs2 := hide ((unhide hrs).keep (Upd.of_below ((Below.refl w1.heap.size w1).alloc (Nat.le_refl _) (.cells #[.int .i64 a, .int .i64 b, .int .i64 p, .int .i64 dp, .slice ad zs.length cap] 30)) 0 0))
      go_wp2_with fail
      change Hid (HeldF (w1.alloc (.cells #[.int .i64 a, .int .i64 b, .int .i64 p, .int .i64 dp, .slice ad zs.length cap] 30)) _ _) at hbi
      have hsz2 : (w1.alloc (.cells #[.int .i64 a, .int .i64 b, .int .i64 p, .int .i64 dp, .slice ad zs.length cap] 30)).heap.size = w1.heap.size + 1 := by simp
      generalize w1.alloc (.cells #[.int .i64 a, .int .i64 b, .int .i64 p, .int .i64 dp, .slice ad zs.length cap] 30) = w1' at hbi hb2 hrs2 hsz2 ⊢
      refine (cloneI _ zs w1' (by omega) ((unhide hrJ).below (unhide hb2))).mono ?_
      rintro e w2 ⟨v2, rfl, ho2, hu2⟩
      have hb3 := hide (below_upd (unhide hb2) hu2 (Nat.le_refl _) (.inr (Nat.le_refl _)))
      replace hbi := hide ((unhide hbi).keep hu2)
      replace hrs2 := hide ((unhide hrs2).keep hu2)
      have hs2 : w1.heap.size + 1 ≤ w2.heap.size := by have := hu2.size; omega
      rw [hsz2] at ho2
      have hO2 := hide ho2
      obtain ⟨ad2', cap2', rfl, _⟩ := OwnI.rd (unhide hO2)
      clear hu2 hb2 ho2 hsz2 c0 c1 c2 c3 c4 c5 r0 r1 r2 r3 r4 z0 z1 z2 z3 z4 cl rl
      have i0 := (unhide hbi).1.2 0 _ rfl
      have i1 := (unhide hbi).1.2 1 _ rfl
      have i2 := (unhide hbi).1.2 2 _ rfl
      have i3 := (unhide hbi).1.2 3 _ rfl
      have i4 := (unhide hbi).1.2 4 _ rfl
      have iz := (unhide hbi).2 4
      have r0 := (unhide hrs2).1.2 0 _ rfl
      have r1 := (unhide hrs2).1.2 1 _ rfl
      have r2 := (unhide hrs2).1.2 2 _ rfl
      have r3 := (unhide hrs2).1.2 3 _ rfl
      have r4 := (unhide hrs2).1.2 4 _ rfl
      have z0 := (unhide hrs2).2 0
      have z1 := (unhide hrs2).2 1
      have z2 := (unhide hrs2).2 2
      have z3 := (unhide hrs2).2 3
      have z4 := (unhide hrs2).2 4
      go_wp2
      refine bodyPost_ret (v := .agg #[.int .i64 a, .int .i64 b, .int .i64 p, .int .i64 dp, .slice ad2' zs.length cap2']) (by simp [results, Tryd.results20, go_sem, r0, r1, r2, r3, r4]) rfl ⟨_, rfl, ?_, Upd.of_below ?_ 0 0⟩
      · rw [unhide hE]
        refine ⟨_, rfl, own_mono ((((((unhide hO2).set' (c := w1.heap.size) (by omega) 4 _).set' (c := w.heap.size + 1) (by omega) 0 _).set' (c := w.heap.size + 1) (by omega) 1 _).set' (c := w.heap.size + 1) (by omega) 2 _).set' (c := w.heap.size + 1) (by omega) 3 _ |>.set' (c := w.heap.size + 1) (by omega) 4 _) (by omega) (by simp)⟩
      · exact (((((((unhide hb3).setCell (p := ⟨w1.heap.size, 4, none⟩) (by simp; omega) _).setCell (p := ⟨w.heap.size + 1, 0, none⟩) (by simp) _).setCell (p := ⟨w.heap.size + 1, 1, none⟩) (by simp) _).setCell (p := ⟨w.heap.size + 1, 2, none⟩) (by simp) _).setCell (p := ⟨w.heap.size + 1, 3, none⟩) (by simp) _).setCell (p := ⟨w.heap.size + 1, 4, none⟩) (by simp) _)
    · have hE := hide (coloursF_pal hgd h0)
      have q : ((zp.length : Int) == 0) = false := beq_eq_false_iff_ne.2 (by omega)
      have hin : Hid (∀ k, k < zs.length → 0 ≤ zs.getD k 0 ∧ zs.getD k 0 < (zp.length : Int)) := hide (fun k hk => ⟨(hgd.1.2.2 k hk).1, (hgd.2.2.1 (by show 0 < zp.length; omega)).2.2 k hk⟩)
      have hcol : Hid (∀ k, k < zp.length → 0 ≤ zp.getD k 0 ∧ zp.getD k 0 ≤ 16777215) := hide hgd.2.1.2
      have hzp : zp.length ≤ 256 := hgd.2.1.1
      replace hgd := hide hgd
      have hb2 := (unhide hB0).alloc (unhide hB0).size (.cells #[.int .i64 a, .int .i64 b, .int .i64 3, .int .i64 8, .slice none 0 0] 30)
      have hu2 : Upd 0 0 w1 (w1.alloc (.cells #[.int .i64 a, .int .i64 b, .int .i64 3, .int .i64 8, .slice none 0 0] 30)) := Upd.of_below ((Below.refl w1.heap.size w1).alloc (Nat.le_refl _) _) 0 0
      have hbo := heldF_new w1 (imcC a b 3 8 (.slice none 0 0)) 30
      have hbx2 := hide ((unhide hbx).keep hu2)
      have hrs2 := hide ((unhide hrs).keep hu2)
      have hs2 : (w1.alloc (.cells #[.int .i64 a, .int .i64 b, .int .i64 3, .int .i64 8, .slice none 0 0] 30)).heap.size = w1.heap.size + 1 := by simp
      replace hbo := hide hbo
      replace hb2 := hide hb2
      clear hu2
      go_wp2_with fail
      change Hid (HeldF (w1.alloc (.cells #[.int .i64 a, .int .i64 b, .int .i64 3, .int .i64 8, .slice none 0 0] 30)) _ _) at hbo
      clear c0 c1 c2 c3 c4 c5 r0 r1 r2 r3 r4 z0 z1 z2 z3 z4 cl rl hbx hrs
      generalize (w1.alloc (.cells #[.int .i64 a, .int .i64 b, .int .i64 3, .int .i64 8, .slice none 0 0] 30)) = w2 at hb2 hbo hbx2 hrs2 hs2 ⊢
      go_loopw [29] (fun i wx => ∃ (k : Nat) (v : Value), k ≤ zs.length ∧ i = .int .i64 k ∧ HeldF wx w1.heap.size (imcC a b 3 8 v) ∧ wx.ownsRow (w1.heap.size + 1) 3 1 v (colTo zs zp k).length (ints (colTo zs zp k)) ∧ Below w1.heap.size w2 wx) (fun i _ => zs.length - (intOf i).toNat)
      case atStart => exact ⟨0, .slice none 0 0, Nat.zero_le _, rfl, unhide hbo, World.ownsRow_nil _ _ _ _, Below.refl _ _⟩
      case round =>
        obtain ⟨k, v, hk, rfl, hbo2, hown, hbel⟩ := hrel
        have huw : Upd w1.heap.size wr.heap.size w2 wr := ⟨hbel.os, hbel.tape, hbel.output, hbel.size, fun j hj hn => hbel.block j (by have := hbel.size; omega)⟩
        have hbx3 := (unhide hbx2).upd huw (.inl (by omega))
        have hrs3 := hide ((unhide hrs2).upd huw (.inl (by omega)))
        have hb3 := below_upd (unhide hb2) huw (Nat.le_refl _) (.inl (by omega))
        have hszw := hbel.size
        have c5 := hbx3.1.2 5 _ rfl
        have cl := hbx3.1.1
        by_cases hlt : k < zs.length
        · obtain ⟨s0, s1⟩ := unhide hin k hlt
          obtain ⟨n, hnk⟩ := Int.eq_ofNat_of_zero_le s0
          obtain ⟨b', off', rfl, hbl, hcc⟩ := (unhide hA0) (ne_of_lt_length hlt)
          have hck := (hb3.cell (p := ⟨b', off' + k, none⟩) (by simpa using hbl)).trans (hcc k hlt)
          rw [hnk] at hck s1
          have hn1 : n < zp.length := by omega
          obtain ⟨b2, off2, rfl, hbl2, hcc2⟩ := (unhide hA1) (ne_of_lt_length hn1)
          have hck2 := (hb3.cell (p := ⟨b2, off2 + n, none⟩) (by simpa using hbl2)).trans (hcc2 n hn1)
          obtain ⟨k0, k1⟩ := unhide hcol n hn1
          have hsu := colTo_succ zs zp k hlt
          rw [hnk, Int.toNat_natCast] at hsu
          replace hsu := hide hsu
          have hln := colTo_len zs zp k hk
          generalize zp.getD n 0 = c at hck2 k0 k1 hsu
          have a1 := (col_and c).1
          have a2 := (col_and c).2
          have o4 := hbo2.1.2 4 _ rfl
          have oz := hbo2.2 4
          have ol := hbo2.1.1
          have hrn := hide (show RdJ (wr.alloc (.cells #[.int .i64 (c / 65536), .int .i64 (c / 256 % 256), .int .i64 (c % 256)] 3)) (.slice (some ⟨wr.heap.size, 0, none⟩) 3 3) (colB c) from .inr ⟨wr.heap.size, 0, 3, rfl, by simp, fun j hj => by
            rw [World.cell?_alloc_at _ _ _ _ rfl, Nat.zero_add]
            match j, hj with
            | 0, _ => rfl
            | 1, _ => rfl
            | 2, _ => rfl⟩)
          have hown2 := hide (hown.alloc (.cells #[.int .i64 (c / 65536), .int .i64 (c / 256 % 256), .int .i64 (c % 256)] 3))
          have hbo3 := hide (hbo2.keep (Upd.of_below ((Below.refl wr.heap.size wr).alloc (Nat.le_refl _) (.cells #[.int .i64 (c / 65536), .int .i64 (c / 256 % 256), .int .i64 (c % 256)] 3)) 0 0))
          have hbel3 := hide (hbel.alloc (by omega) (.cells #[.int .i64 (c / 65536), .int .i64 (c / 256 % 256), .int .i64 (c % 256)] 3))
          obtain ⟨cz, hcz⟩ : ∃ cz, colTo zs zp k = cz := ⟨_, rfl⟩
          rw [hcz] at hown2 hsu hln
          replace hcz := hide hcz
          clear hbx3 hb3 hcc hcc2 hbl hbl2 hown hbo2 hbel huw hnk s0
          replace hln := hide hln
          go_wp2_with (at_builtin; go_loud (refine wpList_appI rfl (.tmp 39) (.tmp 47) rfl (w1.heap.size + 1) v cz rfl (unhide hown2) _ (colB c) rfl (unhide hrn) (by have := unhide hln; simp [colB]; omega) (by simp; omega) ?_))
          intro v4 w4 ho4 hg4 _
          have hu4 := upd_of_grownI hg4 (unhide hown2)
          have hb4 := (unhide hbel3).trans (hu4.below (by simp; omega) (.inl (by omega)))
          have hbo4 := (unhide hbo3).upd hu4 (.inl (Nat.le_refl _))
          have o4' := hbo4.1.2 4 _ rfl
          have oz' := hbo4.2 4
          have ho5 : w4.ownsRow (w1.heap.size + 1) 3 1 v4 (cz ++ colB c).length (ints (cz ++ colB c)) := by rw [List.length_append]; exact ho4
          rw [← unhide hsu] at ho5
          obtain ⟨dz, hdz⟩ : ∃ dz, colTo zs zp (k + 1) = dz := ⟨_, rfl⟩
          rw [hdz] at ho5
          obtain ⟨ad4, cap4, rfl, _⟩ := OwnI.rd (Own.of ho5)
          have hbo5 := hide (hbo4.set 4 (.slice ad4 dz.length cap4) (by simp))
          have ho6 := hide (Own.set' (Own.of ho5) (c := w1.heap.size) (by omega) 4 (.slice ad4 dz.length cap4)).1
          have hb5 := hide (hb4.setCell (p := ⟨w1.heap.size, 4, none⟩) (by simp) (.slice ad4 dz.length cap4))
          have ho7 : Hid ((w4.setCell ⟨w1.heap.size, 4, none⟩ (.slice ad4 dz.length cap4)).ownsRow (w1.heap.size + 1) 3 1 (.slice ad4 dz.length cap4) (colTo zs zp (k + 1)).length (ints (colTo zs zp (k + 1)))) := hide (by rw [hdz]; exact unhide ho6)
          clear ho6
          replace hdz := hide hdz
          clear hu4 hb4 hbo4 ho5 ho4 hg4 o4 oz ol hown2 hbo3 hbel3 hrn
          go_wp2
          go_roundw
          case rel => exact ⟨k + 1, _, by omega, by go_num, unhide hbo5, unhide ho7, unhide hb5⟩
          case measure => simp [intOf]; omega
        · have hkl : k = zs.length := by omega
          subst hkl
          obtain ⟨cz, hcz⟩ : ∃ cz, colTo zs zp zs.length = cz := ⟨_, rfl⟩
          change Hid (coloursF ((a, b, p, dp, zs), zp, ps, wv) = (a, b, 3, 8, colTo zs zp zs.length)) at hE
          rw [hcz] at hown hE
          clear hcz
          have hO := hide (Own.of hown)
          obtain ⟨ad3, cap3, rfl, _⟩ := OwnI.rd (unhide hO)
          have o0 := hbo2.1.2 0 _ rfl
          have o1 := hbo2.1.2 1 _ rfl
          have o2 := hbo2.1.2 2 _ rfl
          have o3 := hbo2.1.2 3 _ rfl
          have o4 := hbo2.1.2 4 _ rfl
          have r0 := (unhide hrs3).1.2 0 _ rfl
          have r1 := (unhide hrs3).1.2 1 _ rfl
          have r2 := (unhide hrs3).1.2 2 _ rfl
          have r3 := (unhide hrs3).1.2 3 _ rfl
          have r4 := (unhide hrs3).1.2 4 _ rfl
          have z0 := (unhide hrs3).2 0
          have z1 := (unhide hrs3).2 1
          have z2 := (unhide hrs3).2 2
          have z3 := (unhide hrs3).2 3
          have z4 := (unhide hrs3).2 4
          replace hb3 := hide hb3
          clear hown hbo2 hbel huw hbx3
          go_wp2
          refine bodyPost_ret (v := .agg #[.int .i64 a, .int .i64 b, .int .i64 3, .int .i64 8, .slice ad3 cz.length cap3]) (by simp [results, Tryd.results20, go_sem, r0, r1, r2, r3, r4]) rfl ⟨_, rfl, ?_, Upd.of_below ?_ 0 0⟩
          · rw [unhide hE]
            refine ⟨_, rfl, own_mono (((((unhide hO).set' (c := w.heap.size + 1) (by omega) 0 _).set' (c := w.heap.size + 1) (by omega) 1 _).set' (c := w.heap.size + 1) (by omega) 2 _).set' (c := w.heap.size + 1) (by omega) 3 _ |>.set' (c := w.heap.size + 1) (by omega) 4 _) (by omega) (by simp)⟩
          · exact ((((((unhide hb3).setCell (p := ⟨w.heap.size + 1, 0, none⟩) (by simp) _).setCell (p := ⟨w.heap.size + 1, 1, none⟩) (by simp) _).setCell (p := ⟨w.heap.size + 1, 2, none⟩) (by simp) _).setCell (p := ⟨w.heap.size + 1, 3, none⟩) (by simp) _).setCell (p := ⟨w.heap.size + 1, 4, none⟩) (by simp) _)
  · rw [pB_no hgd]
    have hE := hide (coloursF_no hgd)
    go_wp2_with fail
    refine bodyPost_ret (v := .agg #[.int .i64 0, .int .i64 0, .int .i64 0, .int .i64 0, .slice none 0 0]) (by simp [results, Tryd.results20, go_sem, r0, r1, r2, r3, r4]) rfl ⟨_, rfl, ?_, Upd.of_below ?_ 0 0⟩
    · rw [unhide hE]; exact ⟨_, rfl, own_nilI _ _ _⟩
    · exact ((((((unhide hB0).setCell (p := ⟨w.heap.size + 1, 0, none⟩) (by simp) _).setCell (p := ⟨w.heap.size + 1, 1, none⟩) (by simp) _).setCell (p := ⟨w.heap.size + 1, 2, none⟩) (by simp) _).setCell (p := ⟨w.heap.size + 1, 3, none⟩) (by simp) _).setCell (p := ⟨w.heap.size + 1, 4, none⟩) (by simp) _)
end Go.Proofs.YthpkngipiapbpaaDoor

/- The texts by which the laws mark: what they are. -/
namespace Go.Proofs.YthpkngipiapbpaaDoor
open Go.RowKit

def digs (k : Nat) : List UInt8 := if _h : k = 0 then [] else digs (k / 10) ++ [UInt8.ofNat (48 + k % 10)]
termination_by k
decreasing_by omega
theorem digs_pos {k : Nat} (h : 0 < k) : digs k = digs (k / 10) ++ [UInt8.ofNat (48 + k % 10)] := by
  rw [digs]; rw [dif_neg (by omega)]
theorem digs_zero : digs 0 = [] := by rw [digs]; rfl
def mkText (k : Nat) : List UInt8 := if k = 0 then [109, 48] else 109 :: digs k
theorem digs_len (n : Nat) : ∀ k, k < 10 ^ n → (digs k).length ≤ n := by
  induction n with
  | zero => intro k hk; have : k = 0 := by simpa using hk
            subst this; rw [digs_zero]; simp
  | succ n ih =>
    intro k hk
    rcases Nat.eq_zero_or_pos k with h | h
    · subst h; rw [digs_zero]; simp
    · rw [digs_pos h, List.length_append]
      have : k / 10 < 10 ^ n := by rw [Nat.div_lt_iff_lt_mul (by omega)]; rw [Nat.pow_succ] at hk; exact hk
      have := ih _ this
      simp; omega

set_option maxHeartbeats 2000000 in
set_option maxRecDepth 100000 in
theorem markText_eq (k : Nat) (w : World) (hk : k ≤ 1099511627776) :
    Calls Tryd.prog 73 #[.int .i64 k] w fun e w' => ∃ s, e = .returned (.string s) ∧ s.data.toList = mkText k ∧ Upd 0 0 w w' := by
  by_cases h0 : k = 0
  · subst h0
    go_enter Tryd.func73, Tryd.ntmps73
    go_wp2
    go_ret
    exact ⟨_, rfl, rfl, Upd.refl _ _ _⟩
  · have hpos : (0 : Int) < k := by omega
    have hlen := digs_len 13 k (by omega)
    have hlen' := hide hlen
    go_enter Tryd.func73, Tryd.ntmps73
    go_wp2
    go_loopw [0, 3] (fun a o wr => ∃ (m : Nat) (s : ByteArray), a = .int .i64 m ∧ o = .string s ∧ m ≤ k ∧ Hid (digs m ++ s.data.toList = digs k) ∧ Below w.heap.size w wr) (fun a _ _ => (intOf a).toNat)
    case atStart => exact ⟨k, ⟨#[]⟩, rfl, rfl, Nat.le_refl _, hide (by simp), Below.refl _ _⟩
    case round =>
      obtain ⟨m, s, rfl, rfl, hm, hd, hbel⟩ := hrel
      by_cases hz : 0 < m
      · have hz' : (0 : Int) < m := by omega
        have hds := hide (digs_pos hz)
        obtain ⟨r, hr, r10⟩ : ∃ r : Nat, m % 10 = r ∧ r < 10 := ⟨_, rfl, by omega⟩
        obtain ⟨q, hq, hqm⟩ : ∃ q : Nat, m / 10 = q ∧ q < m := ⟨_, rfl, by omega⟩
        rw [hr, hq] at hds
        have hr' : ((m : Int) % 10) = (r : Int) := by omega
        have hq' : ((m : Int) / 10) = (q : Int) := by omega
        replace hr := hide hr
        replace hq := hide hq
        have hsz : s.size ≤ 13 := by
          have h1 := congrArg List.length (unhide hd)
          rw [List.length_append] at h1
          have : s.data.toList.length = s.size := by simp
          have := unhide hlen'; omega
        obtain ⟨c, hc⟩ : ∃ c : ByteArray, (⟨[UInt8.ofNat (48 + r)].toArray⟩ : ByteArray) = c := ⟨_, rfl⟩
        have hcs : c.size = 1 := by rw [← hc]; rfl
        have hcl : Hid (c.data.toList = [UInt8.ofNat (48 + r)]) := hide (by rw [← hc])
        have hconv : (convert 37 9 (.slice (some ⟨wr.heap.size, 0, none⟩) 1 1)).run Tryd.prog (wr.alloc (.cells #[.int .u8 (48 + (r : Int))] 5)) = .ok (.string c) (wr.alloc (.cells #[.int .u8 (48 + (r : Int))] 5)) := hc ▸ run_convert_bytes_back (P := Tryd.prog) (wr.alloc (.cells #[.int .u8 (48 + (r : Int))] 5)) 37 9 5 ⟨wr.heap.size, 0, none⟩ 1 [UInt8.ofNat (48 + r)] Tryd.underlying37 Tryd.underlying5 Tryd.underlying9 (fun j hj => by
          have : j = 0 := by simpa using hj
          subst this
          have e : (⟨wr.heap.size, 0, none⟩ : Addr).add 0 = ⟨wr.heap.size, 0, none⟩ := by simp [Addr.add]
          rw [e, World.cell?_alloc_at _ _ _ _ rfl]
          simp
          have : (48 + r) % 256 = 48 + r := by omega
          omega)
        have hb2 := hide (hbel.alloc hbel.size (.cells #[.int .u8 (48 + (r : Int))] 5))
        have hd2 : Hid (digs q ++ (c ++ s).data.toList = digs k) := hide (by rw [← unhide hd, unhide hds, List.append_assoc, ← unhide hcl]; simp)
        clear hc
        go_wp2_with fail
        go_roundw
        case rel => exact ⟨q, c ++ s, rfl, rfl, by omega, hd2, unhide hb2⟩
        case measure => simp [intOf]; omega
      · have hmz : m = 0 := by omega
        subst hmz
        have hd2 := unhide hd
        rw [digs_zero, List.nil_append] at hd2
        replace hd2 := hide hd2
        replace hbel := hide hbel
        have hsz : s.size ≤ 13 := by
          have h1 := congrArg List.length (unhide hd2)
          have : s.data.toList.length = s.size := by simp
          have := unhide hlen'; omega
        go_wp2_with fail
        go_ret
        refine ⟨_, rfl, ?_, Upd.of_below (unhide hbel) 0 0⟩
        unfold mkText; rw [if_neg h0, ← unhide hd2]; simp
end Go.Proofs.YthpkngipiapbpaaDoor

/- Lists of Notes: the walks of the laws' own marking of them. -/
namespace Go.Proofs.YthpkngipiapbpaaDoor
open Go.RowKit

def mkB (k : Nat) : ByteArray := ⟨(mkText k).toArray⟩
theorem mkB_of {s : ByteArray} {k : Nat} (h : s.data.toList = mkText k) : s = mkB k := by
  obtain ⟨⟨l⟩⟩ := s
  unfold mkB
  simp at h
  rw [h]
theorem markText_b (k : Nat) (w : World) (hk : k ≤ 1099511627776) :
    Calls Tryd.prog 73 #[.int .i64 k] w fun e w' => e = .returned (.string (mkB k)) ∧ Upd 0 0 w w' := by
  refine (markText_eq k w hk).mono ?_
  rintro e w' ⟨s, rfl, hs, hu⟩
  exact ⟨by rw [mkB_of hs], hu⟩
def marksNt (k n : Nat) : List Nt := (List.range n).map fun j => (mkB (k + 2 * j), mkB (k + 2 * j + 1))
@[simp] theorem marksNt_length (k n : Nat) : (marksNt k n).length = n := by simp [marksNt]
theorem marksNt_at (k n j : Nat) (h : j < n) : (marksNt k n).getD j Nt0 = (mkB (k + 2 * j), mkB (k + 2 * j + 1)) := by
  unfold marksNt; rw [List.getD_eq_getElem?_getD, List.getElem?_map, List.getElem?_range h]; rfl

theorem upd_wide {a b : Nat} {w w' : World} (h : Upd 0 0 w w') : Upd a b w w' := ⟨h.os, h.tape, h.output, h.size, fun k hk _ => h.block k hk (.inr (Nat.zero_le _))⟩

set_option maxHeartbeats 1000000 in
theorem markNoteS_none (k : Nat) (w : World) : Calls Tryd.prog 53 #[.slice none 0 0, .int .i64 k] w fun e w' => e = .returned (.int .i64 (k : Int)) ∧ w' = w := by
  go_enter Tryd.func53, Tryd.ntmps53
  go_wp2
  go_loop [1, 5] (fun a i => a = .int .i64 k ∧ i = .int .i64 0) (fun _ _ => 0)
  case atStart => exact ⟨rfl, rfl⟩
  case round =>
    obtain ⟨rfl, rfl⟩ := hrel
    go_wp2
    go_ret
    exact ⟨rfl, rfl⟩

set_option maxHeartbeats 4000000 in
theorem markNoteS_some (a g cap n k : Nat) (xs : List Value) (w : World) (hn : n ≤ 1048576) (hk : k ≤ 549755813888) (h : w.ownsRow a 58 2 (.slice (some ⟨g, 0, none⟩) n cap) n xs) :
    Calls Tryd.prog 53 #[.slice (some ⟨g, 0, none⟩) n cap, .int .i64 k] w fun e w' => e = .returned (.int .i64 ((k + 2 * n : Nat) : Int)) ∧ w'.ownsRow a 58 2 (.slice (some ⟨g, 0, none⟩) n cap) n (cellsNt (marksNt k n)) ∧ Upd g (g + 1) w w' := by
  go_enter Tryd.func53, Tryd.ntmps53
  go_wp2
  go_loopw [1, 5] (fun c i wr => ∃ t : Nat, ∃ ys, ∃ K : Nat, t ≤ n ∧ Hid (K = k + 2 * t) ∧ c = .int .i64 K ∧ i = .int .i64 t ∧ wr.ownsRow a 58 2 (.slice (some ⟨g, 0, none⟩) n cap) n ys ∧ Hid (RowNt ys (marksNt k n) t) ∧ Upd g (g + 1) w wr) (fun _ i _ => n - (intOf i).toNat)
  case atStart => exact ⟨0, xs, k, Nat.zero_le _, hide (by omega), rfl, rfl, h, hide (fun j hj => by omega), Upd.refl _ _ _⟩
  case round =>
    clear h
    obtain ⟨t, ys, K, ht, hK, rfl, rfl, hown, hrow, hupd⟩ := hrel
    have hlen : ys.length = n * 2 := hown.1
    by_cases hlt : t < n
    · have hK1 : K ≤ 1099511627770 := by have := unhide hK; omega
      have hT1 := hide (fun W => markText_b K W (by omega))
      have hT2 := hide (fun W => markText_b (K + 1) W (by omega))
      obtain ⟨s1, hs1⟩ : ∃ s, mkB K = s := ⟨_, rfl⟩
      obtain ⟨s2, hs2⟩ : ∃ s, mkB (K + 1) = s := ⟨_, rfl⟩
      rw [hs1] at hT1
      rw [hs2] at hT2
      have hrow2 : Hid (RowNt ((ys.set (t * 2) (.string s1)).set (t * 2 + 1) (.string s2)) (marksNt k n) (t + 1)) := by
        intro j hj
        by_cases e : j = t
        · subst e
          rw [marksNt_at k n j hlt, ← unhide hK, hs1, hs2]
          refine ⟨?_, ?_⟩
          · rw [List.getElem?_set_ne (by omega), List.getElem?_set_self (by omega)]
          · rw [List.getElem?_set_self (by simp; omega)]
        · have := unhide hrow j (by omega)
          refine ⟨?_, ?_⟩
          · rw [List.getElem?_set_ne (by omega), List.getElem?_set_ne (by omega)]; exact this.1
          · rw [List.getElem?_set_ne (by omega), List.getElem?_set_ne (by omega)]; exact this.2
      clear hs1 hs2 hrow
      replace hlen := hide hlen
      replace hown := hide (Own.of hown)
      replace hupd := hide hupd
      go_wp2_with fail
      refine (unhide hT1 _).mono ?_
      rintro e w1 ⟨rfl, hu1⟩
      have ho1 := (unhide hown).keep hu1
      have hp1 := (unhide hupd).trans (upd_wide hu1)
      clear hT1 hown hupd hu1
      have e0 : ∃ u, w1.cell? ⟨g, t * 2, none⟩ = some u := by rw [ho1.1.cellAt _ (by omega)]; exact ⟨_, List.getElem?_eq_getElem (by have := unhide hlen; omega)⟩
      obtain ⟨a0, e0⟩ := e0
      have f0 := ho1.1.frozenAt (t * 2)
      have ho2 := hide (Own.of (ho1.1.stored (t * 2) (.string s1)).1)
      have hp2 := hide (hp1.setCell (r := g) ⟨Nat.le_refl _, by omega⟩ (t * 2) (.string s1))
      clear ho1 hp1
      go_wp2_with fail
      generalize w1.setCell ⟨g, t * 2, none⟩ (.string s1) = w2 at ho2 hp2 ⊢
      refine (unhide hT2 _).mono ?_
      rintro e w3 ⟨rfl, hu1⟩
      have ho1 := (unhide ho2).keep hu1
      have hp1 := (unhide hp2).trans (upd_wide hu1)
      clear hT2 ho2 hp2 hu1 e0 f0
      have e0 : ∃ u, w3.cell? ⟨g, t * 2 + 1, none⟩ = some u := by rw [ho1.1.cellAt _ (by omega)]; exact ⟨_, List.getElem?_eq_getElem (by have := unhide hlen; simp; omega)⟩
      obtain ⟨a1, e0⟩ := e0
      have f0 := ho1.1.frozenAt (t * 2 + 1)
      have ho2 := hide (ho1.1.stored (t * 2 + 1) (.string s2)).1
      have hp2 := hide (hp1.setCell (r := g) ⟨Nat.le_refl _, by omega⟩ (t * 2 + 1) (.string s2))
      clear ho1 hp1
      go_wp2
      go_roundw
      case rel => exact ⟨t + 1, _, K + 2, by omega, hide (by have := unhide hK; omega), by go_num, by go_num, unhide ho2, hrow2, unhide hp2⟩
      case measure => simp [intOf]; omega
    · have htn : t = n := by omega
      subst htn
      have he := cellsNt_of (ps := marksNt k t) (by rw [marksNt_length]; exact hlen) (by rw [marksNt_length]; exact unhide hrow)
      rw [he] at hown
      replace hown := hide hown
      clear hrow he hlen
      have hKK := unhide hK
      subst hKK
      go_wp2
      go_ret
      exact ⟨rfl, unhide hown, hupd⟩
theorem markNoteS_own (a b : Nat) (v : Value) (k : Nat) (ps : List Nt) (w : World) (hn : ps.length ≤ 1048576) (hk : k ≤ 549755813888) (h : OwnNt w a b v ps) :
    Calls Tryd.prog 53 #[v, .int .i64 k] w fun e w' => e = .returned (.int .i64 ((k + 2 * ps.length : Nat) : Int)) ∧ OwnNt w' a b v (marksNt k ps.length) ∧ Upd a b w w' := by
  rcases h.1.2 with ⟨rfl, h0⟩ | ⟨g, cap, cur, rfl, h1, h2, h3⟩
  · refine (markNoteS_none k w).mono ?_
    rintro e w' ⟨rfl, rfl⟩
    rw [h0]
    exact ⟨rfl, ⟨World.ownsRow_nil _ _ _ _, fun k hk => by simp [Value.ownBlock] at hk⟩, Upd.refl _ _ _⟩
  · have hb := h.2 g rfl
    refine (markNoteS_some a g cap ps.length k _ w hn hk h.1).mono ?_
    rintro e w' ⟨rfl, ho, hu⟩
    refine ⟨rfl, ⟨?_, h.2⟩, ⟨hu.os, hu.tape, hu.output, hu.size, fun i hi hn => hu.block i hi (by omega)⟩⟩
    rw [marksNt_length]; exact ho
end Go.Proofs.YthpkngipiapbpaaDoor

/- Stills: the walk of the laws' own marking of them. -/
namespace Go.Proofs.YthpkngipiapbpaaDoor
open Go.RowKit

def StMarked (k : Nat) (d : St) : St := ((d.1.1, d.1.2.1, d.1.2.2.1, d.1.2.2.2.1, marks (k) d.1.2.2.2.2.length), marks (k + d.1.2.2.2.2.length) d.2.1.length, marksNt (k + d.1.2.2.2.2.length + d.2.1.length) d.2.2.1.length, d.2.2.2)
theorem own_clip {e : TypeId} {s : Nat} {w : World} {a b : Nat} {v : Value} {n : Nat} {xs : List Value} (h : Own e s w a b v n xs) : Own e s w a (min b w.heap.size) v n xs :=
  ⟨h.1, fun k hk => by have := h.2 k hk; have := (h.1.lt k hk).2; omega⟩
theorem upd_widen {a b : Nat} {w w' : World} (h : Upd 0 0 w w') : Upd a b w w' := ⟨h.os, h.tape, h.output, h.size, fun k hk _ => h.block k hk (.inr (Nat.zero_le _))⟩
theorem upd_narrow {a b c d : Nat} {w w' : World} (h : Upd c d w w') (h1 : a ≤ c) (h2 : d ≤ b) : Upd a b w w' := ⟨h.os, h.tape, h.output, h.size, fun k hk hn => h.block k hk (by omega)⟩

set_option maxHeartbeats 4000000 in
set_option maxRecDepth 100000 in
theorem markStill_own {w : World} {a b : Nat} {v : Value} {d : St} (k : Nat) (hL : StSize d ≤ 1048576) (hk : k ≤ 1073741824) (hv : OwnSt w a b v d) :
    Calls Tryd.prog 22 #[v, .int .i64 k] w fun e w' => e = .returned (.int .i64 ((k + StCount d : Nat) : Int)) ∧ OwnSt w' a b v (StMarked k d) ∧ Upd a b w w' := by
  obtain ⟨v0, v1, v2, a1, a2, rfl, hch, h0, h1, h2⟩ := hv
  obtain ⟨⟨x0, x1, x2, x3, zs0⟩, zs1, zs2, x4⟩ := d
  simp only [Stv, StSize, StCount, StMarked] at hL h0 h1 h2 ⊢
  have hn0 : zs0.length ≤ 1048576 := by omega
  have hn1 : zs1.length ≤ 1048576 := by omega
  have hn2 : zs2.length ≤ 1048576 := by unfold ntSize at hL; omega
  have hu0 : Upd 0 0 w (w.alloc (.cells #[.int .i64 x0, .int .i64 x1, .int .i64 x2, .int .i64 x3, v0, v1, v2, .bool x4] 33)) := Upd.of_below ((Below.refl w.heap.size w).alloc (Nat.le_refl _) (.cells #[.int .i64 x0, .int .i64 x1, .int .i64 x2, .int .i64 x3, v0, v1, v2, .bool x4] 33)) 0 0
  have hbx0 := heldF_new w [.int .i64 x0, .int .i64 x1, .int .i64 x2, .int .i64 x3, v0, v1, v2, .bool x4] 33
  replace h0 := hide ((own_clip h0).keep hu0)
  replace h1 := hide ((own_clip h1).keep hu0)
  replace h2 := hide ((own_clip h2).keep hu0)
  obtain ⟨ad0, cap0, hf0, _⟩ := OwnI.rd (unhide h0)
  subst hf0
  obtain ⟨ad1, cap1, hf1, _⟩ := OwnI.rd (unhide h1)
  subst hf1
  obtain ⟨ad2, cap2, hf2, _⟩ := OwnNt.rd (unhide h2)
  subst hf2
  have hU := hide (upd_widen (a := a) (b := b) hu0)
  go_enter Tryd.func22, Tryd.ntmps22
  go_wp2_with fail
  clear hu0
  generalize w.alloc (.cells #[.int .i64 x0, .int .i64 x1, .int .i64 x2, .int .i64 x3, .slice ad0 zs0.length cap0, .slice ad1 zs1.length cap1, .slice ad2 zs2.length cap2, .bool x4] 33) = w0 at hbx0 h0 h1 h2 hU ⊢
  have hbx := hide hbx0
  clear hbx0
  refine (markImage_own (a := a) (b := (min a1 w.heap.size)) (d := (x0, x1, x2, x3, zs0)) (k) hn0 (by omega) ⟨_, rfl, unhide h0⟩).mono ?_
  rintro e w1 ⟨rfl, ho, hu⟩
  replace hbx := hide ((unhide hbx).upd hu (by omega))
  replace h1 := hide ((unhide h1).upd hu (by omega))
  replace h2 := hide ((unhide h2).upd hu (by omega))
  obtain ⟨_, hfo, ho⟩ := ho
  have hfo2 := congrArg (fun v : Value => match v with | .agg c => c[4]? | _ => none) hfo
  simp at hfo2
  subst hfo2
  replace h0 := hide ho
  clear hfo
  replace hU := hide ((unhide hU).trans (upd_narrow hu (by omega) (by omega)))
  clear hu
  have cb0 := (unhide hbx).1.2 0 _ rfl
  have cb1 := (unhide hbx).1.2 1 _ rfl
  have cb2 := (unhide hbx).1.2 2 _ rfl
  have cb3 := (unhide hbx).1.2 3 _ rfl
  have cb4 := (unhide hbx).1.2 4 _ rfl
  have cb5 := (unhide hbx).1.2 5 _ rfl
  have cb6 := (unhide hbx).1.2 6 _ rfl
  have cb7 := (unhide hbx).1.2 7 _ rfl
  go_wp2_with fail
  clear cb0 cb1 cb2 cb3 cb4 cb5 cb6 cb7
  refine (markIntS_own a1 (min a2 w.heap.size) _ (k + zs0.length) _ w1 hn1 (by omega) (unhide h1)).mono ?_
  rintro e w2 ⟨rfl, ho, hu⟩
  replace hbx := hide ((unhide hbx).upd hu (by omega))
  replace h0 := hide ((unhide h0).upd hu (by omega))
  replace h2 := hide ((unhide h2).upd hu (by omega))
  replace h1 := hide ho
  replace hU := hide ((unhide hU).trans (upd_narrow hu (by omega) (by omega)))
  clear hu ho
  have cb0 := (unhide hbx).1.2 0 _ rfl
  have cb1 := (unhide hbx).1.2 1 _ rfl
  have cb2 := (unhide hbx).1.2 2 _ rfl
  have cb3 := (unhide hbx).1.2 3 _ rfl
  have cb4 := (unhide hbx).1.2 4 _ rfl
  have cb5 := (unhide hbx).1.2 5 _ rfl
  have cb6 := (unhide hbx).1.2 6 _ rfl
  have cb7 := (unhide hbx).1.2 7 _ rfl
  go_wp2_with fail
  clear cb0 cb1 cb2 cb3 cb4 cb5 cb6 cb7
  refine (markNoteS_own a2 (min b w.heap.size) _ (k + zs0.length + zs1.length) _ w2 hn2 (by omega) (unhide h2)).mono ?_
  rintro e w3 ⟨rfl, ho, hu⟩
  replace hbx := hide ((unhide hbx).upd hu (by omega))
  replace h0 := hide ((unhide h0).upd hu (by omega))
  replace h1 := hide ((unhide h1).upd hu (by omega))
  replace h2 := hide ho
  replace hU := hide ((unhide hU).trans (upd_narrow hu (by omega) (by omega)))
  clear hu ho
  have cb0 := (unhide hbx).1.2 0 _ rfl
  have cb1 := (unhide hbx).1.2 1 _ rfl
  have cb2 := (unhide hbx).1.2 2 _ rfl
  have cb3 := (unhide hbx).1.2 3 _ rfl
  have cb4 := (unhide hbx).1.2 4 _ rfl
  have cb5 := (unhide hbx).1.2 5 _ rfl
  have cb6 := (unhide hbx).1.2 6 _ rfl
  have cb7 := (unhide hbx).1.2 7 _ rfl
  go_wp2
  go_ret
  exact ⟨by first | rfl | exact ret_int (by omega), ⟨_, _, _, a1, a2, rfl, hch, own_mono (unhide h0) (Nat.le_refl _) (Nat.min_le_left _ _), own_mono (unhide h1) (Nat.le_refl _) (Nat.min_le_left _ _), own_mono (unhide h2) (Nat.le_refl _) (Nat.min_le_left _ _)⟩, unhide hU⟩
end Go.Proofs.YthpkngipiapbpaaDoor

/- The law on Colours, walked: what it calls is told by the walks of the specification and of the program. -/
namespace Go.Proofs.YthpkngipiapbpaaDoor
open Go.RowKit

set_option maxHeartbeats 1000000 in
theorem lawColours_long0 (d0 : St) (ad0_0 : Option Addr) (cap0_0 : Nat) (ad0_1 : Option Addr) (cap0_1 : Nat) (ad0_2 : Option Addr) (cap0_2 : Nat) (w : World) (hz0 : (d0.1.2.2.2.2.length ≤ 9223372036854775807 ∧ d0.2.1.length ≤ 9223372036854775807 ∧ d0.2.2.1.length ≤ 9223372036854775807))  (_hn0 : 1048576 < d0.1.2.2.2.2.length + d0.2.1.length + ntSize d0.2.2.1) (hA0_0 : ArgI w ad0_0 d0.1.2.2.2.2) (hA0_1 : ArgI w ad0_1 d0.2.1) (hA0_2 : ArgNt w ad0_2 d0.2.2.1) (hR0 : InSt d0) :
    Calls Tryd.prog 5 #[.agg #[.int .i64 d0.1.1, .int .i64 d0.1.2.1, .int .i64 d0.1.2.2.1, .int .i64 d0.1.2.2.2.1, .slice ad0_0 d0.1.2.2.2.2.length cap0_0, .slice ad0_1 d0.2.1.length cap0_1, .slice ad0_2 d0.2.2.1.length cap0_2, .bool d0.2.2.2]] w fun e w' => e = .returned (.bool true) ∧ Below w.heap.size w w' := by
  replace hA0_0 := hide hA0_0
  replace hA0_1 := hide hA0_1
  replace hA0_2 := hide hA0_2
  replace hR0 := hide hR0
  have hB := hide (Below.refl w.heap.size w)
  go_enter Tryd.func5, Tryd.ntmps5
  go_wp2_with fail
  have hu := Upd.of_below ((Below.refl w.heap.size w).alloc (Nat.le_refl _) (.cells #[.int .i64 d0.1.1, .int .i64 d0.1.2.1, .int .i64 d0.1.2.2.1, .int .i64 d0.1.2.2.2.1, .slice ad0_0 d0.1.2.2.2.2.length cap0_0, .slice ad0_1 d0.2.1.length cap0_1, .slice ad0_2 d0.2.2.1.length cap0_2, .bool d0.2.2.2] 27)) 0 0
  replace hB := hide (below_upd (unhide hB) hu (Nat.le_refl _) (.inr (Nat.le_refl _)))
  have hs1 : Hid (w.heap.size + 1 ≤ (w.alloc (.cells #[.int .i64 d0.1.1, .int .i64 d0.1.2.1, .int .i64 d0.1.2.2.1, .int .i64 d0.1.2.2.2.1, .slice ad0_0 d0.1.2.2.2.2.length cap0_0, .slice ad0_1 d0.2.1.length cap0_1, .slice ad0_2 d0.2.2.1.length cap0_2, .bool d0.2.2.2] 27)).heap.size) := hide (by simp)
  have cp0 := hide (held_new w [.int .i64 d0.1.1, .int .i64 d0.1.2.1, .int .i64 d0.1.2.2.1, .int .i64 d0.1.2.2.2.1, .slice ad0_0 d0.1.2.2.2.2.length cap0_0, .slice ad0_1 d0.2.1.length cap0_1, .slice ad0_2 d0.2.2.1.length cap0_2, .bool d0.2.2.2] 27)
  clear hu
  generalize w.alloc (.cells #[.int .i64 d0.1.1, .int .i64 d0.1.2.1, .int .i64 d0.1.2.2.1, .int .i64 d0.1.2.2.2.1, .slice ad0_0 d0.1.2.2.2.2.length cap0_0, .slice ad0_1 d0.2.1.length cap0_1, .slice ad0_2 d0.2.2.1.length cap0_2, .bool d0.2.2.2] 27) = w1 at  hB hs1 cp0 ⊢
  refine (szStill_any d0.1.1 d0.1.2.1 d0.1.2.2.1 d0.1.2.2.2.1 d0.1.2.2.2.2 d0.2.1 d0.2.2.1 d0.2.2.2 ad0_0 cap0_0 ad0_1 cap0_1 ad0_2 cap0_2 (1048576) w1 (by omega) (by omega) hz0.1 hz0.2.1 hz0.2.2 (unhide hR0).2.2 ((unhide hA0_2).below (unhide hB))).mono ?_
  rintro e w2 ⟨rfl, hu⟩
  replace cp0 := hide ((unhide cp0).keep hu)
  replace hB := hide (below_upd (unhide hB) hu (Nat.le_refl _) (.inr (Nat.le_refl _)))
  have hs2 : Hid (w1.heap.size ≤ w2.heap.size) := hide hu.size
  clear hu
  rw [if_pos (by omega)]
  go_wp2
  go_ret
  exact ⟨rfl, unhide hB⟩

set_option maxHeartbeats 4000000 in
set_option maxRecDepth 100000 in
theorem lawColours_short (d0 : St) (ad0_0 : Option Addr) (cap0_0 : Nat) (ad0_1 : Option Addr) (cap0_1 : Nat) (ad0_2 : Option Addr) (cap0_2 : Nat) (w : World) (hT : Held w 1 passCells) (hz0 : (d0.1.2.2.2.2.length ≤ 9223372036854775807 ∧ d0.2.1.length ≤ 9223372036854775807 ∧ d0.2.2.1.length ≤ 9223372036854775807)) (hn : d0.1.2.2.2.2.length + d0.2.1.length + ntSize d0.2.2.1 ≤ 1048576) (hA0_0 : ArgI w ad0_0 d0.1.2.2.2.2) (hA0_1 : ArgI w ad0_1 d0.2.1) (hA0_2 : ArgNt w ad0_2 d0.2.2.1) (hR0 : InSt d0) :
    Calls Tryd.prog 5 #[.agg #[.int .i64 d0.1.1, .int .i64 d0.1.2.1, .int .i64 d0.1.2.2.1, .int .i64 d0.1.2.2.2.1, .slice ad0_0 d0.1.2.2.2.2.length cap0_0, .slice ad0_1 d0.2.1.length cap0_1, .slice ad0_2 d0.2.2.1.length cap0_2, .bool d0.2.2.2]] w fun e w' => e = .returned (.bool true) ∧ Below w.heap.size w w' := by
  have hT0 := hide hT.1
  replace hT := hide hT
  have hn0 : (StSize d0 ≤ 1048576) := by unfold StSize; omega
  replace hA0_0 := hide hA0_0
  replace hA0_1 := hide hA0_1
  replace hA0_2 := hide hA0_2
  replace hR0 := hide hR0
  have hL := hide (coloursF_len d0)
  have hB := hide (Below.refl w.heap.size w)
  go_enter Tryd.func5, Tryd.ntmps5
  have hleft0 : (0 : Int) ≤ 1048576 := by omega
  go_wp2_with fail
  have hu := Upd.of_below ((Below.refl w.heap.size w).alloc (Nat.le_refl _) (.cells #[.int .i64 d0.1.1, .int .i64 d0.1.2.1, .int .i64 d0.1.2.2.1, .int .i64 d0.1.2.2.2.1, .slice ad0_0 d0.1.2.2.2.2.length cap0_0, .slice ad0_1 d0.2.1.length cap0_1, .slice ad0_2 d0.2.2.1.length cap0_2, .bool d0.2.2.2] 27)) 0 0
  replace hT := hide ((unhide hT).keep hu)
  replace hB := hide (below_upd (unhide hB) hu (Nat.le_refl _) (.inr (Nat.le_refl _)))
  have hs1 : Hid (w.heap.size + 1 ≤ (w.alloc (.cells #[.int .i64 d0.1.1, .int .i64 d0.1.2.1, .int .i64 d0.1.2.2.1, .int .i64 d0.1.2.2.2.1, .slice ad0_0 d0.1.2.2.2.2.length cap0_0, .slice ad0_1 d0.2.1.length cap0_1, .slice ad0_2 d0.2.2.1.length cap0_2, .bool d0.2.2.2] 27)).heap.size) := hide (by simp)
  have cp0 := hide (held_new w [.int .i64 d0.1.1, .int .i64 d0.1.2.1, .int .i64 d0.1.2.2.1, .int .i64 d0.1.2.2.2.1, .slice ad0_0 d0.1.2.2.2.2.length cap0_0, .slice ad0_1 d0.2.1.length cap0_1, .slice ad0_2 d0.2.2.1.length cap0_2, .bool d0.2.2.2] 27)
  clear hu
  generalize w.alloc (.cells #[.int .i64 d0.1.1, .int .i64 d0.1.2.1, .int .i64 d0.1.2.2.1, .int .i64 d0.1.2.2.2.1, .slice ad0_0 d0.1.2.2.2.2.length cap0_0, .slice ad0_1 d0.2.1.length cap0_1, .slice ad0_2 d0.2.2.1.length cap0_2, .bool d0.2.2.2] 27) = w1 at hT hB hs1 cp0 ⊢
  refine (szStill_any d0.1.1 d0.1.2.1 d0.1.2.2.1 d0.1.2.2.2.1 d0.1.2.2.2.2 d0.2.1 d0.2.2.1 d0.2.2.2 ad0_0 cap0_0 ad0_1 cap0_1 ad0_2 cap0_2 (1048576) w1 (by omega) (by omega) hz0.1 hz0.2.1 hz0.2.2 (unhide hR0).2.2 ((unhide hA0_2).below (unhide hB))).mono ?_
  rintro e w2 ⟨rfl, hu⟩
  replace hT := hide ((unhide hT).keep hu)
  replace cp0 := hide ((unhide cp0).keep hu)
  replace hB := hide (below_upd (unhide hB) hu (Nat.le_refl _) (.inr (Nat.le_refl _)))
  have hs2 : Hid (w1.heap.size ≤ w2.heap.size) := hide hu.size
  clear hu
  rw [if_neg (by omega)]
  have hleft0 : ¬ (1048576 - ((d0.1.2.2.2.2.length + d0.2.1.length + ntSize d0.2.2.1 : Nat) : Int) < 0) := by omega
  have kcp0_0 := (unhide cp0).2 0 _ rfl
  have kcp0_1 := (unhide cp0).2 1 _ rfl
  have kcp0_2 := (unhide cp0).2 2 _ rfl
  have kcp0_3 := (unhide cp0).2 3 _ rfl
  have kcp0_4 := (unhide cp0).2 4 _ rfl
  have kcp0_5 := (unhide cp0).2 5 _ rfl
  have kcp0_6 := (unhide cp0).2 6 _ rfl
  have kcp0_7 := (unhide cp0).2 7 _ rfl
  have kcp0_l := (unhide cp0).1
  go_wp2_with fail
  clear kcp0_0 kcp0_1 kcp0_2 kcp0_3 kcp0_4 kcp0_5 kcp0_6 kcp0_7 kcp0_l
  refine (toStill_own _ d0 w2 hn0 ⟨_, _, _, rfl, ⟨ad0_0, cap0_0, rfl, (unhide hA0_0).below (unhide hB)⟩, ⟨ad0_1, cap0_1, rfl, (unhide hA0_1).below (unhide hB)⟩, ⟨ad0_2, cap0_2, rfl, (unhide hA0_2).below (unhide hB)⟩⟩).mono ?_
  rintro e w3 ⟨vy0_w0, rfl, ho, hu⟩
  replace hT := hide ((unhide hT).keep hu)
  replace cp0 := hide ((unhide cp0).keep hu)
  replace hB := hide (below_upd (unhide hB) hu (Nat.le_refl _) (.inr (Nat.le_refl _)))
  have hs3 : Hid (w2.heap.size ≤ w3.heap.size) := hide hu.size
  have y0_w0 := hide ho
  clear hu ho
  go_wp2_with fail
  refine (specColours _ d0 w3  hn0 (unhide hR0) (OwnSt.rn (unhide y0_w0))).mono ?_
  rintro e w4 ⟨vr0, rfl, ho, hu⟩
  replace y0_w0 := hide ((unhide y0_w0).keep hu)
  replace hT := hide ((unhide hT).keep hu)
  replace cp0 := hide ((unhide cp0).keep hu)
  replace hB := hide (below_upd (unhide hB) hu (Nat.le_refl _) (.inr (Nat.le_refl _)))
  have hs4 : Hid (w3.heap.size ≤ w4.heap.size) := hide hu.size
  have r0 := hide ho
  clear hu ho
  obtain ⟨adr0_0, capr0_0, hvr0⟩ := OwnIm.form (unhide r0)
  subst hvr0
  clear y0_w0
  have kcp0_0 := (unhide cp0).2 0 _ rfl
  have kcp0_1 := (unhide cp0).2 1 _ rfl
  have kcp0_2 := (unhide cp0).2 2 _ rfl
  have kcp0_3 := (unhide cp0).2 3 _ rfl
  have kcp0_4 := (unhide cp0).2 4 _ rfl
  have kcp0_5 := (unhide cp0).2 5 _ rfl
  have kcp0_6 := (unhide cp0).2 6 _ rfl
  have kcp0_7 := (unhide cp0).2 7 _ rfl
  have kcp0_l := (unhide cp0).1
  go_wp2_with fail
  clear kcp0_0 kcp0_1 kcp0_2 kcp0_3 kcp0_4 kcp0_5 kcp0_6 kcp0_7 kcp0_l
  have hu := Upd.of_below ((Below.refl w4.heap.size w4).alloc (Nat.le_refl _) (.cells #[.int .i64 (coloursF d0).1, .int .i64 (coloursF d0).2.1, .int .i64 (coloursF d0).2.2.1, .int .i64 (coloursF d0).2.2.2.1, .slice adr0_0 (coloursF d0).2.2.2.2.length capr0_0] 30)) 0 0
  replace r0 := hide ((unhide r0).keep hu)
  replace hT := hide ((unhide hT).keep hu)
  replace cp0 := hide ((unhide cp0).keep hu)
  replace hB := hide (below_upd (unhide hB) hu (Nat.le_refl _) (.inr (Nat.le_refl _)))
  have hs5 : Hid (w4.heap.size + 1 ≤ (w4.alloc (.cells #[.int .i64 (coloursF d0).1, .int .i64 (coloursF d0).2.1, .int .i64 (coloursF d0).2.2.1, .int .i64 (coloursF d0).2.2.2.1, .slice adr0_0 (coloursF d0).2.2.2.2.length capr0_0] 30)).heap.size) := hide (by simp)
  have cr0 := hide (held_new w4 [.int .i64 (coloursF d0).1, .int .i64 (coloursF d0).2.1, .int .i64 (coloursF d0).2.2.1, .int .i64 (coloursF d0).2.2.2.1, .slice adr0_0 (coloursF d0).2.2.2.2.length capr0_0] 30)
  clear hu
  generalize w4.alloc (.cells #[.int .i64 (coloursF d0).1, .int .i64 (coloursF d0).2.1, .int .i64 (coloursF d0).2.2.1, .int .i64 (coloursF d0).2.2.2.1, .slice adr0_0 (coloursF d0).2.2.2.2.length capr0_0] 30) = w5 at r0 hT cp0 hB hs5 cr0 ⊢
  refine (toStill_own _ d0 w5 hn0 ⟨_, _, _, rfl, ⟨ad0_0, cap0_0, rfl, (unhide hA0_0).below (unhide hB)⟩, ⟨ad0_1, cap0_1, rfl, (unhide hA0_1).below (unhide hB)⟩, ⟨ad0_2, cap0_2, rfl, (unhide hA0_2).below (unhide hB)⟩⟩).mono ?_
  rintro e w6 ⟨vx0, rfl, ho, hu⟩
  replace r0 := hide ((unhide r0).keep hu)
  replace hT := hide ((unhide hT).keep hu)
  replace cp0 := hide ((unhide cp0).keep hu)
  replace cr0 := hide ((unhide cr0).keep hu)
  replace hB := hide (below_upd (unhide hB) hu (Nat.le_refl _) (.inr (Nat.le_refl _)))
  have hs6 : Hid (w5.heap.size ≤ w6.heap.size) := hide hu.size
  have x0 := hide ho
  clear hu ho
  obtain ⟨adx0_0, capx0_0, adx0_1, capx0_1, adx0_2, capx0_2, hvx0⟩ := OwnSt.form (unhide x0)
  subst hvx0
  go_wp2_with fail
  have hu := Upd.of_below ((Below.refl w6.heap.size w6).alloc (Nat.le_refl _) (.cells #[.int .i64 d0.1.1, .int .i64 d0.1.2.1, .int .i64 d0.1.2.2.1, .int .i64 d0.1.2.2.2.1, .slice adx0_0 d0.1.2.2.2.2.length capx0_0, .slice adx0_1 d0.2.1.length capx0_1, .slice adx0_2 d0.2.2.1.length capx0_2, .bool d0.2.2.2] 33)) 0 0
  replace r0 := hide ((unhide r0).keep hu)
  replace x0 := hide ((unhide x0).keep hu)
  replace hT := hide ((unhide hT).keep hu)
  replace cp0 := hide ((unhide cp0).keep hu)
  replace cr0 := hide ((unhide cr0).keep hu)
  replace hB := hide (below_upd (unhide hB) hu (Nat.le_refl _) (.inr (Nat.le_refl _)))
  have hs7 : Hid (w6.heap.size + 1 ≤ (w6.alloc (.cells #[.int .i64 d0.1.1, .int .i64 d0.1.2.1, .int .i64 d0.1.2.2.1, .int .i64 d0.1.2.2.2.1, .slice adx0_0 d0.1.2.2.2.2.length capx0_0, .slice adx0_1 d0.2.1.length capx0_1, .slice adx0_2 d0.2.2.1.length capx0_2, .bool d0.2.2.2] 33)).heap.size) := hide (by simp)
  have cx0 := hide (held_new w6 [.int .i64 d0.1.1, .int .i64 d0.1.2.1, .int .i64 d0.1.2.2.1, .int .i64 d0.1.2.2.2.1, .slice adx0_0 d0.1.2.2.2.2.length capx0_0, .slice adx0_1 d0.2.1.length capx0_1, .slice adx0_2 d0.2.2.1.length capx0_2, .bool d0.2.2.2] 33)
  clear hu
  generalize w6.alloc (.cells #[.int .i64 d0.1.1, .int .i64 d0.1.2.1, .int .i64 d0.1.2.2.1, .int .i64 d0.1.2.2.2.1, .slice adx0_0 d0.1.2.2.2.2.length capx0_0, .slice adx0_1 d0.2.1.length capx0_1, .slice adx0_2 d0.2.2.1.length capx0_2, .bool d0.2.2.2] 33) = w7 at r0 x0 hT cp0 cr0 hB hs7 cx0 ⊢
  refine (implColours _ d0 w7 (unhide hT) hn0 (unhide hR0) (OwnSt.rn (unhide x0))).mono ?_
  rintro e w8 ⟨vr1, rfl, ho, hu⟩
  replace r0 := hide ((unhide r0).keep hu)
  replace x0 := hide ((unhide x0).keep hu)
  replace hT := hide ((unhide hT).keep hu)
  replace cp0 := hide ((unhide cp0).keep hu)
  replace cr0 := hide ((unhide cr0).keep hu)
  replace cx0 := hide ((unhide cx0).keep hu)
  replace hB := hide (below_upd (unhide hB) hu (Nat.le_refl _) (.inr (Nat.le_refl _)))
  have hs8 : Hid (w7.heap.size ≤ w8.heap.size) := hide hu.size
  have r1 := hide ho
  clear hu ho
  obtain ⟨adr1_0, capr1_0, hvr1⟩ := OwnIm.form (unhide r1)
  subst hvr1
  have kcr0_0 := (unhide cr0).2 0 _ rfl
  have kcr0_1 := (unhide cr0).2 1 _ rfl
  have kcr0_2 := (unhide cr0).2 2 _ rfl
  have kcr0_3 := (unhide cr0).2 3 _ rfl
  have kcr0_4 := (unhide cr0).2 4 _ rfl
  have kcr0_l := (unhide cr0).1
  go_wp2_with fail
  clear kcr0_0 kcr0_1 kcr0_2 kcr0_3 kcr0_4 kcr0_l
  have hu := Upd.of_below ((Below.refl w8.heap.size w8).alloc (Nat.le_refl _) (.cells #[.int .i64 (coloursF d0).1, .int .i64 (coloursF d0).2.1, .int .i64 (coloursF d0).2.2.1, .int .i64 (coloursF d0).2.2.2.1, .slice adr1_0 (coloursF d0).2.2.2.2.length capr1_0] 30)) 0 0
  replace r0 := hide ((unhide r0).keep hu)
  replace x0 := hide ((unhide x0).keep hu)
  replace r1 := hide ((unhide r1).keep hu)
  replace hT := hide ((unhide hT).keep hu)
  replace cp0 := hide ((unhide cp0).keep hu)
  replace cr0 := hide ((unhide cr0).keep hu)
  replace cx0 := hide ((unhide cx0).keep hu)
  replace hB := hide (below_upd (unhide hB) hu (Nat.le_refl _) (.inr (Nat.le_refl _)))
  have hs9 : Hid (w8.heap.size + 1 ≤ (w8.alloc (.cells #[.int .i64 (coloursF d0).1, .int .i64 (coloursF d0).2.1, .int .i64 (coloursF d0).2.2.1, .int .i64 (coloursF d0).2.2.2.1, .slice adr1_0 (coloursF d0).2.2.2.2.length capr1_0] 30)).heap.size) := hide (by simp)
  have cr1 := hide (held_new w8 [.int .i64 (coloursF d0).1, .int .i64 (coloursF d0).2.1, .int .i64 (coloursF d0).2.2.1, .int .i64 (coloursF d0).2.2.2.1, .slice adr1_0 (coloursF d0).2.2.2.2.length capr1_0] 30)
  clear hu
  generalize w8.alloc (.cells #[.int .i64 (coloursF d0).1, .int .i64 (coloursF d0).2.1, .int .i64 (coloursF d0).2.2.1, .int .i64 (coloursF d0).2.2.2.1, .slice adr1_0 (coloursF d0).2.2.2.2.length capr1_0] 30) = w9 at r0 x0 r1 hT cp0 cr0 cx0 hB hs9 cr1 ⊢
  refine (eqImage_rd _ _ (coloursF d0) w9 (unhide hL) (OwnIm.rd (unhide r1)) (OwnIm.rd (unhide r0))).mono ?_
  rintro e w10 ⟨rfl, hu⟩
  replace r0 := hide ((unhide r0).keep hu)
  replace x0 := hide ((unhide x0).keep hu)
  replace r1 := hide ((unhide r1).keep hu)
  replace hT := hide ((unhide hT).keep hu)
  replace cp0 := hide ((unhide cp0).keep hu)
  replace cr0 := hide ((unhide cr0).keep hu)
  replace cx0 := hide ((unhide cx0).keep hu)
  replace cr1 := hide ((unhide cr1).keep hu)
  replace hB := hide (below_upd (unhide hB) hu (Nat.le_refl _) (.inr (Nat.le_refl _)))
  have hs10 : Hid (w9.heap.size ≤ w10.heap.size) := hide hu.size
  clear hu
  have kcx0_0 := (unhide cx0).2 0 _ rfl
  have kcx0_1 := (unhide cx0).2 1 _ rfl
  have kcx0_2 := (unhide cx0).2 2 _ rfl
  have kcx0_3 := (unhide cx0).2 3 _ rfl
  have kcx0_4 := (unhide cx0).2 4 _ rfl
  have kcx0_5 := (unhide cx0).2 5 _ rfl
  have kcx0_6 := (unhide cx0).2 6 _ rfl
  have kcx0_7 := (unhide cx0).2 7 _ rfl
  have kcx0_l := (unhide cx0).1
  have kcp0_0 := (unhide cp0).2 0 _ rfl
  have kcp0_1 := (unhide cp0).2 1 _ rfl
  have kcp0_2 := (unhide cp0).2 2 _ rfl
  have kcp0_3 := (unhide cp0).2 3 _ rfl
  have kcp0_4 := (unhide cp0).2 4 _ rfl
  have kcp0_5 := (unhide cp0).2 5 _ rfl
  have kcp0_6 := (unhide cp0).2 6 _ rfl
  have kcp0_7 := (unhide cp0).2 7 _ rfl
  have kcp0_l := (unhide cp0).1
  have hTo := hide (toStill_own _ d0 w10.drew hn0 ⟨_, _, _, rfl, ⟨ad0_0, cap0_0, rfl, (unhide hA0_0).below (below_drewN (unhide hB) 1)⟩, ⟨ad0_1, cap0_1, rfl, (unhide hA0_1).below (below_drewN (unhide hB) 1)⟩, ⟨ad0_2, cap0_2, rfl, (unhide hA0_2).below (below_drewN (unhide hB) 1)⟩⟩)
  go_wp2_with fail
  go_region_held3 (fun w' => w'.cell? ⟨w6.heap.size, 0, none⟩ = some (.int .i64 d0.1.1) ∧ w'.cell? ⟨w6.heap.size, 1, none⟩ = some (.int .i64 d0.1.2.1) ∧ w'.cell? ⟨w6.heap.size, 2, none⟩ = some (.int .i64 d0.1.2.2.1) ∧ w'.cell? ⟨w6.heap.size, 3, none⟩ = some (.int .i64 d0.1.2.2.2.1) ∧ w'.cell? ⟨w6.heap.size, 4, none⟩ = some (.slice adx0_0 d0.1.2.2.2.2.length capx0_0) ∧ w'.cell? ⟨w6.heap.size, 5, none⟩ = some (.slice adx0_1 d0.2.1.length capx0_1) ∧ w'.cell? ⟨w6.heap.size, 6, none⟩ = some (.slice adx0_2 d0.2.2.1.length capx0_2) ∧ w'.cell? ⟨w6.heap.size, 7, none⟩ = some (.bool d0.2.2.2) ∧ w'.cell? ⟨w.heap.size, 0, none⟩ = some (.int .i64 d0.1.1) ∧ w'.cell? ⟨w.heap.size, 1, none⟩ = some (.int .i64 d0.1.2.1) ∧ w'.cell? ⟨w.heap.size, 2, none⟩ = some (.int .i64 d0.1.2.2.1) ∧ w'.cell? ⟨w.heap.size, 3, none⟩ = some (.int .i64 d0.1.2.2.2.1) ∧ w'.cell? ⟨w.heap.size, 4, none⟩ = some (.slice ad0_0 d0.1.2.2.2.2.length cap0_0) ∧ w'.cell? ⟨w.heap.size, 5, none⟩ = some (.slice ad0_1 d0.2.1.length cap0_1) ∧ w'.cell? ⟨w.heap.size, 6, none⟩ = some (.slice ad0_2 d0.2.2.1.length cap0_2) ∧ w'.cell? ⟨w.heap.size, 7, none⟩ = some (.bool d0.2.2.2)) (first | (exact ⟨((hut.trans huf).none.cell kcx0_l).trans kcx0_0, ((hut.trans huf).none.cell kcx0_l).trans kcx0_1, ((hut.trans huf).none.cell kcx0_l).trans kcx0_2, ((hut.trans huf).none.cell kcx0_l).trans kcx0_3, ((hut.trans huf).none.cell kcx0_l).trans kcx0_4, ((hut.trans huf).none.cell kcx0_l).trans kcx0_5, ((hut.trans huf).none.cell kcx0_l).trans kcx0_6, ((hut.trans huf).none.cell kcx0_l).trans kcx0_7, ((hut.trans huf).none.cell kcp0_l).trans kcp0_0, ((hut.trans huf).none.cell kcp0_l).trans kcp0_1, ((hut.trans huf).none.cell kcp0_l).trans kcp0_2, ((hut.trans huf).none.cell kcp0_l).trans kcp0_3, ((hut.trans huf).none.cell kcp0_l).trans kcp0_4, ((hut.trans huf).none.cell kcp0_l).trans kcp0_5, ((hut.trans huf).none.cell kcp0_l).trans kcp0_6, ((hut.trans huf).none.cell kcp0_l).trans kcp0_7⟩) | (exact ⟨(hut.none.cell kcx0_l).trans kcx0_0, (hut.none.cell kcx0_l).trans kcx0_1, (hut.none.cell kcx0_l).trans kcx0_2, (hut.none.cell kcx0_l).trans kcx0_3, (hut.none.cell kcx0_l).trans kcx0_4, (hut.none.cell kcx0_l).trans kcx0_5, (hut.none.cell kcx0_l).trans kcx0_6, (hut.none.cell kcx0_l).trans kcx0_7, (hut.none.cell kcp0_l).trans kcp0_0, (hut.none.cell kcp0_l).trans kcp0_1, (hut.none.cell kcp0_l).trans kcp0_2, (hut.none.cell kcp0_l).trans kcp0_3, (hut.none.cell kcp0_l).trans kcp0_4, (hut.none.cell kcp0_l).trans kcp0_5, (hut.none.cell kcp0_l).trans kcp0_6, (hut.none.cell kcp0_l).trans kcp0_7⟩) | go_keep) (first | (go_at_call 8; refine (unhide hTo).mono ?_; rintro e wt ⟨vt, rfl, hot, hut⟩) | (go_at_call 10; refine (eqStill_rd _ _ d0 _ hn0 (OwnSt.rd (OwnSt.keep (unhide x0) (Upd.trans (Upd.drew1 _) hut))) (OwnSt.rd hot)).mono ?_; rintro e wf ⟨rfl, huf⟩))
  clear hTo kcx0_0 kcx0_1 kcx0_2 kcx0_3 kcx0_4 kcx0_5 kcx0_6 kcx0_7 kcx0_l kcp0_0 kcp0_1 kcp0_2 kcp0_3 kcp0_4 kcp0_5 kcp0_6 kcp0_7 kcp0_l
  have hu : Upd 0 0 w10 wf := (Upd.drew1 _).trans (hut.trans huf)
  clear hut hot huf
  replace r0 := hide ((unhide r0).keep hu)
  replace x0 := hide ((unhide x0).keep hu)
  replace r1 := hide ((unhide r1).keep hu)
  replace hT := hide ((unhide hT).keep hu)
  replace cp0 := hide ((unhide cp0).keep hu)
  replace cr0 := hide ((unhide cr0).keep hu)
  replace cx0 := hide ((unhide cx0).keep hu)
  replace cr1 := hide ((unhide cr1).keep hu)
  replace hB := hide (below_upd (unhide hB) hu (Nat.le_refl _) (.inr (Nat.le_refl _)))
  have hs11 : Hid (w10.heap.size ≤ wf.heap.size) := hide hu.size
  clear hu
  generalize wf = w11 at r0 x0 r1 hT cp0 cr0 cx0 cr1 hB hs11 ⊢
  have kcx0_0 := (unhide cx0).2 0 _ rfl
  have kcx0_1 := (unhide cx0).2 1 _ rfl
  have kcx0_2 := (unhide cx0).2 2 _ rfl
  have kcx0_3 := (unhide cx0).2 3 _ rfl
  have kcx0_4 := (unhide cx0).2 4 _ rfl
  have kcx0_5 := (unhide cx0).2 5 _ rfl
  have kcx0_6 := (unhide cx0).2 6 _ rfl
  have kcx0_7 := (unhide cx0).2 7 _ rfl
  have kcx0_l := (unhide cx0).1
  go_wp2_with fail
  clear kcx0_0 kcx0_1 kcx0_2 kcx0_3 kcx0_4 kcx0_5 kcx0_6 kcx0_7 kcx0_l
  refine (markStill_own (1) hn0 (by omega) (unhide x0)).mono ?_
  rintro e w12 ⟨rfl, ho, hu⟩
  replace r0 := hide ((unhide r0).upd hu (by have := unhide hT0; have := unhide hs1; have := unhide hs2; have := unhide hs3; have := unhide hs4; have := unhide hs5; have := unhide hs6; have := unhide hs7; have := unhide hs8; have := unhide hs9; have := unhide hs10; have := unhide hs11; omega))
  replace r1 := hide ((unhide r1).upd hu (by have := unhide hT0; have := unhide hs1; have := unhide hs2; have := unhide hs3; have := unhide hs4; have := unhide hs5; have := unhide hs6; have := unhide hs7; have := unhide hs8; have := unhide hs9; have := unhide hs10; have := unhide hs11; omega))
  replace hT := hide ((unhide hT).upd hu (by have := unhide hT0; have := unhide hs1; have := unhide hs2; have := unhide hs3; have := unhide hs4; have := unhide hs5; have := unhide hs6; have := unhide hs7; have := unhide hs8; have := unhide hs9; have := unhide hs10; have := unhide hs11; omega))
  replace cp0 := hide ((unhide cp0).upd hu (by have := unhide hT0; have := unhide hs1; have := unhide hs2; have := unhide hs3; have := unhide hs4; have := unhide hs5; have := unhide hs6; have := unhide hs7; have := unhide hs8; have := unhide hs9; have := unhide hs10; have := unhide hs11; omega))
  replace cr0 := hide ((unhide cr0).upd hu (by have := unhide hT0; have := unhide hs1; have := unhide hs2; have := unhide hs3; have := unhide hs4; have := unhide hs5; have := unhide hs6; have := unhide hs7; have := unhide hs8; have := unhide hs9; have := unhide hs10; have := unhide hs11; omega))
  replace cx0 := hide ((unhide cx0).upd hu (by have := unhide hT0; have := unhide hs1; have := unhide hs2; have := unhide hs3; have := unhide hs4; have := unhide hs5; have := unhide hs6; have := unhide hs7; have := unhide hs8; have := unhide hs9; have := unhide hs10; have := unhide hs11; omega))
  replace cr1 := hide ((unhide cr1).upd hu (by have := unhide hT0; have := unhide hs1; have := unhide hs2; have := unhide hs3; have := unhide hs4; have := unhide hs5; have := unhide hs6; have := unhide hs7; have := unhide hs8; have := unhide hs9; have := unhide hs10; have := unhide hs11; omega))
  replace hB := hide (below_upd (unhide hB) hu (Nat.le_refl _) (by have := unhide hT0; have := unhide hs1; have := unhide hs2; have := unhide hs3; have := unhide hs4; have := unhide hs5; have := unhide hs6; have := unhide hs7; have := unhide hs8; have := unhide hs9; have := unhide hs10; have := unhide hs11; omega))
  replace x0 := hide ho
  have hs12 : Hid (w11.heap.size ≤ w12.heap.size) := hide hu.size
  clear hu ho
  have hk0 : ¬ (((1 + StCount d0 : Nat) : Int) < 0) := by omega
  have kcr1_0 := (unhide cr1).2 0 _ rfl
  have kcr1_1 := (unhide cr1).2 1 _ rfl
  have kcr1_2 := (unhide cr1).2 2 _ rfl
  have kcr1_3 := (unhide cr1).2 3 _ rfl
  have kcr1_4 := (unhide cr1).2 4 _ rfl
  have kcr1_l := (unhide cr1).1
  have kcr0_0 := (unhide cr0).2 0 _ rfl
  have kcr0_1 := (unhide cr0).2 1 _ rfl
  have kcr0_2 := (unhide cr0).2 2 _ rfl
  have kcr0_3 := (unhide cr0).2 3 _ rfl
  have kcr0_4 := (unhide cr0).2 4 _ rfl
  have kcr0_l := (unhide cr0).1
  go_wp2_with fail
  clear kcr1_0 kcr1_1 kcr1_2 kcr1_3 kcr1_4 kcr1_l kcr0_0 kcr0_1 kcr0_2 kcr0_3 kcr0_4 kcr0_l
  refine (eqImage_rd _ _ (coloursF d0) w12 (unhide hL) (OwnIm.rd (unhide r1)) (OwnIm.rd (unhide r0))).mono ?_
  rintro e w13 ⟨rfl, hu⟩
  replace r0 := hide ((unhide r0).keep hu)
  replace x0 := hide ((unhide x0).keep hu)
  replace r1 := hide ((unhide r1).keep hu)
  replace hT := hide ((unhide hT).keep hu)
  replace cp0 := hide ((unhide cp0).keep hu)
  replace cr0 := hide ((unhide cr0).keep hu)
  replace cx0 := hide ((unhide cx0).keep hu)
  replace cr1 := hide ((unhide cr1).keep hu)
  replace hB := hide (below_upd (unhide hB) hu (Nat.le_refl _) (.inr (Nat.le_refl _)))
  have hs13 : Hid (w12.heap.size ≤ w13.heap.size) := hide hu.size
  clear hu
  clear x0
  have kcr1_0 := (unhide cr1).2 0 _ rfl
  have kcr1_1 := (unhide cr1).2 1 _ rfl
  have kcr1_2 := (unhide cr1).2 2 _ rfl
  have kcr1_3 := (unhide cr1).2 3 _ rfl
  have kcr1_4 := (unhide cr1).2 4 _ rfl
  have kcr1_l := (unhide cr1).1
  go_wp2_with fail
  clear kcr1_0 kcr1_1 kcr1_2 kcr1_3 kcr1_4 kcr1_l
  refine (markImage_own (1) (unhide hL) (by omega) (unhide r1)).mono ?_
  rintro e w14 ⟨rfl, ho, hu⟩
  replace r0 := hide ((unhide r0).upd hu (by have := unhide hT0; have := unhide hs1; have := unhide hs2; have := unhide hs3; have := unhide hs4; have := unhide hs5; have := unhide hs6; have := unhide hs7; have := unhide hs8; have := unhide hs9; have := unhide hs10; have := unhide hs11; have := unhide hs12; have := unhide hs13; omega))
  replace hT := hide ((unhide hT).upd hu (by have := unhide hT0; have := unhide hs1; have := unhide hs2; have := unhide hs3; have := unhide hs4; have := unhide hs5; have := unhide hs6; have := unhide hs7; have := unhide hs8; have := unhide hs9; have := unhide hs10; have := unhide hs11; have := unhide hs12; have := unhide hs13; omega))
  replace cp0 := hide ((unhide cp0).upd hu (by have := unhide hT0; have := unhide hs1; have := unhide hs2; have := unhide hs3; have := unhide hs4; have := unhide hs5; have := unhide hs6; have := unhide hs7; have := unhide hs8; have := unhide hs9; have := unhide hs10; have := unhide hs11; have := unhide hs12; have := unhide hs13; omega))
  replace cr0 := hide ((unhide cr0).upd hu (by have := unhide hT0; have := unhide hs1; have := unhide hs2; have := unhide hs3; have := unhide hs4; have := unhide hs5; have := unhide hs6; have := unhide hs7; have := unhide hs8; have := unhide hs9; have := unhide hs10; have := unhide hs11; have := unhide hs12; have := unhide hs13; omega))
  replace cx0 := hide ((unhide cx0).upd hu (by have := unhide hT0; have := unhide hs1; have := unhide hs2; have := unhide hs3; have := unhide hs4; have := unhide hs5; have := unhide hs6; have := unhide hs7; have := unhide hs8; have := unhide hs9; have := unhide hs10; have := unhide hs11; have := unhide hs12; have := unhide hs13; omega))
  replace cr1 := hide ((unhide cr1).upd hu (by have := unhide hT0; have := unhide hs1; have := unhide hs2; have := unhide hs3; have := unhide hs4; have := unhide hs5; have := unhide hs6; have := unhide hs7; have := unhide hs8; have := unhide hs9; have := unhide hs10; have := unhide hs11; have := unhide hs12; have := unhide hs13; omega))
  replace hB := hide (below_upd (unhide hB) hu (Nat.le_refl _) (by have := unhide hT0; have := unhide hs1; have := unhide hs2; have := unhide hs3; have := unhide hs4; have := unhide hs5; have := unhide hs6; have := unhide hs7; have := unhide hs8; have := unhide hs9; have := unhide hs10; have := unhide hs11; have := unhide hs12; have := unhide hs13; omega))
  replace r1 := hide ho
  have hs14 : Hid (w13.heap.size ≤ w14.heap.size) := hide hu.size
  clear hu ho
  have kcr1_0 := (unhide cr1).2 0 _ rfl
  have kcr1_1 := (unhide cr1).2 1 _ rfl
  have kcr1_2 := (unhide cr1).2 2 _ rfl
  have kcr1_3 := (unhide cr1).2 3 _ rfl
  have kcr1_4 := (unhide cr1).2 4 _ rfl
  have kcr1_l := (unhide cr1).1
  go_wp2_with fail
  clear kcr1_0 kcr1_1 kcr1_2 kcr1_3 kcr1_4 kcr1_l
  refine (heldImage_own 1 (unhide hL) (by omega) (unhide r1)).mono ?_
  rintro e w15 ⟨rfl, hu⟩
  replace r0 := hide ((unhide r0).keep hu)
  replace r1 := hide ((unhide r1).keep hu)
  replace hT := hide ((unhide hT).keep hu)
  replace cp0 := hide ((unhide cp0).keep hu)
  replace cr0 := hide ((unhide cr0).keep hu)
  replace cx0 := hide ((unhide cx0).keep hu)
  replace cr1 := hide ((unhide cr1).keep hu)
  replace hB := hide (below_upd (unhide hB) hu (Nat.le_refl _) (.inr (Nat.le_refl _)))
  have hs15 : Hid (w14.heap.size ≤ w15.heap.size) := hide hu.size
  clear hu
  have hq0 : ¬ (((1 + imCount (coloursF d0) : Nat) : Int) < 0) := by omega
  have kcp0_0 := (unhide cp0).2 0 _ rfl
  have kcp0_1 := (unhide cp0).2 1 _ rfl
  have kcp0_2 := (unhide cp0).2 2 _ rfl
  have kcp0_3 := (unhide cp0).2 3 _ rfl
  have kcp0_4 := (unhide cp0).2 4 _ rfl
  have kcp0_5 := (unhide cp0).2 5 _ rfl
  have kcp0_6 := (unhide cp0).2 6 _ rfl
  have kcp0_7 := (unhide cp0).2 7 _ rfl
  have kcp0_l := (unhide cp0).1
  go_wp2_with fail
  clear kcp0_0 kcp0_1 kcp0_2 kcp0_3 kcp0_4 kcp0_5 kcp0_6 kcp0_7 kcp0_l
  refine (toStill_own _ d0 w15 hn0 ⟨_, _, _, rfl, ⟨ad0_0, cap0_0, rfl, (unhide hA0_0).below (unhide hB)⟩, ⟨ad0_1, cap0_1, rfl, (unhide hA0_1).below (unhide hB)⟩, ⟨ad0_2, cap0_2, rfl, (unhide hA0_2).below (unhide hB)⟩⟩).mono ?_
  rintro e w16 ⟨vy0_h0, rfl, ho, hu⟩
  replace r0 := hide ((unhide r0).keep hu)
  replace r1 := hide ((unhide r1).keep hu)
  replace hT := hide ((unhide hT).keep hu)
  replace cp0 := hide ((unhide cp0).keep hu)
  replace cr0 := hide ((unhide cr0).keep hu)
  replace cx0 := hide ((unhide cx0).keep hu)
  replace cr1 := hide ((unhide cr1).keep hu)
  replace hB := hide (below_upd (unhide hB) hu (Nat.le_refl _) (.inr (Nat.le_refl _)))
  have hs16 : Hid (w15.heap.size ≤ w16.heap.size) := hide hu.size
  have y0_h0 := hide ho
  clear hu ho
  go_wp2_with fail
  refine (implColours _ d0 w16 (unhide hT) hn0 (unhide hR0) (OwnSt.rn (unhide y0_h0))).mono ?_
  rintro e w17 ⟨vr2, rfl, ho, hu⟩
  replace r0 := hide ((unhide r0).keep hu)
  replace r1 := hide ((unhide r1).keep hu)
  replace y0_h0 := hide ((unhide y0_h0).keep hu)
  replace hT := hide ((unhide hT).keep hu)
  replace cp0 := hide ((unhide cp0).keep hu)
  replace cr0 := hide ((unhide cr0).keep hu)
  replace cx0 := hide ((unhide cx0).keep hu)
  replace cr1 := hide ((unhide cr1).keep hu)
  replace hB := hide (below_upd (unhide hB) hu (Nat.le_refl _) (.inr (Nat.le_refl _)))
  have hs17 : Hid (w16.heap.size ≤ w17.heap.size) := hide hu.size
  have r2 := hide ho
  clear hu ho
  obtain ⟨adr2_0, capr2_0, hvr2⟩ := OwnIm.form (unhide r2)
  subst hvr2
  clear y0_h0
  have kcr0_0 := (unhide cr0).2 0 _ rfl
  have kcr0_1 := (unhide cr0).2 1 _ rfl
  have kcr0_2 := (unhide cr0).2 2 _ rfl
  have kcr0_3 := (unhide cr0).2 3 _ rfl
  have kcr0_4 := (unhide cr0).2 4 _ rfl
  have kcr0_l := (unhide cr0).1
  go_wp2_with fail
  clear kcr0_0 kcr0_1 kcr0_2 kcr0_3 kcr0_4 kcr0_l
  have hu := Upd.of_below ((Below.refl w17.heap.size w17).alloc (Nat.le_refl _) (.cells #[.int .i64 (coloursF d0).1, .int .i64 (coloursF d0).2.1, .int .i64 (coloursF d0).2.2.1, .int .i64 (coloursF d0).2.2.2.1, .slice adr2_0 (coloursF d0).2.2.2.2.length capr2_0] 30)) 0 0
  replace r0 := hide ((unhide r0).keep hu)
  replace r1 := hide ((unhide r1).keep hu)
  replace r2 := hide ((unhide r2).keep hu)
  replace hT := hide ((unhide hT).keep hu)
  replace cp0 := hide ((unhide cp0).keep hu)
  replace cr0 := hide ((unhide cr0).keep hu)
  replace cx0 := hide ((unhide cx0).keep hu)
  replace cr1 := hide ((unhide cr1).keep hu)
  replace hB := hide (below_upd (unhide hB) hu (Nat.le_refl _) (.inr (Nat.le_refl _)))
  have hs18 : Hid (w17.heap.size + 1 ≤ (w17.alloc (.cells #[.int .i64 (coloursF d0).1, .int .i64 (coloursF d0).2.1, .int .i64 (coloursF d0).2.2.1, .int .i64 (coloursF d0).2.2.2.1, .slice adr2_0 (coloursF d0).2.2.2.2.length capr2_0] 30)).heap.size) := hide (by simp)
  have cr2 := hide (held_new w17 [.int .i64 (coloursF d0).1, .int .i64 (coloursF d0).2.1, .int .i64 (coloursF d0).2.2.1, .int .i64 (coloursF d0).2.2.2.1, .slice adr2_0 (coloursF d0).2.2.2.2.length capr2_0] 30)
  clear hu
  generalize w17.alloc (.cells #[.int .i64 (coloursF d0).1, .int .i64 (coloursF d0).2.1, .int .i64 (coloursF d0).2.2.1, .int .i64 (coloursF d0).2.2.2.1, .slice adr2_0 (coloursF d0).2.2.2.2.length capr2_0] 30) = w18 at r0 r1 r2 hT cp0 cr0 cx0 cr1 hB hs18 cr2 ⊢
  refine (eqImage_rd _ _ (coloursF d0) w18 (unhide hL) (OwnIm.rd (unhide r2)) (OwnIm.rd (unhide r0))).mono ?_
  rintro e w19 ⟨rfl, hu⟩
  replace r0 := hide ((unhide r0).keep hu)
  replace r1 := hide ((unhide r1).keep hu)
  replace r2 := hide ((unhide r2).keep hu)
  replace hT := hide ((unhide hT).keep hu)
  replace cp0 := hide ((unhide cp0).keep hu)
  replace cr0 := hide ((unhide cr0).keep hu)
  replace cx0 := hide ((unhide cx0).keep hu)
  replace cr1 := hide ((unhide cr1).keep hu)
  replace cr2 := hide ((unhide cr2).keep hu)
  replace hB := hide (below_upd (unhide hB) hu (Nat.le_refl _) (.inr (Nat.le_refl _)))
  have hs19 : Hid (w18.heap.size ≤ w19.heap.size) := hide hu.size
  clear hu
  have kcr1_0 := (unhide cr1).2 0 _ rfl
  have kcr1_1 := (unhide cr1).2 1 _ rfl
  have kcr1_2 := (unhide cr1).2 2 _ rfl
  have kcr1_3 := (unhide cr1).2 3 _ rfl
  have kcr1_4 := (unhide cr1).2 4 _ rfl
  have kcr1_l := (unhide cr1).1
  go_wp2_with fail
  clear kcr1_0 kcr1_1 kcr1_2 kcr1_3 kcr1_4 kcr1_l
  refine (heldImage_own 1 (unhide hL) (by omega) (unhide r1)).mono ?_
  rintro e w20 ⟨rfl, hu⟩
  replace r0 := hide ((unhide r0).keep hu)
  replace r1 := hide ((unhide r1).keep hu)
  replace r2 := hide ((unhide r2).keep hu)
  replace hT := hide ((unhide hT).keep hu)
  replace cp0 := hide ((unhide cp0).keep hu)
  replace cr0 := hide ((unhide cr0).keep hu)
  replace cx0 := hide ((unhide cx0).keep hu)
  replace cr1 := hide ((unhide cr1).keep hu)
  replace cr2 := hide ((unhide cr2).keep hu)
  replace hB := hide (below_upd (unhide hB) hu (Nat.le_refl _) (.inr (Nat.le_refl _)))
  have hs20 : Hid (w19.heap.size ≤ w20.heap.size) := hide hu.size
  clear hu
  go_wp2_with fail
  go_ret
  exact ⟨rfl, unhide hB⟩

theorem lawColours (d0 : St) (ad0_0 : Option Addr) (cap0_0 : Nat) (ad0_1 : Option Addr) (cap0_1 : Nat) (ad0_2 : Option Addr) (cap0_2 : Nat) (w : World) (hT : Held w 1 passCells) (hz0 : (d0.1.2.2.2.2.length ≤ 9223372036854775807 ∧ d0.2.1.length ≤ 9223372036854775807 ∧ d0.2.2.1.length ≤ 9223372036854775807)) (hA0_0 : ArgI w ad0_0 d0.1.2.2.2.2) (hA0_1 : ArgI w ad0_1 d0.2.1) (hA0_2 : ArgNt w ad0_2 d0.2.2.1) (hR0 : InSt d0) :
    Calls Tryd.prog 5 #[.agg #[.int .i64 d0.1.1, .int .i64 d0.1.2.1, .int .i64 d0.1.2.2.1, .int .i64 d0.1.2.2.2.1, .slice ad0_0 d0.1.2.2.2.2.length cap0_0, .slice ad0_1 d0.2.1.length cap0_1, .slice ad0_2 d0.2.2.1.length cap0_2, .bool d0.2.2.2]] w fun e w' => e = .returned (.bool true) ∧ Below w.heap.size w w' := by
  by_cases h0 : 1048576 < d0.1.2.2.2.2.length + d0.2.1.length + ntSize d0.2.2.1
  · exact lawColours_long0 d0 ad0_0 cap0_0 ad0_1 cap0_1 ad0_2 cap0_2 w hz0 h0 hA0_0 hA0_1 hA0_2 hR0
  exact lawColours_short d0 ad0_0 cap0_0 ad0_1 cap0_1 ad0_2 cap0_2 w hT hz0 (by omega) hA0_0 hA0_1 hA0_2 hR0
end Go.Proofs.YthpkngipiapbpaaDoor

/- Opening an argument that is a byte string or a list of ints: what the form's reading of it says of cells. -/
namespace Go.Proofs.YthpkngipiapbpaaDoor
open Go.ChangeShapes Go.WideShapes Go.ChangeAt Go.RowKit

theorem Tryd.own : ownKnob Tryd.prog.godebug = none := by kernel_rfl
theorem Tryd.laidOut : laidOutB Tryd.prog = true := by kernel_rfl
theorem cellsY : Tryd.prog.cellsOf 5 = 1 := by kernel_rfl
theorem cellsI : Tryd.prog.cellsOf 3 = 1 := by kernel_rfl
theorem i64_of_wf {x : Int} (h : (Lit.int .i64 x).wf = true) : -9223372036854775808 ≤ x ∧ x ≤ 9223372036854775807 := by
  simp [Lit.wf, IntKind.min, IntKind.max, IntKind.signed, IntKind.bits] at h
  exact ⟨by omega, by omega⟩
theorem u64_of_wf {x : Int} (h : (Lit.int .u64 x).wf = true) : 0 ≤ x ∧ x ≤ 18446744073709551615 := by
  simp [Lit.wf, IntKind.min, IntKind.max, IntKind.signed, IntKind.bits] at h
  exact ⟨by omega, by omega⟩
theorem u8_of_wf {x : Int} (h : (Lit.int .u8 x).wf = true) : 0 ≤ x ∧ x < 256 := by
  simp [Lit.wf, IntKind.min, IntKind.max, IntKind.signed, IntKind.bits] at h
  exact ⟨by omega, by omega⟩

set_option maxRecDepth 100000 in
theorem open_byts {H : Type} {enc : TypeId × Value → H} {W : World} {base : Nat} {v : Value} {d : DataW H} {p : List MemPlace}
    (hv : Value.okWide Tryd.prog W .any base 37 v) (h0 : DataW.Trod enc Tryd.prog W 0 (fun _ => true) true 37 v d p) (hlt : ∀ x ∈ p, x.block < W.heap.size) :
    ∃ ad cap zs, v = .slice ad zs.length cap ∧ ArgY W ad zs ∧ InB zs := by
  obtain ⟨a0, len, cap, rfl⟩ := okWide_slice Tryd.underlying37 hv
  obtain ⟨fuel, hf⟩ := h0
  rcases open_ints Tryd.underlying37 Tryd.underlying5 cellsY hf with ⟨hcs, hx⟩ | ⟨a, len', cap', zs, hcs, _, hl, hm, hz, hx, hcell, hwz⟩
  · simp [Value.cells] at hcs
    obtain ⟨rfl, rfl, rfl⟩ := hcs
    exact ⟨none, 0, [], rfl, fun h => absurd rfl h, fun j => by simp⟩
  · simp [Value.cells] at hcs
    obtain ⟨rfl, rfl, rfl⟩ := hcs
    simp only [Prod.mk.injEq] at hx
    obtain ⟨rfl, rfl⟩ := hx
    simp only [if_true] at hz
    have hlen : (zs.take len).length = len := by rw [List.length_take]; omega
    have hget : ∀ j, j < len → (zs.take len).getD j 0 = zs.getD j 0 := fun j hj => by
      rw [List.getD_eq_getElem?_getD, List.getD_eq_getElem?_getD, List.getElem?_take, if_pos hj]
    refine ⟨some a, cap, zs.take len, by rw [hlen], ?_, ?_⟩
    · intro hne
      have hpos : 0 < len := by
        rcases Nat.eq_zero_or_pos len with h | h
        · subst h; simp at hne
        · exact h
      obtain ⟨b, off, spot⟩ := a
      have hspot : spot = none := by simpa [Addr.add] using World.cell?_spot (hcell 0 (by omega))
      subst hspot
      refine ⟨b, off, rfl, hlt (.cell b off) (MemPlace.mem_row.2 ⟨0, by omega, by simp⟩), fun j hj => ?_⟩
      rw [hget j (by omega), ← add_plain]
      exact hcell j (by omega)
    · intro j
      by_cases hj : j < len
      · rw [hget j hj, List.getD_eq_getElem?_getD, List.getElem?_eq_getElem (by omega)]
        exact u8_of_wf (hwz _ (List.getElem_mem _))
      · rw [List.getD_eq_getElem?_getD, List.getElem?_eq_none (by omega)]; simp

set_option maxRecDepth 100000 in
theorem open_intl {H : Type} {enc : TypeId × Value → H} {W : World} {base : Nat} {v : Value} {d : DataW H} {p : List MemPlace}
    (hv : Value.okWide Tryd.prog W .any base 22 v) (h0 : DataW.Trod enc Tryd.prog W 0 (fun _ => true) true 22 v d p) (hlt : ∀ x ∈ p, x.block < W.heap.size) :
    ∃ ad cap zs, v = .slice ad zs.length cap ∧ ArgI W ad zs ∧ InI zs := by
  obtain ⟨a0, len, cap, rfl⟩ := okWide_slice Tryd.underlying22 hv
  obtain ⟨fuel, hf⟩ := h0
  rcases open_ints Tryd.underlying22 Tryd.underlying3 cellsI hf with ⟨hcs, hx⟩ | ⟨a, len', cap', zs, hcs, _, hl, hm, hz, hx, hcell, hwz⟩
  · simp [Value.cells] at hcs
    obtain ⟨rfl, rfl, rfl⟩ := hcs
    exact ⟨none, 0, [], rfl, fun h => absurd rfl h, fun j => by simp⟩
  · simp [Value.cells] at hcs
    obtain ⟨rfl, rfl, rfl⟩ := hcs
    simp only [Prod.mk.injEq] at hx
    obtain ⟨rfl, rfl⟩ := hx
    simp only [if_true] at hz
    have hlen : (zs.take len).length = len := by rw [List.length_take]; omega
    have hget : ∀ j, j < len → (zs.take len).getD j 0 = zs.getD j 0 := fun j hj => by
      rw [List.getD_eq_getElem?_getD, List.getD_eq_getElem?_getD, List.getElem?_take, if_pos hj]
    refine ⟨some a, cap, zs.take len, by rw [hlen], ?_, ?_⟩
    · intro hne
      have hpos : 0 < len := by
        rcases Nat.eq_zero_or_pos len with h | h
        · subst h; simp at hne
        · exact h
      obtain ⟨b, off, spot⟩ := a
      have hspot : spot = none := by simpa [Addr.add] using World.cell?_spot (hcell 0 (by omega))
      subst hspot
      refine ⟨b, off, rfl, hlt (.cell b off) (MemPlace.mem_row.2 ⟨0, by omega, by simp⟩), fun j hj => ?_⟩
      rw [hget j (by omega), ← add_plain]
      exact hcell j (by omega)
    · intro j
      by_cases hj : j < len
      · rw [hget j hj, List.getD_eq_getElem?_getD, List.getElem?_eq_getElem (by omega)]
        exact i64_of_wf (hwz _ (List.getElem_mem _))
      · rw [List.getD_eq_getElem?_getD, List.getElem?_eq_none (by omega)]; simp
end Go.Proofs.YthpkngipiapbpaaDoor

/- Opening a list of numbers of any kind that stands in a struct's field: what the form's reading of it says of cells. -/
namespace Go.Proofs.YthpkngipiapbpaaDoor
open Go.ChangeShapes Go.WideShapes Go.ChangeAt Go.RowKit

theorem open_row_at {H : Type} {enc : TypeId × Value → H} {W : World} {t e : TypeId} {k : IntKind} {fuel : Nat} {v : Value} {x : DataW H × List MemPlace}
    (ht : Tryd.prog.underlying t = some (.slice e)) (he : Tryd.prog.underlying e = some (.int k)) (hc : Tryd.prog.cellsOf e = 1)
    (hf : DataW.trod enc Tryd.prog W 0 (fun _ => true) true fuel t [v] = some x) (hlt : ∀ y ∈ x.2, y.block < W.heap.size) :
    ∃ ad cap zs, v = .slice ad zs.length cap ∧ ReadK k W ad zs ∧ zs.length ≤ 9223372036854775807 ∧ ∀ j, j < zs.length → (Lit.int k (zs.getD j 0)).wf = true := by
  rcases open_ints ht he hc hf with ⟨hcs, hx⟩ | ⟨a, len, cap, zs, hcs, _, hl, hm, hz, hx, hcell, hwz⟩
  · simp only [List.cons.injEq, and_true] at hcs
    subst hcs
    exact ⟨none, 0, [], rfl, fun h => absurd rfl h, by simp, fun j hj => by simp at hj⟩
  · simp only [List.cons.injEq, and_true] at hcs
    subst hcs hx
    simp only [if_true] at hz
    have hlen : (zs.take len).length = len := by rw [List.length_take]; omega
    have hget : ∀ j, j < len → (zs.take len).getD j 0 = zs.getD j 0 := fun j hj => by
      rw [List.getD_eq_getElem?_getD, List.getD_eq_getElem?_getD, List.getElem?_take, if_pos hj]
    refine ⟨some a, cap, zs.take len, by rw [hlen], ?_, by rw [hlen]; unfold maxLen at hm; omega, ?_⟩
    · intro hne
      have hpos : 0 < len := by
        rcases Nat.eq_zero_or_pos len with h | h
        · subst h; simp at hne
        · exact h
      obtain ⟨b, off, spot⟩ := a
      have hspot : spot = none := by simpa [Addr.add] using World.cell?_spot (hcell 0 (by omega))
      subst hspot
      refine ⟨b, off, rfl, hlt (.cell b off) (MemPlace.mem_row.2 ⟨0, by omega, by simp⟩), fun j hj => ?_⟩
      rw [hget j (by omega), ← add_plain]
      exact hcell j (by omega)
    · intro j hj
      rw [hlen] at hj
      rw [hget j hj, List.getD_eq_getElem?_getD, List.getElem?_eq_getElem (by omega)]
      exact hwz _ (List.getElem_mem _)
theorem inI_of_wf {zs : List Int} (h : ∀ j, j < zs.length → (Lit.int .i64 (zs.getD j 0)).wf = true) : InI zs := by
  intro j
  by_cases hj : j < zs.length
  · exact i64_of_wf (h j hj)
  · rw [List.getD_eq_getElem?_getD, List.getElem?_eq_none (by omega)]; simp
theorem inB_of_wf {zs : List Int} (h : ∀ j, j < zs.length → (Lit.int .u8 (zs.getD j 0)).wf = true) : InB zs := by
  intro j
  by_cases hj : j < zs.length
  · exact u8_of_wf (h j hj)
  · rw [List.getD_eq_getElem?_getD, List.getElem?_eq_none (by omega)]; simp
end Go.Proofs.YthpkngipiapbpaaDoor

/- Opening a list of Notes: what the form's reading of it says of cells. -/
namespace Go.Proofs.YthpkngipiapbpaaDoor
open Go.ChangeShapes Go.WideShapes Go.ChangeAt Go.RowKit

theorem cellsRNt : Tryd.prog.cellsOf 90 = 2 := by kernel_rfl
theorem cellsRNtt0 : Tryd.prog.cellsOf 9 = 1 := by kernel_rfl
theorem list_of_eachNt {α : Type} (d : α) (p : Nat → α → Prop) (n : Nat) (h : ∀ i, i < n → ∃ x, p i x) : ∃ l : List α, l.length = n ∧ ∀ i, i < n → p i (l.getD i d) := by
  induction n with
  | zero => exact ⟨[], rfl, fun i hi => by omega⟩
  | succ n ih =>
    obtain ⟨l, hl, hp⟩ := ih (fun i hi => h i (by omega))
    obtain ⟨x, hx⟩ := h n (by omega)
    refine ⟨l ++ [x], by simp [hl], fun i hi => ?_⟩
    rw [List.getD_eq_getElem?_getD]
    by_cases e : i < n
    · rw [List.getElem?_append_left (by omega), ← List.getD_eq_getElem?_getD]; exact hp i e
    · have : i = l.length := by omega
      subst this
      rw [List.getElem?_append_right (Nat.le_refl _), Nat.sub_self]
      rw [hl]; exact hx

set_option maxRecDepth 100000 in
theorem open_Nt_row {H : Type} {enc : TypeId × Value → H} {W : World} {fuel : Nat} {v : Value} {x : DataW H × List MemPlace}
    (hf : DataW.trod enc Tryd.prog W 0 (fun _ => true) true fuel 25 [v] = some x) (hlt : ∀ y ∈ x.2, y.block < W.heap.size) :
    ∃ ad cap ps, v = .slice ad ps.length cap ∧ ArgNt W ad ps ∧ ps.length ≤ 9223372036854775807 ∧ InNt ps := by
  rcases Go.Deep.open_slice Tryd.underlying25 hf with ⟨hcs, hx⟩ | ⟨a, len, cap, m, n, D, Pl, hcs, _, hl, hm, hmm, hx, hcell⟩
  · simp only [List.cons.injEq, and_true] at hcs
    subst hcs
    exact ⟨none, 0, [], rfl, fun h => absurd rfl h, by simp, fun j => by simp only [List.getD_nil]; decide⟩
  · simp only [List.cons.injEq, and_true] at hcs
    subst hcs hx
    simp only [if_true] at hmm
    have each : ∀ i, i < len → ∃ x : Nt, W.cell? (a.add (i * 2)) = some (.string x.1) ∧ W.cell? (a.add (i * 2 + 1)) = some (.string x.2) ∧ x.1.size ≤ 9223372036854775807 ∧ x.2.size ≤ 9223372036854775807 := by
      intro i hi
      obtain ⟨cs', h1, h2⟩ := hcell i (by omega)
      rw [cellsRNt] at h1
      obtain ⟨_, hlen, hc⟩ := World.cells?_some h1
      obtain ⟨xs, k, hk, hxy, _, hxl, hfl⟩ := DataW.trod_struct Tryd.underlying90 h2
      match xs, hxl, cs', hlen with
      | [y0, y1], _, [v0, v1], _ =>
        have g0 := hfl 0 _ rfl
        have g1 := hfl 1 _ rfl
        simp [cellsRNtt0] at g0 g1
        have e0 := hc 0 (by omega)
        have e1 := hc 1 (by omega)
        rw [Go.Deep.add_add] at e0 e1
        obtain ⟨n0, q0, _, w0⟩ := DataW.trod_string Tryd.underlying9 g0
        obtain ⟨n1, q1, _, w1⟩ := DataW.trod_string Tryd.underlying9 g1
        simp only [List.cons.injEq, and_true] at q0 q1
        subst q0 q1
        exact ⟨(n0, n1), by simpa using e0, by simpa using e1, (by unfold maxLen at w0; exact w0), (by unfold maxLen at w1; exact w1)⟩
    obtain ⟨ps, hpl, hps⟩ := list_of_eachNt Nt0 _ len each
    refine ⟨some a, cap, ps, by rw [hpl], ?_, by rw [hpl]; unfold maxLen at hm; omega, ?_⟩
    · intro hne
      have hpos : 0 < len := by
        rcases Nat.eq_zero_or_pos len with h | h
        · subst h; exact absurd (List.length_eq_zero_iff.1 hpl) hne
        · exact h
      obtain ⟨b, off, spot⟩ := a
      have hspot : spot = none := by simpa [Addr.add] using World.cell?_spot (hps 0 hpos).1
      subst hspot
      refine ⟨b, off, rfl, hlt (.cell b off) (List.mem_append_left _ (MemPlace.mem_row.2 ⟨0, by rw [cellsRNt]; omega, by simp⟩)), fun j hj => ?_⟩
      rw [hpl] at hj
      have := hps j hj
      rw [add_plain, add_plain, ← Nat.add_assoc] at this
      exact ⟨this.1, this.2.1⟩
    · intro j
      by_cases hj : j < len
      · exact (hps j hj).2.2
      · rw [List.getD_eq_getElem?_getD, List.getElem?_eq_none (by omega)]; simp only [Option.getD_none]; decide
end Go.Proofs.YthpkngipiapbpaaDoor

/- Opening an argument that is a Still: what the form's reading of it says. -/
namespace Go.Proofs.YthpkngipiapbpaaDoor
open Go.ChangeShapes Go.WideShapes Go.ChangeAt Go.RowKit

theorem cellsSta : Tryd.prog.cellsOf 27 = 8 := by kernel_rfl
theorem cellsStt0 : Tryd.prog.cellsOf 24 = 5 := by kernel_rfl
theorem cellsStt1 : Tryd.prog.cellsOf 3 = 1 := by kernel_rfl
theorem cellsStt2 : Tryd.prog.cellsOf 22 = 1 := by kernel_rfl
theorem cellsStt3 : Tryd.prog.cellsOf 25 = 1 := by kernel_rfl
theorem cellsStt4 : Tryd.prog.cellsOf 4 = 1 := by kernel_rfl

set_option maxRecDepth 100000 in
set_option maxHeartbeats 1000000 in
theorem open_St {H : Type} {enc : TypeId × Value → H} {W : World} {base : Nat} {v : Value} {d : DataW H} {p : List MemPlace}
    (hv : Value.okWide Tryd.prog W .any base 27 v) (h0 : DataW.Trod enc Tryd.prog W 0 (fun _ => true) true 27 v d p) (hlt : ∀ x ∈ p, x.block < W.heap.size) :
    ∃ (x : St) (ad0 : Option Addr) (cap0 : Nat) (ad1 : Option Addr) (cap1 : Nat) (ad2 : Option Addr) (cap2 : Nat), v = .agg #[.int .i64 x.1.1, .int .i64 x.1.2.1, .int .i64 x.1.2.2.1, .int .i64 x.1.2.2.2.1, (.slice ad0 x.1.2.2.2.2.length cap0), (.slice ad1 x.2.1.length cap1), (.slice ad2 x.2.2.1.length cap2), .bool x.2.2.2] ∧ ArgI W ad0 x.1.2.2.2.2 ∧ ArgI W ad1 x.2.1 ∧ ArgNt W ad2 x.2.2.1 ∧ InSt x ∧ (x.1.2.2.2.2.length ≤ 9223372036854775807 ∧ x.2.1.length ≤ 9223372036854775807 ∧ x.2.2.1.length ≤ 9223372036854775807) := by
  obtain ⟨cs, rfl, hsz⟩ := okWide_struct Tryd.underlying27 hv
  rw [cellsSta] at hsz
  obtain ⟨fuel, hf⟩ := h0
  obtain ⟨xs, k, _, hxy, hcl, hxl, hfl⟩ := DataW.trod_struct Tryd.underlying27 hf
  obtain ⟨cl⟩ := cs
  simp only [List.size_toArray] at hsz
  match xs, hxl, cl, hsz with
  | [y0, y1, y2, y3], _, [v0, v1, v2, v3, v4, v5, v6, v7], _ =>
    have g0 := hfl 0 _ rfl
    have g1 := hfl 1 _ rfl
    have g2 := hfl 2 _ rfl
    have g3 := hfl 3 _ rfl
    simp [cellsStt0, cellsStt2, cellsStt3, cellsStt4, Value.cells] at g0 g1 g2 g3
    have hp : p = y0.2 ++ (y1.2 ++ (y2.2 ++ (y3.2))) := by simpa using congrArg Prod.snd hxy
    obtain ⟨zs_0, k0, _, hxy0, hcl0, hxl0, hfl0⟩ := DataW.trod_struct Tryd.underlying24 g0
    match zs_0, hxl0 with
    | [z0_0, z0_1, z0_2, z0_3, z0_4], _ =>
    have gg0 := hfl0 0 _ rfl
    have gg1 := hfl0 1 _ rfl
    have gg2 := hfl0 2 _ rfl
    have gg3 := hfl0 3 _ rfl
    have gg4 := hfl0 4 _ rfl
    simp [cellsStt1, cellsStt2] at gg0 gg1 gg2 gg3 gg4
    have hp0 : y0.2 = z0_0.2 ++ (z0_1.2 ++ (z0_2.2 ++ (z0_3.2 ++ (z0_4.2)))) := by simpa using congrArg Prod.snd hxy0
    obtain ⟨n0, q0, _, w0⟩ := DataW.trod_int Tryd.underlying3 gg0
    simp only [List.cons.injEq, and_true] at q0
    subst q0
    obtain ⟨n1, q1, _, w1⟩ := DataW.trod_int Tryd.underlying3 gg1
    simp only [List.cons.injEq, and_true] at q1
    subst q1
    obtain ⟨n2, q2, _, w2⟩ := DataW.trod_int Tryd.underlying3 gg2
    simp only [List.cons.injEq, and_true] at q2
    subst q2
    obtain ⟨n3, q3, _, w3⟩ := DataW.trod_int Tryd.underlying3 gg3
    simp only [List.cons.injEq, and_true] at q3
    subst q3
    obtain ⟨ad0, cap0, zs0, e0, hA0, hl0, hw0⟩ := open_row_at Tryd.underlying22 Tryd.underlying3 cellsI gg4 (fun y hy => hlt y (by rw [hp, hp0]; simp [hy]))
    subst e0
    obtain ⟨ad1, cap1, zs1, e1, hA1, hl1, hw1⟩ := open_row_at Tryd.underlying22 Tryd.underlying3 cellsI g1 (fun y hy => hlt y (by rw [hp]; simp [hy]))
    subst e1
    obtain ⟨ad2, cap2, zs2, e2, hA2, hl2, hw2⟩ := open_Nt_row g2 (fun y hy => hlt y (by rw [hp]; simp [hy]))
    subst e2
    obtain ⟨n7, q7, _⟩ := DataW.trod_bool Tryd.underlying4 g3
    simp only [List.cons.injEq, and_true] at q7
    subst q7
    exact ⟨((n0, n1, n2, n3, zs0), zs1, zs2, n7), ad0, cap0, ad1, cap1, ad2, cap2, rfl, hA0, hA1, hA2, ⟨⟨i64_of_wf w0, i64_of_wf w1, i64_of_wf w2, i64_of_wf w3, inI_of_wf hw0⟩, inI_of_wf hw1, hw2⟩, ⟨hl0, hl1, hl2⟩⟩
end Go.Proofs.YthpkngipiapbpaaDoor

/- What a table of numbers that a variable holds says of cells: a struct's numbers, an array of structs of numbers. -/
namespace Go.Proofs.YthpkngipiapbpaaDoor
open Go.ChangeShapes Go.WideShapes Go.ChangeAt Go.RowKit

theorem lits_struct {H : Type} {enc : TypeId × Value → H} {W : World} {base : Nat} {spare : Nat → Bool} {held : Bool} {t : TypeId} {fs : Array Go.Field} {fuel : Nat} {seg : List Value} {y : DataW H × List MemPlace} {zs : List Int}
    (ht : Tryd.prog.underlying t = some (.struct fs)) (hfs : ∀ (j : Nat) (f : Go.Field), fs[j]? = some f → f.type = 3 ∧ f.offset = j)
    (h : DataW.trod enc Tryd.prog W base spare held fuel t seg = some y) (hy : y.1 = .agg (zs.map fun z => .lit (.int .i64 z))) :
    ∀ (j : Nat) (z : Int), zs[j]? = some z → seg[j]? = some (Value.int .i64 z) := by
  obtain ⟨ys, k, _, rfl, hl, hyl, hfl⟩ := DataW.trod_struct ht h
  simp only [DataW.agg.injEq] at hy
  intro j z hz
  have hlen : ys.length = zs.length := by have := congrArg List.length hy; simpa using this
  have hj : j < ys.length := by have := (List.getElem?_eq_some_iff.1 hz).1; omega
  have hjf : j < fs.size := by omega
  obtain ⟨e1, e2⟩ := hfs j fs[j] (Array.getElem?_eq_getElem hjf)
  have hj2 := hfl j fs[j] (Array.getElem?_eq_getElem hjf)
  rw [e1, e2, cellsI, List.getElem?_eq_getElem hj] at hj2
  obtain ⟨n, q, q2, _⟩ := DataW.trod_int Tryd.underlying3 hj2
  have hv : ys[j].1 = .lit (.int .i64 z) := by
    have h1 := congrArg (fun l => l[j]?) hy
    simp only [List.getElem?_map, List.getElem?_eq_getElem hj, hz, Option.map_some, Option.some.injEq] at h1
    exact h1
  have hn : n = z := by
    have := q2
    rw [this] at hv
    simpa using hv
  subst hn
  have h3 : ((seg.drop j).take 1)[0]? = some (Value.int .i64 n) := by rw [q]; rfl
  rw [List.getElem?_take, if_pos (by omega), List.getElem?_drop] at h3
  simpa using h3
theorem lits_array {H : Type} {enc : TypeId × Value → H} {W : World} {base : Nat} {spare : Nat → Bool} {held : Bool} {t e : TypeId} {fs : Array Go.Field} {n m fuel : Nat} {cs : List Value} {y : DataW H × List MemPlace} {zss : List (List Int)}
    (ht : Tryd.prog.underlying t = some (.array n e)) (he : Tryd.prog.underlying e = some (.struct fs)) (hfs : ∀ (j : Nat) (f : Go.Field), fs[j]? = some f → f.type = 3 ∧ f.offset = j) (hm : Tryd.prog.cellsOf e = m)
    (h : DataW.trod enc Tryd.prog W base spare held fuel t cs = some y) (hy : y.1 = .agg (zss.map fun zs => .agg (zs.map fun z => .lit (.int .i64 z)))) (hz : ∀ zs ∈ zss, zs.length = m) (hn : zss.length = n) :
    ∀ (i j : Nat) (z : Int) (zs : List Int), zss[i]? = some zs → zs[j]? = some z → cs[i * m + j]? = some (Value.int .i64 z) := by
  obtain ⟨xs, k, _, rfl, hl, hxl, hel⟩ := DataW.trod_array ht h
  simp only [DataW.agg.injEq] at hy
  intro i j z zs hzs hjz
  have hi : i < xs.length := by have := (List.getElem?_eq_some_iff.1 hzs).1; omega
  have h1 := hel i (by omega)
  rw [List.getElem?_eq_getElem hi, hm] at h1
  have hv : xs[i].1 = .agg (zs.map fun z => .lit (.int .i64 z)) := by
    have h1 := congrArg (fun l => l[i]?) hy
    simp only [List.getElem?_map, List.getElem?_eq_getElem hi, hzs, Option.map_some, Option.some.injEq] at h1
    exact h1
  have h2 := lits_struct he hfs h1 hv j z hjz
  have hjm : j < m := by have := (List.getElem?_eq_some_iff.1 hjz).1; have := hz zs (List.mem_of_getElem? hzs); omega
  rw [List.getElem?_take, if_pos hjm, List.getElem?_drop] at h2
  exact h2
end Go.Proofs.YthpkngipiapbpaaDoor

/- What the listed table of passes says of cells. -/
namespace Go.Proofs.YthpkngipiapbpaaDoor
open Go.ChangeShapes Go.WideShapes Go.ChangeAt Go.RowKit

def passZss : List (List Int) := [[0, 0, 8, 8, 0, 0], [4, 0, 8, 8, 0, 0], [0, 4, 4, 8, 0, 0], [2, 0, 4, 4, 0, 0], [0, 2, 2, 4, 0, 0], [1, 0, 2, 2, 0, 0], [0, 1, 1, 2, 0, 0]]
theorem passGlobal : Tryd.prog.globalNamed "loop.example/g00016/impl.passSteps" = some 1 := by kernel_rfl
theorem passGlobalT : (Tryd.prog.globals[1]?).map (·.type) = some 122 := by kernel_rfl
theorem passCellsOf : Tryd.prog.cellsOf 101 = 6 := by kernel_rfl
theorem passFlat : passCells = passZss.flatten.map (.int .i64) := rfl
theorem passFlat_at : ∀ j, j < 42 → passZss.flatten[j]? = (passZss[j / 6]?).bind (·[j % 6]?) := by decide
theorem laid_passes {W : World} (h : laidMetH Tryd.prog [("loop.example/g00016/impl.passSteps", Rows.laid_loop_example_g00016_impl_passSteps)] W) : Held W 1 passCells := by
  rw [MakeChecks.laidMetH_plain _ _ _ (by kernel_rfl)] at h
  obtain ⟨ps, ⟨g0, t0, cs0, f0, p0, q0, hg0, ht0, hv0, hd0, _, _⟩, _, _⟩ := h
  obtain rfl := Option.some.inj (passGlobal.symm.trans hg0)
  obtain rfl := Option.some.inj (passGlobalT.symm.trans ht0)
  have hc := lits_array (zss := passZss) Tryd.underlying122 Tryd.underlying101 (fun j f hf => by
    match j, hf with
    | 0, hf => simp at hf; subst hf; exact ⟨rfl, rfl⟩
    | 1, hf => simp at hf; subst hf; exact ⟨rfl, rfl⟩
    | 2, hf => simp at hf; subst hf; exact ⟨rfl, rfl⟩
    | 3, hf => simp at hf; subst hf; exact ⟨rfl, rfl⟩
    | 4, hf => simp at hf; subst hf; exact ⟨rfl, rfl⟩
    | 5, hf => simp at hf; subst hf; exact ⟨rfl, rfl⟩
    | j + 6, hf => simp at hf) passCellsOf hd0 rfl (by decide) rfl
  have hcell := fun o => World.var?_cell hg0 hv0 o
  refine ⟨?_, fun j v hj => ?_⟩
  · have h0 := hc 0 0 0 _ rfl rfl
    have h1 := hcell 0
    rw [show cs0[0]? = some (Value.int .i64 0) by simpa using h0] at h1
    exact World.block_lt_of_cell? _ _ h1
  · have hlt : j < 42 := (List.getElem?_eq_some_iff.1 hj).1
    have e := hcell j
    have hv : ∃ z zs, passZss[j / 6]? = some zs ∧ zs[j % 6]? = some z ∧ v = .int .i64 z := by
      rw [passFlat, List.getElem?_map] at hj
      have h2 := passFlat_at j hlt
      cases h3 : passZss.flatten[j]? with
      | none => rw [h3] at hj; simp at hj
      | some z =>
        rw [h3] at hj h2
        simp only [Option.map_some, Option.some.injEq] at hj
        cases h4 : passZss[j / 6]? with
        | none => rw [h4] at h2; simp at h2
        | some zs =>
          rw [h4] at h2
          exact ⟨z, zs, rfl, by simpa using h2.symm, hj.symm⟩
    obtain ⟨z, zs, a, b, rfl⟩ := hv
    have h2 := hc (j / 6) (j % 6) z zs a b
    rw [show j / 6 * 6 + j % 6 = j by omega] at h2
    rw [e]
    simpa using h2
end Go.Proofs.YthpkngipiapbpaaDoor
