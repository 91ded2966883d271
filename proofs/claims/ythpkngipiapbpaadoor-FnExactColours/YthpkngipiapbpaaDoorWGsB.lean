/- Good stills, as the program has them: keys, values, colours and notes. -/
import Derived.Test.YthpkngipiapbpaaDoorPlainSt
import Derived.Lib.Bytealg
import Derived.Lib.Strings
namespace Go.Proofs.YthpkngipiapbpaaDoor
open Go.RowKit

set_option maxHeartbeats 2000000 in
theorem implGoodKey (s : ByteArray) (w : World) (h1 : s.size ≤ 1048576) :
    Calls Tryd.prog 66 #[.string s] w fun e w' => e = .returned (.bool (pB (KeyOk s))) ∧ w' = w := by
  have hBad1 : Hid (∀ k, (h : k < s.size) → ¬ ((32 : Int) ≤ ((s[k]'h).toNat : Int) ∧ ((s[k]'h).toNat : Int) ≤ 126) → pB (KeyOk s) = false) := hide (fun k hk hb => pB_no (fun h => hb (by have := h.2 k hk; rw [strB_getD s k hk] at this; exact this)))
  have hGood : Hid ((∀ k, (h : k < s.size) → ((32 : Int) ≤ ((s[k]'h).toNat : Int) ∧ ((s[k]'h).toNat : Int) ≤ 126)) → 1 ≤ s.size → s.size ≤ 40 → pB (KeyOk s) = true) := hide (fun a b c => pB_yes ⟨⟨b, c⟩, fun k hk => by rw [strB_getD s k hk]; exact a k hk⟩)
  have hLen : Hid (¬ (1 ≤ s.size ∧ s.size ≤ 40) → pB (KeyOk s) = false) := hide (fun h => pB_no (fun h' => h h'.1))
  go_enter Tryd.func66, Tryd.ntmps66
  go_wp2
  go_loop [6] (fun i => ∃ k : Nat, k ≤ s.size ∧ i = .int .i64 k ∧ Hid (∀ j, (h : j < s.size) → j < k → ((32 : Int) ≤ ((s[j]'h).toNat : Int) ∧ ((s[j]'h).toNat : Int) ≤ 126))) (fun i => s.size - (intOf i).toNat)
  case atStart => exact ⟨0, Nat.zero_le _, rfl, fun j hj hlt => by omega⟩
  case round =>
    obtain ⟨k, hk, rfl, hok⟩ := hrel
    by_cases hlt : k < s.size
    · have hb := hide (unhide hBad1 k hlt)
      have ho := hide (fun (h : (32 : Int) ≤ ((s[k]'hlt).toNat : Int) ∧ ((s[k]'hlt).toNat : Int) ≤ 126) => show ∀ j, (h : j < s.size) → j < k + 1 → ((32 : Int) ≤ ((s[j]'h).toNat : Int) ∧ ((s[j]'h).toNat : Int) ≤ 126) from fun j hj hjk => by
        rcases Nat.lt_or_eq_of_le (Nat.le_of_lt_succ hjk) with h' | h'
        · exact unhide hok j hj h'
        · subst h'; exact h)
      by_cases c1 : ((s[k]'hlt).toNat : Int) < 32
      · have hb2 := hide (unhide hb (by omega))
        clear hb ho
        go_wp2
        go_ret
        exact ⟨by rw [unhide hb2]; rfl, rfl⟩
      · by_cases c2 : ((s[k]'hlt).toNat : Int) ≤ 126
        · have ho2 := hide (unhide ho ⟨by omega, c2⟩)
          clear hb ho
          go_wp2
          go_round
          case rel => exact ⟨k + 1, by omega, by go_num, unhide ho2⟩
          case measure => simp [intOf]; omega
        · have hb2 := hide (unhide hb (by omega))
          have c3 : (126 : Int) < ((s[k]'hlt).toNat : Int) := by omega
          clear hb ho
          go_wp2
          go_ret
          exact ⟨by rw [unhide hb2]; rfl, rfl⟩
    · have hkl : k = s.size := by omega
      subst hkl
      have hall := hide (unhide hGood (fun j h => unhide hok j h h))
      clear hok
      by_cases c1 : 1 ≤ s.size
      · have c1' : (1 : Int) ≤ s.size := by omega
        by_cases c2 : s.size ≤ 40
        · have hg := hide (unhide hall c1 c2)
          have c2' : (s.size : Int) ≤ 40 := by omega
          clear hall
          go_wp2
          go_ret
          exact ⟨by rw [unhide hg]; first | rfl | (simp; omega), rfl⟩
        · have hg := hide (unhide hLen (fun h => c2 h.2))
          have c2' : ¬ (s.size : Int) ≤ 40 := by omega
          clear hall
          go_wp2
          go_ret
          exact ⟨by rw [unhide hg]; first | rfl | (simp; omega), rfl⟩
      · have hg := hide (unhide hLen (fun h => c1 h.1))
        have c1' : ¬ (1 : Int) ≤ s.size := by omega
        clear hall
        go_wp2
        go_ret
        exact ⟨by rw [unhide hg]; first | rfl | (simp; omega), rfl⟩

set_option maxHeartbeats 1000000 in
set_option maxRecDepth 100000 in
theorem liteIndexByte (s : ByteArray) (c : Int) (w : World) :
    Calls Tryd.prog 83 #[.string s, .int .u8 c] w fun e w' => e = .returned (.int .i64 (Lib.indexByte s.data.toList c.toNat.toUInt8)) ∧ w' = w := by
  go_enter Tryd.func83, Tryd.ntmps83
  go_wp2
  rw [run_callFunc_extern Tryd.func85 (by kernel_rfl) (by kernel_rfl) (by kernel_rfl) (e := Extern.BytealgIndexByte.indexByte) (by kernel_rfl), Lib.run_indexByteString]
  simp only [Result.andThen]
  rw [Oper.upon_value]
  go_wp2
  go_ret
  exact ⟨rfl, rfl⟩
set_option maxHeartbeats 1000000 in
theorem stringsIndexByte (s : ByteArray) (c : Int) (w : World) :
    Calls Tryd.prog 78 #[.string s, .int .u8 c] w fun e w' => e = .returned (.int .i64 (Lib.indexByte s.data.toList c.toNat.toUInt8)) ∧ w' = w := by
  go_enter Tryd.func78, Tryd.ntmps78
  go_wp2_with (go_at_call 83; refine (liteIndexByte _ _ _).mono ?_; rintro e w' ⟨rfl, rfl⟩)
  go_ret
  exact ⟨rfl, rfl⟩
end Go.Proofs.YthpkngipiapbpaaDoor
