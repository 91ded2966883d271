/- The walks of the specification's reading of one symbol. -/
import Derived.Test.YtcoegccnkdhpjaaPlainR
import Derived.Test.YtcoegccnkdhpjaaPlainY
import Derived.Test.YtcoegccnkdhpjaaWWords
import Derived.Test.YtcoegccnkdhpjaaWTakeH
namespace Go.Proofs.Ytcoegccnkdhpjaa
open Go.RowKit

set_option maxHeartbeats 2000000 in
theorem specFind (vl vw : Value) (zs : List Int) (W n : Nat) (w : World) (hg : goodL zs) (hv : RdI w vl zs) (hvw : RdI w vw (wordsL zs)) (hn : 0 < n) (hn15 : n ≤ 15) (_hW : W < 32768) :
    Calls Try.prog 84 #[.agg #[vl, vw], .int .i64 W, .int .i64 n] w fun e w' => e = .returned (.int .i64 (findF zs W n)) ∧ Below w.heap.size w w' := by
  obtain ⟨ad, cap, rfl, hA⟩ := hv
  obtain ⟨adw, capw, rfl, hAw⟩ := hvw
  rw [wordsL_length]
  have hn3 := hg.1
  have hB := hide ((Below.refl w.heap.size w).alloc (Nat.le_refl _) (.cells #[.slice ad zs.length cap, .slice adw zs.length capw] 87))
  replace hA := hide (hA.below (unhide hB))
  replace hAw := hide (hAw.below (unhide hB))
  replace hg := hide hg
  go_enter Try.func84, Try.ntmps84
  go_wp2
  go_loop [7, 13] (fun m i => ∃ k : Nat, ∃ b : Bool, k ≤ zs.length ∧ m = .bool b ∧ i = .int .i64 k ∧ Hid (∀ j, j < k → ¬ HitAt zs W n j) ∧ Hid (b = true ↔ ∃ j, j < k ∧ MoreAt zs W n j)) (fun _ i => zs.length - (intOf i).toNat)
  case atStart => exact ⟨0, false, Nat.zero_le _, rfl, rfl, fun j hj => by omega, ⟨fun h => by simp at h, fun ⟨j, hj, _⟩ => by omega⟩⟩
  case round =>
    obtain ⟨k, b, hk, rfl, rfl, hno, hmo⟩ := hrel
    by_cases hlt : k < zs.length
    · have hlw : k < (wordsL zs).length := by simpa using hlt
      obtain ⟨bz, offz, rfl, hbz, hcz⟩ := (unhide hA) (ne_of_lt_length hlt)
      obtain ⟨bw, offw, rfl, hbw, hcw⟩ := (unhide hAw) (ne_of_lt_length hlw)
      have hz := hcz k hlt
      have hw := hcw k hlw
      have hwk : (wordsL zs).getD k 0 = wordOf zs k := by unfold wordsL; rw [List.getD_eq_getElem?_getD, List.getElem?_map, List.getElem?_range hlt]; rfl
      rw [hwk] at hw
      have hok := (unhide hg).2 k hlt
      have hwb := wordOf_bd (unhide hg) k
      obtain ⟨x, hx⟩ := Int.eq_ofNat_of_zero_le hok.1
      obtain ⟨p, hp⟩ := Int.eq_ofNat_of_zero_le hwb.1
      have hx15 : x ≤ 15 := by have := hok.2; omega
      have hp8 : p < 100000000 := by omega
      rw [hx] at hz
      rw [hp] at hw
      have hnext : Hid (¬ HitAt zs W n k → ∀ j, j < k + 1 → ¬ HitAt zs W n j) := hide (fun h j hj => by
        rcases Nat.lt_or_eq_of_le (Nat.le_of_lt_succ hj) with h' | h'
        · exact unhide hno j h'
        · subst h'; exact h)
      have hmore : Hid (MoreAt zs W n k → (true = true ↔ ∃ j, j < k + 1 ∧ MoreAt zs W n j)) := hide (fun h => ⟨fun _ => ⟨k, by omega, h⟩, fun _ => rfl⟩)
      have hless : Hid (¬ MoreAt zs W n k → (b = true ↔ ∃ j, j < k + 1 ∧ MoreAt zs W n j)) := hide (fun h => by
        rw [unhide hmo]
        constructor
        · rintro ⟨j, a, c⟩; exact ⟨j, by omega, c⟩
        · rintro ⟨j, a, c⟩
          rcases Nat.lt_or_eq_of_le (Nat.le_of_lt_succ a) with h' | h'
          · exact ⟨j, h', c⟩
          · subst h'; exact absurd c h)
      clear hcz hcw hbz hbw hok hwb hwk
      by_cases hxn : x = n
      · have q0 : ((x : Int) == (n : Int)) = true := by simp; omega
        have hml := hide (unhide hless (fun h => by have := h.1; omega))
        by_cases hpW : p = W
        · have q1 : ((p : Int) == (W : Int)) = true := by simp; omega
          have hF := hide (findF_hit (w := W) hn hlt ⟨by omega, by omega⟩)
          clear hnext hmore hless hml hno hmo hx hp hpW
          go_wp2
          go_ret
          exact ⟨ret_int (unhide hF).symm, unhide hB⟩
        · have q1 : ((p : Int) == (W : Int)) = false := by simp; omega
          have hnh := hide (unhide hnext (fun h => by have := h.2; omega))
          have q2 : decide ((n : Int) < (x : Int)) = false := by simp; omega
          clear hnext hmore hless hx hp
          go_wp2
          go_round
          case rel => exact ⟨k + 1, b, by omega, rfl, by go_num, hnh, hml⟩
          case measure => simp [intOf]; omega
      · have q0 : ((x : Int) == (n : Int)) = false := by simp; omega
        have hnh := hide (unhide hnext (fun h => by have := h.1; omega))
        by_cases hlx : n < x
        · have q2 : decide ((n : Int) < (x : Int)) = true := by simp; omega
          by_cases hpm : p / 2 ^ (x - n) = W
          · have hM : MoreAt zs W n k := ⟨by omega, by rw [hp, hx, Int.toNat_natCast, ← hpm]; simp⟩
            have q3 : ((p : Int) / 2 ^ (x - n) == (W : Int)) = true := by rw [← hpm]; simp
            have hml := hide (unhide hmore hM)
            clear hnext hmore hless hx hp hpm hM
            go_wp2
            go_round
            case rel => exact ⟨k + 1, true, by omega, rfl, by go_num, hnh, hml⟩
            case measure => simp [intOf]; omega
          · have hM : ¬ MoreAt zs W n k := fun h => hpm (by
              have := h.2
              rw [hp, hx, Int.toNat_natCast] at this
              have h2 : (((p / 2 ^ (x - n) : Nat)) : Int) = (W : Int) := by rw [← this]; simp
              exact_mod_cast h2)
            have q3 : ((p : Int) / 2 ^ (x - n) == (W : Int)) = false := by
              have : ((p : Int) / 2 ^ (x - n)) = ((p / 2 ^ (x - n) : Nat) : Int) := by simp
              rw [this]; simp only [beq_eq_false_iff_ne]; omega
            have hml := hide (unhide hless hM)
            clear hnext hmore hless hx hp hpm hM
            go_wp2
            go_round
            case rel => exact ⟨k + 1, b, by omega, rfl, by go_num, hnh, hml⟩
            case measure => simp [intOf]; omega
        · have q2 : decide ((n : Int) < (x : Int)) = false := by simp; omega
          have hml := hide (unhide hless (fun h => by have := h.1; omega))
          clear hnext hmore hless hx hp
          go_wp2
          go_round
          case rel => exact ⟨k + 1, b, by omega, rfl, by go_num, hnh, hml⟩
          case measure => simp [intOf]; omega
    · have hkl : k = zs.length := by omega
      subst hkl
      cases b
      · have hF := hide (findF_none (unhide hno) (fun j hj h => by have := (unhide hmo).2 ⟨j, hj, h⟩; simp at this))
        go_wp2
        go_ret
        exact ⟨ret_int (unhide hF).symm, unhide hB⟩
      · have hF := hide (findF_more (unhide hno) ((unhide hmo).1 rfl))
        go_wp2
        go_ret
        exact ⟨ret_int (unhide hF).symm, unhide hB⟩
end Go.Proofs.Ytcoegccnkdhpjaa
