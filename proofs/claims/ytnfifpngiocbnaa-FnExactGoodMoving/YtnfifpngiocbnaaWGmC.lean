/- Good moving pictures: the head. -/
import Derived.Test.YtnfifpngiocbnaaWGmA
import Derived.Test.YtnfifpngiocbnaaWSdA
namespace Go.Proofs.Ytnfifpngiocbnaa
open Go.RowKit

theorem sideOk_sides {a b : Int} (h : SideOk a b) : sidesB a b = true := sidesB_yes h.1 h.2.1
set_option maxHeartbeats 2000000 in
theorem implGoodSides (a b : Int) (w : World) : Calls Try.prog 86 #[.int .i64 a, .int .i64 b] w fun e w' => e = .returned (.bool (mB (SideOk a b))) ∧ w' = w := by
  have hA := hide (fun W => implGoodSide a W)
  have hB := hide (fun W => implGoodSide b W)
  by_cases ha : 1 ≤ a ∧ a ≤ 512
  case neg =>
    rw [mB_no (fun h => ha h.1)]
    rw [sideB_no ha] at hA
    clear ha
    go_enter Try.func86, Try.ntmps86
    go_wp2_with fail
    refine (unhide hA _).mono ?_
    rintro e w1 ⟨rfl, rfl⟩
    go_wp2
    go_ret
    exact ⟨rfl, rfl⟩
  by_cases hb : 1 ≤ b ∧ b ≤ 512
  case neg =>
    rw [mB_no (fun h => hb h.2.1)]
    rw [sideB_yes ha] at hA
    rw [sideB_no hb] at hB
    clear ha hb
    go_enter Try.func86, Try.ntmps86
    go_wp2_with fail
    refine (unhide hA _).mono ?_
    rintro e w1 ⟨rfl, rfl⟩
    go_wp2_with fail
    refine (unhide hB _).mono ?_
    rintro e w1 ⟨rfl, rfl⟩
    go_wp2
    go_ret
    exact ⟨rfl, rfl⟩
  obtain ⟨P, hP, P1, P2⟩ := side_prod ha hb
  have hR : mB (SideOk a b) = decide (P ≤ 4096) := by
    by_cases h : P ≤ 4096
    · rw [decide_eq_true h]; exact mB_yes ⟨ha, hb, by omega⟩
    · rw [decide_eq_false h]; exact mB_no (fun h' => h (by have := h'.2.2; omega))
  rw [hR]
  rw [sideB_yes ha] at hA
  rw [sideB_yes hb] at hB
  clear ha hb hR
  go_enter Try.func86, Try.ntmps86
  go_wp2_with fail
  refine (unhide hA _).mono ?_
  rintro e w1 ⟨rfl, rfl⟩
  go_wp2_with fail
  refine (unhide hB _).mono ?_
  rintro e w1 ⟨rfl, rfl⟩
  go_wp2
  go_ret
  exact ⟨rfl, rfl⟩

set_option maxHeartbeats 8000000 in
set_option maxRecDepth 1000000 in
theorem specL6Head (a b l : Int) (adp adf : Option Addr) (cpp nf cpf : Nat) (zs : List Int) (w : World) (hn : zs.length ≤ 1048576) (hv : RdI w (.slice adp zs.length cpp) zs) :
    Calls Try.prog 74 #[.agg #[.int .i64 a, .int .i64 b, .slice adp zs.length cpp, .int .i64 l, .slice adf nf cpf]] w fun e w' => e = .returned (.bool (mB (HeadOk a b zs l))) ∧ Upd 0 0 w w' := by
  have hB0 := (Below.refl w.heap.size w).alloc (Nat.le_refl _) (.cells #[.int .i64 a, .int .i64 b, .slice adp zs.length cpp, .int .i64 l, .slice adf nf cpf] 35)
  have hU := hide (Upd.of_below hB0 0 0)
  have hr := hide (hv.below hB0)
  clear hB0 hv
  have hS := hide (fun W => specL4Sides a b W)
  have hL := hide (fun W => specL6Log zs.length W hn)
  have hC := hide (fun W h => specL5Cols (.slice adp zs.length cpp) zs W hn h)
  by_cases hs : sidesB a b = true
  case neg =>
    rw [mB_no (fun h => hs (sideOk_sides h.1))]
    rw [show sidesB a b = false by simpa using hs] at hS
    clear hs
    go_enter Try.func74, Try.ntmps74
    go_wp2_with fail
    refine (unhide hS _).mono ?_
    rintro e w1 ⟨rfl, rfl⟩
    go_wp2
    go_ret
    exact ⟨rfl, unhide hU⟩
  have hab : (1 ≤ a ∧ a ≤ 512) ∧ (1 ≤ b ∧ b ≤ 512) := by unfold sidesB at hs; simp only [Bool.and_eq_true, sideB_iff] at hs; exact hs
  rw [hs] at hS
  obtain ⟨P, hP, P1, P2⟩ := side_prod hab.1 hab.2
  by_cases h4 : P ≤ 4096
  case neg =>
    rw [mB_no (fun h => h4 (by have := h.1.2.2; omega))]
    clear hs hab
    go_enter Try.func74, Try.ntmps74
    go_wp2_with fail
    refine (unhide hS _).mono ?_
    rintro e w1 ⟨rfl, rfl⟩
    go_wp2
    go_ret
    exact ⟨rfl, unhide hU⟩
  have hSide : Hid (SideOk a b) := hide ⟨hab.1, hab.2, by omega⟩
  clear hs hab
  by_cases hg : 0 < logB zs.length
  case neg =>
    rw [mB_no (fun h => hg h.2.1)]
    rw [show logB zs.length = 0 by omega] at hL
    clear hg
    go_enter Try.func74, Try.ntmps74
    go_wp2_with fail
    refine (unhide hS _).mono ?_
    rintro e w1 ⟨rfl, rfl⟩
    go_wp2_with fail
    refine (unhide hL _).mono ?_
    rintro e w1 ⟨rfl, rfl⟩
    go_wp2
    go_ret
    exact ⟨rfl, unhide hU⟩
  have hg8 := logB_le zs.length
  obtain ⟨k, hk⟩ : ∃ k, logB zs.length = k := ⟨_, rfl⟩
  rw [hk] at hL hg hg8
  replace hk := hide hk
  by_cases hc : ColsOk zs
  case neg =>
    rw [mB_no (fun h => hc h.2.2.1)]
    rw [mB_no hc] at hC
    clear hc
    go_enter Try.func74, Try.ntmps74
    go_wp2_with fail
    refine (unhide hS _).mono ?_
    rintro e w1 ⟨rfl, rfl⟩
    go_wp2_with fail
    refine (unhide hL _).mono ?_
    rintro e w1 ⟨rfl, rfl⟩
    go_wp2_with fail
    refine (unhide hC _ (unhide hr)).mono ?_
    rintro e w1 ⟨rfl, rfl⟩
    go_wp2
    go_ret
    exact ⟨rfl, unhide hU⟩
  have hCol : Hid (ColsOk zs) := hide hc
  rw [mB_yes hc] at hC
  clear hc
  have hY : Hid ((0 ≤ l ∧ l ≤ 65535) → mB (HeadOk a b zs l) = true) := hide (fun h => mB_yes ⟨unhide hSide, by rw [unhide hk]; exact hg, unhide hCol, h⟩)
  have hX : Hid (¬ (0 ≤ l ∧ l ≤ 65535) → mB (HeadOk a b zs l) = false) := hide (fun h => mB_no (fun h' => h h'.2.2.2))
  by_cases h0 : 0 ≤ l
  case neg =>
    rw [unhide hX (by omega)]
    go_enter Try.func74, Try.ntmps74
    go_wp2_with fail
    refine (unhide hS _).mono ?_
    rintro e w1 ⟨rfl, rfl⟩
    go_wp2_with fail
    refine (unhide hL _).mono ?_
    rintro e w1 ⟨rfl, rfl⟩
    go_wp2_with fail
    refine (unhide hC _ (unhide hr)).mono ?_
    rintro e w1 ⟨rfl, rfl⟩
    go_wp2
    go_ret
    exact ⟨rfl, unhide hU⟩
  by_cases h1 : l ≤ 65535
  case neg =>
    have q1 : decide (l ≤ 65535) = false := by simp; omega
    rw [unhide hX (by omega)]
    go_enter Try.func74, Try.ntmps74
    go_wp2_with fail
    refine (unhide hS _).mono ?_
    rintro e w1 ⟨rfl, rfl⟩
    go_wp2_with fail
    refine (unhide hL _).mono ?_
    rintro e w1 ⟨rfl, rfl⟩
    go_wp2_with fail
    refine (unhide hC _ (unhide hr)).mono ?_
    rintro e w1 ⟨rfl, rfl⟩
    go_wp2
    go_ret
    exact ⟨rfl, unhide hU⟩
  rw [unhide hY ⟨h0, h1⟩]
  go_enter Try.func74, Try.ntmps74
  go_wp2_with fail
  refine (unhide hS _).mono ?_
  rintro e w1 ⟨rfl, rfl⟩
  go_wp2_with fail
  refine (unhide hL _).mono ?_
  rintro e w1 ⟨rfl, rfl⟩
  go_wp2_with fail
  refine (unhide hC _ (unhide hr)).mono ?_
  rintro e w1 ⟨rfl, rfl⟩
  go_wp2
  go_ret
  exact ⟨rfl, unhide hU⟩

set_option maxHeartbeats 8000000 in
set_option maxRecDepth 1000000 in
theorem implGoodHead (a b l : Int) (adp adf : Option Addr) (cpp nf cpf : Nat) (zs : List Int) (w : World) (hn : zs.length ≤ 1048576) (hv : RdI w (.slice adp zs.length cpp) zs) :
    Calls Try.prog 100 #[.agg #[.int .i64 a, .int .i64 b, .slice adp zs.length cpp, .int .i64 l, .slice adf nf cpf]] w fun e w' => e = .returned (.bool (mB (HeadOk a b zs l))) ∧ Upd 0 0 w w' := by
  have hB0 := (Below.refl w.heap.size w).alloc (Nat.le_refl _) (.cells #[.int .i64 a, .int .i64 b, .slice adp zs.length cpp, .int .i64 l, .slice adf nf cpf] 35)
  have hU := hide (Upd.of_below hB0 0 0)
  have hr := hide (hv.below hB0)
  clear hB0 hv
  have hS := hide (fun W => implGoodSides a b W)
  have hL := hide (fun W => implPaletteBits zs.length W hn)
  have hC := hide (fun W h => implGoodColours (.slice adp zs.length cpp) zs W hn h)
  have hT := hide (fun W => implGoodShort l W)
  by_cases hs : SideOk a b
  case neg =>
    rw [mB_no (fun h => hs h.1)]
    rw [mB_no hs] at hS
    clear hs
    go_enter Try.func100, Try.ntmps100
    go_wp2_with fail
    refine (unhide hS _).mono ?_
    rintro e w1 ⟨rfl, rfl⟩
    go_wp2
    go_ret
    exact ⟨rfl, unhide hU⟩
  rw [mB_yes hs] at hS
  have hSide : Hid (SideOk a b) := hide hs
  clear hs
  by_cases hg : 0 < logB zs.length
  case neg =>
    rw [mB_no (fun h => hg h.2.1)]
    rw [show logB zs.length = 0 by omega] at hL
    clear hg
    go_enter Try.func100, Try.ntmps100
    go_wp2_with fail
    refine (unhide hS _).mono ?_
    rintro e w1 ⟨rfl, rfl⟩
    go_wp2_with fail
    refine (unhide hL _).mono ?_
    rintro e w1 ⟨rfl, rfl⟩
    go_wp2
    go_ret
    exact ⟨rfl, unhide hU⟩
  have hg8 := logB_le zs.length
  obtain ⟨k, hk⟩ : ∃ k, logB zs.length = k := ⟨_, rfl⟩
  rw [hk] at hL hg hg8
  replace hk := hide hk
  by_cases hc : ColsOk zs
  case neg =>
    rw [mB_no (fun h => hc h.2.2.1)]
    rw [mB_no hc] at hC
    clear hc
    go_enter Try.func100, Try.ntmps100
    go_wp2_with fail
    refine (unhide hS _).mono ?_
    rintro e w1 ⟨rfl, rfl⟩
    go_wp2_with fail
    refine (unhide hL _).mono ?_
    rintro e w1 ⟨rfl, rfl⟩
    go_wp2_with fail
    refine (unhide hC _ (unhide hr)).mono ?_
    rintro e w1 ⟨rfl, rfl⟩
    go_wp2
    go_ret
    exact ⟨rfl, unhide hU⟩
  have hCol : Hid (ColsOk zs) := hide hc
  rw [mB_yes hc] at hC
  clear hc
  have hY : Hid ((0 ≤ l ∧ l ≤ 65535) → mB (HeadOk a b zs l) = true) := hide (fun h => mB_yes ⟨unhide hSide, by rw [unhide hk]; exact hg, unhide hCol, h⟩)
  have hX : Hid (¬ (0 ≤ l ∧ l ≤ 65535) → mB (HeadOk a b zs l) = false) := hide (fun h => mB_no (fun h' => h h'.2.2.2))
  by_cases h0 : 0 ≤ l ∧ l ≤ 65535
  case neg =>
    rw [unhide hX h0]
    rw [decide_eq_false h0] at hT
    clear h0
    go_enter Try.func100, Try.ntmps100
    go_wp2_with fail
    refine (unhide hS _).mono ?_
    rintro e w1 ⟨rfl, rfl⟩
    go_wp2_with fail
    refine (unhide hL _).mono ?_
    rintro e w1 ⟨rfl, rfl⟩
    go_wp2_with fail
    refine (unhide hC _ (unhide hr)).mono ?_
    rintro e w1 ⟨rfl, rfl⟩
    go_wp2_with fail
    refine (unhide hT _).mono ?_
    rintro e w1 ⟨rfl, rfl⟩
    go_wp2
    go_ret
    exact ⟨rfl, unhide hU⟩
  rw [unhide hY h0]
  rw [decide_eq_true h0] at hT
  clear h0
  go_enter Try.func100, Try.ntmps100
  go_wp2_with fail
  refine (unhide hS _).mono ?_
  rintro e w1 ⟨rfl, rfl⟩
  go_wp2_with fail
  refine (unhide hL _).mono ?_
  rintro e w1 ⟨rfl, rfl⟩
  go_wp2_with fail
  refine (unhide hC _ (unhide hr)).mono ?_
  rintro e w1 ⟨rfl, rfl⟩
  go_wp2_with fail
  refine (unhide hT _).mono ?_
  rintro e w1 ⟨rfl, rfl⟩
  go_wp2
  go_ret
  exact ⟨rfl, unhide hU⟩

end Go.Proofs.Ytnfifpngiocbnaa
