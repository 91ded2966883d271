/- What the numbers ahead foretell: the specification's walk and the program's functions. -/
import Derived.Test.YtailhdfmfmlniaaPlainLi
import Derived.Test.YtailhdfmfmlniaaWRowI
import Derived.Test.YtailhdfmfmlniaaWSzI
import Derived.StillTailTactics
import Derived.Laws.EntriesVeiled
import Derived.Deep.QuietTactic
namespace Go.Proofs.Ytailhdfmfmlniaa
open Go.RowKit

def gueV (o : Nat) (a1 a2 a3 a4 : Int) : Int :=
  if o = 1 then a1 else if o = 2 then 2 * a1 - a2 else if o = 3 then 3 * a1 - 3 * a2 + a3 else if o = 4 then 4 * a1 - 6 * a2 + 4 * a3 - a4 else 0
theorem gueZ_V (o : Nat) (xs : List Int) (i : Nat) : gueZ o xs i = gueV o (xs.getD (i - 1) 0) (xs.getD (i - 2) 0) (xs.getD (i - 3) 0) (xs.getD (i - 4) 0) := rfl
def Sm (a : Int) : Prop := -67108864 ≤ a ∧ a ≤ 67108863
set_option maxHeartbeats 4000000 in
set_option maxRecDepth 100000 in
theorem specL10Guess (o i n cap b off : Nat) (a1 a2 a3 a4 : Int) (w : World) (ho : o ≤ 4) (hoi : o ≤ i) (hi : i < n) (hn : n ≤ 4000) (s1 : Sm a1) (s2 : Sm a2) (s3 : Sm a3) (s4 : Sm a4)
    (c1 : 1 ≤ o → w.cell? ⟨b, off + (i - 1), none⟩ = some (.int .i64 a1)) (c2 : 2 ≤ o → w.cell? ⟨b, off + (i - 2), none⟩ = some (.int .i64 a2)) (c3 : 3 ≤ o → w.cell? ⟨b, off + (i - 3), none⟩ = some (.int .i64 a3)) (c4 : 4 ≤ o → w.cell? ⟨b, off + (i - 4), none⟩ = some (.int .i64 a4)) :
    Calls Try.prog 87 #[.int .i64 (o : Int), .slice (some ⟨b, off, none⟩) n cap, .int .i64 (i : Int)] w fun e w' => e = .returned (.int .i64 (gueV o a1 a2 a3 a4)) ∧ Upd 0 0 w w' := by
  obtain ⟨l1, h1⟩ := s1
  obtain ⟨l2, h2⟩ := s2
  obtain ⟨l3, h3⟩ := s3
  obtain ⟨l4, h4⟩ := s4
  rcases (show o = 0 ∨ o = 1 ∨ o = 2 ∨ o = 3 ∨ o = 4 by omega) with e | e | e | e | e <;> subst e
  · have eV : gueV 0 a1 a2 a3 a4 = 0 := rfl
    rw [eV]
    clear eV
    clear c1 c2 c3 c4
    go_enter Try.func87, Try.ntmps87
    go_wp2
    go_ret
    exact ⟨rfl, Upd.refl 0 0 _⟩
  · have eV : gueV 1 a1 a2 a3 a4 = a1 := rfl
    rw [eV]
    clear eV
    have d1 := c1 (by omega)
    obtain ⟨i1, hi1⟩ : ∃ m, i - 1 = m := ⟨_, rfl⟩
    rw [hi1] at d1
    have f1 : (i : Int) - 1 = (i1 : Int) := by omega
    have g1 : IntKind.i64.wrap ((i : Int) - 1) = (i1 : Int) := by rw [f1]; simp [IntKind.wrap, IntKind.bits, IntKind.signed]; omega
    have k1 : (0 : Int) ≤ (i1 : Int) := by omega
    have m1 : (i1 : Int) < (n : Int) := by omega
    clear c1 c2 c3 c4
    clear hi1
    go_enter Try.func87, Try.ntmps87
    go_wp2
    go_ret
    exact ⟨rfl, Upd.refl 0 0 _⟩
  · have eV : gueV 2 a1 a2 a3 a4 = 2 * a1 - a2 := rfl
    rw [eV]
    clear eV
    have d1 := c1 (by omega)
    obtain ⟨i1, hi1⟩ : ∃ m, i - 1 = m := ⟨_, rfl⟩
    rw [hi1] at d1
    have f1 : (i : Int) - 1 = (i1 : Int) := by omega
    have g1 : IntKind.i64.wrap ((i : Int) - 1) = (i1 : Int) := by rw [f1]; simp [IntKind.wrap, IntKind.bits, IntKind.signed]; omega
    have k1 : (0 : Int) ≤ (i1 : Int) := by omega
    have m1 : (i1 : Int) < (n : Int) := by omega
    have d2 := c2 (by omega)
    obtain ⟨i2, hi2⟩ : ∃ m, i - 2 = m := ⟨_, rfl⟩
    rw [hi2] at d2
    have f2 : (i : Int) - 2 = (i2 : Int) := by omega
    have g2 : IntKind.i64.wrap ((i : Int) - 2) = (i2 : Int) := by rw [f2]; simp [IntKind.wrap, IntKind.bits, IntKind.signed]; omega
    have k2 : (0 : Int) ≤ (i2 : Int) := by omega
    have m2 : (i2 : Int) < (n : Int) := by omega
    clear c1 c2 c3 c4
    clear hi1
    clear hi2
    go_enter Try.func87, Try.ntmps87
    go_wp2_with fail
    go_quiet (fail)
    go_wp2
    go_ret
    exact ⟨ret_int (by omega), (Upd.refl 0 0 _).drewN _⟩
  · have eV : gueV 3 a1 a2 a3 a4 = 3 * a1 - 3 * a2 + a3 := rfl
    rw [eV]
    clear eV
    have d1 := c1 (by omega)
    obtain ⟨i1, hi1⟩ : ∃ m, i - 1 = m := ⟨_, rfl⟩
    rw [hi1] at d1
    have f1 : (i : Int) - 1 = (i1 : Int) := by omega
    have g1 : IntKind.i64.wrap ((i : Int) - 1) = (i1 : Int) := by rw [f1]; simp [IntKind.wrap, IntKind.bits, IntKind.signed]; omega
    have k1 : (0 : Int) ≤ (i1 : Int) := by omega
    have m1 : (i1 : Int) < (n : Int) := by omega
    have d2 := c2 (by omega)
    obtain ⟨i2, hi2⟩ : ∃ m, i - 2 = m := ⟨_, rfl⟩
    rw [hi2] at d2
    have f2 : (i : Int) - 2 = (i2 : Int) := by omega
    have g2 : IntKind.i64.wrap ((i : Int) - 2) = (i2 : Int) := by rw [f2]; simp [IntKind.wrap, IntKind.bits, IntKind.signed]; omega
    have k2 : (0 : Int) ≤ (i2 : Int) := by omega
    have m2 : (i2 : Int) < (n : Int) := by omega
    have d3 := c3 (by omega)
    obtain ⟨i3, hi3⟩ : ∃ m, i - 3 = m := ⟨_, rfl⟩
    rw [hi3] at d3
    have f3 : (i : Int) - 3 = (i3 : Int) := by omega
    have g3 : IntKind.i64.wrap ((i : Int) - 3) = (i3 : Int) := by rw [f3]; simp [IntKind.wrap, IntKind.bits, IntKind.signed]; omega
    have k3 : (0 : Int) ≤ (i3 : Int) := by omega
    have m3 : (i3 : Int) < (n : Int) := by omega
    clear c1 c2 c3 c4
    clear hi1
    clear hi2
    clear hi3
    go_enter Try.func87, Try.ntmps87
    go_wp2_with fail
    go_quiet (fail)
    go_wp2
    go_ret
    exact ⟨ret_int (by omega), (Upd.refl 0 0 _).drewN _⟩
  · have eV : gueV 4 a1 a2 a3 a4 = 4 * a1 - 6 * a2 + 4 * a3 - a4 := rfl
    rw [eV]
    clear eV
    have d1 := c1 (by omega)
    obtain ⟨i1, hi1⟩ : ∃ m, i - 1 = m := ⟨_, rfl⟩
    rw [hi1] at d1
    have f1 : (i : Int) - 1 = (i1 : Int) := by omega
    have g1 : IntKind.i64.wrap ((i : Int) - 1) = (i1 : Int) := by rw [f1]; simp [IntKind.wrap, IntKind.bits, IntKind.signed]; omega
    have k1 : (0 : Int) ≤ (i1 : Int) := by omega
    have m1 : (i1 : Int) < (n : Int) := by omega
    have d2 := c2 (by omega)
    obtain ⟨i2, hi2⟩ : ∃ m, i - 2 = m := ⟨_, rfl⟩
    rw [hi2] at d2
    have f2 : (i : Int) - 2 = (i2 : Int) := by omega
    have g2 : IntKind.i64.wrap ((i : Int) - 2) = (i2 : Int) := by rw [f2]; simp [IntKind.wrap, IntKind.bits, IntKind.signed]; omega
    have k2 : (0 : Int) ≤ (i2 : Int) := by omega
    have m2 : (i2 : Int) < (n : Int) := by omega
    have d3 := c3 (by omega)
    obtain ⟨i3, hi3⟩ : ∃ m, i - 3 = m := ⟨_, rfl⟩
    rw [hi3] at d3
    have f3 : (i : Int) - 3 = (i3 : Int) := by omega
    have g3 : IntKind.i64.wrap ((i : Int) - 3) = (i3 : Int) := by rw [f3]; simp [IntKind.wrap, IntKind.bits, IntKind.signed]; omega
    have k3 : (0 : Int) ≤ (i3 : Int) := by omega
    have m3 : (i3 : Int) < (n : Int) := by omega
    have d4 := c4 (by omega)
    obtain ⟨i4, hi4⟩ : ∃ m, i - 4 = m := ⟨_, rfl⟩
    rw [hi4] at d4
    have f4 : (i : Int) - 4 = (i4 : Int) := by omega
    have g4 : IntKind.i64.wrap ((i : Int) - 4) = (i4 : Int) := by rw [f4]; simp [IntKind.wrap, IntKind.bits, IntKind.signed]; omega
    have k4 : (0 : Int) ≤ (i4 : Int) := by omega
    have m4 : (i4 : Int) < (n : Int) := by omega
    clear c1 c2 c3 c4
    clear hi1
    clear hi2
    clear hi3
    clear hi4
    go_enter Try.func87, Try.ntmps87
    go_wp2_with fail
    go_quiet (fail)
    go_wp2
    go_ret
    exact ⟨ret_int (by omega), (Upd.refl 0 0 _).drewN _⟩

/-- The program's function of an order. -/
def fgn (o : Nat) : Nat := if o = 0 then 125 else if o = 1 then 126 else if o = 2 then 127 else if o = 3 then 128 else 129
set_option maxHeartbeats 4000000 in
set_option maxRecDepth 100000 in
theorem implFore (o cap b off : Nat) (a1 a2 a3 a4 : Int) (w : World) (ho : o ≤ 4) (s1 : Sm a1) (s2 : Sm a2) (s3 : Sm a3) (s4 : Sm a4)
    (c1 : 1 ≤ o → w.cell? ⟨b, off + (o - 1), none⟩ = some (.int .i64 a1)) (c2 : 2 ≤ o → w.cell? ⟨b, off + (o - 2), none⟩ = some (.int .i64 a2)) (c3 : 3 ≤ o → w.cell? ⟨b, off + (o - 3), none⟩ = some (.int .i64 a3)) (c4 : 4 ≤ o → w.cell? ⟨b, off + (o - 4), none⟩ = some (.int .i64 a4)) :
    Calls Try.prog (fgn o) #[.slice (some ⟨b, off, none⟩) o cap] w fun e w' => e = .returned (.int .i64 (gueV o a1 a2 a3 a4)) ∧ Upd 0 0 w w' := by
  obtain ⟨l1, h1⟩ := s1
  obtain ⟨l2, h2⟩ := s2
  obtain ⟨l3, h3⟩ := s3
  obtain ⟨l4, h4⟩ := s4
  rcases (show o = 0 ∨ o = 1 ∨ o = 2 ∨ o = 3 ∨ o = 4 by omega) with e | e | e | e | e <;> subst e
  · have eV : gueV 0 a1 a2 a3 a4 = 0 := rfl
    have eF : fgn 0 = 125 := rfl
    rw [eV, eF]
    clear eV eF
    clear c1 c2 c3 c4
    go_enter Try.func125, Try.ntmps125
    go_wp2
    go_ret
    exact ⟨rfl, Upd.refl 0 0 _⟩
  · have eV : gueV 1 a1 a2 a3 a4 = a1 := rfl
    have eF : fgn 1 = 126 := rfl
    rw [eV, eF]
    clear eV eF
    have d1 : w.cell? ⟨b, off + 0, none⟩ = some (.int .i64 a1) := c1 (by omega)
    rw [show off + 0 = off from rfl] at d1
    clear c1 c2 c3 c4
    go_enter Try.func126, Try.ntmps126
    go_wp2
    go_ret
    exact ⟨rfl, Upd.refl 0 0 _⟩
  · have eV : gueV 2 a1 a2 a3 a4 = 2 * a1 - a2 := rfl
    have eF : fgn 2 = 127 := rfl
    rw [eV, eF]
    clear eV eF
    have d1 : w.cell? ⟨b, off + 1, none⟩ = some (.int .i64 a1) := c1 (by omega)
    have d2 : w.cell? ⟨b, off + 0, none⟩ = some (.int .i64 a2) := c2 (by omega)
    rw [show off + 0 = off from rfl] at d2
    clear c1 c2 c3 c4
    go_enter Try.func127, Try.ntmps127
    go_wp2_with fail
    go_quiet (fail)
    go_wp2
    go_ret
    exact ⟨ret_int (by omega), (Upd.refl 0 0 _).drewN _⟩
  · have eV : gueV 3 a1 a2 a3 a4 = 3 * a1 - 3 * a2 + a3 := rfl
    have eF : fgn 3 = 128 := rfl
    rw [eV, eF]
    clear eV eF
    have d1 : w.cell? ⟨b, off + 2, none⟩ = some (.int .i64 a1) := c1 (by omega)
    have d2 : w.cell? ⟨b, off + 1, none⟩ = some (.int .i64 a2) := c2 (by omega)
    have d3 : w.cell? ⟨b, off + 0, none⟩ = some (.int .i64 a3) := c3 (by omega)
    rw [show off + 0 = off from rfl] at d3
    clear c1 c2 c3 c4
    go_enter Try.func128, Try.ntmps128
    go_wp2_with fail
    go_quiet (fail)
    go_wp2
    go_ret
    exact ⟨ret_int (by omega), (Upd.refl 0 0 _).drewN _⟩
  · have eV : gueV 4 a1 a2 a3 a4 = 4 * a1 - 6 * a2 + 4 * a3 - a4 := rfl
    have eF : fgn 4 = 129 := rfl
    rw [eV, eF]
    clear eV eF
    have d1 : w.cell? ⟨b, off + 3, none⟩ = some (.int .i64 a1) := c1 (by omega)
    have d2 : w.cell? ⟨b, off + 2, none⟩ = some (.int .i64 a2) := c2 (by omega)
    have d3 : w.cell? ⟨b, off + 1, none⟩ = some (.int .i64 a3) := c3 (by omega)
    have d4 : w.cell? ⟨b, off + 0, none⟩ = some (.int .i64 a4) := c4 (by omega)
    rw [show off + 0 = off from rfl] at d4
    clear c1 c2 c3 c4
    go_enter Try.func129, Try.ntmps129
    go_wp2_with fail
    go_quiet (fail)
    go_wp2
    go_ret
    exact ⟨ret_int (by omega), (Upd.refl 0 0 _).drewN _⟩
def foreV : Value := .agg #[.func (.func 125) #[] #[], .func (.func 126) #[] #[], .func (.func 127) #[] #[], .func (.func 128) #[] #[], .func (.func 129) #[] #[]]
set_option maxHeartbeats 1000000 in
theorem implFores (w : World) : Calls Try.prog 76 #[] w fun e w' => e = .returned foreV ∧ Upd 0 0 w w' := by
  go_enter Try.func76, Try.ntmps76
  go_wp2
  refine bodyPost_ret (v := foreV) (by simp [results, Try.results76, go_sem, foreV]) rfl ⟨rfl, Upd.of_below ?_ 0 0⟩
  repeat (first | exact Below.refl _ _ | refine Below.setCell ?_ (by simp) _ | refine Below.alloc ?_ (by first | exact Nat.le_refl _ | (simp; done) | (simp; omega)) _)
theorem idx_fore (o : Nat) (h : o ≤ 4) (w : World) : (Instr.index 103 foreV (.int .i64 (o : Int))).run Try.prog w = .ok (.func (.func (fgn o)) #[] #[]) w := by
  rcases (show o = 0 ∨ o = 1 ∨ o = 2 ∨ o = 3 ∨ o = 4 by omega) with e | e | e | e | e <;> subst e <;> kernel_rfl
theorem run_fore (o : Nat) (v : Value) (w : World) (h : o ≤ 4) : (callFunc (fgn o) #[v]).run Try.prog w = .ok (.enter (fgn o) #[v]) w := by
  rcases (show o = 0 ∨ o = 1 ∨ o = 2 ∨ o = 3 ∨ o = 4 by omega) with e | e | e | e | e <;> subst e <;> kernel_rfl
set_option maxHeartbeats 1000000 in
theorem implGoodOrder (o : Int) (w : World) : Calls Try.prog 74 #[.int .i64 o] w fun e w' => e = .returned (.bool (decide (0 ≤ o ∧ o ≤ 4))) ∧ w' = w := by
  by_cases h0 : o < 0
  · have e : decide (0 ≤ o ∧ o ≤ 4) = false := decide_eq_false (by omega)
    rw [e]
    go_enter Try.func74, Try.ntmps74
    go_wp2
    go_ret
    exact ⟨rfl, rfl⟩
  · have e : decide (0 ≤ o ∧ o ≤ 4) = decide (o ≤ 4) := by rw [Bool.eq_iff_iff]; simp; omega
    rw [e]
    clear e
    go_enter Try.func74, Try.ntmps74
    go_wp2
    go_ret
    exact ⟨rfl, rfl⟩
end Go.Proofs.Ytailhdfmfmlniaa
