/- Small blocks back: the specification's rows of four. -/
import Derived.Test.YtpofmcepjmbmcaaWSmA
import Derived.Test.YtpofmcepjmbmcaaPlainSmB
import Derived.Test.YtpofmcepjmbmcaaWRowI
import Derived.Test.YtpofmcepjmbmcaaWQT
import Derived.Test.YtpofmcepjmbmcaaWStA
import Derived.Deep.DeepCutAuto
namespace Go.Proofs.Ytpofmcepjmbmcaa
open Go.RowKit

theorem specL13Four (r : List Int) (w : World) (hb : ∀ j, j < 4 → -2000000000 ≤ r.getD j 0 ∧ r.getD j 0 ≤ 2000000000) :
    Calls Try.prog 112 #[.int .i64 (r.getD 0 0), .int .i64 (r.getD 1 0), .int .i64 (r.getD 2 0), .int .i64 (r.getD 3 0)] w fun e w' => e = .returned (.slice (some ⟨w.heap.size, 0, none⟩) 4 4) ∧ w' = w.alloc (.cells #[.int .i64 (backS r 0), .int .i64 (backS r 1), .int .i64 (backS r 2), .int .i64 (backS r 3)] 3) := by
  have e0 : Hid (backS r 0 = r.getD 0 0 + r.getD 2 0 + (r.getD 1 0 + r.getD 3 0 / 2)) := hide rfl
  have e1 : Hid (backS r 1 = r.getD 0 0 - r.getD 2 0 + (r.getD 1 0 / 2 - r.getD 3 0)) := hide rfl
  have e2 : Hid (backS r 2 = r.getD 0 0 - r.getD 2 0 - (r.getD 1 0 / 2 - r.getD 3 0)) := hide rfl
  have e3 : Hid (backS r 3 = r.getD 0 0 + r.getD 2 0 - (r.getD 1 0 + r.getD 3 0 / 2)) := hide rfl
  rw [unhide e0, unhide e1, unhide e2, unhide e3]
  clear e0 e1 e2 e3
  obtain ⟨a0, a1⟩ := hb 0 (by omega)
  obtain ⟨a2, a3⟩ := hb 1 (by omega)
  obtain ⟨a4, a5⟩ := hb 2 (by omega)
  obtain ⟨a6, a7⟩ := hb 3 (by omega)
  clear hb
  generalize r.getD 0 0 = a at *
  generalize r.getD 1 0 = b at *
  generalize r.getD 2 0 = c at *
  generalize r.getD 3 0 = d at *
  go_enter Try.func112, Try.ntmps112
  go_wp2
  go_ret
  exact ⟨rfl, rfl⟩
def midB (zs : List Int) (p : Nat) : Int := backS (rowZ zs (p / 4)) (p % 4)
theorem midB_take (zs : List Int) (k : Nat) (hk : k < 4) : (tab16 (midB zs)).take (4 * (k + 1)) = (tab16 (midB zs)).take (4 * k) ++ [backS (rowZ zs k) 0, backS (rowZ zs k) 1, backS (rowZ zs k) 2, backS (rowZ zs k) 3] := by
  rcases (show k = 0 ∨ k = 1 ∨ k = 2 ∨ k = 3 by omega) with e | e | e | e <;> subst e <;> rfl
theorem inv_at (zs : List Int) (p : Nat) (hp : p < 16) : smInvZ zs p = (backS (colZ (tab16 (midB zs)) (p % 4)) (p / 4) + 32) / 64 := by
  unfold smInvZ
  rw [turn_twice, tab16_getD _ p hp]
  rfl
/-- The specification's answer under way. -/
structure InSt (W wr : World) (ys : List Int) : Prop where
  out : RowI wr W.heap.size 16 (ints ys)
  bel : Below W.heap.size W wr
theorem InSt.upd {W wr wx : World} {ys : List Int} (h : InSt W wr ys) (u : Upd 0 0 wr wx) : InSt W wx ys :=
  ⟨h.out.keep u, below_upd h.bel u (Nat.le_refl _) (.inr (Nat.zero_le _))⟩
theorem InSt.put {W wr : World} {ys : List Int} (h : InSt W wr ys) (k : Nat) (x : Int) : InSt W (wr.setCell ⟨W.heap.size, k, none⟩ (.int .i64 x)) (ys.set k x) :=
  ⟨by have := h.out.set k (.int .i64 x); rw [show (ints ys).set k (.int .i64 x) = ints (ys.set k x) by unfold ints; rw [List.map_set]] at this; exact this, h.bel.setCell (p := ⟨W.heap.size, k, none⟩) (Nat.le_refl _) _⟩
theorem ints_tab16B (f : Nat → Int) (p : Nat) (hp : p < 16) : (ints (tab16 f))[p]? = some (.int .i64 (f p)) := by
  unfold ints tab16
  rw [List.getElem?_map, List.getElem?_map, List.getElem?_range hp]
  rfl
set_option maxHeartbeats 64000000 in
set_option maxRecDepth 100000 in
theorem specL13Inverse (ad : Option Addr) (cap : Nat) (zs : List Int) (w : World) (hl : zs.length = 16) (hz : InR (-65536) 65536 zs) (hA : ArgI w ad zs) :
    Calls Try.prog 70 #[.slice ad 16 cap] w fun e w' => ∃ v, e = .returned v ∧ OwnI w' w.heap.size w'.heap.size v (tab16 (smInvZ zs)) ∧ Upd 0 0 w w' := by
  have hRow : Hid (∀ a, a < 4 → ∀ j, j < 4 → -65536 ≤ (rowZ zs a).getD j 0 ∧ (rowZ zs a).getD j 0 ≤ 65536) := hide (rowZ_bd hl hz)
  have hMid : Hid (∀ a, a < 4 → ∀ j, j < 4 → -262145 ≤ (colZ (tab16 (midB zs)) a).getD j 0 ∧ (colZ (tab16 (midB zs)) a).getD j 0 ≤ 262145) := hide (fun a ha j hj => by
    rw [colZ_getD _ a j hj, tab16_getD _ _ (by omega)]
    exact backS_bd (K := 65536) _ (rowZ_bd hl hz _ (by omega)))
  have hTk := hide (midB_take zs)
  obtain ⟨i0, hi, hz0, hz1, hz2⟩ := info_parts infoI
  replace hl := hide hl
  replace hA := hide hA
  clear hz
  go_enter Try.func70, Try.ntmps70
  go_wp2_with fail
  go_loopw [3, 4] (fun s i wr => ∃ (k : Nat) (v : Value), k ≤ 4 ∧ v = s ∧ i = .int .i64 (k : Int) ∧ Hid (wr.ownsRow w.heap.size 3 1 v ((tab16 (midB zs)).take (4 * k)).length (ints ((tab16 (midB zs)).take (4 * k)))) ∧ Hid (Below w.heap.size w wr)) (fun _ i _ => 4 - (intOf i).toNat)
  case atStart => exact ⟨0, _, by omega, rfl, rfl, hide (World.ownsRow_nil _ _ _ _), hide (Below.refl _ _)⟩
  case round =>
    obtain ⟨k, v, hk, rfl, rfl, hrow, hbel⟩ := hrel
    by_cases hklt : k < 4
    · have hkb : decide ((k : Int) < 4) = true := decide_eq_true (by omega)
      obtain ⟨bb, off, hse, hbl, hcl⟩ := (unhide hA) (ne_of_lt_length (k := 0) (by have := unhide hl; omega))
      have hcj : ∀ j, j < 4 → wr.cell? ⟨bb, off + (4 * k + j), none⟩ = some (.int .i64 ((rowZ zs k).getD j 0)) := fun j hj => by
        rw [rowZ_getD zs k j hj]
        exact ((unhide hbel).cell (by simpa using hbl)).trans (hcl _ (by have := unhide hl; omega))
      have c0 := hcj 0 (by omega)
      have c1 := hcj 1 (by omega)
      have c2 := hcj 2 (by omega)
      have c3 := hcj 3 (by omega)
      have hbw : bb < wr.heap.size := Nat.lt_of_lt_of_le hbl (unhide hbel).size
      subst hse
      have hF := hide (fun X => specL13Four (rowZ zs k) X (fun j hj => by have := unhide hRow k hklt j hj; omega))
      have w1 : IntKind.i64.wrap (4 * (k : Int)) = 4 * (k : Int) := wrapS (by omega)
      have w2 : IntKind.i64.wrap (4 * (k : Int) + 1) = 4 * (k : Int) + 1 := wrapS (by omega)
      have w3 : IntKind.i64.wrap (4 * (k : Int) + 2) = 4 * (k : Int) + 2 := wrapS (by omega)
      have w4 : IntKind.i64.wrap (4 * (k : Int) + 3) = 4 * (k : Int) + 3 := wrapS (by omega)
      have n1 : (4 * (k : Int)).toNat = 4 * k := by omega
      have n2 : (4 * (k : Int) + 1).toNat = 4 * k + 1 := by omega
      have n3 : (4 * (k : Int) + 2).toNat = 4 * k + 2 := by omega
      have n4 : (4 * (k : Int) + 3).toNat = 4 * k + 3 := by omega
      have k0 : (0 : Int) ≤ 4 * (k : Int) := by omega
      have k1 : 4 * (k : Int) < 16 := by omega
      have k2 : (0 : Int) ≤ 4 * (k : Int) := by omega
      have k3 : 4 * (k : Int) + 1 < 16 := by omega
      have k4 : (0 : Int) ≤ 4 * (k : Int) + 1 := by omega
      have k5 : 4 * (k : Int) + 2 < 16 := by omega
      have k6 : (0 : Int) ≤ 4 * (k : Int) + 2 := by omega
      have k7 : 4 * (k : Int) + 3 < 16 := by omega
      have k8 : (0 : Int) ≤ 4 * (k : Int) + 3 := by omega
      have hSA : Hid (wr.drew.cell? ⟨bb, off + 4 * k, none⟩ = some (.int .i64 ((rowZ zs k).getD 0 0)) ∧ wr.drew.cell? ⟨bb, off + (4 * k + 1), none⟩ = some (.int .i64 ((rowZ zs k).getD 1 0)) ∧ wr.drew.cell? ⟨bb, off + (4 * k + 2), none⟩ = some (.int .i64 ((rowZ zs k).getD 2 0)) ∧ wr.drew.cell? ⟨bb, off + (4 * k + 3), none⟩ = some (.int .i64 ((rowZ zs k).getD 3 0))) := hide ⟨c0, c1, c2, c3⟩
      have hSB : Hid ((wr.alloc (.cells #[.int .i64 (backS (rowZ zs k) 0), .int .i64 (backS (rowZ zs k) 1), .int .i64 (backS (rowZ zs k) 2), .int .i64 (backS (rowZ zs k) 3)] 3)).drew.cell? ⟨bb, off + 4 * k, none⟩ = some (.int .i64 ((rowZ zs k).getD 0 0)) ∧ (wr.alloc (.cells #[.int .i64 (backS (rowZ zs k) 0), .int .i64 (backS (rowZ zs k) 1), .int .i64 (backS (rowZ zs k) 2), .int .i64 (backS (rowZ zs k) 3)] 3)).drew.cell? ⟨bb, off + (4 * k + 1), none⟩ = some (.int .i64 ((rowZ zs k).getD 1 0)) ∧ (wr.alloc (.cells #[.int .i64 (backS (rowZ zs k) 0), .int .i64 (backS (rowZ zs k) 1), .int .i64 (backS (rowZ zs k) 2), .int .i64 (backS (rowZ zs k) 3)] 3)).drew.cell? ⟨bb, off + (4 * k + 2), none⟩ = some (.int .i64 ((rowZ zs k).getD 2 0)) ∧ (wr.alloc (.cells #[.int .i64 (backS (rowZ zs k) 0), .int .i64 (backS (rowZ zs k) 1), .int .i64 (backS (rowZ zs k) 2), .int .i64 (backS (rowZ zs k) 3)] 3)).drew.cell? ⟨bb, off + (4 * k + 3), none⟩ = some (.int .i64 ((rowZ zs k).getD 3 0))) := hide ⟨(((Below.refl wr.heap.size wr).alloc (Nat.le_refl _) (.cells #[.int .i64 (backS (rowZ zs k) 0), .int .i64 (backS (rowZ zs k) 1), .int .i64 (backS (rowZ zs k) 2), .int .i64 (backS (rowZ zs k) 3)] 3)).cell (by simpa using hbw)).trans c0, (((Below.refl wr.heap.size wr).alloc (Nat.le_refl _) (.cells #[.int .i64 (backS (rowZ zs k) 0), .int .i64 (backS (rowZ zs k) 1), .int .i64 (backS (rowZ zs k) 2), .int .i64 (backS (rowZ zs k) 3)] 3)).cell (by simpa using hbw)).trans c1, (((Below.refl wr.heap.size wr).alloc (Nat.le_refl _) (.cells #[.int .i64 (backS (rowZ zs k) 0), .int .i64 (backS (rowZ zs k) 1), .int .i64 (backS (rowZ zs k) 2), .int .i64 (backS (rowZ zs k) 3)] 3)).cell (by simpa using hbw)).trans c2, (((Below.refl wr.heap.size wr).alloc (Nat.le_refl _) (.cells #[.int .i64 (backS (rowZ zs k) 0), .int .i64 (backS (rowZ zs k) 1), .int .i64 (backS (rowZ zs k) 2), .int .i64 (backS (rowZ zs k) 3)] 3)).cell (by simpa using hbw)).trans c3⟩
      have hown7 : Hid (((wr.alloc (.cells #[.int .i64 (backS (rowZ zs k) 0), .int .i64 (backS (rowZ zs k) 1), .int .i64 (backS (rowZ zs k) 2), .int .i64 (backS (rowZ zs k) 3)] 3)).drew).ownsRow w.heap.size 3 1 v ((tab16 (midB zs)).take (4 * k)).length (ints ((tab16 (midB zs)).take (4 * k)))) := hide (((Own.of (unhide hrow)).keep (Upd.of_below ((Below.refl wr.heap.size wr).alloc (Nat.le_refl _) (.cells #[.int .i64 (backS (rowZ zs k) 0), .int .i64 (backS (rowZ zs k) 1), .int .i64 (backS (rowZ zs k) 2), .int .i64 (backS (rowZ zs k) 3)] 3)) 0 0)).1)
      have hnew7 : Hid (∀ j u, ([.int .i64 (backS (rowZ zs k) 0), .int .i64 (backS (rowZ zs k) 1), .int .i64 (backS (rowZ zs k) 2), .int .i64 (backS (rowZ zs k) 3)] : List Value)[j]? = some u → ((wr.alloc (.cells #[.int .i64 (backS (rowZ zs k) 0), .int .i64 (backS (rowZ zs k) 1), .int .i64 (backS (rowZ zs k) 2), .int .i64 (backS (rowZ zs k) 3)] 3)).drew).cell? ((⟨wr.heap.size, 0, none⟩ : Addr).add j) = some u) := hide (new_cellsT wr [.int .i64 (backS (rowZ zs k) 0), .int .i64 (backS (rowZ zs k) 1), .int .i64 (backS (rowZ zs k) 2), .int .i64 (backS (rowZ zs k) 3)] 3)
      have hsz7 : Hid (w.heap.size ≤ ((wr.alloc (.cells #[.int .i64 (backS (rowZ zs k) 0), .int .i64 (backS (rowZ zs k) 1), .int .i64 (backS (rowZ zs k) 2), .int .i64 (backS (rowZ zs k) 3)] 3)).drew).heap.size) := hide (by have := (unhide hbel).size; show w.heap.size ≤ (wr.alloc (.cells #[.int .i64 (backS (rowZ zs k) 0), .int .i64 (backS (rowZ zs k) 1), .int .i64 (backS (rowZ zs k) 2), .int .i64 (backS (rowZ zs k) 3)] 3)).heap.size; simp; omega)
      have hbb7 : Hid (bb < ((wr.alloc (.cells #[.int .i64 (backS (rowZ zs k) 0), .int .i64 (backS (rowZ zs k) 1), .int .i64 (backS (rowZ zs k) 2), .int .i64 (backS (rowZ zs k) 3)] 3)).drew).heap.size) := hide (by show bb < (wr.alloc (.cells #[.int .i64 (backS (rowZ zs k) 0), .int .i64 (backS (rowZ zs k) 1), .int .i64 (backS (rowZ zs k) 2), .int .i64 (backS (rowZ zs k) 3)] 3)).heap.size; simp; omega)
      have hone7 : Hid (∀ u ∈ ([.int .i64 (backS (rowZ zs k) 0), .int .i64 (backS (rowZ zs k) 1), .int .i64 (backS (rowZ zs k) 2), .int .i64 (backS (rowZ zs k) 3)] : List Value), u.oneCell' = true) := hide (by intro u hu; simp at hu; rcases hu with rfl | rfl | rfl | rfl <;> rfl)
      have hb7 := hide ((unhide hbel).alloc (unhide hbel).size (.cells #[.int .i64 (backS (rowZ zs k) 0), .int .i64 (backS (rowZ zs k) 1), .int .i64 (backS (rowZ zs k) 2), .int .i64 (backS (rowZ zs k) 3)] 3))
      have hlen : ((tab16 (midB zs)).take (4 * k)).length + 4 ≤ 1000 := by simp; omega
      have hvb := hide (fun x (hx : v.ownBlock = some x) => ((unhide hrow).lt x hx))
      clear hcj hcl c0 c1 c2 c3
      go_wp2_with fail
      go_region_held_law (fun w' => w'.cell? ⟨bb, off + 4 * k, none⟩ = some (.int .i64 ((rowZ zs k).getD 0 0)) ∧ w'.cell? ⟨bb, off + (4 * k + 1), none⟩ = some (.int .i64 ((rowZ zs k).getD 1 0)) ∧ w'.cell? ⟨bb, off + (4 * k + 2), none⟩ = some (.int .i64 ((rowZ zs k).getD 2 0)) ∧ w'.cell? ⟨bb, off + (4 * k + 3), none⟩ = some (.int .i64 ((rowZ zs k).getD 3 0))) (first | exact unhide hSA | exact unhide hSB | assumption | go_keep)
        (first
          | (go_at_call 112; refine (unhide hF _).mono ?_; rintro e w7 ⟨rfl, rfl⟩)
          | (refine step_append_atT rfl (.tmp 13) (.tmp 37) 29 rfl w.heap.size 3 i0 (.int .i64 0) 1 8 Try.underlying29 hi hz0 hz1 hz2 rfl (by decide) v ((tab16 (midB zs)).take (4 * k)).length (ints ((tab16 (midB zs)).take (4 * k))) (by simp [Act.eval]) (unhide hown7) ⟨wr.heap.size, 0, none⟩ 4 4 [.int .i64 (backS (rowZ zs k) 0), .int .i64 (backS (rowZ zs k) 1), .int .i64 (backS (rowZ zs k) 2), .int .i64 (backS (rowZ zs k) 3)] (by simp [Act.eval]) rfl (unhide hnew7) (unhide hone7) (by unfold maxLen; omega) (by omega) (unhide hsz7) ?_
             intro v6 w6 hown6 hg6 _
             have hS6 : w6.cell? ⟨bb, off + 4 * k, none⟩ = some (.int .i64 ((rowZ zs k).getD 0 0)) ∧ w6.cell? ⟨bb, off + (4 * k + 1), none⟩ = some (.int .i64 ((rowZ zs k).getD 1 0)) ∧ w6.cell? ⟨bb, off + (4 * k + 2), none⟩ = some (.int .i64 ((rowZ zs k).getD 2 0)) ∧ w6.cell? ⟨bb, off + (4 * k + 3), none⟩ = some (.int .i64 ((rowZ zs k).getD 3 0)) := ⟨(grown_cellT hg6 _ (unhide hbb7) (fun e => by have := unhide hvb _ e; omega)).trans (unhide hSB).1, (grown_cellT hg6 _ (unhide hbb7) (fun e => by have := unhide hvb _ e; omega)).trans (unhide hSB).2.1, (grown_cellT hg6 _ (unhide hbb7) (fun e => by have := unhide hvb _ e; omega)).trans (unhide hSB).2.2.1, (grown_cellT hg6 _ (unhide hbb7) (fun e => by have := unhide hvb _ e; omega)).trans (unhide hSB).2.2.2⟩
             skip))
      have hrow2 : Hid (w6.ownsRow w.heap.size 3 1 v6 ((tab16 (midB zs)).take (4 * (k + 1))).length (ints ((tab16 (midB zs)).take (4 * (k + 1))))) := hide (by
        rw [unhide hTk k hklt, List.length_append, ints_append]; exact hown6)
      have hb6 : Hid (Below w.heap.size w w6) := hide ((Below.drew (unhide hb7)).grown hg6 (unhide hsz7) (fun x hx => (unhide hvb x hx).1))
      clear hown6 hg6 hS6 hSA hSB hown7 hnew7 hb7 hvb hrow hbel hF hone7 hsz7 hbb7
      go_wp2_with fail
      go_roundw
      case rel => exact ⟨k + 1, _, by omega, rfl, by go_num, hrow2, hb6⟩
      case measure => simp [intOf]; omega
    · have hk4 : k = 4 := by omega
      have hkb : decide ((k : Int) < 4) = false := decide_eq_false (by omega)
      have hO : OwnI wr w.heap.size wr.heap.size v (tab16 (midB zs)) := by
        have h := unhide hrow
        rw [hk4, show 4 * 4 = 16 from rfl, List.take_of_length_le (by simp)] at h
        unfold OwnI
        exact Own.of h
      obtain ⟨adm, capm, rfl, hAm⟩ := readK_of_own hO
      obtain ⟨bm, om, rfl, hbm, hcm⟩ := hAm (ne_of_lt_length (k := 0) (by simp))
      have hC := hide (fun (p : Nat) (hp : p < 16) => by
        have h := hcm p (by simpa using hp)
        rw [tab16_getD _ _ hp] at h
        exact h)
      rw [tab16_length]
      obtain ⟨o16, hmk⟩ := mkRowI 16 (by omega)
      have hmk1 : ∀ X : World, (Instr.makeSlice 29 (.int .i64 16) (.int .i64 16)).run Try.prog X = .ok (.slice (some ⟨X.heap.size, 0, none⟩) 16 16) (X.alloc o16) := fun X => (hmk X).1
      have hN0 : Hid (InSt wr (wr.alloc o16) (tab16 (prt (smInvZ zs) rkS (4 * 0 + 0) 0))) := hide ⟨by
        have h := (hmk wr).2
        rw [show 4 * 0 + 0 = 0 from rfl, prt_zero]
        exact h, (Below.refl _ wr).alloc (Nat.le_refl _) _⟩
      replace hbm := hide hbm
      replace hk4 := hide hk4
      clear hmk hcm hAm hO hrow hRow hTk hl hA
      go_wp2_with fail
      generalize wr.alloc o16 = w0 at hN0 ⊢
      clear hmk1 hk
      obtain ⟨W, hW⟩ : ∃ W, W = wr := ⟨_, rfl⟩
      rw [← hW] at hN0 hC hbm hbel ⊢
      clear hW
      go_loopw [6] (fun i wr => ∃ a : Nat, a ≤ 4 ∧ i = .int .i64 (a : Int) ∧ Hid (InSt W wr (tab16 (prt (smInvZ zs) rkS (4 * a + 0) 0)))) (fun i _ => 4 - (intOf i).toNat)
      case atStart => exact ⟨0, by omega, rfl, hN0⟩
      case round =>
        clear hN0
        obtain ⟨a, ha, rfl, hN⟩ := hrel
        by_cases halt : a < 4
        · have hab : decide ((a : Int) < 4) = true := decide_eq_true (by omega)
          have hcj : ∀ j, j < 4 → wr.cell? ⟨bm, om + (4 * j + a), none⟩ = some (.int .i64 ((colZ (tab16 (midB zs)) a).getD j 0)) := fun j hj => by
            rw [colZ_getD _ a j hj, tab16_getD _ _ (by omega)]
            exact ((unhide hN).bel.cell (by simpa using unhide hbm)).trans (unhide hC _ (by omega))
          have hbw : bm < wr.heap.size := Nat.lt_of_lt_of_le (unhide hbm) (unhide hN).bel.size
          have x0 := hcj 0 (by omega)
          have x1 := hcj 1 (by omega)
          have x2 := hcj 2 (by omega)
          have x3 := hcj 3 (by omega)
          rw [show om + (4 * 0 + a) = om + a by omega] at x0
          rw [show om + (4 * 1 + a) = om + (4 + a) by omega] at x1
          rw [show om + (4 * 2 + a) = om + (8 + a) by omega] at x2
          rw [show om + (4 * 3 + a) = om + (12 + a) by omega] at x3
          have hF := hide (fun X => specL13Four (colZ (tab16 (midB zs)) a) X (fun j hj => by have := unhide hMid a halt j hj; omega))
          have a0 : (0 : Int) ≤ (a : Int) := by omega
          have a1 : (a : Int) < 16 := by omega
          have w1 : IntKind.i64.wrap (4 + (a : Int)) = 4 + (a : Int) := wrapS (by omega)
          have w2 : IntKind.i64.wrap (8 + (a : Int)) = 8 + (a : Int) := wrapS (by omega)
          have w3 : IntKind.i64.wrap (12 + (a : Int)) = 12 + (a : Int) := wrapS (by omega)
          have n1 : (4 + (a : Int)).toNat = 4 + a := by omega
          have n2 : (8 + (a : Int)).toNat = 8 + a := by omega
          have n3 : (12 + (a : Int)).toNat = 12 + a := by omega
          have k1 : 4 + (a : Int) < 16 := by omega
          have k2 : (0 : Int) ≤ 4 + (a : Int) := by omega
          have k3 : 8 + (a : Int) < 16 := by omega
          have k4 : (0 : Int) ≤ 8 + (a : Int) := by omega
          have k5 : 12 + (a : Int) < 16 := by omega
          have k6 : (0 : Int) ≤ 12 + (a : Int) := by omega
          obtain ⟨r0, hr0⟩ : ∃ r0, colZ (tab16 (midB zs)) a = r0 := ⟨_, rfl⟩
          rw [hr0] at x0 x1 x2 x3 hF
          have hSA : Hid (wr.drew.cell? ⟨bm, om + a, none⟩ = some (.int .i64 ((r0).getD 0 0)) ∧ wr.drew.cell? ⟨bm, om + (4 + a), none⟩ = some (.int .i64 ((r0).getD 1 0)) ∧ wr.drew.cell? ⟨bm, om + (8 + a), none⟩ = some (.int .i64 ((r0).getD 2 0)) ∧ wr.drew.cell? ⟨bm, om + (12 + a), none⟩ = some (.int .i64 ((r0).getD 3 0))) := hide ⟨x0, x1, x2, x3⟩
          have bel7 := ((Below.refl wr.heap.size wr).alloc (Nat.le_refl _) (.cells #[.int .i64 (backS r0 0), .int .i64 (backS r0 1), .int .i64 (backS r0 2), .int .i64 (backS r0 3)] 3))
          have hSB : Hid ((wr.alloc (.cells #[.int .i64 (backS r0 0), .int .i64 (backS r0 1), .int .i64 (backS r0 2), .int .i64 (backS r0 3)] 3)).drew.cell? ⟨bm, om + a, none⟩ = some (.int .i64 ((r0).getD 0 0)) ∧ (wr.alloc (.cells #[.int .i64 (backS r0 0), .int .i64 (backS r0 1), .int .i64 (backS r0 2), .int .i64 (backS r0 3)] 3)).drew.cell? ⟨bm, om + (4 + a), none⟩ = some (.int .i64 ((r0).getD 1 0)) ∧ (wr.alloc (.cells #[.int .i64 (backS r0 0), .int .i64 (backS r0 1), .int .i64 (backS r0 2), .int .i64 (backS r0 3)] 3)).drew.cell? ⟨bm, om + (8 + a), none⟩ = some (.int .i64 ((r0).getD 2 0)) ∧ (wr.alloc (.cells #[.int .i64 (backS r0 0), .int .i64 (backS r0 1), .int .i64 (backS r0 2), .int .i64 (backS r0 3)] 3)).drew.cell? ⟨bm, om + (12 + a), none⟩ = some (.int .i64 ((r0).getD 3 0))) := hide ⟨(bel7.cell (by simpa using hbw)).trans x0, (bel7.cell (by simpa using hbw)).trans x1, (bel7.cell (by simpa using hbw)).trans x2, (bel7.cell (by simpa using hbw)).trans x3⟩
          clear hcj x0 x1 x2 x3
          go_wp2_with fail
          go_region_held_law (fun w' => w'.cell? ⟨bm, om + a, none⟩ = some (.int .i64 ((r0).getD 0 0)) ∧ w'.cell? ⟨bm, om + (4 + a), none⟩ = some (.int .i64 ((r0).getD 1 0)) ∧ w'.cell? ⟨bm, om + (8 + a), none⟩ = some (.int .i64 ((r0).getD 2 0)) ∧ w'.cell? ⟨bm, om + (12 + a), none⟩ = some (.int .i64 ((r0).getD 3 0))) (first | exact unhide hSA | exact unhide hSB | assumption | go_keep)
            (first | (go_at_call 112; refine (unhide hF _).mono ?_; rintro e w7 ⟨rfl, rfl⟩))
          have hFh : Hid (HeldF (wr.alloc (.cells #[.int .i64 (backS r0 0), .int .i64 (backS r0 1), .int .i64 (backS r0 2), .int .i64 (backS r0 3)] 3)).drew wr.heap.size [.int .i64 (backS r0 0), .int .i64 (backS r0 1), .int .i64 (backS r0 2), .int .i64 (backS r0 3)]) := hide (heldF_new wr [.int .i64 (backS r0 0), .int .i64 (backS r0 1), .int .i64 (backS r0 2), .int .i64 (backS r0 3)] 3)
          have hN7 : Hid (InSt W (wr.alloc (.cells #[.int .i64 (backS r0 0), .int .i64 (backS r0 1), .int .i64 (backS r0 2), .int .i64 (backS r0 3)] 3)).drew (tab16 (prt (smInvZ zs) rkS (4 * a + 0) 0))) := hide ((unhide hN).upd (Upd.of_below (Below.drew bel7) 0 0))
          have hne : W.heap.size < wr.heap.size := (unhide hN).out.lt
          have hbd := hide (fun (j : Nat) (hj : j < 4) => backS_bd (K := 262145) (r := r0) j (by rw [← hr0]; exact unhide hMid a halt))
          have hval : Hid (∀ b, b < 4 → smInvZ zs (4 * b + a) = (backS r0 b + 32) / 64) := hide (fun b hb => by
            rw [inv_at zs _ (by omega), show (4 * b + a) % 4 = a by omega, show (4 * b + a) / 4 = b by omega, hr0])
          replace hr0 := hide hr0
          clear hSA hSB bel7 hN hbw hF
          generalize (wr.alloc (.cells #[.int .i64 (backS r0 0), .int .i64 (backS r0 1), .int .i64 (backS r0 2), .int .i64 (backS r0 3)] 3)).drew = w7 at hFh hN7 ⊢
          generalize wr.heap.size = F at hFh hne ⊢
          go_wp2_with fail
          go_loopw [65] (fun i wr => ∃ b : Nat, b ≤ 4 ∧ i = .int .i64 (b : Int) ∧ Hid (InSt W wr (tab16 (prt (smInvZ zs) rkS (4 * a + b) 0))) ∧ Hid (HeldF wr F [.int .i64 (backS r0 0), .int .i64 (backS r0 1), .int .i64 (backS r0 2), .int .i64 (backS r0 3)])) (fun i _ => 4 - (intOf i).toNat)
          case atStart => exact ⟨0, by omega, rfl, hN7, hFh⟩
          case round =>
            clear hN7 hFh
            obtain ⟨b, hb, rfl, hN, hFh⟩ := hrel
            by_cases hblt : b < 4
            · have hbb : decide ((b : Int) < 4) = true := decide_eq_true (by omega)
              have hck : wr.cell? ⟨F, b, none⟩ = some (.int .i64 (backS r0 b)) := (unhide hFh).1.2 b _ (by rcases (show b = 0 ∨ b = 1 ∨ b = 2 ∨ b = 3 by omega) with e | e | e | e <;> subst e <;> rfl)
              have hp16 : 4 * b + a < 16 := by omega
              obtain ⟨n0, n1⟩ := unhide hbd b hblt
              have hv := unhide hval b hblt
              have hput := hide ((unhide hN).put (4 * b + a) (smInvZ zs (4 * b + a)))
              have hFh2 := hide ((unhide hFh).other (g' := W.heap.size) (by omega) (4 * b + a) (.int .i64 (smInvZ zs (4 * b + a))))
              rw [prt_set (smInvZ zs) rkS (4 * a + b) 0 (smInvZ zs (4 * b + a)) (4 * b + a) hp16 (by unfold rkS; omega) (fun q hq e => by unfold rkS at e; omega), prt_next (smInvZ zs) rkS (4 * a + b) (smInvZ zs (4 * b + a)) (fun q hq e => by rw [show q = 4 * b + a by unfold rkS at e; omega])] at hput
              obtain ⟨old, hdst⟩ := (unhide hN).out.has (4 * b + a) hp16
              have hfz := (unhide hN).out.frozen (4 * b + a)
              rw [hv] at hput hFh2
              generalize backS r0 b = n at hck n0 n1 hput hFh2
              obtain ⟨p, hp⟩ : ∃ p, 4 * b + a = p := ⟨_, rfl⟩
              rw [hp] at hput hFh2 hdst hfz hp16
              have d1 : 4 * (b : Int) + (a : Int) = (p : Int) := by omega
              have b0 : (0 : Int) ≤ (b : Int) := by omega
              have b1 : (b : Int) < 4 := by omega
              clear hN hFh hv hp
              go_wp2_with fail
              go_roundw
              case rel => exact ⟨b + 1, by omega, by go_num, hput, hFh2⟩
              case measure => simp [intOf]; omega
            · obtain rfl : b = 4 := by omega
              have hN2 : Hid (InSt W wr (tab16 (prt (smInvZ zs) rkS (4 * (a + 1) + 0) 0))) := hide (by have h := unhide hN; rw [show 4 * (a + 1) + 0 = 4 * a + 4 by omega]; exact h)
              clear hN
              go_wp2_with fail
              go_roundw
              case rel => exact ⟨a + 1, by omega, by go_num, hN2⟩
              case measure => simp [intOf]; omega
        · obtain rfl : a = 4 := by omega
          have hN2 : Hid (InSt W wr (tab16 (smInvZ zs))) := hide (by
            have h := unhide hN
            rw [show 4 * 4 + 0 = 16 from rfl, prt_done (smInvZ zs) rkS rkS_lt] at h
            exact h)
          clear hN
          go_wp2_with fail
          have hO := (unhide hN2).out.own
          have hlt := (unhide hN2).out.lt
          have hO2 : OwnI wr w.heap.size wr.heap.size (.slice (some ⟨W.heap.size, 0, none⟩) 16 16) (tab16 (smInvZ zs)) := by
            have h := own_mono hO (unhide hbel).size (Nat.succ_le_of_lt hlt)
            unfold OwnI
            rw [tab16_length]
            exact h
          have hU := Upd.of_below ((unhide hbel).trans ((unhide hN2).bel.mono (unhide hbel).size)) 0 0
          go_ret
          exact ⟨_, rfl, hO2, hU⟩
end Go.Proofs.Ytpofmcepjmbmcaa
