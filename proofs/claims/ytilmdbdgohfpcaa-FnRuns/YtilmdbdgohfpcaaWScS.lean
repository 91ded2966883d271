/- The specification's ScanOrder. -/
import Derived.Test.YtilmdbdgohfpcaaPlainSc
import Derived.Test.YtilmdbdgohfpcaaWAppI
import Derived.Test.YtilmdbdgohfpcaaWHeld
import Derived.Deep.DeepCutAuto
namespace Go.Proofs.Ytilmdbdgohfpcaa
open Go.RowKit

set_option maxHeartbeats 16000000 in
set_option maxRecDepth 100000 in
theorem specScanOrder (w : World) :
    Calls Try.prog 37 #[] w fun e w' => ∃ v, e = .returned v ∧ OwnI w' w.heap.size w'.heap.size v scanL ∧ Upd 0 0 w w' := by
  go_enter Try.func37, Try.ntmps37
  go_wp2
  have hrow0 : Hid (w.ownsRow w.heap.size 3 1 (.slice none 0 0) 0 (ints [])) := hide (World.ownsRow_nil _ _ _ _)
  go_loopw [1, 2] (fun s k wr => ∃ (m : Nat) (ad : Option Addr) (cp : Nat) (L : List Int), s = .slice ad L.length cp ∧ k = .int .i64 (m : Int) ∧ m ≤ 15 ∧ Hid (L = scanTo m) ∧ Hid (wr.ownsRow w.heap.size 3 1 (.slice ad L.length cp) L.length (ints L)) ∧ Hid (Below w.heap.size w wr)) (fun _ k _ => 15 - (intOf k).toNat)
  case atStart => exact ⟨0, none, 0, [], rfl, rfl, by omega, hide rfl, hrow0, hide (Below.refl _ _)⟩
  case round =>
    clear hrow0
    obtain ⟨m, ad, cp, L, rfl, rfl, hm, hL, hrow, hbel⟩ := hrel
    by_cases hlt : m < 15
    · have hln : L.length ≤ 1000 := by rw [unhide hL]; exact scanTo_len m (by omega)
      have hL0 : Hid (L = scanTo m ++ scanIn m 0) := hide (by rw [unhide hL]; simp [scanIn])
      have hnx : Hid (∀ L' : List Int, L' = scanTo m ++ scanIn m (m + 1) → L' = scanTo (m + 1)) := hide (fun L' h => h)
      clear hL
      have hmb : decide ((m : Int) < 15) = true := decide_eq_true (by omega)
      go_wp2
      go_loopw [1, 3] (fun s i wr => ∃ (j : Nat) (ad : Option Addr) (cp : Nat) (L : List Int), s = .slice ad L.length cp ∧ i = .int .i64 (j : Int) ∧ j ≤ m + 1 ∧ Hid (L = scanTo m ++ scanIn m j) ∧ Hid (wr.ownsRow w.heap.size 3 1 (.slice ad L.length cp) L.length (ints L)) ∧ Hid (Below w.heap.size w wr)) (fun _ i _ => m + 1 - (intOf i).toNat)
      case atStart => exact ⟨0, ad, cp, L, rfl, rfl, by omega, hL0, hrow, hbel⟩
      case round =>
        clear hrow hbel hL0 hln
        obtain ⟨j, ad, cp, L, rfl, rfl, hj, hL, hrow, hbel⟩ := hrel
        have hln : L.length ≤ 1000 := by rw [unhide hL]; exact scan_len m (by omega) j (by omega)
        by_cases hjm : j ≤ m
        · obtain ⟨r, hr⟩ : ∃ r, rowS m j = r := ⟨_, rfl⟩
          have hrm : r ≤ m := by rw [← hr]; exact rowS_le m j hjm
          have hs : Hid (scanTo m ++ scanIn m (j + 1) = L ++ (if r < 8 ∧ m - r < 8 then [((8 * r + m - r : Nat) : Int)] else [])) := hide (by
            rw [unhide hL, ← hr, List.append_assoc]; rfl)
          clear hL
          have hrE : Hid (r = if m % 2 = 0 then m - j else j) := hide (by rw [← hr]; rfl)
          clear hr
          go_upto_if 17 with fail
          go_cut [4] (fun s wx => s = .int .i64 (r : Int) ∧ wx = wr)
          case first =>
            by_cases hp : m % 2 = 0
            · have hb : ((m : Int) % 2 == 0) = true := by simp; omega
              have hr' := unhide hrE
              rw [if_pos hp] at hr'
              have hr3 : (m : Int) - (j : Int) = (r : Int) := by omega
              clear hr'
              go_wp2
              go_meet
              exact ⟨by first | rfl | simp, rfl⟩
            · have hb : ((m : Int) % 2 == 0) = false := by simp; omega
              have hr' := unhide hrE
              rw [if_neg hp] at hr'
              subst hr'
              go_wp2
              go_meet
              exact ⟨rfl, rfl⟩
          case rest =>
            obtain ⟨rfl, hwx⟩ := hcut
            subst hwx
            clear hrE
            by_cases h1 : r < 8
            case neg =>
              have hs' := unhide hs
              rw [if_neg (fun h => h1 h.1), List.append_nil] at hs'
              have hs2 := hide hs'.symm
              clear hs' hs
              go_wp2
              go_roundw
              case rel => exact ⟨j + 1, ad, cp, L, rfl, by go_num, by omega, hs2, hrow, hbel⟩
              case measure => simp [intOf]; omega
            by_cases h2 : m - r < 8
            case neg =>
              have hs' := unhide hs
              rw [if_neg (fun h => h2 h.2), List.append_nil] at hs'
              have hs2 := hide hs'.symm
              clear hs' hs
              have h3 : ¬ (m : Int) - (r : Int) < 8 := by omega
              go_wp2
              go_roundw
              case rel => exact ⟨j + 1, ad, cp, L, rfl, by go_num, by omega, hs2, hrow, hbel⟩
              case measure => simp [intOf]; omega
            have hs' := unhide hs
            rw [if_pos ⟨h1, h2⟩] at hs'
            obtain ⟨X, hX⟩ : ∃ X : Int, ((8 * r + m - r : Nat) : Int) = X := ⟨_, rfl⟩
            rw [hX] at hs'
            have hX2 : 8 * (r : Int) + (m : Int) - (r : Int) = X := by omega
            have hs2 := hide hs'.symm
            clear hs' hs hX
            have h3 : (m : Int) - (r : Int) < 8 := by omega
            have hu5 := Upd.of_below ((Below.refl wc.heap.size wc).alloc (Nat.le_refl _) (.cells #[.int .i64 X] 3)) 0 0
            have kB5 := hide (below_upd (unhide hbel) hu5 (Nat.le_refl _) (.inr (Nat.le_refl _)))
            have hO5 := hide ((Own.of (unhide hrow)).keep hu5).1
            have hnk := heldF_new wc [.int .i64 X] 3
            have hrn : Hid (RdJ (wc.alloc (.cells #[.int .i64 X] 3)) (.slice (some ⟨wc.heap.size, 0, none⟩) 1 1) [X]) := hide (.inr ⟨wc.heap.size, 0, 1, rfl, by simp, fun j hj => by
              have hj0 : j = 0 := by simp at hj; omega
              subst hj0
              exact hnk.1.2 0 _ rfl⟩)
            have hsz : w.heap.size ≤ wc.heap.size := (unhide hbel).size
            clear hu5 hnk hrow
            go_upto_region 12 with fail
            go_wp2_with (at_builtin; go_loud (refine wpList_appI rfl (.tmp 29) (.tmp 36) rfl w.heap.size (.slice ad L.length cp) L rfl (unhide hO5) _ [X] rfl (unhide hrn) (by simp; omega) (by simp; omega) ?_; intro v6 w6 ho6 hg6 _; have hu6 := upd_of_grownI hg6 (unhide hO5); have kB6 := hide (below_upd (unhide kB5) hu6 (Nat.le_refl _) (.inl (Nat.le_refl _))); obtain ⟨ad6, cp6, rfl, _⟩ := readK_of_own (Own.of ho6); replace ho6 := hide ho6; clear hu6 hg6))
            go_roundw
            case rel => exact ⟨j + 1, ad6, cp6, L ++ [X], by simp, by go_num, by omega, hs2, ho6, kB6⟩
            case measure => simp [intOf]; omega
        · have hjm2 : j = m + 1 := by omega
          subst hjm2
          have hL2 := hide (unhide hnx _ (unhide hL))
          have hn : ¬ ((m : Int) + 1 ≤ (m : Int)) := by omega
          go_wp2
          go_roundw
          case rel => exact ⟨m + 1, ad, cp, L, rfl, by go_num, by omega, hL2, hrow, hbel⟩
          case measure => simp [intOf]; omega
    · have hm15 : m = 15 := by omega
      subst hm15
      have ho := hide (Own.of (unhide hrow))
      have hL2 : Hid (L = scanL) := hL
      go_wp2
      go_ret
      exact ⟨_, rfl, by rw [← unhide hL2]; exact unhide ho, Upd.of_below (unhide hbel) 0 0⟩
end Go.Proofs.Ytilmdbdgohfpcaa
