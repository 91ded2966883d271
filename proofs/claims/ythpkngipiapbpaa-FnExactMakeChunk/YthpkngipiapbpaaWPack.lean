/- The walk of the program's packing of fields, over what its writer does. -/
import Derived.Test.YthpkngipiapbpaaWFields
import Derived.Test.YthpkngipiapbpaaWPutE
namespace Go.Proofs.Ythpkngipiapbpaa
open Go.RowKit

/-- The order's number, as the program has it. -/
def ordI (h : Bool) : Int := if h then 1 else 0
/-- What the writer does with one number. -/
def PutSaid (h : Bool) : Prop := ∀ (zs : List Nat) (L v n c : Nat) (w : World), Inv h zs L → v < 18446744073709551616 → n ≤ 64 → L + n ≤ 2097152 → Sink w c (.int .i64 (ordI h)) zs (roomI L) →
    Calls Try.prog 30 #[.pointer (some ⟨c, 0, none⟩), .int .u64 v, .int .i64 n] w fun e w' => e = .returned (.tuple #[]) ∧ Sink w' c (.int .i64 (ordI h)) (ft h v n zs L n) (roomI (L + n)) ∧ Below c w w'

set_option maxHeartbeats 1000000 in
theorem implPackMany (o : Int) (ad : Option Addr) (n cap : Nat) (w : World) (hn : 20000 < n) :
    Calls Try.prog 28 #[.slice ad n cap, .int .i64 o] w fun e w' => e = .returned (.slice none 0 0) ∧ Below w.heap.size w w' := by
  go_enter Try.func28, Try.ntmps28
  go_wp2
  go_ret
  exact ⟨rfl, Below.refl _ _⟩

theorem writer_new (w : World) (o : Int) : Sink (w.alloc (.cells #[.int .i64 o, .slice none 0 0, .int .i64 0] 56)) w.heap.size (.int .i64 o) [] (roomI 0) := by
  refine ⟨.slice none 0 0, ⟨by simp, ?_, ?_, ?_, World.frozen?_alloc_at _ _ _ _ rfl, World.frozen?_alloc_at _ _ _ _ rfl⟩, World.ownsRow_nil _ _ _ _⟩ <;> (rw [World.cell?_alloc_at _ _ _ _ rfl]; rfl)

set_option maxHeartbeats 4000000 in
set_option maxRecDepth 100000 in
theorem implPackFew (h : Bool) (hPut : PutSaid h) (g cap : Nat) (fs : List (Int × Int)) (w : World) (hI : InF fs) (hn : fs.length ≤ 20000) (hO : OwnF w g fs) :
    Calls Try.prog 28 #[.slice (some ⟨g, 0, none⟩) fs.length cap, .int .i64 (ordI h)] w fun e w' => ∃ v, e = .returned v ∧ w'.ownsRow w.heap.size 5 1 v (packF h fs).length (vals (packF h fs)) ∧ Below w.heap.size w w' := by
  replace hI := hide hI
  replace hO := hide hO
  replace hPut := hide hPut
  generalize ho : ordI h = o
  replace ho := hide ho
  go_enter Try.func28, Try.ntmps28
  have hS0 := writer_new w o
  have hbC := (Below.refl w.heap.size w).alloc (Nat.le_refl _) (.cells #[.int .i64 o, .slice none 0 0, .int .i64 0] 56)
  obtain ⟨c, hc⟩ : ∃ c, c = w.heap.size := ⟨_, rfl⟩
  rw [← hc] at hS0
  go_wp2
  rw [← hc]
  generalize w.alloc (.cells #[.int .i64 o, .slice none 0 0, .int .i64 0] 56) = w0 at hS0 hbC ⊢
  have hcs : w.heap.size ≤ c := by omega
  replace hc := hide hc
  replace hS0 := hide hS0
  go_loopw [15] (fun i wx => ∃ k : Nat, k ≤ fs.length ∧ i = .int .i64 k ∧ Hid (∀ j, j < k → okF (fs.getD j (0, 0))) ∧ Sink wx c (.int .i64 o) (packTo h fs k).1 (roomI (packTo h fs k).2) ∧ Below w.heap.size w wx) (fun i _ => fs.length - (intOf i).toNat)
  case atStart => exact ⟨0, Nat.zero_le _, rfl, fun j hj => by omega, unhide hS0, hbC⟩
  case round =>
    clear hbC hS0
    obtain ⟨k, hk, rfl, hok, hS, hbel⟩ := hrel
    by_cases hlt : k < fs.length
    · have hO' := (unhide hO).belowAt (unhide hO).1 hbel
      obtain ⟨c0, c1⟩ := hO'.2 k hlt
      have hIk := unhide hI k
      have hinv := packTo_inv h fs k (by omega) (unhide hok)
      have hstep := packTo_succ h fs k hlt
      have hFk : Hid (¬ okF (fs.getD k (0, 0)) → packF h fs = []) := packF_bad h fs k hlt
      have hOk : Hid (okF (fs.getD k (0, 0)) → ∀ j, j < k + 1 → okF (fs.getD j (0, 0))) := fun h j hj => by
        rcases Nat.lt_or_eq_of_le (Nat.le_of_lt_succ hj) with h' | h'
        · exact unhide hok j h'
        · subst h'; exact h
      generalize fs.getD k (0, 0) = f at c0 c1 hIk hFk hOk hstep
      obtain ⟨n, u⟩ := f
      simp only at c0 c1 hIk
      rw [Nat.zero_add] at c0 c1
      clear hO'
      have hSA := hS.alloc (.cells #[.int .i64 n, .int .u64 u] 48)
      have hbA := hide (hbel.alloc hbel.size (.cells #[.int .i64 n, .int .u64 u] 48))
      clear hbel hS
      by_cases hg : 0 ≤ n ∧ n ≤ 64
      · have hok2 := hide (unhide hOk ⟨hg.1, hg.2⟩)
        obtain ⟨N, rfl⟩ := Int.eq_ofNat_of_zero_le hg.1
        obtain ⟨U, rfl⟩ := Int.eq_ofNat_of_zero_le hIk.2.1
        have hN : N ≤ 64 := by omega
        have hstep1 := hide (show (packTo h fs (k + 1)).1 = ft h U N (packTo h fs k).1 (packTo h fs k).2 N by rw [hstep]; rfl)
        have hstep2 := hide (show (packTo h fs (k + 1)).2 = (packTo h fs k).2 + N by rw [hstep]; rfl)
        have hgw := hide (fun W => goodWidthYes (N : Int) W hg.1 hg.2)
        have hP := unhide hPut (packTo h fs k).1 (packTo h fs k).2 U N c _ hinv.1 (by omega) hN (by omega) (by rw [unhide ho]; exact hSA)
        rw [unhide ho] at hP
        replace hP := hide hP
        clear hSA hIk hOk hFk hstep hg
        go_wp2_with fail
        refine (unhide hgw _).mono ?_
        rintro e w3 ⟨rfl, hw3⟩
        subst hw3
        go_wp2_with fail
        refine (unhide hP).mono ?_
        rintro e w2 ⟨rfl, hS2, hb2⟩
        rw [← unhide hstep1, ← unhide hstep2] at hS2
        replace hb2 := hide ((unhide hbA).trans (hb2.mono hcs))
        replace hS2 := hide hS2
        clear hP hbA c0 c1 hgw
        go_wp2
        go_roundw
        case rel => exact ⟨k + 1, by omega, by go_num, unhide hok2, unhide hS2, unhide hb2⟩
        case measure => simp [intOf]; omega
      · have hPF := hide (unhide hFk (fun h => hg ⟨h.1, h.2⟩))
        have hgw := hide (fun W => goodWidthNo n W hg)
        clear hSA hIk hOk hFk hstep hg
        go_wp2_with fail
        refine (unhide hgw _).mono ?_
        rintro e w3 ⟨rfl, hw3⟩
        subst hw3
        go_wp2
        go_ret
        exact ⟨_, rfl, by rw [unhide hPF]; exact World.ownsRow_nil _ _ _ _, unhide hbA⟩
    · have hkl : k = fs.length := by omega
      subst hkl
      have hPF := packF_good h fs hn (unhide hok)
      obtain ⟨v, hSS, hown⟩ := hS
      obtain ⟨s0, s1, s2, s3, s4, s5⟩ := hSS
      rw [← hPF] at hown
      clear hPF
      replace hown := hide (ownsRow_base hown (show w.heap.size ≤ c + 1 by omega))
      go_wp2
      go_ret
      exact ⟨_, rfl, unhide hown, hbel⟩
end Go.Proofs.Ythpkngipiapbpaa
