/- Fields, and the walk of the specification's packing of them. -/
import Derived.Test.YtcmabocmcgkmdaaWSink2
namespace Go.Proofs.Ytcmabocmcgkmdaa
open Go.RowKit

def FieldsAt (w : World) (b off : Nat) (fs : List (Int × Int)) : Prop := ∀ j, j < fs.length → w.cell? ⟨b, off + j * 2, none⟩ = some (.int .i64 (fs.getD j (0, 0)).1) ∧ w.cell? ⟨b, off + j * 2 + 1, none⟩ = some (.int .u64 (fs.getD j (0, 0)).2)
def InF (fs : List (Int × Int)) : Prop := ∀ j, (-9223372036854775808 ≤ (fs.getD j (0, 0)).1 ∧ (fs.getD j (0, 0)).1 ≤ 9223372036854775807) ∧ 0 ≤ (fs.getD j (0, 0)).2 ∧ (fs.getD j (0, 0)).2 < 18446744073709551616
def OwnF (w : World) (g : Nat) (fs : List (Int × Int)) : Prop := g < w.heap.size ∧ FieldsAt w g 0 fs
theorem OwnF.below {w w' : World} {g : Nat} {fs : List (Int × Int)} (h : OwnF w g fs) (hb : Below w.heap.size w w') : OwnF w' g fs :=
  ⟨Nat.lt_of_lt_of_le h.1 hb.size, fun j hj => ⟨(hb.cell (by simpa using h.1)).trans (h.2 j hj).1, (hb.cell (by simpa using h.1)).trans (h.2 j hj).2⟩⟩
theorem OwnF.belowAt {B : Nat} {w w' : World} {g : Nat} {fs : List (Int × Int)} (h : OwnF w g fs) (hg : g < B) (hb : Below B w w') : OwnF w' g fs :=
  ⟨Nat.lt_of_lt_of_le h.1 hb.size, fun j hj => ⟨(hb.cell (by simpa using hg)).trans (h.2 j hj).1, (hb.cell (by simpa using hg)).trans (h.2 j hj).2⟩⟩

def okF (f : Int × Int) : Prop := 0 ≤ f.1 ∧ f.1 ≤ 64
def packStep (h : Bool) (s : List Nat × Nat) (f : Int × Int) : List Nat × Nat := (ft h f.2.toNat f.1.toNat s.1 s.2 f.1.toNat, s.2 + f.1.toNat)
def packTo (h : Bool) (fs : List (Int × Int)) (k : Nat) : List Nat × Nat := (fs.take k).foldl (packStep h) ([], 0)
theorem packTo_succ (h : Bool) (fs : List (Int × Int)) (k : Nat) (hk : k < fs.length) : packTo h fs (k + 1) = packStep h (packTo h fs k) (fs.getD k (0, 0)) := by
  unfold packTo; rw [take_snoc_getD fs (0, 0) k hk, List.foldl_append]; rfl
theorem inv_nil (h : Bool) : Inv h [] 0 := ⟨rfl, fun j => by simp, fun h => absurd rfl h⟩
theorem packTo_inv (h : Bool) (fs : List (Int × Int)) (k : Nat) (hk : k ≤ fs.length) (hok : ∀ j, j < k → okF (fs.getD j (0, 0))) : Inv h (packTo h fs k).1 (packTo h fs k).2 ∧ (packTo h fs k).2 ≤ 64 * k := by
  induction k with
  | zero => exact ⟨inv_nil h, Nat.le_refl _⟩
  | succ k ih =>
    have h1 := ih (by omega) (fun j hj => hok j (by omega))
    have h2 := hok k (by omega)
    rw [packTo_succ h fs k (by omega)]
    refine ⟨ft_inv h1.1 _, ?_⟩
    show (packTo h fs k).2 + (fs.getD k (0, 0)).1.toNat ≤ _
    have := h2.2
    omega
/-- The packed bytes: none where there are too many fields or one's width is bad. -/
noncomputable def packF (h : Bool) (fs : List (Int × Int)) : List Nat := open Classical in if fs.length ≤ 20000 ∧ ∀ j, j < fs.length → okF (fs.getD j (0, 0)) then (packTo h fs fs.length).1 else []
theorem packF_good (h : Bool) (fs : List (Int × Int)) (h1 : fs.length ≤ 20000) (h2 : ∀ j, j < fs.length → okF (fs.getD j (0, 0))) : packF h fs = (packTo h fs fs.length).1 := if_pos ⟨h1, h2⟩
theorem packF_many (h : Bool) (fs : List (Int × Int)) (h1 : 20000 < fs.length) : packF h fs = [] := if_neg (fun h => by have := h.1; omega)
theorem packF_bad (h : Bool) (fs : List (Int × Int)) (j : Nat) (hj : j < fs.length) (hb : ¬ okF (fs.getD j (0, 0))) : packF h fs = [] := if_neg (fun h => hb (h.2 j hj))

theorem ownsRow_base {w : World} {base base' : Nat} {e : TypeId} {size : Nat} {v : Value} {n : Nat} {xs : List Value} (h : w.ownsRow base e size v n xs) (hb : base' ≤ base) : w.ownsRow base' e size v n xs := by
  refine ⟨h.1, ?_⟩
  rcases h.2 with h | ⟨g, cap, cur, e1, e2, e3⟩
  · exact .inl h
  · exact .inr ⟨g, cap, cur, e1, Nat.le_trans hb e2, e3⟩
theorem Sink.alloc {w : World} {c : Nat} {o : Value} {zs : List Nat} {q : Int} (h : Sink w c o zs q) (ob : Obj) : Sink (w.alloc ob) c o zs q := by
  obtain ⟨v, hS, hown⟩ := h
  exact ⟨v, hS.grown (World.grownBy_alloc w ob none) (by simp), hown.alloc ob⟩
theorem sink_new (w : World) (h : Bool) : Sink (w.alloc (.cells #[.bool h, .slice none 0 0, .int .i64 0] 81)) w.heap.size (.bool h) [] ((0 : Nat) : Int) := by
  refine ⟨.slice none 0 0, ⟨by simp, ?_, ?_, ?_, World.frozen?_alloc_at _ _ _ _ rfl, World.frozen?_alloc_at _ _ _ _ rfl⟩, World.ownsRow_nil _ _ _ _⟩ <;> (rw [World.cell?_alloc_at _ _ _ _ rfl]; rfl)
theorem specPut (h : Bool) (zs : List Nat) (L v n c : Nat) (w : World) (hi : Inv h zs L) (hv : v < 18446744073709551616) (hn : n ≤ 64) (hL : L + n ≤ 2097152) (hs : Sink w c (.bool h) zs L) :
    Calls Try.prog 65 #[.pointer (some ⟨c, 0, none⟩), .int .i64 n, .int .u64 v] w fun e w' => e = .returned (.tuple #[]) ∧ Sink w' c (.bool h) (ft h v n zs L n) ((L + n : Nat) : Int) ∧ Below c w w' := by
  cases h
  · exact specPutF zs L v n c w hi hv hn hL hs
  · exact specPutT zs L v n c w hi hv hn hL hs

set_option maxHeartbeats 1000000 in
theorem specPackMany (h : Bool) (ad : Option Addr) (n cap : Nat) (w : World) (hn : 20000 < n) :
    Calls Try.prog 51 #[.slice ad n cap, .bool h] w fun e w' => e = .returned (.slice none 0 0) ∧ Below w.heap.size w w' := by
  go_enter Try.func51, Try.ntmps51
  go_wp2
  go_ret
  exact ⟨rfl, Below.refl _ _⟩

set_option maxHeartbeats 4000000 in
set_option maxRecDepth 100000 in
theorem specPackFew (h : Bool) (g cap : Nat) (fs : List (Int × Int)) (w : World) (hI : InF fs) (hn : fs.length ≤ 20000) (hO : OwnF w g fs) :
    Calls Try.prog 51 #[.slice (some ⟨g, 0, none⟩) fs.length cap, .bool h] w fun e w' => ∃ v, e = .returned v ∧ w'.ownsRow w.heap.size 5 1 v (packF h fs).length (vals (packF h fs)) ∧ Below w.heap.size w w' := by
  replace hI := hide hI
  replace hO := hide hO
  go_enter Try.func51, Try.ntmps51
  go_wp2
  go_loopw [15] (fun i wr => ∃ k : Nat, k ≤ fs.length ∧ i = .int .i64 k ∧ Hid (∀ j, j < k → okF (fs.getD j (0, 0))) ∧ Below w.heap.size w wr) (fun i _ => fs.length - (intOf i).toNat)
  case atStart => exact ⟨0, Nat.zero_le _, rfl, fun j hj => by omega, Below.refl _ _⟩
  case round =>
    obtain ⟨k, hk, rfl, hok, hbel⟩ := hrel
    by_cases hlt : k < fs.length
    · have hO' := (unhide hO).belowAt (unhide hO).1 hbel
      obtain ⟨c0, c1⟩ := hO'.2 k hlt
      have hIk := unhide hI k
      have hFk : Hid (¬ okF (fs.getD k (0, 0)) → packF h fs = []) := packF_bad h fs k hlt
      have hOk : Hid (okF (fs.getD k (0, 0)) → ∀ j, j < k + 1 → okF (fs.getD j (0, 0))) := fun h j hj => by
        rcases Nat.lt_or_eq_of_le (Nat.le_of_lt_succ hj) with h' | h'
        · exact unhide hok j h'
        · subst h'; exact h
      generalize fs.getD k (0, 0) = f at c0 c1 hIk hFk hOk
      obtain ⟨n, u⟩ := f
      simp only at c0 c1 hIk
      rw [Nat.zero_add] at c0 c1
      clear hO'
      have hbA := hide (hbel.alloc hbel.size (.cells #[.int .i64 n, .int .u64 u] 29))
      by_cases hn0 : n < 0
      · have q1 : decide (n < 0) = true := by simp; omega
        have hP := hide (unhide hFk (fun h => by have := h.1; simp only at this; omega))
        clear hFk hOk hIk
        go_wp2
        go_ret
        exact ⟨_, rfl, by rw [unhide hP]; exact World.ownsRow_nil _ _ _ _, unhide hbA⟩
      · by_cases hn1 : 64 < n
        · have q1 : decide (n < 0) = false := by simp; omega
          have q2 : decide (64 < n) = true := by simp; omega
          have hP := hide (unhide hFk (fun h => by have := h.2; simp only at this; omega))
          clear hFk hOk hIk
          go_wp2
          go_ret
          exact ⟨_, rfl, by rw [unhide hP]; exact World.ownsRow_nil _ _ _ _, unhide hbA⟩
        · have q1 : decide (n < 0) = false := by simp; omega
          have q2 : decide (64 < n) = false := by simp; omega
          have hok2 := hide (unhide hOk ⟨by simp only; omega, by simp only; omega⟩)
          clear hFk hOk hIk
          go_wp2
          go_roundw
          case rel => exact ⟨k + 1, by omega, by go_num, unhide hok2, unhide hbA⟩
          case measure => simp [intOf]; omega
    · have hkl : k = fs.length := by omega
      subst hkl
      have hPF := hide (packF_good h fs hn (unhide hok))
      have hS0 := sink_new wr h
      have hbC := hbel.alloc hbel.size (.cells #[.bool h, .slice none 0 0, .int .i64 0] 81)
      have hcs := hbel.size
      go_wp2
      clear hbel
      generalize wr.heap.size = c at hS0 hcs ⊢
      generalize wr.alloc (.cells #[.bool h, .slice none 0 0, .int .i64 0] 81) = w0 at hS0 hbC ⊢
      replace hS0 := hide hS0
      go_loopw [33] (fun i wx => ∃ k : Nat, k ≤ fs.length ∧ i = .int .i64 k ∧ Sink wx c (.bool h) (packTo h fs k).1 ((packTo h fs k).2 : Int) ∧ Below w.heap.size w wx) (fun i _ => fs.length - (intOf i).toNat)
      case atStart => exact ⟨0, Nat.zero_le _, rfl, unhide hS0, hbC⟩
      case round =>
        clear hbC hS0
        obtain ⟨k, hk, rfl, hS, hbel⟩ := hrel
        by_cases hlt : k < fs.length
        · have hO' := (unhide hO).belowAt (unhide hO).1 hbel
          obtain ⟨c0, c1⟩ := hO'.2 k hlt
          have hIk := unhide hI k
          have hOk := unhide hok k hlt
          have hinv := packTo_inv h fs k (by omega) (fun j hj => unhide hok j (by omega))
          have hstep := packTo_succ h fs k hlt
          generalize fs.getD k (0, 0) = f at c0 c1 hIk hOk hstep
          obtain ⟨n, u⟩ := f
          simp only at c0 c1 hIk
          rw [Nat.zero_add] at c0 c1
          clear hO'
          obtain ⟨N, rfl⟩ := Int.eq_ofNat_of_zero_le hOk.1
          obtain ⟨U, rfl⟩ := Int.eq_ofNat_of_zero_le hIk.2.1
          have hN : N ≤ 64 := by have := hOk.2; simp only at this; omega
          have hstep1 : (packTo h fs (k + 1)).1 = ft h U N (packTo h fs k).1 (packTo h fs k).2 N := by rw [hstep]; rfl
          have hstep2 : (packTo h fs (k + 1)).2 = (packTo h fs k).2 + N := by rw [hstep]; rfl
          have hSA := hS.alloc (.cells #[.int .i64 N, .int .u64 U] 29)
          have hbA := hide (hbel.alloc hbel.size (.cells #[.int .i64 N, .int .u64 U] 29))
          have hP := hide (specPut h _ _ U N c _ hinv.1 (by omega) hN (by omega) hSA)
          clear hS hSA hIk hOk hstep hbel
          replace hstep1 := hide hstep1
          replace hstep2 := hide hstep2
          go_wp2_with fail
          refine (unhide hP).mono ?_
          rintro e w2 ⟨rfl, hS2, hb2⟩
          rw [← unhide hstep1, ← unhide hstep2] at hS2
          replace hb2 := hide ((unhide hbA).trans (hb2.mono hcs))
          replace hS2 := hide hS2
          clear hP hbA c0 c1
          go_wp2
          go_roundw
          case rel => exact ⟨k + 1, by omega, by go_num, unhide hS2, unhide hb2⟩
          case measure => simp [intOf]; omega
        · have hkl : k = fs.length := by omega
          subst hkl
          obtain ⟨v, hSS, hown⟩ := hS
          obtain ⟨s0, s1, s2, s3, s4, s5⟩ := hSS
          rw [← unhide hPF] at hown
          replace hown := hide (ownsRow_base hown (show w.heap.size ≤ c + 1 by omega))
          go_wp2
          go_ret
          exact ⟨_, rfl, unhide hown, hbel⟩
end Go.Proofs.Ytcmabocmcgkmdaa
