/- The walks of TakeLow and TakeHigh: what the program answers, at every place and width. -/
import Derived.Test.YtcmabocmcgkmdaaWTake4
namespace Go.Proofs.Ytcmabocmcgkmdaa
open Go.RowKit

set_option maxHeartbeats 1000000 in
theorem takeBad (r : Nat) (o : Int) (ad : Option Addr) (len cap : Nat) (p n : Int) (w : World) (hm : len ≤ 1048576) (hr : ReaderAt w r o (.slice ad len cap) p) (h : ¬ (0 ≤ n ∧ n ≤ 64 ∧ 0 ≤ p ∧ p ≤ 8 * len - n)) :
    Calls Try.prog 66 #[.pointer (some ⟨r, 0, none⟩), .int .i64 n] w fun e w' => e = .returned (.tuple #[.int .u64 0, .bool false]) ∧ ∃ nq, w' = w.drewN nq := by
  have hH : Calls Try.prog 71 #[.pointer (some ⟨r, 0, none⟩), .int .i64 n] w fun e w' => e = .returned (.bool false) ∧ ∃ nq, w' = w.drewN nq := by
    by_cases h1 : 0 ≤ n ∧ n ≤ 64
    · by_cases h2 : p < 0
      · exact holdsNo2 r o ad len cap p n w hr h1.1 h1.2 h2
      · have := holdsAsk r o ad len cap p n w hr h1.1 h1.2 (by omega) hm
        rw [show decide (p ≤ 8 * (len : Int) - n) = false by simp; omega] at this
        exact this
    · exact holdsNo1 r o ad len cap p n w hr h1
  clear h
  go_enter Try.func66, Try.ntmps66
  go_wp2_with fail
  refine hH.mono ?_
  rintro e w1 ⟨rfl, nq, rfl⟩
  go_wp2
  go_ret2
  exact ⟨rfl, _, rfl⟩

theorem readerAt_new (w : World) (o : Int) (s : Value) (p : Int) : ReaderAt (w.alloc (.cells #[.int .i64 o, s, .int .i64 p] 60)) w.heap.size o s p := by
  refine ⟨by simp, ?_, ?_, ?_⟩ <;> (rw [World.cell?_alloc_at _ _ _ _ rfl]; rfl)

set_option maxHeartbeats 1000000 in
theorem takeNumberBad (o : Int) (ad : Option Addr) (len cap : Nat) (p n : Int) (w : World) (hm : len ≤ 1048576) (h : ¬ (0 ≤ n ∧ n ≤ 64 ∧ 0 ≤ p ∧ p ≤ 8 * len - n)) :
    Calls Try.prog 52 #[.agg #[.int .i64 o, .slice ad len cap, .int .i64 p], .int .i64 n] w fun e w' => e = .returned (.agg #[.bool false, .int .u64 0, .int .i64 0]) ∧ Below w.heap.size w w' := by
  have hr := readerAt_new w o (.slice ad len cap) p
  have hr2 : ReaderAt ((w.alloc (.cells #[.int .i64 o, .slice ad len cap, .int .i64 p] 60)).alloc (.cells #[.bool false, .int .u64 0, .int .i64 0] 32)) w.heap.size o (.slice ad len cap) p := by
    obtain ⟨h0, h1, h2, h3⟩ := hr
    refine ⟨by simp only [World.size_alloc]; omega, ?_, ?_, ?_⟩ <;> (rw [World.cell?_alloc_past _ _ _ (by simp)]; assumption)
  have hT := takeBad w.heap.size o ad len cap p n _ hm hr2 h
  clear hr hr2 h
  go_enter Try.func52, Try.ntmps52
  go_wp2_with fail
  refine hT.mono ?_
  rintro e w1 ⟨rfl, nq, rfl⟩
  clear hT
  go_wp2
  exact bodyPost_ret (v := .agg #[.bool false, .int .u64 0, .int .i64 0]) (by simp [results, Try.results52, go_sem]) rfl ⟨rfl, (((below_drewN (((Below.refl _ _).alloc (Nat.le_refl _) _).alloc (by simp) _) _).setCell (by simp) _).setCell (by simp) _).setCell (by simp) _⟩

set_option maxHeartbeats 2000000 in
theorem takeNumberLow (b off len cap : Nat) (zs : List Int) (p n : Nat) (w : World) (hlen : zs.length = len) (hz : InB zs) (hc : BytesAt w b off zs) (hbl : b < w.heap.size) (hm : len ≤ 1048576) (hn : n ≤ 64) (hi : p + n ≤ 8 * len) :
    Calls Try.prog 52 #[.agg #[.int .i64 0, .slice (some ⟨b, off, none⟩) len cap, .int .i64 p], .int .i64 n] w fun e w' => e = .returned (.agg #[.bool true, .int .u64 (lowTo zs p n : Nat), .int .i64 ((p + n : Nat) : Int)]) ∧ Below w.heap.size w w' := by
  have hr := readerAt_new w 0 (.slice (some ⟨b, off, none⟩) len cap) p
  have hbel : Below w.heap.size w ((w.alloc (.cells #[.int .i64 0, .slice (some ⟨b, off, none⟩) len cap, .int .i64 p] 60)).alloc (.cells #[.bool false, .int .u64 0, .int .i64 0] 32)) := ((Below.refl _ _).alloc (Nat.le_refl _) _).alloc (by simp) _
  have hr2 : ReaderAt ((w.alloc (.cells #[.int .i64 0, .slice (some ⟨b, off, none⟩) len cap, .int .i64 p] 60)).alloc (.cells #[.bool false, .int .u64 0, .int .i64 0] 32)) w.heap.size 0 (.slice (some ⟨b, off, none⟩) len cap) p := by
    obtain ⟨h0, h1, h2, h3⟩ := hr
    refine ⟨by simp only [World.size_alloc]; omega, ?_, ?_, ?_⟩ <;> (rw [World.cell?_alloc_past _ _ _ (by simp)]; assumption)
  have hT := implTakeLowIn w.heap.size b off len cap zs p n _ hlen hz (fun j hj => (hbel.cell (by simpa using hbl)).trans (hc j hj)) hm hn hi (by simp only [World.size_alloc]; omega) (by omega) (by simp [go_sem]) hr2
  clear hr hc hz
  go_enter Try.func52, Try.ntmps52
  go_wp2_with fail
  refine hT.mono ?_
  rintro e w1 ⟨rfl, hr1, hb1⟩
  clear hT hr2
  obtain ⟨_, c0, c1, c2⟩ := hr1
  have e0 := (hb1.cell (p := ⟨w.heap.size + 1, 0, none⟩) (by simp) (by simp)).trans (World.cell?_alloc_at _ _ _ _ (by simp))
  have e1 := (hb1.cell (p := ⟨w.heap.size + 1, 1, none⟩) (by simp) (by simp)).trans (World.cell?_alloc_at _ _ _ _ (by simp))
  have e2 := (hb1.cell (p := ⟨w.heap.size + 1, 2, none⟩) (by simp) (by simp)).trans (World.cell?_alloc_at _ _ _ _ (by simp))
  have f0 := (hb1.frozen (p := ⟨w.heap.size + 1, 0, none⟩) (by simp) (by simp)).trans (World.frozen?_alloc_at _ _ _ _ (by simp))
  have f1 := (hb1.frozen (p := ⟨w.heap.size + 1, 1, none⟩) (by simp) (by simp)).trans (World.frozen?_alloc_at _ _ _ _ (by simp))
  have f2 := (hb1.frozen (p := ⟨w.heap.size + 1, 2, none⟩) (by simp) (by simp)).trans (World.frozen?_alloc_at _ _ _ _ (by simp))
  have hbb := hbel.trans (hb1.below (Nat.le_refl _) hbel.size)
  clear hb1 hbel
  simp at e0 e1 e2
  go_wp2
  exact bodyPost_ret (v := .agg #[.bool true, .int .u64 (lowTo zs p n : Nat), .int .i64 ((p + n : Nat) : Int)]) (by simp [results, Try.results52, go_sem, e0, e1, e2]) rfl ⟨rfl, ((hbb.setCell (by simp) _).setCell (by simp) _).setCell (by simp) _⟩
end Go.Proofs.Ytcmabocmcgkmdaa
