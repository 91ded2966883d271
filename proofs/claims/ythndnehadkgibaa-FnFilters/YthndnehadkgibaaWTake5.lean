/- The walks of TakeLow and TakeHigh: what the program answers, at every place and width. -/
import Derived.Test.YthndnehadkgibaaWTake4
namespace Go.Proofs.Ythndnehadkgibaa
open Go.RowKit

set_option maxHeartbeats 1000000 in
theorem takeBad (r : Nat) (o : Int) (ad : Option Addr) (len cap : Nat) (p n : Int) (w : World) (hm : len ≤ 1048576) (hr : ReaderAt w r o (.slice ad len cap) p) (h : ¬ (0 ≤ n ∧ n ≤ 64 ∧ 0 ≤ p ∧ p ≤ 8 * len - n)) :
    Calls Try.prog 53 #[.pointer (some ⟨r, 0, none⟩), .int .i64 n] w fun e w' => e = .returned (.tuple #[.int .u64 0, .bool false]) ∧ ∃ nq, w' = w.drewN nq := by
  have hH : Calls Try.prog 65 #[.pointer (some ⟨r, 0, none⟩), .int .i64 n] w fun e w' => e = .returned (.bool false) ∧ ∃ nq, w' = w.drewN nq := by
    by_cases h1 : 0 ≤ n ∧ n ≤ 64
    · by_cases h2 : p < 0
      · exact holdsNo2 r o ad len cap p n w hr h1.1 h1.2 h2
      · have := holdsAsk r o ad len cap p n w hr h1.1 h1.2 (by omega) hm
        rw [show decide (p ≤ 8 * (len : Int) - n) = false by simp; omega] at this
        exact this
    · exact holdsNo1 r o ad len cap p n w hr h1
  clear h
  go_enter Try.func53, Try.ntmps53
  go_wp2_with fail
  refine hH.mono ?_
  rintro e w1 ⟨rfl, nq, rfl⟩
  go_wp2
  go_ret2
  exact ⟨rfl, _, rfl⟩

theorem readerAt_new (w : World) (o : Int) (s : Value) (p : Int) : ReaderAt (w.alloc (.cells #[.int .i64 o, s, .int .i64 p] 75)) w.heap.size o s p := by
  refine ⟨by simp, ?_, ?_, ?_⟩ <;> (rw [World.cell?_alloc_at _ _ _ _ rfl]; rfl)

end Go.Proofs.Ythndnehadkgibaa
