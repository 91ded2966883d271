/- The program's mixes for another side. -/
import Derived.Test.YtnoojbppfbmbgaaWRsD
import Derived.Test.YtnoojbppfbmbgaaWRPs
namespace Go.Proofs.Ytnoojbppfbmbgaa
open Go.RowKit

def RowMx (ys : List Value) (old side k : Nat) : Prop := ∀ j, j < k → ys[j * 3]? = some (.int .i64 ((min (fromF j old side / 256) (old - 1) : Nat) : Int)) ∧ ys[j * 3 + 1]? = some (.int .i64 ((min (fromF j old side / 256 + 1) (old - 1) : Nat) : Int)) ∧ ys[j * 3 + 2]? = some (.int .i64 ((fromF j old side % 256 : Nat) : Int))
theorem RowMx.snoc {ys : List Value} {old side k : Nat} (h : RowMx ys old side k) (hk : k * 3 + 2 < ys.length) :
    RowMx (((ys.set (k * 3) (.int .i64 ((min (fromF k old side / 256) (old - 1) : Nat) : Int))).set (k * 3 + 1) (.int .i64 ((min (fromF k old side / 256 + 1) (old - 1) : Nat) : Int))).set (k * 3 + 2) (.int .i64 ((fromF k old side % 256 : Nat) : Int))) old side (k + 1) := by
  intro j hj
  by_cases e : j = k
  · subst e
    refine ⟨?_, ?_, ?_⟩
    · rw [List.getElem?_set_ne (by omega), List.getElem?_set_ne (by omega), List.getElem?_set_self (by first | omega | (simp; omega))]
    · rw [List.getElem?_set_ne (by omega), List.getElem?_set_self (by first | omega | (simp; omega))]
    · rw [List.getElem?_set_self (by first | omega | (simp; omega))]
  · have := h j (by omega)
    refine ⟨?_, ?_, ?_⟩
    · rw [List.getElem?_set_ne (by omega), List.getElem?_set_ne (by omega), List.getElem?_set_ne (by omega)]; exact this.1
    · rw [List.getElem?_set_ne (by omega), List.getElem?_set_ne (by omega), List.getElem?_set_ne (by omega)]; exact this.2.1
    · rw [List.getElem?_set_ne (by omega), List.getElem?_set_ne (by omega), List.getElem?_set_ne (by omega)]; exact this.2.2
theorem clipU (n a b c : Int) (h : max a (min b n) = c) (W : World) : Calls Try.prog 49 #[.int .i64 n, .int .i64 a, .int .i64 b] W fun e w' => e = .returned (.int .i64 c) ∧ w' = W := by
  refine (implClipInt n a b W).mono ?_
  rintro e w' ⟨rfl, rfl⟩
  rw [h]
  exact ⟨rfl, rfl⟩
end Go.Proofs.Ytnoojbppfbmbgaa
