/- Plain: the runs of a block. -/
import Derived.Test.YtilmdbdgohfpcaaPlainRo
namespace Go.Proofs.Ytilmdbdgohfpcaa
open Go.RowKit

def runStep (b : List Int) (st : List (Int × Int) × Nat) (x : Int) : List (Int × Int) × Nat :=
  if b.getD x.toNat 0 = 0 then (st.1, st.2 + 1) else (st.1 ++ [((st.2 : Int), b.getD x.toNat 0)], 0)
def runsTo (b : List Int) (ps : List Int) : List (Int × Int) × Nat := ps.foldl (runStep b) ([], 0)
def runsEnd (st : List (Int × Int) × Nat) : List (Int × Int) := if 0 < st.2 then st.1 ++ [((st.2 : Int), 0)] else st.1
def runsL (b : List Int) : List (Int × Int) := runsEnd (runsTo b scanL.tail)
theorem runsTo_snoc (b ps : List Int) (x : Int) : runsTo b (ps ++ [x]) = runStep b (runsTo b ps) x := by simp [runsTo]
theorem runStep_le (b : List Int) (st : List (Int × Int) × Nat) (x : Int) (n : Nat) (h : st.1.length ≤ n ∧ st.2 ≤ n) : (runStep b st x).1.length ≤ n + 1 ∧ (runStep b st x).2 ≤ n + 1 := by
  unfold runStep
  split
  · exact ⟨Nat.le_succ_of_le h.1, Nat.succ_le_succ h.2⟩
  · exact ⟨by simp; omega, by simp⟩
theorem runsFold_le (b : List Int) : ∀ (ps : List Int) (st : List (Int × Int) × Nat) (n : Nat), st.1.length ≤ n ∧ st.2 ≤ n → (ps.foldl (runStep b) st).1.length ≤ n + ps.length ∧ (ps.foldl (runStep b) st).2 ≤ n + ps.length
  | [], _, _, h => h
  | x :: ps, st, n, h => by
    have h2 := runsFold_le b ps (runStep b st x) (n + 1) (runStep_le b st x n h)
    simp only [List.foldl_cons, List.length_cons]
    omega
theorem runsTo_le (b ps : List Int) : (runsTo b ps).1.length ≤ ps.length ∧ (runsTo b ps).2 ≤ ps.length := by
  have h := runsFold_le b ps ([], 0) 0 ⟨by simp, by simp⟩
  rw [Nat.zero_add] at h
  exact h
theorem runsL_length (b : List Int) : (runsL b).length ≤ 64 := by
  have h := runsTo_le b scanL.tail
  have hl : scanL.tail.length = 63 := by rw [List.length_tail, scanL_length]
  unfold runsL runsEnd
  split
  · simp; omega
  · omega
def scanK (j : Nat) : List Int := scanL.tail.take (j - 1)
theorem scanK_succ : ∀ j, j < 64 → 0 < j → scanK (j + 1) = scanK j ++ [scanL.getD j 0] := by decide +kernel
theorem scanK_end : scanK 64 = scanL.tail := by decide +kernel
theorem scanK_one : scanK 1 = [] ∧ scanK 0 = [] := by decide +kernel
theorem scanK_len : ∀ j, (scanK j).length ≤ 63 := fun j => by
  have hl : scanL.tail.length = 63 := by rw [List.length_tail, scanL_length]
  unfold scanK; rw [List.length_take]; omega
theorem runsK_le (b : List Int) (j : Nat) : (runsTo b (scanK j)).1.length ≤ 63 ∧ (runsTo b (scanK j)).2 ≤ 63 := by
  have h := runsTo_le b (scanK j)
  have := scanK_len j
  omega
theorem runsK_succ (b : List Int) (j : Nat) (h : j < 64) (h0 : 0 < j) : runsTo b (scanK (j + 1)) = runStep b (runsTo b (scanK j)) (scanL.getD j 0) := by rw [scanK_succ j h h0, runsTo_snoc]
theorem runsK_one (b : List Int) : runsTo b (scanK 1) = ([], 0) ∧ runsTo b (scanK 0) = ([], 0) := ⟨by rw [scanK_one.1]; rfl, by rw [scanK_one.2]; rfl⟩
end Go.Proofs.Ytilmdbdgohfpcaa
