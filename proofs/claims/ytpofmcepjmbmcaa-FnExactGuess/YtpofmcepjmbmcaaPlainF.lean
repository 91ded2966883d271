/- Plain: rows of bytes filtered by what each byte is guessed from. -/
import Derived.Test.YtpofmcepjmbmcaaWByts
namespace Go.Proofs.Ytpofmcepjmbmcaa
open Go.RowKit

def atB (zs : List Int) (i : Int) : Int := if i < 0 then 0 else zs.getD i.toNat 0
def absI (n : Int) : Int := if n < 0 then -n else n
def nearF (a b c : Int) : Int :=
  if absI (a + b - c - a) ≤ absI (a + b - c - b) ∧ absI (a + b - c - a) ≤ absI (a + b - c - c) then a
  else if absI (a + b - c - b) ≤ absI (a + b - c - c) then b else c
def guessF (kind a b c : Int) : Int := if kind = 1 then a else if kind = 2 then b else if kind = 3 then (a + b) / 2 else if kind = 4 then nearF a b c else 0
theorem atB_bd {zs : List Int} (h : InB zs) (i : Int) : 0 ≤ atB zs i ∧ atB zs i < 256 := by
  unfold atB; split
  · omega
  · exact h _
theorem atB_neg {zs : List Int} {i : Int} (h : i < 0) : atB zs i = 0 := if_pos h
theorem atB_nat (zs : List Int) (k : Nat) : atB zs (k : Int) = zs.getD k 0 := by unfold atB; rw [if_neg (by omega), Int.toNat_natCast]
theorem atB_past {zs : List Int} {i : Int} (h : (zs.length : Int) ≤ i) : atB zs i = 0 := by
  unfold atB; rw [if_neg (by omega), List.getD_eq_getElem?_getD, List.getElem?_eq_none (by omega)]; rfl
theorem nearF_bd (a b c : Int) (ha : 0 ≤ a ∧ a < 256) (hb : 0 ≤ b ∧ b < 256) (hc : 0 ≤ c ∧ c < 256) : 0 ≤ nearF a b c ∧ nearF a b c < 256 := by
  unfold nearF; split
  · exact ha
  · split
    · exact hb
    · exact hc
theorem guessF_bd (kind a b c : Int) (ha : 0 ≤ a ∧ a < 256) (hb : 0 ≤ b ∧ b < 256) (hc : 0 ≤ c ∧ c < 256) : 0 ≤ guessF kind a b c ∧ guessF kind a b c < 256 := by
  unfold guessF; split
  · exact ha
  · split
    · exact hb
    · split
      · omega
      · split
        · exact nearF_bd a b c ha hb hc
        · omega
/-- The nearest one, looked for one by one. -/
theorem nearF_best (a b c : Int) (best : Int) (h : best = if absI (b - (a + b - c)) < absI (a - (a + b - c)) then b else a) :
    nearF a b c = if absI (c - (a + b - c)) < absI (best - (a + b - c)) then c else best := by
  have e1 : absI (a - (a + b - c)) = absI (a + b - c - a) := by unfold absI; split <;> split <;> omega
  have e2 : absI (b - (a + b - c)) = absI (a + b - c - b) := by unfold absI; split <;> split <;> omega
  have e3 : absI (c - (a + b - c)) = absI (a + b - c - c) := by unfold absI; split <;> split <;> omega
  rw [e1, e2] at h
  rw [e3]
  unfold nearF
  generalize hX : absI (a + b - c - a) = x at *
  generalize hY : absI (a + b - c - b) = y at *
  generalize hZ : absI (a + b - c - c) = z at *
  by_cases h1 : y < x
  · rw [if_pos h1] at h
    subst h
    rw [e2]
    by_cases h2 : z < y
    · rw [if_pos h2, if_neg (by omega), if_neg (by omega)]
    · rw [if_neg h2, if_neg (by omega), if_pos (by omega)]
  · rw [if_neg h1] at h
    subst h
    rw [e1]
    by_cases h2 : z < x
    · rw [if_pos h2, if_neg (by omega), if_neg (by omega)]
    · rw [if_neg h2, if_pos (by omega)]

def filtOk (kind step : Int) (ab row : List Int) : Prop := 0 ≤ kind ∧ kind ≤ 4 ∧ 1 ≤ step ∧ step ≤ 8 ∧ row.length ≤ 4096 ∧ (ab.length = 0 ∨ ab.length = row.length)
instance (kind step : Int) (ab row : List Int) : Decidable (filtOk kind step ab row) := by unfold filtOk; infer_instance
def filtB (kind step : Int) (ab row : List Int) : Bool := decide (filtOk kind step ab row)
theorem filtB_yes {kind step : Int} {ab row : List Int} (h : filtOk kind step ab row) : filtB kind step ab row = true := decide_eq_true h
theorem filtB_no {kind step : Int} {ab row : List Int} (h : ¬ filtOk kind step ab row) : filtB kind step ab row = false := decide_eq_false h
/-- What the byte at a place is guessed to be. -/
def gAt (kind step : Int) (ab row : List Int) (i : Nat) : Int := guessF kind (atB row ((i : Int) - step)) (atB ab (i : Int)) (atB ab ((i : Int) - step))
theorem gAt_bd {kind step : Int} {ab row : List Int} (ha : InB ab) (hr : InB row) (i : Nat) : 0 ≤ gAt kind step ab row i ∧ gAt kind step ab row i < 256 :=
  guessF_bd _ _ _ _ (atB_bd hr _) (atB_bd ha _) (atB_bd ha _)
def filtL (kind step : Int) (ab row : List Int) : List Int := (List.range row.length).map fun i => (row.getD i 0 - gAt kind step ab row i) % 256
@[simp] theorem filtL_length (kind step : Int) (ab row : List Int) : (filtL kind step ab row).length = row.length := by simp [filtL]
theorem filtL_at (kind step : Int) (ab row : List Int) (k : Nat) (h : k < row.length) : (filtL kind step ab row).getD k 0 = (row.getD k 0 - gAt kind step ab row k) % 256 := by
  unfold filtL
  rw [List.getD_eq_getElem?_getD, List.getElem?_map, List.getElem?_range h]; rfl
def filtF (kind step : Int) (ab row : List Int) : List Int := if filtOk kind step ab row then filtL kind step ab row else []
theorem filtF_yes {kind step : Int} {ab row : List Int} (h : filtOk kind step ab row) : filtF kind step ab row = filtL kind step ab row := if_pos h
theorem filtF_no {kind step : Int} {ab row : List Int} (h : ¬ filtOk kind step ab row) : filtF kind step ab row = [] := if_neg h
theorem filtF_len (kind step : Int) (ab row : List Int) : (filtF kind step ab row).length ≤ 1048576 := by
  by_cases h : filtOk kind step ab row
  · rw [filtF_yes h, filtL_length]; have := h.2.2.2.2.1; omega
  · rw [filtF_no h]; simp
theorem filtL_inB (kind step : Int) (ab row : List Int) : InB (filtL kind step ab row) := by
  intro j
  by_cases h : j < row.length
  · rw [filtL_at kind step ab row j h]; omega
  · rw [List.getD_eq_getElem?_getD, List.getElem?_eq_none (by simp; omega)]; simp
theorem filtF_inB (kind step : Int) (ab row : List Int) : InB (filtF kind step ab row) := by
  by_cases h : filtOk kind step ab row
  · rw [filtF_yes h]; exact filtL_inB _ _ _ _
  · rw [filtF_no h]; intro j; simp

/-- A row got back: byte by byte, out of those got so far. -/
def unfTo (kind step : Int) (ab fr : List Int) : Nat → List Int
  | 0 => []
  | k + 1 => unfTo kind step ab fr k ++ [(fr.getD k 0 + gAt kind step ab (unfTo kind step ab fr k) k) % 256]
@[simp] theorem unfTo_length (kind step : Int) (ab fr : List Int) (k : Nat) : (unfTo kind step ab fr k).length = k := by
  induction k with
  | zero => rfl
  | succ k ih => rw [unfTo, List.length_append, ih]; rfl
theorem unfTo_take (kind step : Int) (ab fr : List Int) (k n : Nat) (h : k ≤ n) : (unfTo kind step ab fr n).take k = unfTo kind step ab fr k := by
  induction n with
  | zero => have : k = 0 := by omega
            subst this; rfl
  | succ n ih =>
    by_cases e : k = n + 1
    · subst e; exact List.take_of_length_le (by simp)
    · rw [unfTo, List.take_append_of_le_length (by simp; omega)]; exact ih (by omega)
theorem unfTo_at (kind step : Int) (ab fr : List Int) (n k : Nat) (h : k < n) : (unfTo kind step ab fr n).getD k 0 = (fr.getD k 0 + gAt kind step ab (unfTo kind step ab fr k) k) % 256 := by
  have h1 := unfTo_take kind step ab fr (k + 1) n (by omega)
  have h2 : (unfTo kind step ab fr (k + 1)).getD k 0 = (fr.getD k 0 + gAt kind step ab (unfTo kind step ab fr k) k) % 256 := by
    rw [unfTo, List.getD_eq_getElem?_getD, List.getElem?_append_right (by simp)]; simp
  rw [← h2, ← h1, List.getD_eq_getElem?_getD, List.getD_eq_getElem?_getD, List.getElem?_take, if_pos (by omega)]
theorem unfTo_inB (kind step : Int) (ab fr : List Int) (n : Nat) : InB (unfTo kind step ab fr n) := by
  intro j
  by_cases h : j < n
  · rw [unfTo_at _ _ _ _ _ _ h]; omega
  · rw [List.getD_eq_getElem?_getD, List.getElem?_eq_none (by simp; omega)]; simp
def unfF (kind step : Int) (ab fr : List Int) : List Int := if filtOk kind step ab fr then unfTo kind step ab fr fr.length else []
theorem unfF_yes {kind step : Int} {ab row : List Int} (h : filtOk kind step ab row) : unfF kind step ab row = unfTo kind step ab row row.length := if_pos h
theorem unfF_no {kind step : Int} {ab row : List Int} (h : ¬ filtOk kind step ab row) : unfF kind step ab row = [] := if_neg h
theorem unfF_len (kind step : Int) (ab row : List Int) : (unfF kind step ab row).length ≤ 1048576 := by
  by_cases h : filtOk kind step ab row
  · rw [unfF_yes h, unfTo_length]; have := h.2.2.2.2.1; omega
  · rw [unfF_no h]; simp
/-- Only what is ahead counts. -/
theorem gAt_ahead (kind step : Int) (ab r s : List Int) (i : Nat) (hs : 1 ≤ step) (h : ∀ j, j < i → r.getD j 0 = s.getD j 0) : gAt kind step ab r i = gAt kind step ab s i := by
  unfold gAt
  have : atB r ((i : Int) - step) = atB s ((i : Int) - step) := by
    unfold atB; split
    · rfl
    · exact h _ (by omega)
  rw [this]
theorem unf_filt (kind step : Int) (ab row : List Int) (hs : 1 ≤ step) (hr : InB row) (k : Nat) (hk : k ≤ row.length) : unfTo kind step ab (filtL kind step ab row) k = row.take k := by
  induction k with
  | zero => rfl
  | succ k ih =>
    rw [unfTo, ih (by omega), filtL_at _ _ _ _ _ (by omega), take_snoc_getD row 0 k (by omega)]
    have e : gAt kind step ab (row.take k) k = gAt kind step ab row k := gAt_ahead _ _ _ _ _ _ hs (fun j hj => by
      rw [List.getD_eq_getElem?_getD, List.getD_eq_getElem?_getD, List.getElem?_take, if_pos hj])
    rw [e]
    have := hr k
    congr 2
    omega
/-- The row so far, and zeros behind it. -/
def unfPart (kind step : Int) (ab fr : List Int) (k n : Nat) : List Int := unfTo kind step ab fr k ++ List.replicate (n - k) 0
theorem unfPart_length (kind step : Int) (ab fr : List Int) (k n : Nat) (h : k ≤ n) : (unfPart kind step ab fr k n).length = n := by unfold unfPart; simp; omega
theorem unfPart_part (kind step : Int) (ab fr : List Int) (k n : Nat) (h : k ≤ n) : partY (unfTo kind step ab fr n) k = byts (unfPart kind step ab fr k n) := by
  unfold partY unfPart byts
  rw [unfTo_take _ _ _ _ _ _ h, unfTo_length]; simp
theorem unfPart_inB (kind step : Int) (ab fr : List Int) (k n : Nat) : InB (unfPart kind step ab fr k n) := by
  intro j
  unfold unfPart
  rw [List.getD_eq_getElem?_getD]
  by_cases h : j < k
  · rw [List.getElem?_append_left (by simpa using h), ← List.getD_eq_getElem?_getD]; exact unfTo_inB _ _ _ _ _ j
  · rw [List.getElem?_append_right (by simp; omega), List.getElem?_replicate]
    split <;> simp
theorem unfPart_g (kind step : Int) (ab fr : List Int) (k n : Nat) (hs : 1 ≤ step) : gAt kind step ab (unfPart kind step ab fr k n) k = gAt kind step ab (unfTo kind step ab fr k) k :=
  gAt_ahead _ _ _ _ _ _ hs (fun j hj => by
    unfold unfPart
    rw [List.getD_eq_getElem?_getD, List.getD_eq_getElem?_getD, List.getElem?_append_left (by simpa using hj)])
end Go.Proofs.Ytpofmcepjmbmcaa
