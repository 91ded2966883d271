/- The way back: what takes the bits of a field out of packed bytes gives the field's number. -/
import Derived.Test.YthndnehadkgibaaWFields
import Derived.Test.YthndnehadkgibaaPlainT
namespace Go.Proofs.Ythndnehadkgibaa
open Go.RowKit

def bitN (h : Bool) (zs : List Nat) (i : Nat) : Nat := zs.getD (i / 8) 0 / 2 ^ ex h (i % 8) % 2
theorem byte_bit (h : Bool) (x r s b : Nat) (hr : r < 8) (hs : s < 8) (hb : b ≤ 1) (hx : x < 256) (hf : if h then x % 2 ^ (8 - r) = 0 else x < 2 ^ r) :
    (x + b * 2 ^ ex h r) / 2 ^ ex h s % 2 = if s = r then b else x / 2 ^ ex h s % 2 := by
  have hb' : b = 0 ∨ b = 1 := by omega
  cases h <;> rcases pow_cases r hr with e | e | e | e | e | e | e | e <;> subst e <;> rcases pow_cases s hs with e | e | e | e | e | e | e | e <;> subst e <;> rcases hb' with e | e <;> subst e <;> simp [ex] at hf ⊢ <;> omega
theorem bitN_addBit {h : Bool} {zs : List Nat} {L b : Nat} (hi : Inv h zs L) (hb : b ≤ 1) (i : Nat) :
    bitN h (addBit h zs L b) i = if i = L then b else bitN h zs i := by
  have hl := opn_len hi
  have hx := opn_x hi
  unfold bitN addBit
  by_cases he : i / 8 = L / 8
  · rw [he, getD_set_same _ _ _ (by omega), byte_bit h _ (L % 8) (i % 8) b (by omega) (by omega) hb hx.1 hx.2, opn_getD]
    by_cases hr : i % 8 = L % 8
    · rw [if_pos hr, if_pos (by omega)]
    · rw [if_neg hr, if_neg (by omega)]
  · rw [getD_set_other _ _ _ _ (by omega), opn_getD, if_neg (by omega)]
theorem bitN_ft {h : Bool} {v n : Nat} {zs : List Nat} {L : Nat} (hi : Inv h zs L) (k i : Nat) :
    bitN h (ft h v n zs L k) i = if L ≤ i ∧ i < L + k then fbit h v n (i - L) else bitN h zs i := by
  induction k with
  | zero => rw [if_neg (by omega)]; rfl
  | succ k ih =>
    show bitN h (addBit h (ft h v n zs L k) (L + k) (fbit h v n k)) i = _
    rw [bitN_addBit (ft_inv hi k) (fbit_le h v n k), ih]
    by_cases h1 : i = L + k
    · rw [if_pos h1, if_pos (by omega), h1, Nat.add_sub_cancel_left]
    · rw [if_neg h1]
      by_cases h2 : L ≤ i ∧ i < L + k
      · rw [if_pos h2, if_pos (by omega)]
      · rw [if_neg h2, if_neg (by omega)]
theorem packTo_bit (h : Bool) (fs : List (Int × Int)) (j : Nat) (k : Nat) (hjk : j < k) (hk : k ≤ fs.length) (hok : ∀ m, m < k → okF (fs.getD m (0, 0))) :
    (packTo h fs j).2 + (fs.getD j (0, 0)).1.toNat ≤ (packTo h fs k).2 ∧
    ∀ d, d < (fs.getD j (0, 0)).1.toNat → bitN h (packTo h fs k).1 ((packTo h fs j).2 + d) = fbit h (fs.getD j (0, 0)).2.toNat (fs.getD j (0, 0)).1.toNat d := by
  induction k with
  | zero => omega
  | succ k ih =>
    have hinv := (packTo_inv h fs k (by omega) (fun m hm => hok m (by omega))).1
    rw [packTo_succ h fs k (by omega)]
    rcases Nat.lt_or_eq_of_le (Nat.le_of_lt_succ hjk) with hlt | rfl
    · obtain ⟨h1, h2⟩ := ih hlt (by omega) (fun m hm => hok m (by omega))
      refine ⟨Nat.le_trans h1 (Nat.le_add_right _ _), fun d hd => ?_⟩
      show bitN h (ft h _ _ (packTo h fs k).1 (packTo h fs k).2 _) _ = _
      rw [bitN_ft hinv, if_neg (by omega)]
      exact h2 d hd
    · refine ⟨Nat.le_refl _, fun d hd => ?_⟩
      show bitN h (ft h _ _ (packTo h fs j).1 (packTo h fs j).2 _) _ = _
      rw [bitN_ft hinv, if_pos (by omega), Nat.add_sub_cancel_left]

def natsI (zs : List Nat) : List Int := zs.map fun (z : Nat) => (z : Int)
theorem natsI_len (zs : List Nat) : (natsI zs).length = zs.length := by simp [natsI]
theorem byteAt_natsI (zs : List Nat) (i : Nat) : byteAt (natsI zs) i = zs.getD i 0 := by
  unfold byteAt natsI
  rw [List.getD_eq_getElem?_getD, List.getD_eq_getElem?_getD, List.getElem?_map]
  cases zs[i]? <;> simp
theorem bitLow_natsI (zs : List Nat) (i : Nat) : bitLow (natsI zs) i = bitN false zs i := by unfold bitLow bitN; rw [byteAt_natsI]; rfl
theorem bitHigh_natsI (zs : List Nat) (i : Nat) : bitHigh (natsI zs) i = bitN true zs i := by unfold bitHigh bitN; rw [byteAt_natsI]; rfl
theorem lowTo_back (zs : List Int) (p v n k : Nat) (h : ∀ d, d < k → bitLow zs (p + d) = fbit false v n d) : lowTo zs p k = v % 2 ^ k := by
  induction k with
  | zero => simp [lowTo, Nat.mod_one]
  | succ k ih =>
    show lowTo zs p k + bitLow zs (p + k) * 2 ^ k = _
    rw [ih (fun d hd => h d (by omega)), h k (by omega), mod_pow_step]; rfl
theorem highTo_back (zs : List Int) (p v n k : Nat) (hk : k ≤ n) (h : ∀ d, d < k → bitHigh zs (p + d) = fbit true v n d) : highTo zs p k = v / 2 ^ (n - k) % 2 ^ k := by
  induction k with
  | zero => simp [highTo, Nat.mod_one]
  | succ k ih =>
    show 2 * highTo zs p k + bitHigh zs (p + k) = _
    rw [ih (by omega) (fun d hd => h d (by omega)), h k (by omega)]
    have e : n - k = n - (k + 1) + 1 := by omega
    have e2 : fbit true v n k = v / 2 ^ (n - (k + 1)) % 2 := by
      show v / 2 ^ (n - 1 - k) % 2 = _
      rw [show n - 1 - k = n - (k + 1) by omega]
    rw [e2, e, Nat.pow_succ 2 (n - (k + 1)), ← Nat.div_div_eq_div_mul]
    generalize v / 2 ^ (n - (k + 1)) = y
    have e4 : y % 2 ^ (k + 1) = y % 2 + 2 * (y / 2 % 2 ^ k) := by rw [Nat.pow_succ, Nat.mul_comm, Nat.mod_mul]
    rw [e4]; omega

/-- What stands at a field's place is the field's number. -/
theorem back_low (fs : List (Int × Int)) (j : Nat) (hj : j < fs.length) (h1 : fs.length ≤ 20000) (hok : ∀ m, m < fs.length → okF (fs.getD m (0, 0))) :
    lowTo (natsI (packF false fs)) (packTo false fs j).2 (fs.getD j (0, 0)).1.toNat = (fs.getD j (0, 0)).2.toNat % 2 ^ (fs.getD j (0, 0)).1.toNat := by
  rw [packF_good false fs h1 hok]
  refine lowTo_back _ _ _ (fs.getD j (0, 0)).1.toNat _ fun d hd => ?_
  rw [bitLow_natsI]
  exact (packTo_bit false fs j fs.length hj (Nat.le_refl _) hok).2 d hd
theorem back_high (fs : List (Int × Int)) (j : Nat) (hj : j < fs.length) (h1 : fs.length ≤ 20000) (hok : ∀ m, m < fs.length → okF (fs.getD m (0, 0))) :
    highTo (natsI (packF true fs)) (packTo true fs j).2 (fs.getD j (0, 0)).1.toNat = (fs.getD j (0, 0)).2.toNat % 2 ^ (fs.getD j (0, 0)).1.toNat := by
  rw [packF_good true fs h1 hok, highTo_back _ _ (fs.getD j (0, 0)).2.toNat (fs.getD j (0, 0)).1.toNat _ (Nat.le_refl _) fun d hd => ?_]
  · rw [Nat.sub_self, Nat.pow_zero, Nat.div_one]
  · rw [bitHigh_natsI]
    exact (packTo_bit true fs j fs.length hj (Nat.le_refl _) hok).2 d hd
/-- The places are the same in both orders, and the bytes are as many as the bits ask. -/
theorem packTo_place (h h' : Bool) (fs : List (Int × Int)) (j : Nat) (hj : j ≤ fs.length) : (packTo h fs j).2 = (packTo h' fs j).2 := by
  induction j with
  | zero => rfl
  | succ j ih => rw [packTo_succ h fs j (by omega), packTo_succ h' fs j (by omega)]; show _ + _ = _ + _; rw [ih (by omega)]
theorem packF_bytes (h : Bool) (fs : List (Int × Int)) (h1 : fs.length ≤ 20000) (hok : ∀ m, m < fs.length → okF (fs.getD m (0, 0))) :
    (packF h fs).length = ((packTo h fs fs.length).2 + 7) / 8 := by
  rw [packF_good h fs h1 hok]; exact (packTo_inv h fs fs.length (Nat.le_refl _) hok).1.1
end Go.Proofs.Ythndnehadkgibaa
