/- Plain: lists told by those ahead: residues, what they restore, two lists turned and unturned; no program is named here. -/
import Derived.Test.YtocoeodoihdkgaaPlainBl
namespace Go.Proofs.Ytocoeodoihdkgaa
open Go.RowKit

/-- A list whose numbers lie within two ends, of at most 4000 numbers. -/
def LsOk (lo hi : Int) (xs : List Int) : Prop := xs.length ≤ 4000 ∧ InR lo hi xs
def lsB (lo hi : Int) (xs : List Int) : Bool := decide (xs.length ≤ 4000) && inRB lo hi xs
theorem lsB_iff {lo hi : Int} {xs : List Int} : lsB lo hi xs = true ↔ LsOk lo hi xs := by
  unfold lsB LsOk
  rw [Bool.and_eq_true, decide_eq_true_iff, inRB_iff0]
theorem lsB_yes {lo hi : Int} {xs : List Int} (h : LsOk lo hi xs) : lsB lo hi xs = true := lsB_iff.2 h
theorem lsB_no {lo hi : Int} {xs : List Int} (h : ¬ LsOk lo hi xs) : lsB lo hi xs = false := Bool.eq_false_iff.2 (fun h' => h (lsB_iff.1 h'))

/-- n numbers told by their places. -/
def tabN (n : Nat) (f : Nat → Int) : List Int := (List.range n).map f
@[simp] theorem tabN_length (n : Nat) (f : Nat → Int) : (tabN n f).length = n := by simp [tabN]
theorem tabN_getD (n : Nat) (f : Nat → Int) (k : Nat) (h : k < n) : (tabN n f).getD k 0 = f k := by
  unfold tabN
  rw [List.getD_eq_getElem?_getD, List.getElem?_map, List.getElem?_range h]; rfl
theorem tabN_succ (n : Nat) (f : Nat → Int) : tabN (n + 1) f = tabN n f ++ [f n] := by
  unfold tabN; rw [List.range_succ, List.map_append]; rfl

/-- What the numbers ahead foretell. -/
def gueZ (o : Nat) (xs : List Int) (i : Nat) : Int :=
  if o = 1 then xs.getD (i - 1) 0
  else if o = 2 then 2 * xs.getD (i - 1) 0 - xs.getD (i - 2) 0
  else if o = 3 then 3 * xs.getD (i - 1) 0 - 3 * xs.getD (i - 2) 0 + xs.getD (i - 3) 0
  else if o = 4 then 4 * xs.getD (i - 1) 0 - 6 * xs.getD (i - 2) 0 + 4 * xs.getD (i - 3) 0 - xs.getD (i - 4) 0
  else 0
theorem gueZ_1 (xs : List Int) (i : Nat) : gueZ 1 xs i = xs.getD (i - 1) 0 := rfl
theorem gueZ_2 (xs : List Int) (i : Nat) : gueZ 2 xs i = 2 * xs.getD (i - 1) 0 - xs.getD (i - 2) 0 := rfl
theorem gueZ_3 (xs : List Int) (i : Nat) : gueZ 3 xs i = 3 * xs.getD (i - 1) 0 - 3 * xs.getD (i - 2) 0 + xs.getD (i - 3) 0 := rfl
theorem gueZ_4 (xs : List Int) (i : Nat) : gueZ 4 xs i = 4 * xs.getD (i - 1) 0 - 6 * xs.getD (i - 2) 0 + 4 * xs.getD (i - 3) 0 - xs.getD (i - 4) 0 := rfl
theorem gueZ_0 (xs : List Int) (i : Nat) : gueZ 0 xs i = 0 := rfl
theorem getD_bd {lo hi : Int} {xs : List Int} (h : InR lo hi xs) (h0 : lo ≤ 0 ∧ 0 ≤ hi) (j : Nat) : lo ≤ xs.getD j 0 ∧ xs.getD j 0 ≤ hi := by
  rcases Nat.lt_or_ge j xs.length with h1 | h1
  · exact h j h1
  · rw [List.getD_eq_getElem?_getD, List.getElem?_eq_none h1]; exact h0
theorem gueZ_bd {xs : List Int} (h : InR (-67108864) 67108863 xs) (o i : Nat) (_ho : o ≤ 4) : -1006632960 ≤ gueZ o xs i ∧ gueZ o xs i ≤ 1006632960 := by
  have h1 := getD_bd h (by omega) (i - 1)
  have h2 := getD_bd h (by omega) (i - 2)
  have h3 := getD_bd h (by omega) (i - 3)
  have h4 := getD_bd h (by omega) (i - 4)
  unfold gueZ
  repeat' split
  all_goals omega
theorem gueZ_take (o : Nat) (xs : List Int) (i k : Nat) (hk : i ≤ k) (ho : o ≤ i) : gueZ o (xs.take k) i = gueZ o xs i := by
  have H : ∀ j, j < k → (xs.take k).getD j 0 = xs.getD j 0 := fun j hj => by
    rw [List.getD_eq_getElem?_getD, List.getElem?_take_of_lt hj, ← List.getD_eq_getElem?_getD]
  unfold gueZ
  repeat' split
  · rw [H _ (by omega)]
  · rw [H _ (by omega), H _ (by omega)]
  · rw [H _ (by omega), H _ (by omega), H _ (by omega)]
  · rw [H _ (by omega), H _ (by omega), H _ (by omega), H _ (by omega)]
  · rfl

/-! ### Residues -/
def resAt (o : Nat) (xs : List Int) (i : Nat) : Int := if o ≤ i then xs.getD i 0 - gueZ o xs i else xs.getD i 0
def resL (o : Nat) (xs : List Int) : List Int := tabN xs.length (resAt o xs)
noncomputable def resF (o : Int) (xs : List Int) : List Int := if decide (0 ≤ o ∧ o ≤ 4) && lsB (-67108864) 67108863 xs then resL o.toNat xs else []
@[simp] theorem resL_length (o : Nat) (xs : List Int) : (resL o xs).length = xs.length := by simp [resL]
theorem resF_yes {o : Nat} {xs : List Int} (ho : o ≤ 4) (h : LsOk (-67108864) 67108863 xs) : resF (o : Int) xs = resL o xs := by
  unfold resF; rw [lsB_yes h, if_pos (by simp; omega)]; simp
theorem resF_no {o : Int} {xs : List Int} (h : ¬ ((0 ≤ o ∧ o ≤ 4) ∧ LsOk (-67108864) 67108863 xs)) : resF o xs = [] := by
  unfold resF
  by_cases h1 : 0 ≤ o ∧ o ≤ 4
  · rw [lsB_no (fun h2 => h ⟨h1, h2⟩), if_neg (by simp)]
  · rw [if_neg (by simp [h1])]
theorem resF_len (o : Int) (xs : List Int) : (resF o xs).length ≤ 4000 := by
  by_cases h : (0 ≤ o ∧ o ≤ 4) ∧ LsOk (-67108864) 67108863 xs
  · obtain ⟨⟨h1, h2⟩, h3⟩ := h
    obtain ⟨n, rfl⟩ := Int.eq_ofNat_of_zero_le h1
    rw [resF_yes (by omega) h3, resL_length]; exact h3.1
  · rw [resF_no h]; simp
theorem resAt_bd {xs : List Int} (h : InR (-67108864) 67108863 xs) (o i : Nat) (ho : o ≤ 4) : -1073741824 ≤ resAt o xs i ∧ resAt o xs i ≤ 1073741824 := by
  have h1 := getD_bd h (by omega) i
  have h2 := gueZ_bd h o i ho
  unfold resAt; split <;> omega
theorem resL_inR {xs : List Int} (h : InR (-67108864) 67108863 xs) (o : Nat) (ho : o ≤ 4) : InR (-1073741824) 1073741824 (resL o xs) := by
  intro j hj
  rw [resL_length] at hj
  unfold resL
  rw [tabN_getD _ _ j hj]; exact resAt_bd h o j ho

/-! ### What they restore -/
def rstAt (o : Nat) (xs r : List Int) (k : Nat) : Int := if o ≤ k then xs.getD k 0 + gueZ o r k else xs.getD k 0
def rst (o : Nat) (xs : List Int) : Nat → List Int
  | 0 => []
  | k + 1 => rst o xs k ++ [rstAt o xs (rst o xs k) k]
@[simp] theorem rst_length (o : Nat) (xs : List Int) (k : Nat) : (rst o xs k).length = k := by
  induction k with
  | zero => rfl
  | succ k ih => simp [rst, ih]
theorem rst_succ (o : Nat) (xs : List Int) (k : Nat) : rst o xs (k + 1) = rst o xs k ++ [rstAt o xs (rst o xs k) k] := rfl
theorem rst_take (o : Nat) (xs : List Int) (k n : Nat) (h : k ≤ n) : (rst o xs n).take k = rst o xs k := by
  induction n with
  | zero => have : k = 0 := by omega
            subst this; rfl
  | succ n ih =>
    rcases Nat.lt_or_eq_of_le h with h1 | h1
    · rw [rst_succ, List.take_append_of_le_length (by simp; omega)]; exact ih (by omega)
    · subst h1; rw [List.take_of_length_le (by simp)]
theorem getD_snocI (r : List Int) (v : Int) : (r ++ [v]).getD r.length 0 = v := by
  rw [List.getD_eq_getElem?_getD, List.getElem?_append_right (Nat.le_refl _)]; simp
theorem getD_appL (r s : List Int) (j : Nat) (h : j < r.length) : (r ++ s).getD j 0 = r.getD j 0 := by
  rw [List.getD_eq_getElem?_getD, List.getElem?_append_left h, ← List.getD_eq_getElem?_getD]
theorem inR_snoc {lo hi : Int} {r : List Int} {v : Int} (h : InR lo hi r) (hv : lo ≤ v ∧ v ≤ hi) : InR lo hi (r ++ [v]) := by
  intro j hj
  rw [List.length_append, List.length_singleton] at hj
  rcases Nat.lt_or_eq_of_le (Nat.le_of_lt_succ hj) with h1 | h1
  · rw [getD_appL _ _ _ h1]; exact h j h1
  · subst h1; rw [getD_snocI]; exact hv
theorem inR_of_snoc {lo hi : Int} {r : List Int} {v : Int} (h : InR lo hi (r ++ [v])) : lo ≤ v ∧ v ≤ hi := by
  have := h r.length (by simp)
  rwa [getD_snocI] at this
theorem inR_take {lo hi : Int} {r : List Int} (k : Nat) (h : InR lo hi r) : InR lo hi (r.take k) := by
  intro j hj
  rw [List.length_take] at hj
  rw [List.getD_eq_getElem?_getD, List.getElem?_take_of_lt (by omega), ← List.getD_eq_getElem?_getD]
  exact h j (by omega)
theorem inR_nil (lo hi : Int) : InR lo hi [] := fun j hj => by simp at hj
def RstOk (o : Int) (xs : List Int) : Prop := (0 ≤ o ∧ o ≤ 4) ∧ LsOk (-2147483648) 2147483647 xs ∧ InR (-67108864) 67108863 (rst o.toNat xs xs.length)
noncomputable def rstF (o : Int) (xs : List Int) : List Int := open Classical in if RstOk o xs then rst o.toNat xs xs.length else []
theorem rstF_yes {o : Nat} {xs : List Int} (ho : o ≤ 4) (h : LsOk (-2147483648) 2147483647 xs) (hr : InR (-67108864) 67108863 (rst o xs xs.length)) : rstF (o : Int) xs = rst o xs xs.length := by
  unfold rstF; rw [if_pos ⟨by omega, h, by simpa using hr⟩]; simp
theorem rstF_no {o : Int} {xs : List Int} (h : ¬ ((0 ≤ o ∧ o ≤ 4) ∧ LsOk (-2147483648) 2147483647 xs)) : rstF o xs = [] := by
  unfold rstF; rw [if_neg (fun h' => h ⟨h'.1, h'.2.1⟩)]
theorem rstF_bad {o : Nat} {xs : List Int} (k : Nat) (hk : k < xs.length) (h : ¬ (-67108864 ≤ rstAt o xs (rst o xs k) k ∧ rstAt o xs (rst o xs k) k ≤ 67108863)) : rstF (o : Int) xs = [] := by
  unfold rstF
  rw [if_neg]
  intro h'
  have h2 := inR_take (k + 1) h'.2.2
  rw [Int.toNat_natCast, rst_take _ _ _ _ (by omega), rst_succ] at h2
  exact h (inR_of_snoc h2)
theorem rstF_len (o : Int) (xs : List Int) : (rstF o xs).length ≤ 4000 := by
  unfold rstF; split
  · rename_i h; rw [rst_length]; exact h.2.1.1
  · simp

/-- What a list's residue restores is the list. -/
theorem rst_res (o : Nat) (xs : List Int) (k : Nat) (hk : k ≤ xs.length) : rst o (resL o xs) k = xs.take k := by
  induction k with
  | zero => rfl
  | succ k ih =>
    rw [rst_succ, ih (by omega), take_snoc_getD xs 0 k (by omega)]
    congr 2
    unfold rstAt
    have e : (resL o xs).getD k 0 = resAt o xs k := tabN_getD _ _ k (by omega)
    rw [e]
    unfold resAt
    split
    · rw [gueZ_take o xs k k (Nat.le_refl _) (by assumption)]; omega
    · rfl
theorem rstF_resF {o : Nat} {xs : List Int} (ho : o ≤ 4) (h : LsOk (-67108864) 67108863 xs) : rstF (o : Int) (resF (o : Int) xs) = xs := by
  rw [resF_yes ho h]
  have e : rst o (resL o xs) (resL o xs).length = xs := by
    rw [resL_length, rst_res o xs _ (Nat.le_refl _), List.take_length]
  rw [rstF_yes ho ?_ ?_]
  · exact e
  · refine ⟨by simpa using h.1, fun j hj => ?_⟩
    have := resL_inR h.2 o ho j hj
    omega
  · rw [e]; exact h.2

/-! ### Two lists turned -/
def turA (way a b : Int) : Int := if way = 2 then (a + b) / 2 else a
def turB (way a b : Int) : Int := if way = 0 then b else a - b
def untA (way a b : Int) : Int := if way = 2 then a + (b + 1) / 2 else a
def untB (way a b : Int) : Int := if way = 2 then a + (b + 1) / 2 - b else if way = 1 then a - b else b
def two (f : Int → Int → Int → Int) (way : Int) (xs ys : List Int) : List Int := tabN xs.length (fun i => f way (xs.getD i 0) (ys.getD i 0))
@[simp] theorem two_length (f : Int → Int → Int → Int) (way : Int) (xs ys : List Int) : (two f way xs ys).length = xs.length := by simp [two]
theorem two_getD (f : Int → Int → Int → Int) (way : Int) (xs ys : List Int) (k : Nat) (h : k < xs.length) : (two f way xs ys).getD k 0 = f way (xs.getD k 0) (ys.getD k 0) := tabN_getD _ _ k h
def PairOk (lo hi way : Int) (xs ys : List Int) : Prop := (0 ≤ way ∧ way ≤ 2) ∧ xs.length = ys.length ∧ LsOk lo hi xs ∧ LsOk lo hi ys
noncomputable def pairB (lo hi way : Int) (xs ys : List Int) : Bool := open Classical in decide (PairOk lo hi way xs ys)
theorem pairB_yes {lo hi way : Int} {xs ys : List Int} (h : PairOk lo hi way xs ys) : pairB lo hi way xs ys = true := by unfold pairB; simpa using h
theorem pairB_no {lo hi way : Int} {xs ys : List Int} (h : ¬ PairOk lo hi way xs ys) : pairB lo hi way xs ys = false := by unfold pairB; simpa using h
theorem pairB_eq (lo hi way : Int) (xs ys : List Int) (h0 : 0 ≤ way) (h2 : way < 3) (hl : xs.length = ys.length) : pairB lo hi way xs ys = (lsB lo hi xs && lsB lo hi ys) := by
  by_cases h : PairOk lo hi way xs ys
  · rw [pairB_yes h, lsB_yes h.2.2.1, lsB_yes h.2.2.2]; rfl
  · rw [pairB_no h]
    symm
    rw [Bool.and_eq_false_iff]
    by_cases h3 : LsOk lo hi xs
    · exact .inr (lsB_no (fun h4 => h ⟨⟨h0, by omega⟩, hl, h3, h4⟩))
    · exact .inl (lsB_no h3)
noncomputable def turF (f : Int → Int → Int → Int) (way : Int) (xs ys : List Int) : List Int := open Classical in if PairOk (-67108864) 67108863 way xs ys then two f way xs ys else []
def UntOk (way : Int) (xs ys : List Int) : Prop := PairOk (-268435456) 268435455 way xs ys ∧ InR (-67108864) 67108863 (two untA way xs ys) ∧ InR (-67108864) 67108863 (two untB way xs ys)
noncomputable def untF (f : Int → Int → Int → Int) (way : Int) (xs ys : List Int) : List Int := open Classical in if UntOk way xs ys then two f way xs ys else []
theorem turF_yes {f : Int → Int → Int → Int} {way : Int} {xs ys : List Int} (h : PairOk (-67108864) 67108863 way xs ys) : turF f way xs ys = two f way xs ys := by unfold turF; rw [if_pos h]
theorem turF_no {f : Int → Int → Int → Int} {way : Int} {xs ys : List Int} (h : ¬ PairOk (-67108864) 67108863 way xs ys) : turF f way xs ys = [] := by unfold turF; rw [if_neg h]
theorem untF_yes {f : Int → Int → Int → Int} {way : Int} {xs ys : List Int} (h : UntOk way xs ys) : untF f way xs ys = two f way xs ys := by unfold untF; rw [if_pos h]
theorem untF_no {f : Int → Int → Int → Int} {way : Int} {xs ys : List Int} (h : ¬ UntOk way xs ys) : untF f way xs ys = [] := by unfold untF; rw [if_neg h]
theorem turF_len (f : Int → Int → Int → Int) (way : Int) (xs ys : List Int) : (turF f way xs ys).length ≤ 1048576 := by
  unfold turF; split
  · rename_i h; rw [two_length]; have := h.2.2.1.1; omega
  · simp
theorem untF_len (f : Int → Int → Int → Int) (way : Int) (xs ys : List Int) : (untF f way xs ys).length ≤ 1048576 := by
  unfold untF; split
  · rename_i h; rw [two_length]; have := h.1.2.2.1.1; omega
  · simp
theorem turA_bd (way a b : Int) (h1 : -67108864 ≤ a ∧ a ≤ 67108863) (h2 : -67108864 ≤ b ∧ b ≤ 67108863) : -67108864 ≤ turA way a b ∧ turA way a b ≤ 67108863 := by
  unfold turA; split <;> omega
theorem turB_bd (way a b : Int) (h1 : -67108864 ≤ a ∧ a ≤ 67108863) (h2 : -67108864 ≤ b ∧ b ≤ 67108863) : -134217728 ≤ turB way a b ∧ turB way a b ≤ 134217728 := by
  unfold turB; split <;> omega
theorem unt_turA (way a b : Int) (hw : 0 ≤ way ∧ way ≤ 2) : untA way (turA way a b) (turB way a b) = a := by
  unfold untA turA turB
  rcases (show way = 0 ∨ way = 1 ∨ way = 2 by omega) with e | e | e <;> subst e <;> simp <;> omega
theorem unt_turB (way a b : Int) (hw : 0 ≤ way ∧ way ≤ 2) : untB way (turA way a b) (turB way a b) = b := by
  unfold untB turA turB
  rcases (show way = 0 ∨ way = 1 ∨ way = 2 by omega) with e | e | e <;> subst e <;> simp <;> omega
theorem ext_getDI {xs ys : List Int} (hl : xs.length = ys.length) (h : ∀ j, j < xs.length → xs.getD j 0 = ys.getD j 0) : xs = ys := by
  apply List.ext_getElem hl
  intro j h1 h2
  have := h j h1
  rwa [List.getD_eq_getElem?_getD, List.getD_eq_getElem?_getD, List.getElem?_eq_getElem h1, List.getElem?_eq_getElem h2] at this
theorem unt_tur {way : Int} {xs ys : List Int} (h : PairOk (-67108864) 67108863 way xs ys) :
    untF untA way (turF turA way xs ys) (turF turB way xs ys) = xs ∧ untF untB way (turF turA way xs ys) (turF turB way xs ys) = ys := by
  rw [turF_yes h, turF_yes h]
  obtain ⟨hw, hl, hx, hy⟩ := h
  have eA : two untA way (two turA way xs ys) (two turB way xs ys) = xs := ext_getDI (by simp) (fun j hj => by
    rw [two_length, two_length] at hj
    rw [two_getD _ _ _ _ _ (by simpa using hj), two_getD _ _ _ _ _ hj, two_getD _ _ _ _ _ hj, unt_turA _ _ _ hw])
  have eB : two untB way (two turA way xs ys) (two turB way xs ys) = ys := ext_getDI (by simpa using hl) (fun j hj => by
    rw [two_length, two_length] at hj
    rw [two_getD _ _ _ _ _ (by simpa using hj), two_getD _ _ _ _ _ hj, two_getD _ _ _ _ _ hj, unt_turB _ _ _ hw])
  have hok : UntOk way (two turA way xs ys) (two turB way xs ys) := by
    refine ⟨⟨hw, by simp, ⟨by simpa using hx.1, fun j hj => ?_⟩, ⟨by simpa using hx.1, fun j hj => ?_⟩⟩, by rw [eA]; exact hx.2, by rw [eB]; exact hy.2⟩
    · rw [two_length] at hj
      rw [two_getD _ _ _ _ _ hj]
      have := turA_bd way _ _ (hx.2 j hj) (hy.2 j (by omega))
      omega
    · rw [two_length] at hj
      rw [two_getD _ _ _ _ _ hj]
      have := turB_bd way _ _ (hx.2 j hj) (hy.2 j (by omega))
      omega
  rw [untF_yes hok, untF_yes hok]
  exact ⟨eA, eB⟩
end Go.Proofs.Ytocoeodoihdkgaa
