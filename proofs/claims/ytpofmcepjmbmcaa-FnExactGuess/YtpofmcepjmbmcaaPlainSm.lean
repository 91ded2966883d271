/- Plain: small blocks: sixteen numbers, their sums forward and back, coarse and fine. -/
import Derived.Test.YtpofmcepjmbmcaaPlainBl
namespace Go.Proofs.Ytpofmcepjmbmcaa
open Go.RowKit

/-- Sixteen numbers told by their places. -/
def tab16 (f : Nat → Int) : List Int := (List.range 16).map f
@[simp] theorem tab16_length (f : Nat → Int) : (tab16 f).length = 16 := by simp [tab16]
theorem tab16_getD (f : Nat → Int) (k : Nat) (h : k < 16) : (tab16 f).getD k 0 = f k := by
  unfold tab16
  rw [List.getD_eq_getElem?_getD, List.getElem?_map, List.getElem?_range h]; rfl
theorem tab16_inR (f : Nat → Int) (lo hi : Int) (h : ∀ k, k < 16 → lo ≤ f k ∧ f k ≤ hi) : InR lo hi (tab16 f) := by
  intro j hj
  rw [tab16_length] at hj
  rw [tab16_getD f j hj]; exact h j hj
theorem tab16_congr {f g : Nat → Int} (h : ∀ k, k < 16 → f k = g k) : tab16 f = tab16 g := by
  unfold tab16
  exact List.map_congr_left (fun k hk => h k (List.mem_range.1 hk))
theorem tab16_of {zs : List Int} (h : zs.length = 16) : tab16 (fun p => zs.getD p 0) = zs := by
  refine List.ext_getElem (by simp [h]) (fun i h1 h2 => ?_)
  simp only [tab16_length] at h1
  have := tab16_getD (fun p => zs.getD p 0) i h1
  rw [List.getD_eq_getElem?_getD, List.getElem?_eq_getElem (by simpa using h1), Option.getD_some] at this
  rw [this, List.getD_eq_getElem?_getD, List.getElem?_eq_getElem h2, Option.getD_some]
def smB (zs : List Int) : Bool := decide (zs.length = 16) && inRB (-65536) 65535 zs
def SmOk (zs : List Int) : Prop := zs.length = 16 ∧ InR (-65536) 65535 zs
theorem smB_iff {zs : List Int} : smB zs = true ↔ SmOk zs := by
  unfold smB SmOk
  simp only [Bool.and_eq_true, decide_eq_true_eq, inRB_iff0]
theorem smB_yes {zs : List Int} (h : SmOk zs) : smB zs = true := smB_iff.2 h
theorem smB_no {zs : List Int} (h : ¬ SmOk zs) : smB zs = false := Bool.eq_false_iff.2 (fun h' => h (smB_iff.1 h'))

/-! ### The waves -/
/-- The weight of number x of a row in its sum number u. -/
def smT (u x : Nat) : Int := [1, 1, 1, 1, 2, 1, -1, -2, 1, -1, -1, 1, 1, -2, 2, -1].getD (4 * u + x) 0
def rowZ (zs : List Int) (k : Nat) : List Int := [zs.getD (4 * k) 0, zs.getD (4 * k + 1) 0, zs.getD (4 * k + 2) 0, zs.getD (4 * k + 3) 0]
@[simp] theorem rowZ_length (zs : List Int) (k : Nat) : (rowZ zs k).length = 4 := rfl
theorem rowZ_getD (zs : List Int) (k j : Nat) (h : j < 4) : (rowZ zs k).getD j 0 = zs.getD (4 * k + j) 0 := by
  rcases (show j = 0 ∨ j = 1 ∨ j = 2 ∨ j = 3 by omega) with rfl | rfl | rfl | rfl <;> rfl
def sumT (r : List Int) (u : Nat) : Nat → Int
  | 0 => 0
  | j + 1 => sumT r u j + smT u j * r.getD j 0
def sumS (r : List Int) (u : Nat) : Int := sumT r u 4
def backS (r : List Int) (u : Nat) : Int :=
  if u = 0 then (r.getD 0 0 + r.getD 2 0) + (r.getD 1 0 + r.getD 3 0 / 2) else if u = 1 then (r.getD 0 0 - r.getD 2 0) + (r.getD 1 0 / 2 - r.getD 3 0)
  else if u = 2 then (r.getD 0 0 - r.getD 2 0) - (r.getD 1 0 / 2 - r.getD 3 0) else (r.getD 0 0 + r.getD 2 0) - (r.getD 1 0 + r.getD 3 0 / 2)
/-- The columns as rows, each changed when it was a row. -/
def turnZ (g : List Int → Nat → Int) (zs : List Int) (p : Nat) : Int := g (rowZ zs (p % 4)) (p / 4)
def turn4 (g : List Int → Nat → Int) (zs : List Int) : List Int := tab16 (turnZ g zs)
@[simp] theorem turn4_length (g : List Int → Nat → Int) (zs : List Int) : (turn4 g zs).length = 16 := tab16_length _
theorem turn4_at (g : List Int → Nat → Int) (zs : List Int) (p : Nat) (h : p < 16) : (turn4 g zs).getD p 0 = g (rowZ zs (p % 4)) (p / 4) := tab16_getD _ _ h
def smFwd (zs : List Int) : List Int := if smB zs = true then turn4 sumS (turn4 sumS zs) else []
def smInvZ (zs : List Int) (p : Nat) : Int := ((turn4 backS (turn4 backS zs)).getD p 0 + 32) / 64
def smInv (zs : List Int) : List Int := if smB zs = true then tab16 (smInvZ zs) else []
theorem smT_bd (u x : Nat) : -2 ≤ smT u x ∧ smT u x ≤ 2 := by
  by_cases h : 4 * u + x < 16
  · have : ∀ k, k < 16 → -2 ≤ ([1, 1, 1, 1, 2, 1, -1, -2, 1, -1, -1, 1, 1, -2, 2, -1] : List Int).getD k 0 ∧ ([1, 1, 1, 1, 2, 1, -1, -2, 1, -1, -1, 1, 1, -2, 2, -1] : List Int).getD k 0 ≤ 2 := by decide
    exact this _ h
  · unfold smT
    rw [List.getD_eq_getElem?_getD, List.getElem?_eq_none (by simp; omega)]
    decide
theorem smT_mul (u x : Nat) (y K : Int) (h : -K ≤ y ∧ y ≤ K) : -(2 * K) ≤ smT u x * y ∧ smT u x * y ≤ 2 * K := by
  have := smT_bd u x
  rcases (show smT u x = -2 ∨ smT u x = -1 ∨ smT u x = 0 ∨ smT u x = 1 ∨ smT u x = 2 by omega) with e | e | e | e | e <;> rw [e] <;> omega
theorem sumS_eq (r : List Int) (u : Nat) (hu : u < 4) : sumS r u = if u = 0 then r.getD 0 0 + r.getD 1 0 + r.getD 2 0 + r.getD 3 0 else if u = 1 then 2 * r.getD 0 0 + r.getD 1 0 - r.getD 2 0 - 2 * r.getD 3 0 else if u = 2 then r.getD 0 0 - r.getD 1 0 - r.getD 2 0 + r.getD 3 0 else r.getD 0 0 - 2 * r.getD 1 0 + 2 * r.getD 2 0 - r.getD 3 0 := by
  rcases (show u = 0 ∨ u = 1 ∨ u = 2 ∨ u = 3 by omega) with rfl | rfl | rfl | rfl
  · show 0 + 1 * _ + 1 * _ + 1 * _ + 1 * _ = _; simp
  · show 0 + 2 * _ + 1 * _ + -1 * _ + -2 * _ = _; simp; omega
  · show 0 + 1 * _ + -1 * _ + -1 * _ + 1 * _ = _; simp; omega
  · show 0 + 1 * _ + -2 * _ + 2 * _ + -1 * _ = _; simp; omega
theorem sumT_bd {K : Int} {r : List Int} (u : Nat) (hr : ∀ j, j < 4 → -K ≤ r.getD j 0 ∧ r.getD j 0 ≤ K) (n : Nat) (hn : n ≤ 4) : -(2 * K * n) ≤ sumT r u n ∧ sumT r u n ≤ 2 * K * n := by
  induction n with
  | zero => simp [sumT]
  | succ n ih =>
    have h := ih (by omega)
    have h2 := smT_mul u n (r.getD n 0) K (hr n (by omega))
    have e : 2 * K * ((n + 1 : Nat) : Int) = 2 * K * n + 2 * K := by
      rw [show ((n + 1 : Nat) : Int) = (n : Int) + 1 by simp, Int.mul_add]; omega
    rw [e]
    unfold sumT
    generalize 2 * K * (n : Int) = M at *
    omega
theorem sumS_bd {K : Int} {r : List Int} (u : Nat) (hu : u < 4) (hr : ∀ j, j < 4 → -K ≤ r.getD j 0 ∧ r.getD j 0 ≤ K) : -(6 * K) ≤ sumS r u ∧ sumS r u ≤ 6 * K := by
  rw [sumS_eq r u hu]
  have h0 := hr 0 (by omega); have h1 := hr 1 (by omega); have h2 := hr 2 (by omega); have h3 := hr 3 (by omega)
  split
  · omega
  · split
    · omega
    · split <;> omega
theorem backS_bd {K : Int} {r : List Int} (u : Nat) (hr : ∀ j, j < 4 → -K ≤ r.getD j 0 ∧ r.getD j 0 ≤ K) : -(4 * K + 1) ≤ backS r u ∧ backS r u ≤ 4 * K + 1 := by
  unfold backS
  have h0 := hr 0 (by omega); have h1 := hr 1 (by omega); have h2 := hr 2 (by omega); have h3 := hr 3 (by omega)
  split
  · omega
  · split
    · omega
    · split <;> omega
theorem rowZ_bd {K : Int} {zs : List Int} (hl : zs.length = 16) (hz : InR (-K) K zs) (k : Nat) (hk : k < 4) : ∀ j, j < 4 → -K ≤ (rowZ zs k).getD j 0 ∧ (rowZ zs k).getD j 0 ≤ K := by
  intro j hj
  rw [rowZ_getD zs k j hj]
  exact hz _ (by omega)
theorem turn4_inR {g : List Int → Nat → Int} {K L : Int} {zs : List Int} (hl : zs.length = 16) (hz : InR (-K) K zs)
    (hg : ∀ r u, u < 4 → (∀ j, j < 4 → -K ≤ r.getD j 0 ∧ r.getD j 0 ≤ K) → -L ≤ g r u ∧ g r u ≤ L) : InR (-L) L (turn4 g zs) :=
  tab16_inR _ _ _ (fun k hk => hg _ _ (by omega) (rowZ_bd hl hz _ (by omega)))
theorem smOk_inR {zs : List Int} (h : SmOk zs) : InR (-65536) 65536 zs := fun j hj => by have := h.2 j hj; omega
theorem sum_inR {K : Int} {zs : List Int} (hl : zs.length = 16) (hz : InR (-K) K zs) : InR (-(6 * K)) (6 * K) (turn4 sumS zs) := turn4_inR hl hz (fun _ u hu hr => sumS_bd u hu hr)
theorem back_inR {K : Int} {zs : List Int} (hl : zs.length = 16) (hz : InR (-K) K zs) : InR (-(4 * K + 1)) (4 * K + 1) (turn4 backS zs) := turn4_inR hl hz (fun _ u _ hr => backS_bd u hr)
/-- Sums of rows that stay rows, and of columns: the specification's way. -/
def midZ (zs : List Int) (p : Nat) : Int := sumS (rowZ zs (p / 4)) (p % 4)
/-- Column x of a square, as a row. -/
def colZ (zs : List Int) (x : Nat) : List Int := [zs.getD x 0, zs.getD (4 + x) 0, zs.getD (8 + x) 0, zs.getD (12 + x) 0]
theorem colZ_getD (zs : List Int) (x j : Nat) (h : j < 4) : (colZ zs x).getD j 0 = zs.getD (4 * j + x) 0 := by
  rcases (show j = 0 ∨ j = 1 ∨ j = 2 ∨ j = 3 by omega) with rfl | rfl | rfl | rfl
  · show zs.getD x 0 = zs.getD (4 * 0 + x) 0; congr 1; omega
  · rfl
  · rfl
  · rfl
theorem sum_cols (g : List Int → Nat → Int) (zs : List Int) (x : Nat) (hx : x < 4) : rowZ (turn4 g zs) x = colZ (tab16 (fun p => g (rowZ zs (p / 4)) (p % 4))) x := by
  unfold rowZ colZ
  rw [turn4_at g zs _ (by omega), turn4_at g zs _ (by omega), turn4_at g zs _ (by omega), turn4_at g zs _ (by omega), tab16_getD _ _ (by omega), tab16_getD _ _ (by omega), tab16_getD _ _ (by omega), tab16_getD _ _ (by omega)]
  simp only [show 4 * x % 4 = 0 by omega, show 4 * x / 4 = x by omega, show (4 * x + 1) % 4 = 1 by omega, show (4 * x + 1) / 4 = x by omega, show (4 * x + 2) % 4 = 2 by omega, show (4 * x + 2) / 4 = x by omega, show (4 * x + 3) % 4 = 3 by omega, show (4 * x + 3) / 4 = x by omega,
    show x / 4 = 0 by omega, show x % 4 = x by omega, show (4 + x) / 4 = 1 by omega, show (4 + x) % 4 = x by omega, show (8 + x) / 4 = 2 by omega, show (8 + x) % 4 = x by omega, show (12 + x) / 4 = 3 by omega, show (12 + x) % 4 = x by omega]
  rfl
/-- Both ways meet. -/
theorem turn_twice (g : List Int → Nat → Int) (zs : List Int) : turn4 g (turn4 g zs) = tab16 (fun p => g (colZ (tab16 (fun p => g (rowZ zs (p / 4)) (p % 4))) (p % 4)) (p / 4)) :=
  tab16_congr (fun k hk => by unfold turnZ; rw [sum_cols g zs _ (by omega)])
theorem smFwd_len (zs : List Int) : (smFwd zs).length ≤ 1048576 := by unfold smFwd; split <;> simp
theorem smInv_len (zs : List Int) : (smInv zs).length ≤ 1048576 := by unfold smInv; split <;> simp

/-! ### Rows that are filled -/
def tabN (n : Nat) (f : Nat → Int) : List Int := (List.range n).map f
@[simp] theorem tabN_length (n : Nat) (f : Nat → Int) : (tabN n f).length = n := by simp [tabN]
theorem tabN_getD (n : Nat) (f : Nat → Int) (k : Nat) (h : k < n) : (tabN n f).getD k 0 = f k := by
  unfold tabN
  rw [List.getD_eq_getElem?_getD, List.getElem?_map, List.getElem?_range h]; rfl
theorem tab16_N (f : Nat → Int) : tab16 f = tabN 16 f := rfl
structure FilN (n : Nat) (f : Nat → Int) (P : Nat → Prop) (xs : List Int) : Prop where
  len : xs.length = n
  val : ∀ p, p < n → P p → xs.getD p 0 = f p
theorem FilN.set {n : Nat} {f : Nat → Int} {P Q : Nat → Prop} {xs : List Int} (h : FilN n f P xs) {q : Nat} (hq : q < n) {x : Int} (hx : x = f q) (hP : ∀ p, p < n → Q p → p = q ∨ P p) : FilN n f Q (xs.set q x) := by
  refine ⟨by rw [List.length_set]; exact h.len, fun p hp hQ => ?_⟩
  rw [List.getD_eq_getElem?_getD]
  by_cases e : q = p
  · subst e; rw [List.getElem?_set_self (by rw [h.len]; exact hq)]; exact hx
  · rw [List.getElem?_set_ne e, ← List.getD_eq_getElem?_getD]
    rcases hP p hp hQ with h' | h'
    · exact absurd h'.symm e
    · exact h.val p hp h'
theorem FilN.weak {n : Nat} {f : Nat → Int} {P Q : Nat → Prop} {xs : List Int} (h : FilN n f P xs) (hP : ∀ p, p < n → Q p → P p) : FilN n f Q xs := ⟨h.len, fun p hp hQ => h.val p hp (hP p hp hQ)⟩
theorem FilN.all {n : Nat} {f : Nat → Int} {P : Nat → Prop} {xs : List Int} (h : FilN n f P xs) (hP : ∀ p, p < n → P p) : xs = tabN n f := by
  refine List.ext_getElem (by rw [h.len]; simp) (fun k h1 h2 => ?_)
  have hk : k < n := by rw [h.len] at h1; exact h1
  have e := h.val k hk (hP k hk)
  rw [← tabN_getD n f k hk, List.getD_eq_getElem?_getD, List.getElem?_eq_getElem h1, List.getD_eq_getElem?_getD, List.getElem?_eq_getElem h2] at e
  exact e

/-! ### Coarse and fine -/
def smClass (p : Nat) : Nat := if p / 4 % 2 = 0 ∧ p % 2 = 0 then 0 else if p / 4 % 2 = 1 ∧ p % 2 = 1 then 1 else 2
def smM (r c : Nat) : Int := [13107, 5243, 8066, 11916, 4660, 7490, 10082, 4194, 6554, 9362, 3647, 5825, 8192, 3355, 5243, 7282, 2893, 4559].getD (3 * r + c) 0
def smV (r c : Nat) : Int := [10, 16, 13, 11, 18, 14, 13, 20, 16, 14, 23, 18, 16, 25, 20, 18, 29, 23].getD (3 * r + c) 0
def smCo (n : Int) (p s : Nat) : Int :=
  let q := ((if n < 0 then -n else n) * smM (s % 6) (smClass p) + 2 ^ (14 + s / 6)) / 2 ^ (15 + s / 6)
  if n < 0 then -q else q
def smFi (n : Int) (p s : Nat) : Int := cutZ (-65536) 65535 (n * (smV (s % 6) (smClass p) * 2 ^ (s / 6)))
def stB (s : Int) : Bool := decide (0 ≤ s) && decide (s ≤ 40)
def smScaled (g : Int → Nat → Nat → Int) (zs : List Int) (s : Int) : List Int := if smB zs = true ∧ stB s = true then tab16 (fun p => g (zs.getD p 0) p s.toNat) else []
theorem smScaled_len (g : Int → Nat → Nat → Int) (zs : List Int) (s : Int) : (smScaled g zs s).length ≤ 1048576 := by unfold smScaled; split <;> simp
theorem stB_iff {s : Int} : stB s = true ↔ 0 ≤ s ∧ s ≤ 40 := by unfold stB; simp
end Go.Proofs.Ytpofmcepjmbmcaa
