/- Plain: waves of a block, forward and back, and how far a block is from what it was. -/
import Derived.Test.YtnoojbppfbmbgaaDoorPlainBl
namespace Go.Proofs.YtnoojbppfbmbgaaDoor
open Go.RowKit

def sumN (f : Nat → Int) : Nat → Int
  | 0 => 0
  | n + 1 => sumN f n + f n
theorem sumN_congr {f g : Nat → Int} {n : Nat} (h : ∀ i, i < n → f i = g i) : sumN f n = sumN g n := by
  induction n with
  | zero => rfl
  | succ n ih => unfold sumN; rw [ih (fun i hi => h i (by omega)), h n (by omega)]
theorem sumN_add (f g : Nat → Int) (n : Nat) : sumN (fun i => f i + g i) n = sumN f n + sumN g n := by
  induction n with
  | zero => rfl
  | succ n ih => unfold sumN; rw [ih]; omega
theorem sumN_mul (c : Int) (f : Nat → Int) (n : Nat) : c * sumN f n = sumN (fun i => c * f i) n := by
  induction n with
  | zero => simp [sumN]
  | succ n ih => unfold sumN; rw [Int.mul_add, ih]
theorem sumN_zero (n : Nat) : sumN (fun _ => 0) n = 0 := by
  induction n with
  | zero => rfl
  | succ n ih => unfold sumN; rw [ih]; rfl
theorem sumN_comm (f : Nat → Nat → Int) (n m : Nat) : sumN (fun i => sumN (fun j => f i j) m) n = sumN (fun j => sumN (fun i => f i j) n) m := by
  induction n with
  | zero => exact (sumN_zero m).symm
  | succ n ih =>
    show sumN (fun i => sumN (fun j => f i j) m) n + sumN (fun j => f n j) m = _
    rw [ih, ← sumN_add]; rfl
theorem sumN_bd {f g : Nat → Int} {n : Nat} (h : ∀ i, i < n → -(g i) ≤ f i ∧ f i ≤ g i) : -(sumN g n) ≤ sumN f n ∧ sumN f n ≤ sumN g n := by
  induction n with
  | zero => exact ⟨by show -(0 : Int) ≤ 0; omega, Int.le_refl _⟩
  | succ n ih =>
    have h1 := ih (fun i hi => h i (by omega))
    have h2 := h n (by omega)
    unfold sumN
    omega
theorem mul_bdW (m r C : Int) (h : -C ≤ r ∧ r ≤ C) : -(C * (m.natAbs : Int)) ≤ m * r ∧ m * r ≤ C * (m.natAbs : Int) := by
  rcases Int.le_total 0 m with hm | hm
  · rw [show ((m.natAbs : Nat) : Int) = m by omega]
    have h1 := Int.mul_le_mul_of_nonneg_left h.1 hm
    have h2 := Int.mul_le_mul_of_nonneg_left h.2 hm
    rw [Int.mul_comm C m, ← Int.mul_neg]; exact ⟨h1, h2⟩
  · rw [show ((m.natAbs : Nat) : Int) = -m by omega]
    have h1 := Int.mul_le_mul_of_nonneg_left h.1 (show 0 ≤ -m by omega)
    have h2 := Int.mul_le_mul_of_nonneg_left h.2 (show 0 ≤ -m by omega)
    rw [Int.neg_mul, Int.neg_mul] at h1 h2
    rw [Int.mul_neg] at h1
    rw [Int.mul_neg, Int.mul_comm C m]
    omega
theorem sum_mul_bd (m r : Nat → Int) (C S : Int) (n : Nat) (h : ∀ i, i < n → -C ≤ r i ∧ r i ≤ C) (hC : 0 ≤ C) (hS : sumN (fun i => ((m i).natAbs : Int)) n ≤ S) :
    -(C * S) ≤ sumN (fun i => m i * r i) n ∧ sumN (fun i => m i * r i) n ≤ C * S := by
  have h1 := sumN_bd (f := fun i => m i * r i) (g := fun i => C * ((m i).natAbs : Int)) (n := n) (fun i hi => mul_bdW _ _ _ (h i hi))
  rw [← sumN_mul] at h1
  have h2 := Int.mul_le_mul_of_nonneg_left hS hC
  omega

/-- The matrix of waves. -/
def mT : List Int := [2896, 2896, 2896, 2896, 2896, 2896, 2896, 2896, 4017, 3406, 2276, 799, -799, -2276, -3406, -4017, 3784, 1567, -1567, -3784, -3784, -1567, 1567, 3784, 3406, -799, -4017, -2276, 2276, 4017, 799, -3406, 2896, -2896, -2896, 2896, 2896, -2896, -2896, 2896, 2276, -4017, 799, 3406, -3406, -799, 4017, -2276, 1567, -3784, 3784, -1567, -1567, 3784, -3784, 1567, 799, -2276, 3406, -4017, 4017, -3406, 2276, -799]
def mZ (u x : Nat) : Int := mT.getD (8 * u + x) 0
def pZ (y z : Nat) : Int := sumN (fun v => mZ v y * mZ v z) 8
def eZ (y z : Nat) : Int := pZ y z - (if y = z then 67108864 else 0)
theorem m_col : ∀ y, y < 8 → sumN (fun v => ((mZ v y).natAbs : Int)) 8 ≤ 21641 := by decide
theorem m_row : ∀ u, u < 8 → sumN (fun x => ((mZ u x).natAbs : Int)) 8 ≤ 23168 := by decide
theorem e_row : ∀ y, y < 8 → sumN (fun z => ((eZ y z).natAbs : Int)) 8 ≤ 17168 := by decide
theorem mZ_bd (u x : Nat) (hu : u < 8) (hx : x < 8) : -4017 ≤ mZ u x ∧ mZ u x ≤ 4017 := by
  have h : ∀ u, u < 8 → ∀ x, x < 8 → -4017 ≤ mZ u x ∧ mZ u x ≤ 4017 := by decide
  exact h u hu x hx
theorem sum_delta (y : Nat) (a : Nat → Int) : ∀ n, sumN (fun z => (if y = z then 67108864 else 0) * a z) n = if y < n then 67108864 * a y else 0
  | 0 => by simp [sumN]
  | n + 1 => by
    unfold sumN
    rw [sum_delta y a n]
    by_cases h : y = n
    · subst h; simp
    · by_cases h2 : y < n
      · rw [if_pos h2, if_neg h, if_pos (by omega)]; simp
      · rw [if_neg h2, if_neg h, if_neg (by omega)]; simp
theorem sum_p (y : Nat) (hy : y < 8) (a : Nat → Int) : sumN (fun z => pZ y z * a z) 8 = 67108864 * a y + sumN (fun z => eZ y z * a z) 8 := by
  have h := sum_delta y a 8
  rw [if_pos hy] at h
  rw [← h, ← sumN_add]
  refine sumN_congr (fun z _ => ?_)
  unfold eZ
  rw [← Int.add_mul]
  congr 1
  omega
/-- Once by the matrix and back: nearly 2 ^ 26 times what it was. -/
theorem sum_mm (y : Nat) (hy : y < 8) (a : Nat → Int) : sumN (fun v => mZ v y * sumN (fun z => mZ v z * a z) 8) 8 = 67108864 * a y + sumN (fun z => eZ y z * a z) 8 := by
  rw [← sum_p y hy a]
  have h1 : sumN (fun v => mZ v y * sumN (fun z => mZ v z * a z) 8) 8 = sumN (fun v => sumN (fun z => mZ v y * mZ v z * a z) 8) 8 :=
    sumN_congr (fun v _ => by rw [sumN_mul]; exact sumN_congr (fun z _ => by rw [Int.mul_assoc]))
  rw [h1, sumN_comm]
  refine sumN_congr (fun z _ => ?_)
  unfold pZ
  rw [Int.mul_comm, sumN_mul]
  exact sumN_congr (fun v _ => by rw [Int.mul_comm])
theorem round_bd (s h d : Int) (hd : d = 2 * h) (h0 : 0 < h) : ∃ r, d * ((s + h) / d) = s + r ∧ -h ≤ r ∧ r ≤ h := by
  refine ⟨d * ((s + h) / d) - s, by omega, ?_⟩
  have h1 : (s + h) / d * d ≤ s + h := Int.ediv_mul_le _ (by omega)
  have h2 : s + h < ((s + h) / d + 1) * d := Int.lt_ediv_add_one_mul_self _ (by omega)
  rw [Int.add_mul] at h2
  rw [Int.mul_comm d]
  generalize (s + h) / d * d = q at h1 h2 ⊢
  omega

/-- One number of a product of two matrices, the sum shifted. -/
def rnd10 (s : Int) : Int := (s + 512) / 1024
def rnd16 (s : Int) : Int := (s + 32768) / 65536
theorem sumN_mono {m r : Nat → Int} (n : Nat) (h : ∀ i, i < n → m i = r i) : sumN m n = sumN r n := sumN_congr h

/-- The distance of a block that goes forward and back. -/
theorem turned_near (b : Nat → Nat → Int) (hb : ∀ y x, y < 8 → x < 8 → -255 ≤ b y x ∧ b y x ≤ 255) (y x : Nat) (hy : y < 8) (hx : x < 8) :
    let mid := fun y u => rnd10 (sumN (fun x => mZ u x * b y x) 8);
    let f := fun v u => rnd16 (sumN (fun y => mZ v y * mid y u) 8);
    let im := fun y u => rnd10 (sumN (fun v => mZ v y * f v u) 8);
    ((-5 : Int) ≤ rnd16 (sumN (fun u => mZ u x * im y u) 8) - b y x) ∧ (rnd16 (sumN (fun u => mZ u x * im y u) 8) - b y x ≤ 5) := by
  intro mid f im
  -- what the first step leaves
  have hmid : ∀ y' u, ∃ r, 1024 * mid y' u = sumN (fun x => mZ u x * b y' x) 8 + r ∧ -512 ≤ r ∧ r ≤ 512 := fun y' u => round_bd _ 512 1024 (by omega) (by omega)
  have hf : ∀ v u, ∃ r, 65536 * f v u = sumN (fun y => mZ v y * mid y u) 8 + r ∧ -32768 ≤ r ∧ r ≤ 32768 := fun v u => round_bd _ 32768 65536 (by omega) (by omega)
  have him : ∀ u, ∃ r, 1024 * im y u = sumN (fun v => mZ v y * f v u) 8 + r ∧ -512 ≤ r ∧ r ≤ 512 := fun u => round_bd _ 512 1024 (by omega) (by omega)
  obtain ⟨r4, h4, h4a, h4b⟩ := round_bd (sumN (fun u => mZ u x * im y u) 8) 32768 65536 (by omega) (by omega)
  -- the columns
  have hcol : ∀ u, u < 8 → ∃ R, 68719476736 * im y u = 67108864 * sumN (fun x => mZ u x * b y x) 8 + R ∧ -900000000000 ≤ R ∧ R ≤ 900000000000 := by
    intro u hu
    obtain ⟨r3, e3, e3a, e3b⟩ := him u
    -- 65536 of the sum
    have s1 : 65536 * sumN (fun v => mZ v y * f v u) 8 = sumN (fun v => mZ v y * sumN (fun y => mZ v y * mid y u) 8) 8 + sumN (fun v => mZ v y * (65536 * f v u - sumN (fun y => mZ v y * mid y u) 8)) 8 := by
      rw [← sumN_add, sumN_mul]
      exact sumN_congr (fun v _ => by rw [← Int.mul_add, Int.mul_left_comm]; exact congrArg _ (by omega))
    have b1 := sum_mul_bd (fun v => mZ v y) (fun v => 65536 * f v u - sumN (fun y => mZ v y * mid y u) 8) 32768 21641 8 (fun v _ => by
      obtain ⟨r, e, ha, hb⟩ := hf v u
      try simp only
      omega) (by omega) (m_col y hy)
    rw [sum_mm y hy] at s1
    -- 1024 of that
    have s2 : 1024 * mid y u = sumN (fun x => mZ u x * b y x) 8 + (1024 * mid y u - sumN (fun x => mZ u x * b y x) 8) := by omega
    have s3 : 1024 * sumN (fun z => eZ y z * mid z u) 8 = sumN (fun z => eZ y z * (1024 * mid z u)) 8 := by
      rw [sumN_mul]; exact sumN_congr (fun z _ => by rw [Int.mul_left_comm])
    have b2 := sum_mul_bd (fun z => eZ y z) (fun z => 1024 * mid z u) 5908352 17168 8 (fun z hz => by
      obtain ⟨r, e, ha, hb'⟩ := hmid z u
      have hs := sum_mul_bd (fun x => mZ u x) (fun x => b z x) 255 23168 8 (fun x hx => hb z x hz hx) (by omega) (m_row u hu)
      try simp only at hs ⊢
      omega) (by omega) (e_row y hy)
    rw [← s3] at b2
    obtain ⟨r, e, ha, hb'⟩ := hmid y u
    refine ⟨68719476736 * im y u - 67108864 * sumN (fun x => mZ u x * b y x) 8, by omega, ?_⟩
    try simp only at b1 b2 s1
    generalize sumN (fun x => mZ u x * b y x) 8 = A at *
    generalize sumN (fun z => eZ y z * mid z u) 8 = E at *
    generalize sumN (fun v => mZ v y * (65536 * f v u - sumN (fun y => mZ v y * mid y u) 8)) 8 = F at *
    generalize sumN (fun v => mZ v y * f v u) 8 = G at *
    generalize mid y u = m0 at *
    generalize im y u = i0 at *
    omega
  -- the rows
  have s5 : 68719476736 * sumN (fun u => mZ u x * im y u) 8 = 67108864 * sumN (fun u => mZ u x * sumN (fun z => mZ u z * b y z) 8) 8 + sumN (fun u => mZ u x * (68719476736 * im y u - 67108864 * sumN (fun z => mZ u z * b y z) 8)) 8 := by
    rw [sumN_mul, sumN_mul, ← sumN_add]
    exact sumN_congr (fun u _ => by rw [Int.mul_left_comm, Int.mul_left_comm 67108864, ← Int.mul_add]; exact congrArg _ (by omega))
  have b5 := sum_mul_bd (fun u => mZ u x) (fun u => 68719476736 * im y u - 67108864 * sumN (fun z => mZ u z * b y z) 8) 900000000000 21641 8 (fun u hu => by
    obtain ⟨R, e, ha, hb'⟩ := hcol u hu
    try simp only
    omega) (by omega) (m_col x hx)
  rw [sum_mm x hx] at s5
  have b6 := sum_mul_bd (fun z => eZ x z) (fun z => b y z) 255 17168 8 (fun z hz => hb y z hy hz) (by omega) (e_row x hx)
  unfold rnd16
  try simp only at b5 b6 s5
  generalize sumN (fun u => mZ u x * im y u) 8 = S at *
  generalize sumN (fun u => mZ u x * (68719476736 * im y u - 67108864 * sumN (fun z => mZ u z * b y z) 8)) 8 = T at *
  generalize sumN (fun z => eZ x z * b y z) 8 = E at *
  generalize b y x = b0 at *
  omega
end Go.Proofs.YtnoojbppfbmbgaaDoor
