/- Plain: products of two blocks, waves by their table, tables that are filled place by place. -/
import Derived.Test.YtnoojbppfbmbgaaDoorPlainFw
namespace Go.Proofs.YtnoojbppfbmbgaaDoor
open Go.RowKit

theorem sumN_within {f : Nat → Int} {K : Int} {n : Nat} (h : ∀ i, i < n → -K ≤ f i ∧ f i ≤ K) : -((n : Int) * K) ≤ sumN f n ∧ sumN f n ≤ (n : Int) * K := by
  induction n with
  | zero => simp [sumN]
  | succ n ih =>
    have h1 := ih (fun i hi => h i (by omega))
    have h2 := h n (by omega)
    have e : ((n + 1 : Nat) : Int) * K = (n : Int) * K + K := by push_cast; rw [Int.add_mul]; omega
    rw [e]
    unfold sumN
    omega
def tmulT (A B : List Int) (p i : Nat) : Int := A.getD (8 * (p / 8) + i) 0 * B.getD (8 * i + p % 8) 0
def tmulZ (A B : List Int) (h d : Int) (p : Nat) : Int := (sumN (tmulT A B p) 8 + h) / d
def tmul (A B : List Int) (h d : Int) : List Int := tab (tmulZ A B h d)
def flipZ (A : List Int) (p : Nat) : Int := A.getD (8 * (p % 8) + p / 8) 0
def flipL (A : List Int) : List Int := tab (flipZ A)
def fwdL (zs : List Int) : List Int := tmul mT (tmul zs (flipL mT) 512 1024) 32768 65536
def invL (zs : List Int) : List Int := tmul (tmul (flipL mT) zs 512 1024) mT 32768 65536
noncomputable def forwardF (zs : List Int) : List Int := if blB zs then fwdL zs else []
noncomputable def inverseF (zs : List Int) : List Int := if blB zs then invL zs else []
theorem forwardF_len (zs : List Int) : (forwardF zs).length ≤ 1048576 := by unfold forwardF; split <;> simp [fwdL, tmul]
theorem inverseF_len (zs : List Int) : (inverseF zs).length ≤ 1048576 := by unfold inverseF; split <;> simp [invL, tmul]
theorem flip_m (u x : Nat) (hu : u < 8) (hx : x < 8) : (flipL mT).getD (8 * x + u) 0 = mZ u x := by
  unfold flipL
  rw [tab_getD _ _ (by omega)]
  unfold flipZ mZ
  rw [show (8 * x + u) % 8 = u by omega, show (8 * x + u) / 8 = x by omega]
theorem m_getD (u x : Nat) : mT.getD (8 * u + x) 0 = mZ u x := rfl
theorem mT_length : mT.length = 64 := rfl
theorem mT_inR : InR (-4017) 4017 mT := by
  intro j hj
  have h : ∀ j, j < 64 → -4017 ≤ mT.getD j 0 ∧ mT.getD j 0 ≤ 4017 := by decide
  exact h j hj
theorem flipL_inR {lo hi : Int} {A : List Int} (hl : A.length = 64) (h : InR lo hi A) : InR lo hi (flipL A) :=
  tab_inR _ _ _ (fun k hk => h _ (by omega))

/-! ### A wave by its number -/
def mN (u x : Nat) : Nat := if (2 * x + 1) * u % 32 > 16 then 32 - (2 * x + 1) * u % 32 else (2 * x + 1) * u % 32
def cT : List Int := [0, 4017, 3784, 3406, 2896, 2276, 1567, 799]
def hT : List Int := [2896, 4017, 3784, 3406, 2896, 2276, 1567, 799]
theorem m_spec : ∀ u, u < 8 → ∀ x, x < 8 → u ≠ 0 → (mN u x < 8 ∧ mZ u x = cT.getD (mN u x) 0) ∨ (¬ mN u x < 8 ∧ 16 - mN u x < 8 ∧ mN u x ≤ 16 ∧ mZ u x = -(cT.getD (16 - mN u x) 0)) := by decide
theorem m_zero : ∀ x, x < 8 → mZ 0 x = 2896 := by decide
theorem m_impl : ∀ u, u < 8 → ∀ x, x < 8 → (mN u x < 8 ∧ mZ u x = hT.getD (mN u x) 0) ∨ (8 < mN u x ∧ 16 - mN u x < 8 ∧ mN u x ≤ 16 ∧ mZ u x = -(hT.getD (16 - mN u x) 0)) := by decide
theorem mN_lt (u x : Nat) : mN u x ≤ 16 := by unfold mN; split <;> omega

/-! ### Filling -/
structure Fil (f : Nat → Int) (P : Nat → Prop) (xs : List Int) : Prop where
  len : xs.length = 64
  val : ∀ p, p < 64 → P p → xs.getD p 0 = f p
theorem Fil.zero (f : Nat → Int) : Fil f (fun _ => False) (List.replicate 64 0) := ⟨by simp, fun _ _ h => h.elim⟩
theorem Fil.set {f : Nat → Int} {P Q : Nat → Prop} {xs : List Int} (h : Fil f P xs) {q : Nat} (hq : q < 64) {x : Int} (hx : x = f q) (hP : ∀ p, p < 64 → Q p → p = q ∨ P p) : Fil f Q (xs.set q x) := by
  refine ⟨by rw [List.length_set]; exact h.len, fun p hp hQ => ?_⟩
  rw [List.getD_eq_getElem?_getD]
  by_cases e : q = p
  · subst e; rw [List.getElem?_set_self (by rw [h.len]; exact hq)]; exact hx
  · rw [List.getElem?_set_ne e, ← List.getD_eq_getElem?_getD]
    rcases hP p hp hQ with h' | h'
    · exact absurd h'.symm e
    · exact h.val p hp h'
theorem Fil.weak {f : Nat → Int} {P Q : Nat → Prop} {xs : List Int} (h : Fil f P xs) (hP : ∀ p, p < 64 → Q p → P p) : Fil f Q xs := ⟨h.len, fun p hp hQ => h.val p hp (hP p hp hQ)⟩
theorem Fil.all {f : Nat → Int} {P : Nat → Prop} {xs : List Int} (h : Fil f P xs) (hP : ∀ p, p < 64 → P p) : xs = tab f := by
  refine List.ext_getElem (by rw [h.len]; simp) (fun k h1 h2 => ?_)
  have hk : k < 64 := by rw [h.len] at h1; exact h1
  have e := h.val k hk (hP k hk)
  rw [← tab_getD f k hk, List.getD_eq_getElem?_getD, List.getElem?_eq_getElem h1, List.getD_eq_getElem?_getD, List.getElem?_eq_getElem h2] at e
  exact e
theorem prod_within {m x K B : Int} (hm : -K ≤ m ∧ m ≤ K) (hx : -B ≤ x ∧ x ≤ B) (hB : 0 ≤ B) : -(K * B) ≤ m * x ∧ m * x ≤ K * B := by
  have h := mul_bdW m x B hx
  have h2 : B * (m.natAbs : Int) ≤ B * K := Int.mul_le_mul_of_nonneg_left (by omega) hB
  rw [Int.mul_comm K B]
  omega
/-- The product's bound. -/
theorem tmul_inR {A B : List Int} {K L : Int} {h d R : Int} (hA : A.length = 64) (hB : B.length = 64) (kA : InR (-K) K A) (kB : InR (-L) L B) (hL : 0 ≤ L) (hd : 0 < d) (hR1 : d * (-R) ≤ -(8 * (K * L)) + h) (hR2 : 8 * (K * L) + h ≤ d * R) : InR (-R) R (tmul A B h d) := by
  refine tab_inR _ _ _ (fun p hp => ?_)
  have hs := sumN_within (f := tmulT A B p) (K := K * L) (n := 8) (fun i hi => prod_within (kA _ (by omega)) (kB _ (by omega)) hL)
  unfold tmulZ
  generalize sumN (tmulT A B p) 8 = S at hs ⊢
  have e8 : ((8 : Nat) : Int) * (K * L) = 8 * (K * L) := rfl
  rw [e8] at hs
  constructor
  · exact (Int.le_ediv_iff_mul_le hd).2 (by rw [Int.mul_comm]; omega)
  · have h1 : (S + h) / d * d ≤ S + h := Int.ediv_mul_le _ (by omega)
    rcases Int.lt_or_le R ((S + h) / d) with h2 | h2
    · exfalso
      have h3 : d * (R + 1) ≤ d * ((S + h) / d) := Int.mul_le_mul_of_nonneg_left (by omega) (by omega)
      rw [Int.mul_comm] at h1
      rw [Int.mul_add] at h3
      omega
    · exact h2
end Go.Proofs.YtnoojbppfbmbgaaDoor
