/- Plain: what a plan costs: sums, parts of a list, keys; no program is named here. -/
import Derived.Test.YtailhdfmfmlniaaPlainLi
namespace Go.Proofs.Ytailhdfmfmlniaa
open Go.RowKit

/-- The sum of n numbers told by their places. -/
def accZ (f : Nat → Int) : Nat → Int
  | 0 => 0
  | k + 1 => accZ f k + f k
theorem accZ_succ (f : Nat → Int) (k : Nat) : accZ f (k + 1) = accZ f k + f k := rfl
theorem accZ_bd (f : Nat → Int) (c : Int) (n : Nat) (h : ∀ i, i < n → 0 ≤ f i ∧ f i ≤ c) : 0 ≤ accZ f n ∧ accZ f n ≤ n * c := by
  induction n with
  | zero => simp [accZ]
  | succ n ih =>
    have h1 := ih (fun i hi => h i (by omega))
    have h2 := h n (by omega)
    rw [accZ_succ]
    have e : ((n + 1 : Nat) : Int) * c = n * c + c := by rw [Int.natCast_add, Int.add_mul]; simp
    rw [e]; omega
theorem accZ_congr (f g : Nat → Int) (n : Nat) (h : ∀ i, i < n → f i = g i) : accZ f n = accZ g n := by
  induction n with
  | zero => rfl
  | succ n ih => rw [accZ_succ, accZ_succ, ih (fun i hi => h i (by omega)), h n (by omega)]
theorem accZ_const (f : Nat → Int) (c : Int) (n : Nat) : accZ (fun i => f i + c) n = accZ f n + n * c := by
  induction n with
  | zero => simp [accZ]
  | succ n ih =>
    rw [accZ_succ, accZ_succ, ih]
    have e : ((n + 1 : Nat) : Int) * c = n * c + c := by rw [Int.natCast_add, Int.add_mul]; simp
    rw [e]; omega
theorem accZ_all (c : Int) (n : Nat) : accZ (fun _ => c) n = n * c := by
  have := accZ_const (fun _ => 0) c n
  have h0 : accZ (fun _ => 0) n = 0 := by
    induction n with
    | zero => rfl
    | succ n ih => rw [accZ_succ, ih (by simpa using accZ_const (fun _ => 0) c n)]; rfl
  rw [h0] at this
  simpa using this

/-! ### What a part costs with a key -/
def keyAt (key : Nat) (n : Int) : Int := foldF n / 2 ^ key
def keyC (key : Nat) (zs : List Int) : Int := if key = 25 then 32 * zs.length else (1 + key) * zs.length + accZ (fun i => keyAt key (zs.getD i 0)) zs.length
/-- As the specification counts. -/
def keyS (key : Nat) (zs : List Int) (k : Nat) : Int := 5 + accZ (fun i => if key = 25 then 32 else keyAt key (zs.getD i 0) + (1 + key)) k
theorem keyS_all (key : Nat) (zs : List Int) : keyS key zs zs.length = 5 + keyC key zs := by
  unfold keyS keyC
  by_cases h : key = 25
  · subst h
    simp only [if_true]
    rw [accZ_all]; omega
  · simp only [if_neg h]
    rw [accZ_const, Int.mul_comm (zs.length : Int)]; omega
theorem foldF_bdZ (n : Int) (h : -1073741824 ≤ n ∧ n ≤ 1073741824) : 0 ≤ foldF n ∧ foldF n ≤ 2147483648 := by unfold foldF; split <;> omega
theorem keyAt_bd (key : Nat) (n : Int) (h : -1073741824 ≤ n ∧ n ≤ 1073741824) : 0 ≤ keyAt key n ∧ keyAt key n ≤ 2147483648 := by
  have h1 := foldF_bdZ n h
  have hp : (0 : Int) < 2 ^ key := Int.pow_pos (by omega)
  unfold keyAt
  refine ⟨Int.ediv_nonneg h1.1 (by omega), ?_⟩
  have := Int.ediv_le_self (2 ^ key) h1.1
  omega
theorem keyS_bd (key : Nat) (zs : List Int) (k : Nat) (hk : key ≤ 25) (_hn : k ≤ 4000) (h : InR (-1073741824) 1073741824 zs) : 0 ≤ keyS key zs k ∧ keyS key zs k ≤ 5 + k * 2147483674 := by
  unfold keyS
  have := accZ_bd (fun i => if key = 25 then (32 : Int) else keyAt key (zs.getD i 0) + (1 + (key : Int))) 2147483674 k (fun i _ => by
    have := keyAt_bd key (zs.getD i 0) (getD_bd h (by omega) i)
    split <;> omega)
  omega
theorem keyC_bd (key : Nat) (zs : List Int) (hk : key ≤ 25) (hn : zs.length ≤ 4000) (h : InR (-1073741824) 1073741824 zs) : 0 ≤ keyC key zs + 5 ∧ keyC key zs ≤ zs.length * 2147483674 := by
  have h1 := keyS_bd key zs zs.length hk hn h
  rw [keyS_all] at h1
  omega

/-! ### Parts of a residue -/
def partFrom (o each i : Nat) : Nat := max o (i * each)
def partZ (r : List Int) (o each i : Nat) : List Int := (r.take ((i + 1) * each)).drop (partFrom o each i)
theorem partFrom_0 (o each : Nat) : partFrom o each 0 = o := by simp [partFrom]
theorem partFrom_S (o each i : Nat) (h : o ≤ each) : partFrom o each (i + 1) = (i + 1) * each := by
  unfold partFrom
  have : each ≤ (i + 1) * each := Nat.le_mul_of_pos_left each (by omega)
  omega
theorem partFrom_le (o each i : Nat) (h : o ≤ each) : partFrom o each i ≤ (i + 1) * each := by
  unfold partFrom
  have h1 : each ≤ (i + 1) * each := Nat.le_mul_of_pos_left each (by omega)
  have h2 : i * each ≤ (i + 1) * each := Nat.mul_le_mul_right each (by omega)
  omega
theorem partZ_length (r : List Int) (o each i : Nat) (h : (i + 1) * each ≤ r.length) : (partZ r o each i).length = (i + 1) * each - partFrom o each i := by
  unfold partZ; rw [List.length_drop, List.length_take, Nat.min_eq_left h]
theorem partZ_getD (r : List Int) (o each i j : Nat) (_hi : (i + 1) * each ≤ r.length) (h : j < (i + 1) * each - partFrom o each i) : (partZ r o each i).getD j 0 = r.getD (partFrom o each i + j) 0 := by
  unfold partZ
  rw [List.getD_eq_getElem?_getD, List.getElem?_drop, List.getElem?_take_of_lt (by omega), ← List.getD_eq_getElem?_getD]
theorem partZ_inR {lo hi : Int} {r : List Int} (h : InR lo hi r) (o each i : Nat) : InR lo hi (partZ r o each i) := by
  intro j hj
  unfold partZ at hj ⊢
  rw [List.length_drop, List.length_take] at hj
  rw [List.getD_eq_getElem?_getD, List.getElem?_drop, List.getElem?_take_of_lt (by omega), ← List.getD_eq_getElem?_getD]
  exact h _ (by omega)

/-! ### Plans -/
/-- What may tell a list of so many numbers. -/
def CutOk (o p : Int) (n : Nat) : Prop := (0 ≤ o ∧ o ≤ 4) ∧ o ≤ n ∧ (0 ≤ p ∧ p ≤ 4) ∧ (n : Int) % 2 ^ p.toNat = 0 ∧ o ≤ (n : Int) / 2 ^ p.toNat
def KeysOk (p : Int) (ks : List Int) : Prop := (ks.length : Int) = 2 ^ p.toNat ∧ InR 0 25 ks
def PlanOk (o p : Int) (ks xs : List Int) : Prop := LsOk (-67108864) 67108863 xs ∧ CutOk o p xs.length ∧ KeysOk p ks
def costTo (o p : Nat) (ks xs : List Int) (i : Nat) : Int := 6 + 26 * (o : Int) + accZ (fun i => 5 + keyC (ks.getD i 0).toNat (partZ (resL o xs) o (xs.length / 2 ^ p) i)) i
noncomputable def costF (o p : Int) (ks xs : List Int) : Int := open Classical in if PlanOk o p ks xs then costTo o.toNat p.toNat ks xs ks.length else -1
theorem costF_yes {o p : Nat} {ks xs : List Int} (h : PlanOk o p ks xs) : costF o p ks xs = costTo o p ks xs ks.length := by unfold costF; rw [if_pos h]; simp
theorem costF_no {o p : Int} {ks xs : List Int} (h : ¬ PlanOk o p ks xs) : costF o p ks xs = -1 := by unfold costF; rw [if_neg h]
theorem costTo_succ (o p : Nat) (ks xs : List Int) (i : Nat) : costTo o p ks xs (i + 1) = costTo o p ks xs i + (5 + keyC (ks.getD i 0).toNat (partZ (resL o xs) o (xs.length / 2 ^ p) i)) := by
  unfold costTo; rw [accZ_succ]; omega
theorem parts_le {n p : Nat} (h : n % 2 ^ p = 0) (i : Nat) (hi : i < 2 ^ p) : (i + 1) * (n / 2 ^ p) ≤ n := by
  have h1 : 2 ^ p * (n / 2 ^ p) = n := by have := Nat.div_add_mod n (2 ^ p); omega
  have h2 : (i + 1) * (n / 2 ^ p) ≤ 2 ^ p * (n / 2 ^ p) := Nat.mul_le_mul_right _ hi
  omega
theorem costTo_bd {o p : Nat} {ks xs : List Int} (h : PlanOk o p ks xs) (i : Nat) (hi : i ≤ ks.length) : 0 ≤ costTo o p ks xs i ∧ costTo o p ks xs i ≤ 200 + i * 8589934700000 := by
  obtain ⟨⟨hn, hx⟩, ⟨ho, _, hp, hm, _⟩, hk, hkb⟩ := h
  rw [Int.toNat_natCast] at hm hk
  have hm' : xs.length % 2 ^ p = 0 := by
    have : ((xs.length % 2 ^ p : Nat) : Int) = 0 := by rw [Int.natCast_emod, Int.natCast_pow]; exact hm
    omega
  have hk' : ks.length = 2 ^ p := by
    have : ((ks.length : Nat) : Int) = ((2 ^ p : Nat) : Int) := by rw [hk, Int.natCast_pow]; rfl
    omega
  have hb := accZ_bd (fun i => 5 + keyC (ks.getD i 0).toNat (partZ (resL o xs) o (xs.length / 2 ^ p) i)) 8589934700000 i (fun j hj => by
    have h1 := hkb j (by omega)
    have h2 := parts_le hm' j (by omega)
    have h3 := partZ_length (resL o xs) o (xs.length / 2 ^ p) j (by rw [resL_length]; exact h2)
    have h4 := keyC_bd (ks.getD j 0).toNat (partZ (resL o xs) o (xs.length / 2 ^ p) j) (by omega) (by omega) (partZ_inR (resL_inR hx o (by omega)) _ _ _)
    have h5 : ((partZ (resL o xs) o (xs.length / 2 ^ p) j).length : Int) * 2147483674 ≤ 4000 * 2147483674 := Int.mul_le_mul_of_nonneg_right (by omega) (by omega)
    omega)
  unfold costTo
  omega
end Go.Proofs.Ytailhdfmfmlniaa
