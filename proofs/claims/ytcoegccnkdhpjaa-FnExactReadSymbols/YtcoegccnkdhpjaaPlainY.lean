/- Plain: the bytes of symbols by a code's words, as fields packed in high order. -/
import Derived.Test.YtcoegccnkdhpjaaPlainW
import Derived.Test.YtcoegccnkdhpjaaWFields
import Derived.Test.YtcoegccnkdhpjaaWByts
namespace Go.Proofs.Ytcoegccnkdhpjaa
open Go.RowKit

theorem okL_all {zs : List Int} (h : goodL zs) (j : Nat) : okL (zs.getD j 0) := by
  by_cases hj : j < zs.length
  · exact h.2 j hj
  · rw [List.getD_eq_getElem?_getD, List.getElem?_eq_none (by omega)]; exact ⟨by simp, by simp⟩
theorem wordOf_bd {zs : List Int} (h : goodL zs) (j : Nat) : 0 ≤ wordOf zs j ∧ wordOf zs j < 100000000 := by
  unfold wordOf
  split
  · rename_i h0
    have hok := okL_all h j
    obtain ⟨x, hx⟩ := Int.eq_ofNat_of_zero_le hok.1
    have hx0 : 0 < x := by omega
    have hx15 : x ≤ 15 := by have := hok.2; omega
    have hj : j < zs.length := by
      rcases Nat.lt_or_ge j zs.length with h' | h'
      · exact h'
      · rw [List.getD_eq_getElem?_getD, List.getElem?_eq_none (by omega)] at h0; simp at h0
    have h1 := firstOf_lt zs x h.1 hx15
    have h2 := cnt1_lt_many zs j x hx0 hj hx
    rw [hx, Int.toNat_natCast]; omega
  · omega
def symFld (zs : List Int) (x : Int) : Int × Int := (zs.getD x.toNat 0, wordOf zs x.toNat)
def fldsOf (zs ls : List Int) : List (Int × Int) := ls.map (symFld zs)
@[simp] theorem fldsOf_length (zs ls : List Int) : (fldsOf zs ls).length = ls.length := by simp [fldsOf]
theorem fldsOf_at (zs ls : List Int) (k : Nat) (h : k < ls.length) : (fldsOf zs ls).getD k (0, 0) = symFld zs (ls.getD k 0) := by
  unfold fldsOf
  rw [List.getD_eq_getElem?_getD, List.getD_eq_getElem?_getD, List.getElem?_map, List.getElem?_eq_getElem h]; rfl
theorem fldsOf_ok {zs : List Int} (h : goodL zs) (ls : List Int) (k : Nat) (hk : k < ls.length) : okF ((fldsOf zs ls).getD k (0, 0)) := by
  rw [fldsOf_at zs ls k hk]
  have := okL_all h (ls.getD k 0).toNat
  exact ⟨this.1, by have := this.2; show zs.getD _ 0 ≤ 64; omega⟩
theorem fldsOf_in {zs : List Int} (h : goodL zs) (ls : List Int) : InF (fldsOf zs ls) := by
  intro k
  by_cases hk : k < ls.length
  · rw [fldsOf_at zs ls k hk]
    have h1 := okL_all h (ls.getD k 0).toNat
    have h2 := wordOf_bd h (ls.getD k 0).toNat
    unfold symFld
    exact ⟨⟨by have := h1.1; simp only; omega, by have := h1.2; simp only; omega⟩, by simp only; omega, by simp only; omega⟩
  · rw [List.getD_eq_getElem?_getD, List.getElem?_eq_none (by simp; omega)]; simp
def okS (zs : List Int) (x : Int) : Prop := 0 ≤ x ∧ x < zs.length ∧ zs.getD x.toNat 0 ≠ 0
def symsOk (zs ls : List Int) : Prop := kindF zs ≠ 0 ∧ ls.length ≤ 20000 ∧ ∀ j, j < ls.length → okS zs (ls.getD j 0)
noncomputable def symsB (zs ls : List Int) : List Nat := open Classical in if symsOk zs ls then (packTo true (fldsOf zs ls) ls.length).1 else []
theorem symsB_yes {zs ls : List Int} (h : symsOk zs ls) : symsB zs ls = (packTo true (fldsOf zs ls) ls.length).1 := by unfold symsB; exact if_pos h
theorem symsB_no {zs ls : List Int} (h : ¬ symsOk zs ls) : symsB zs ls = [] := by unfold symsB; exact if_neg h
theorem symsB_pack {zs ls : List Int} (h : symsOk zs ls) : symsB zs ls = packF true (fldsOf zs ls) := by
  rw [symsB_yes h, packF_good true _ (by simpa using h.2.1) (fun j hj => fldsOf_ok (kindF_ne h.1).1 ls j (by simpa using hj)), fldsOf_length]
noncomputable def symsF (zs ls : List Int) : List Int := (symsB zs ls).map fun b : Nat => (b : Int)
theorem symsF_no {zs ls : List Int} (h : ¬ symsOk zs ls) : symsF zs ls = [] := by unfold symsF; rw [symsB_no h]; rfl
theorem symsF_length (zs ls : List Int) : (symsF zs ls).length = (symsB zs ls).length := by simp [symsF]
theorem symsF_byts (zs ls : List Int) : byts (symsF zs ls) = vals (symsB zs ls) := by unfold symsF byts vals; simp
theorem syms_inv {zs : List Int} (h : goodL zs) (ls : List Int) (k : Nat) (hk : k ≤ ls.length) : Inv true (packTo true (fldsOf zs ls) k).1 (packTo true (fldsOf zs ls) k).2 ∧ (packTo true (fldsOf zs ls) k).2 ≤ 64 * k :=
  packTo_inv true (fldsOf zs ls) k (by simpa using hk) (fun j hj => fldsOf_ok h ls j (by omega))
theorem symsF_len (zs ls : List Int) : (symsF zs ls).length ≤ 1048576 := by
  rw [symsF_length]
  by_cases h : symsOk zs ls
  · rw [symsB_yes h]
    have h1 := syms_inv (kindF_ne h.1).1 ls ls.length (Nat.le_refl _)
    have h2 := h1.1.1
    have := h.2.1
    omega
  · rw [symsB_no h]; simp
theorem syms_step {zs ls : List Int} {k : Nat} (hk : k < ls.length) (n u : Nat) (hn : zs.getD (ls.getD k 0).toNat 0 = (n : Int)) (hu : wordOf zs (ls.getD k 0).toNat = (u : Int)) :
    (packTo true (fldsOf zs ls) (k + 1)).1 = ft true u n (packTo true (fldsOf zs ls) k).1 (packTo true (fldsOf zs ls) k).2 n ∧ (packTo true (fldsOf zs ls) (k + 1)).2 = (packTo true (fldsOf zs ls) k).2 + n := by
  rw [packTo_succ true _ k (by simpa using hk), fldsOf_at zs ls k hk]
  unfold symFld packStep
  rw [hn, hu]
  exact ⟨rfl, rfl⟩
end Go.Proofs.Ytcoegccnkdhpjaa
