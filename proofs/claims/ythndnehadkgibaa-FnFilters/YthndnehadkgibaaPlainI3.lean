/- Plain: a packed row is taken again. -/
import Derived.Test.YthndnehadkgibaaPlainI2
import Derived.Test.YthndnehadkgibaaWBackN
namespace Go.Proofs.Ythndnehadkgibaa
open Go.RowKit

theorem row_place {zs : List Int} {D : Nat} (k : Nat) (hk : k ≤ zs.length) : (packTo true (rowFs zs D) k).2 = k * D := by
  induction k with
  | zero => simp [packTo]
  | succ k ih =>
    rw [packTo_succ true _ k (by simp; omega), rowFs_at zs D k (by omega)]
    show (packTo true (rowFs zs D) k).2 + ((D : Int)).toNat = _
    rw [ih (by omega), Int.toNat_natCast, Nat.succ_mul]
theorem row_pack {zs : List Int} {d : Int} (h : RowOk zs d) : rowB zs d = packF true (rowFs zs d) := by
  rw [rowB_yes h, packF_good true _ (by have := h.2.1; simp; omega) (fun j hj => rowFs_ok h.1 zs j (by simpa using hj)), rowFs_length]
theorem row_natsI (zs : List Int) (d : Int) : rowF zs d = natsI (rowB zs d) := by unfold rowF natsI; rfl
theorem row_len {zs : List Int} {D : Nat} (h : RowOk zs D) : (rowF zs D).length = (zs.length * D + 7) / 8 := by
  rw [rowF_length, row_pack h, packF_bytes true _ (by have := h.2.1; simp; omega) (fun j hj => rowFs_ok h.1 zs j (by simpa using hj)), rowFs_length, row_place _ (Nat.le_refl _)]
/-- What is packed is taken again. -/
theorem up_row {zs : List Int} {d : Int} (h : RowOk zs d) : upF (rowF zs d) zs.length d = zs := by
  obtain ⟨D, rfl, hD1, hD2⟩ := depthOk_nat h.1
  have hl := row_len h
  have hok : upOk (rowF zs D) zs.length D := by
    have e : ((zs.length : Int) * (D : Int)) = ((zs.length * D : Nat) : Int) := by simp
    have := h.2.1
    refine ⟨h.1, by omega, by omega, ?_⟩
    rw [e, hl]; omega
  rw [upF_yes hok]
  apply List.ext_getElem?
  intro j
  by_cases hj : j < zs.length
  · have hb := back_high (rowFs zs D) j (by simpa using hj) (by have := h.2.1; simp; omega) (fun m hm => rowFs_ok h.1 zs m (by simpa using hm))
    rw [rowFs_at zs D j hj, row_place j (by omega), ← row_pack h, ← row_natsI] at hb
    have hx := h.2.2 j hj
    rw [Int.toNat_natCast] at hx
    obtain ⟨x, hxe⟩ := Int.eq_ofNat_of_zero_le hx.1
    have h1 : (upL (rowF zs D) D zs.length).getD j 0 = zs.getD j 0 := by
      rw [upL_at _ _ _ _ hj]
      rw [hxe] at hx hb ⊢
      simp only [Int.toNat_natCast] at hb
      rw [hb, Nat.mod_eq_of_lt (by have := hx.2; rw [two_pow_n] at this; omega)]
    rw [List.getElem?_eq_getElem (by simpa using hj), List.getElem?_eq_getElem hj]
    rw [List.getD_eq_getElem?_getD, List.getD_eq_getElem?_getD, List.getElem?_eq_getElem (by simpa using hj), List.getElem?_eq_getElem hj] at h1
    simpa using h1
  · rw [List.getElem?_eq_none (by simp; omega), List.getElem?_eq_none (by omega)]
theorem rowF_inB {zs : List Int} {d : Int} : InB (rowF zs d) := by
  by_cases h : RowOk zs d
  · rw [row_natsI, rowB_yes h]
    have hi := (row_inv h.1 zs zs.length (Nat.le_refl _)).1
    intro j
    have := hi.2.1 j
    unfold natsI
    rw [List.getD_eq_getElem?_getD, List.getElem?_map]
    rw [List.getD_eq_getElem?_getD] at this
    cases hq : (packTo true (rowFs zs d) zs.length).1[j]? with
    | none => simp
    | some b => rw [hq] at this; simp at this ⊢; omega
  · rw [rowF_no h]; intro j; simp
end Go.Proofs.Ythndnehadkgibaa
