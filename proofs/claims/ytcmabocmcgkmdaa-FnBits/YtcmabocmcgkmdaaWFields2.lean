/- The walks of the laws' own helpers on fields. -/
import Derived.Test.YtcmabocmcgkmdaaWFields
import Derived.Test.YtcmabocmcgkmdaaWPut2
namespace Go.Proofs.Ytcmabocmcgkmdaa
open Go.RowKit

theorem infoF : (Try.prog.info? 29).map (fun i => (i.zero, i.size, i.bytes)) = some (some (.agg #[.int .i64 0, .int .u64 0]), 2, 16) := by kernel_rfl

set_option maxHeartbeats 1000000 in
theorem toField_any (n u : Int) (w : World) :
    Calls Try.prog 58 #[.agg #[.int .i64 n, .int .u64 u]] w fun e w' => e = .returned (.agg #[.int .i64 n, .int .u64 u]) ∧ Below w.heap.size w w' := by
  go_enter Try.func58, Try.ntmps58
  go_wp2
  refine bodyPost_ret (v := .agg #[.int .i64 n, .int .u64 u]) (by simp [results, Try.results58, go_sem]) rfl ⟨rfl, ?_⟩
  repeat (first | exact Below.refl _ _ | refine Below.setCell ?_ (by simp) _ | refine Below.alloc ?_ (by first | exact Nat.le_refl _ | (simp; done) | (simp; omega)) _)

set_option maxHeartbeats 1000000 in
theorem eqField_eq (n u : Int) (w : World) :
    Calls Try.prog 59 #[.agg #[.int .i64 n, .int .u64 u], .agg #[.int .i64 n, .int .u64 u]] w fun e w' => e = .returned (.bool true) ∧ Below w.heap.size w w' := by
  go_enter Try.func59, Try.ntmps59
  go_wp2
  go_ret
  refine ⟨rfl, ?_⟩
  repeat (first | exact Below.refl _ _ | refine Below.setCell ?_ (by simp) _ | refine Below.alloc ?_ (by first | exact Nat.le_refl _ | (simp; done) | (simp; omega)) _)

set_option maxHeartbeats 1000000 in
theorem szFieldS_any (ad : Option Addr) (n cap : Nat) (left : Int) (w : World) (h0 : 0 ≤ left) (h1 : left ≤ 1099511627776) (hn : n ≤ 9223372036854775807) :
    Calls Try.prog 35 #[.slice ad n cap, .int .i64 left] w fun e w' => e = .returned (.int .i64 (if left < n then -1 else left - n)) ∧ w' = w := by
  by_cases hlt : left < n
  · rw [if_pos hlt]
    go_enter Try.func35, Try.ntmps35
    go_wp2
    go_ret
    exact ⟨rfl, rfl⟩
  · rw [if_neg hlt]
    go_enter Try.func35, Try.ntmps35
    go_wp2
    go_ret
    exact ⟨rfl, rfl⟩

def FieldRow (ys : List Value) (fs : List (Int × Int)) (k : Nat) : Prop := ∀ j, j < k → ys[j * 2]? = some (.int .i64 (fs.getD j (0, 0)).1) ∧ ys[j * 2 + 1]? = some (.int .u64 (fs.getD j (0, 0)).2)

set_option maxHeartbeats 2000000 in
theorem toFieldS_any (b off cap : Nat) (fs : List (Int × Int)) (w : World) (hn : fs.length ≤ 1048576) (hbl : b < w.heap.size) (hc : FieldsAt w b off fs) :
    Calls Try.prog 36 #[.slice (some ⟨b, off, none⟩) fs.length cap] w fun e w' =>
      ∃ g ys, e = .returned (.slice (some ⟨g, 0, none⟩) fs.length fs.length) ∧ w'.ownsRow w.heap.size 29 2 (.slice (some ⟨g, 0, none⟩) fs.length fs.length) fs.length ys ∧ FieldRow ys fs fs.length ∧ Below w.heap.size w w' := by
  obtain ⟨i0, hi, hz0, hz1, hz2⟩ := info_parts infoF
  replace hc := hide hc
  go_enter Try.func36, Try.ntmps36
  go_wp2_with (at_make; refine wpList_make_full _ rfl _ _ 23 rfl w.heap.size 29 i0 (.agg #[.int .i64 0, .int .u64 0]) 2 Try.underlying23 hi hz0 hz1 .i64 .i64 _ _ fs.length rfl rfl (by omega) (by omega) (by rw [hz2]; omega) (by unfold maxLen; omega) (Nat.le_refl _) ?_; intro w1 hown hgrow)
  have hbel := (Below.refl w.heap.size w).grown hgrow (Nat.le_refl _) (by simp)
  generalize (madeCells (Value.agg #[.int .i64 0, .int .u64 0]).cells (fs.length * 2)).toList = ys0 at hown
  clear hgrow
  go_loopw [4] (fun i wr => ∃ k : Nat, ∃ ys, k ≤ fs.length ∧ i = .int .i64 k ∧ wr.ownsRow w.heap.size 29 2 (.slice (some ⟨w.heap.size, 0, none⟩) fs.length fs.length) fs.length ys ∧ FieldRow ys fs k ∧ Below w.heap.size w wr) (fun i _ => fs.length - (intOf i).toNat)
  case atStart => exact ⟨0, ys0, Nat.zero_le _, rfl, hown, fun j hj => by omega, hbel⟩
  case round =>
    clear hown hbel
    obtain ⟨k, ys, hk, rfl, hown, hrow, hbel⟩ := hrel
    by_cases hlt : k < fs.length
    · have hl : ys.length = fs.length * 2 := hown.1
      have d0 := (hbel.cell (by simpa using hbl)).trans (unhide hc k hlt).1
      have d1 := (hbel.cell (by simpa using hbl)).trans (unhide hc k hlt).2
      have hrow' := hide hrow
      generalize hf : fs.getD k (0, 0) = f at d0 d1
      replace hf := hide hf
      obtain ⟨n, u⟩ := f
      simp only at d0 d1
      go_wp2_with fail
      refine (toField_any n u wr).mono ?_
      rintro e w2 ⟨rfl, hb2⟩
      have hown2 := owns_below hown hb2
      have hbel2 := hbel.trans (hb2.mono hbel.size)
      clear hown hbel hb2 d0 d1 hrow
      have e0 : ∃ a, w2.cell? ⟨w.heap.size, k * 2, none⟩ = some a := by rw [hown2.cellAt _ (by omega)]; exact ⟨_, List.getElem?_eq_getElem (by omega)⟩
      have e1 : ∃ a, w2.cell? ⟨w.heap.size, k * 2 + 1, none⟩ = some a := by rw [hown2.cellAt _ (by omega)]; exact ⟨_, List.getElem?_eq_getElem (by omega)⟩
      obtain ⟨a0, e0⟩ := e0
      obtain ⟨a1, e1⟩ := e1
      have f0 := hown2.frozenAt (k * 2)
      have f1 := hown2.frozenAt (k * 2 + 1)
      have hst := (hown2.stored (k * 2) (.int .i64 n)).1
      have hst2 := hide (hst.stored (k * 2 + 1) (.int .u64 u)).1
      have hB2 := hide ((hbel2.setCell (p := ⟨w.heap.size, k * 2, none⟩) (Nat.le_refl _) (.int .i64 n)).setCell (p := ⟨w.heap.size, k * 2 + 1, none⟩) (Nat.le_refl _) (.int .u64 u))
      have hrow2 : FieldRow ((ys.set (k * 2) (.int .i64 n)).set (k * 2 + 1) (.int .u64 u)) fs (k + 1) := by
        intro j hj
        by_cases e : j = k
        · subst e
          rw [unhide hf]
          refine ⟨?_, ?_⟩
          · rw [List.getElem?_set_ne (by omega), List.getElem?_set_self (by omega)]
          · rw [List.getElem?_set_self (by simp; omega)]
        · have := unhide hrow' j (by omega)
          refine ⟨?_, ?_⟩
          · rw [List.getElem?_set_ne (by omega), List.getElem?_set_ne (by omega)]; exact this.1
          · rw [List.getElem?_set_ne (by omega), List.getElem?_set_ne (by omega)]; exact this.2
      replace hrow2 := hide hrow2
      clear hown2 hbel2 hst hrow' hf
      go_wp2
      go_roundw
      case rel => exact ⟨k + 1, _, by omega, by go_num, unhide hst2, unhide hrow2, unhide hB2⟩
      case measure => simp [intOf]; omega
    · have hkl : k = fs.length := by omega
      subst hkl
      replace hown := hide hown
      replace hrow := hide hrow
      go_wp2
      go_ret
      exact ⟨_, ys, rfl, unhide hown, unhide hrow, hbel⟩
end Go.Proofs.Ytcmabocmcgkmdaa
