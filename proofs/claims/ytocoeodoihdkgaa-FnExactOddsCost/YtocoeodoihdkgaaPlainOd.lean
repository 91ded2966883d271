/- Plain: odds of places, what choices by them cost; no program is named here. -/
import Derived.Test.YtocoeodoihdkgaaPlainMk
namespace Go.Proofs.Ytocoeodoihdkgaa
open Go.RowKit

/-- Odds behind a bit. -/
def learnF (o b : Int) : Int := if b = 0 then o + (4096 - o) / 32 else o - o / 32
theorem learnF_bd (o b : Int) (h : 31 ≤ o ∧ o ≤ 4065) : 31 ≤ learnF o b ∧ learnF o b ≤ 4065 := by
  unfold learnF; split <;> omega
def oddsSet (s : Int → Int) (c : Int × Int) : Int → Int := fun p => if p = c.1 then learnF (s p) c.2 else s p
/-- The odds of all places behind the first k choices. -/
def oddsK (cs : List (Int × Int)) : Nat → Int → Int
  | 0 => fun _ => 2048
  | k + 1 => oddsSet (oddsK cs k) (cs.getD k (0, 0))
theorem oddsK_succ (cs : List (Int × Int)) (k : Nat) : oddsK cs (k + 1) = oddsSet (oddsK cs k) (cs.getD k (0, 0)) := rfl
theorem oddsK_bd (cs : List (Int × Int)) : ∀ (k : Nat) (p : Int), 31 ≤ oddsK cs k p ∧ oddsK cs k p ≤ 4065
  | 0, p => by simp [oddsK]
  | k + 1, p => by
    have h := oddsK_bd cs k p
    rw [oddsK_succ]
    unfold oddsSet
    split
    · exact learnF_bd _ _ h
    · exact h
/-- What choices may be. -/
def ChsOk (places : Int) (cs : List (Int × Int)) : Prop := ∀ j, j < cs.length → (0 ≤ (cs.getD j (0, 0)).1 ∧ (cs.getD j (0, 0)).1 < places) ∧ 0 ≤ (cs.getD j (0, 0)).2 ∧ (cs.getD j (0, 0)).2 ≤ 1
def chB (places : Int) (c : Int × Int) : Bool := decide (0 ≤ c.1) && decide (c.1 < places) && decide (0 ≤ c.2) && decide (c.2 ≤ 1)
def chsB (places : Int) (cs : List (Int × Int)) : Bool := cs.all (chB places)
theorem chB_iff (places : Int) (c : Int × Int) : chB places c = true ↔ (0 ≤ c.1 ∧ c.1 < places) ∧ 0 ≤ c.2 ∧ c.2 ≤ 1 := by
  simp [chB, and_assoc]
theorem chsB_iff (places : Int) (cs : List (Int × Int)) : chsB places cs = true ↔ ChsOk places cs := by
  unfold chsB ChsOk
  rw [List.all_eq_true]
  constructor
  · intro h j hj
    rw [List.getD_eq_getElem?_getD, List.getElem?_eq_getElem hj]
    exact (chB_iff _ _).1 (h _ (List.getElem_mem hj))
  · intro h c hc
    obtain ⟨j, hj, rfl⟩ := List.mem_iff_getElem.1 hc
    have := h j hj
    rw [List.getD_eq_getElem?_getD, List.getElem?_eq_getElem hj] at this
    exact (chB_iff _ _).2 this
/-- The whole of what both sides ask of places and choices. -/
def oddsB (places : Int) (cs : List (Int × Int)) : Bool := decide (1 ≤ places) && decide (places ≤ 512) && decide (cs.length ≤ 20000) && chsB places cs
theorem oddsB_iff (places : Int) (cs : List (Int × Int)) : oddsB places cs = true ↔ (1 ≤ places ∧ places ≤ 512) ∧ cs.length ≤ 20000 ∧ ChsOk places cs := by
  unfold oddsB
  simp only [Bool.and_eq_true, decide_eq_true_eq, chsB_iff, and_assoc]

/-- L of so many parts. -/
def logF (v : Int) : Int :=
  let u := max v 1
  let b := Lib.bitLen u.toNat - 1
  256 * (8 - (b : Int)) - 256 * (u - 2 ^ b) / 2 ^ b
def partsF (o b : Int) : Int := ((if b = 1 then 4096 - o else o) + 8) / 16
def costF (o b : Int) : Int := logF (partsF o b)
def costK (cs : List (Int × Int)) : Nat → Int
  | 0 => 0
  | k + 1 => costK cs k + costF (oddsK cs k (cs.getD k (0, 0)).1) (cs.getD k (0, 0)).2
theorem costK_succ (cs : List (Int × Int)) (k : Nat) : costK cs (k + 1) = costK cs k + costF (oddsK cs k (cs.getD k (0, 0)).1) (cs.getD k (0, 0)).2 := rfl
def oddsCost (places : Int) (cs : List (Int × Int)) : Int := if oddsB places cs = true then costK cs cs.length else -1
theorem partsF_bd (o b : Int) (h : 31 ≤ o ∧ o ≤ 4065) : 2 ≤ partsF o b ∧ partsF o b ≤ 254 := by
  unfold partsF; split <;> omega
theorem logF_all : ∀ v : Fin 257, 0 ≤ logF v.val ∧ logF v.val ≤ 2048 := by decide +kernel
theorem costF_bd (o b : Int) (h : 31 ≤ o ∧ o ≤ 4065) : 0 ≤ costF o b ∧ costF o b ≤ 2048 := by
  have hb := partsF_bd o b h
  have := logF_all ⟨(partsF o b).toNat, by omega⟩
  have e : (((partsF o b).toNat : Nat) : Int) = partsF o b := by omega
  simp only [e] at this
  exact this
theorem costK_bd (cs : List (Int × Int)) : ∀ k, 0 ≤ costK cs k ∧ costK cs k ≤ 2048 * k
  | 0 => by simp [costK]
  | k + 1 => by
    have h := costK_bd cs k
    have := costF_bd _ (cs.getD k (0, 0)).2 (oddsK_bd cs k (cs.getD k (0, 0)).1)
    rw [costK_succ]
    omega

/-! ### A range, its low end, what was told of it -/
/-- Add 1 to the number that the first k bytes are. -/
def carryTo (xs : List Int) : Nat → List Int
  | 0 => xs
  | k + 1 => if (xs.getD k 0 + 1) % 256 ≠ 0 then xs.set k ((xs.getD k 0 + 1) % 256) else carryTo (xs.set k ((xs.getD k 0 + 1) % 256)) k
theorem carryTo_len : ∀ (k : Nat) (xs : List Int), (carryTo xs k).length = xs.length
  | 0, _ => rfl
  | k + 1, xs => by
    unfold carryTo
    split
    · simp
    · rw [carryTo_len k]; simp
def carryF (xs : List Int) : List Int := carryTo xs xs.length
def carryIf (low : Int) (xs : List Int) : List Int := if 4294967296 ≤ low then carryF xs else xs
theorem carryIf_len (low : Int) (xs : List Int) : (carryIf low xs).length = xs.length := by
  unfold carryIf carryF; split
  · exact carryTo_len _ _
  · rfl
/-- low, range, and what was told, as the document has them: a carry waits in low. -/
structure Rg where
  low : Int
  rng : Int
  out : List Int
def shiftF (r : Rg) : Rg := ⟨r.low % 16777216 * 256, r.rng, carryIf r.low r.out ++ [r.low / 16777216 % 256]⟩
def splitF (rng o : Int) : Int := rng / 4096 * o
def bitF (r : Rg) (o b : Int) : Rg := if b = 0 then ⟨r.low, splitF r.rng o, r.out⟩ else ⟨r.low + splitF r.rng o, r.rng - splitF r.rng o, r.out⟩
def widenF (r : Rg) : Rg := if r.rng < 16777216 then shiftF ⟨r.low, r.rng * 256, r.out⟩ else r
def putF (r : Rg) (o b : Int) : Rg := widenF (bitF r o b)
def rg0 : Rg := ⟨0, 4294967295, []⟩
def rgK (cs : List (Int × Int)) : Nat → Rg
  | 0 => rg0
  | k + 1 => putF (rgK cs k) (oddsK cs k (cs.getD k (0, 0)).1) (cs.getD k (0, 0)).2
theorem rgK_succ (cs : List (Int × Int)) (k : Nat) : rgK cs (k + 1) = putF (rgK cs k) (oddsK cs k (cs.getD k (0, 0)).1) (cs.getD k (0, 0)).2 := rfl
/-- What holds of a range between two choices. -/
structure RgOk (r : Rg) : Prop where
  low0 : 0 ≤ r.low
  rng0 : 16777216 ≤ r.rng
  rng1 : r.rng ≤ 4294967295
  sum : r.low + r.rng ≤ 8589934592
theorem split_bd (rng o : Int) (ho : 31 ≤ o ∧ o ≤ 4065) (h0 : 16777216 ≤ rng) : 65536 ≤ splitF rng o ∧ splitF rng o + 65536 ≤ rng := by
  unfold splitF
  have hq : 4096 ≤ rng / 4096 := by omega
  have h1 : rng / 4096 * 31 ≤ rng / 4096 * o := Int.mul_le_mul_of_nonneg_left ho.1 (by omega)
  have h2 : rng / 4096 * o ≤ rng / 4096 * 4065 := Int.mul_le_mul_of_nonneg_left ho.2 (by omega)
  omega
/-- Behind a choice, ahead of the widening. -/
theorem bitF_bd (r : Rg) (o b : Int) (hr : RgOk r) (ho : 31 ≤ o ∧ o ≤ 4065) :
    0 ≤ (bitF r o b).low ∧ 65536 ≤ (bitF r o b).rng ∧ (bitF r o b).rng ≤ 4294967295 ∧ (bitF r o b).low + (bitF r o b).rng ≤ 8589934592 := by
  have hs := split_bd r.rng o ho hr.rng0
  have := hr.low0; have := hr.rng1; have := hr.sum
  unfold bitF
  split
  · exact ⟨by simp; omega, by simp; omega, by simp; omega, by simp; omega⟩
  · exact ⟨by simp; omega, by simp; omega, by simp; omega, by simp; omega⟩
theorem widenF_ok (r : Rg) (h0 : 0 ≤ r.low) (h1 : 65536 ≤ r.rng) (h2 : r.rng ≤ 4294967295) (h3 : r.low + r.rng ≤ 8589934592) : RgOk (widenF r) := by
  unfold widenF shiftF
  split
  · exact ⟨by simp; omega, by simp; omega, by simp; omega, by simp; omega⟩
  · exact ⟨h0, by omega, h2, h3⟩
theorem putF_ok (r : Rg) (o b : Int) (hr : RgOk r) (ho : 31 ≤ o ∧ o ≤ 4065) : RgOk (putF r o b) := by
  have h := bitF_bd r o b hr ho
  exact widenF_ok _ h.1 h.2.1 h.2.2.1 h.2.2.2
theorem rgK_ok (cs : List (Int × Int)) : ∀ k, RgOk (rgK cs k)
  | 0 => by unfold rgK rg0; exact ⟨by simp, by simp, by simp, by simp⟩
  | k + 1 => putF_ok _ _ _ (rgK_ok cs k) (oddsK_bd cs k _)
theorem bitF_out (r : Rg) (o b : Int) : (bitF r o b).out = r.out := by unfold bitF; split <;> rfl
theorem widenF_len (r : Rg) : (widenF r).out.length ≤ r.out.length + 1 := by
  unfold widenF shiftF; split
  · simp [carryIf_len]
  · omega
theorem rgK_len (cs : List (Int × Int)) : ∀ k, (rgK cs k).out.length ≤ k
  | 0 => by simp [rgK, rg0]
  | k + 1 => by
    have := rgK_len cs k
    have h := widenF_len (bitF (rgK cs k) (oddsK cs k (cs.getD k (0, 0)).1) (cs.getD k (0, 0)).2)
    rw [bitF_out] at h
    rw [rgK_succ]; unfold putF; omega
def shiftsF (r : Rg) : Nat → Rg
  | 0 => r
  | k + 1 => shiftF (shiftsF r k)
theorem shiftsF_succ (r : Rg) (k : Nat) : shiftsF r (k + 1) = shiftF (shiftsF r k) := rfl
theorem shiftsF_len (r : Rg) : ∀ k, (shiftsF r k).out.length = r.out.length + k
  | 0 => rfl
  | k + 1 => by rw [shiftsF_succ]; unfold shiftF; simp [carryIf_len, shiftsF_len r k]; omega
theorem shiftsF_low (r : Rg) (h0 : 0 ≤ r.low) (h1 : r.low < 8589934592) : ∀ k, 0 ≤ (shiftsF r k).low ∧ (shiftsF r k).low < 8589934592
  | 0 => ⟨h0, h1⟩
  | k + 1 => by rw [shiftsF_succ]; unfold shiftF; simp; omega
def packL (cs : List (Int × Int)) : List Int := (shiftsF (rgK cs cs.length) 4).out
def oddsPack (places : Int) (cs : List (Int × Int)) : List Int := if oddsB places cs = true then packL cs else []
theorem packL_len (cs : List (Int × Int)) : (packL cs).length ≤ cs.length + 4 := by
  unfold packL; rw [shiftsF_len]; have := rgK_len cs cs.length; omega
theorem oddsPack_len (places : Int) (cs : List (Int × Int)) : (oddsPack places cs).length ≤ 20004 := by
  unfold oddsPack
  split
  · rename_i h
    have := ((oddsB_iff _ _).1 h).2.1
    have := packL_len cs
    omega
  · simp

/-! ### The program's: a carry is told at once -/
def toldF (r : Rg) : List Int := carryIf r.low r.out
def lowF (r : Rg) : Int := r.low % 4294967296
theorem shiftF_told (r : Rg) : toldF (shiftF r) = toldF r ++ [lowF r / 16777216] ∧ lowF (shiftF r) = lowF r * 256 % 4294967296 := by
  unfold toldF lowF shiftF
  constructor
  · simp only [carryIf]
    rw [if_neg (show ¬ (4294967296 ≤ r.low % 16777216 * 256) by omega), show r.low / 16777216 % 256 = r.low % 4294967296 / 16777216 by omega]
  · simp only; omega
theorem bitF_told (r : Rg) (o b : Int) (hr : RgOk r) (ho : 31 ≤ o ∧ o ≤ 4065) :
    (b = 0 → toldF (bitF r o b) = toldF r ∧ lowF (bitF r o b) = lowF r) ∧
    (b ≠ 0 → lowF (bitF r o b) = (lowF r + splitF r.rng o) % 4294967296 ∧
      toldF (bitF r o b) = if (lowF r + splitF r.rng o) % 4294967296 < splitF r.rng o then carryF (toldF r) else toldF r) := by
  have hs := split_bd r.rng o ho hr.rng0
  have h0 := hr.low0; have h2 := hr.rng1; have h3 := hr.sum
  refine ⟨fun h => ?_, fun h => ?_⟩
  · unfold bitF; rw [if_pos h]; exact ⟨rfl, rfl⟩
  · unfold bitF; rw [if_neg h]
    unfold lowF toldF carryIf
    simp only
    generalize splitF r.rng o = s at hs ⊢
    refine ⟨by omega, ?_⟩
    by_cases hl : 4294967296 ≤ r.low
    · rw [if_pos hl, if_pos (by omega), if_neg (by omega)]
    · rw [if_neg hl]
      by_cases hl2 : 4294967296 ≤ r.low + s
      · rw [if_pos hl2, if_pos (by omega)]
      · rw [if_neg hl2, if_neg (by omega)]
theorem told_end (r : Rg) (k : Nat) (hk : 0 < k) : toldF (shiftsF r k) = (shiftsF r k).out := by
  obtain ⟨j, rfl⟩ : ∃ j, k = j + 1 := ⟨k - 1, by omega⟩
  rw [shiftsF_succ]
  unfold toldF carryIf shiftF
  simp only
  rw [if_neg (by omega)]
end Go.Proofs.Ytocoeodoihdkgaa
