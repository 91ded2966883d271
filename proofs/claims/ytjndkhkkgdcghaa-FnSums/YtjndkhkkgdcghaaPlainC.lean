/- Plain: of two byte strings that differ in one byte the check sums of 32 bits differ. -/
import Derived.Test.YtjndkhkkgdcghaaPlain
namespace Go.Proofs.Ytjndkhkkgdcghaa
open Go.RowKit

theorem xor_eq_zero (a b : Nat) (h : a ^^^ b = 0) : a = b := by
  have : a ^^^ b ^^^ b = b := by rw [h, Nat.zero_xor]
  rwa [Nat.xor_assoc, Nat.xor_self, Nat.xor_zero] at this
theorem crcBit_zero (c : Nat) (hc : c < 4294967296) (h : crcBit c = 0) : c = 0 := by
  unfold crcBit at h
  split at h
  · have := xor_eq_zero _ _ h; omega
  · omega
theorem crcBit_inj (a b : Nat) (ha : a < 4294967296) (hb : b < 4294967296) (h : crcBit a = crcBit b) : a = b := by
  apply xor_eq_zero
  apply crcBit_zero _ (Nat.xor_lt_two_pow (n := 32) ha hb)
  rw [crcBit_xor, h, Nat.xor_self]
theorem crcIt_inj (m a b : Nat) (ha : a < 4294967296) (hb : b < 4294967296) (h : crcIt m a = crcIt m b) : a = b := by
  induction m with
  | zero => exact h
  | succ m ih => exact ih (crcBit_inj _ _ (crcIt_lt m a ha) (crcIt_lt m b hb) h)
theorem xor_left (a b c : Nat) (h : a ^^^ b = a ^^^ c) : b = c := by
  have : a ^^^ (a ^^^ b) = a ^^^ (a ^^^ c) := by rw [h]
  rwa [← Nat.xor_assoc, ← Nat.xor_assoc, Nat.xor_self, Nat.zero_xor, Nat.zero_xor] at this
def crcOn (r : Nat) (x : Int) : Nat := crcIt 8 (r ^^^ (x.toNat % 256))
theorem crcOn_lt (r : Nat) (x : Int) (h : r < 4294967296) : crcOn r x < 4294967296 := crcIt_lt _ _ (Nat.xor_lt_two_pow (n := 32) h (by omega))
theorem foldl_ne (l : List Int) : ∀ r s, r < 4294967296 → s < 4294967296 → r ≠ s → l.foldl crcOn r ≠ l.foldl crcOn s := by
  induction l with
  | nil => intro r s _ _ h; exact h
  | cons x l ih =>
    intro r s hr hs hne
    refine ih _ _ (crcOn_lt r x hr) (crcOn_lt s x hs) (fun h => hne ?_)
    have := crcIt_inj 8 _ _ (Nat.xor_lt_two_pow (n := 32) hr (by omega)) (Nat.xor_lt_two_pow (n := 32) hs (by omega)) h
    rw [Nat.xor_comm r, Nat.xor_comm s] at this
    exact xor_left _ _ _ this
theorem foldl_lt (l : List Int) : ∀ r, r < 4294967296 → l.foldl crcOn r < 4294967296 := by
  induction l with
  | nil => intro r h; exact h
  | cons x l ih => intro r h; exact ih _ (crcOn_lt r x h)
theorem crcTo_all (zs : List Int) : crcTo zs zs.length = zs.foldl crcOn 4294967295 := by unfold crcTo crcOn; rw [List.take_length]
theorem crc_ne (zs : List Int) (k : Nat) (y : Int) (hk : k < zs.length) (hx0 : 0 ≤ zs.getD k 0) (hx1 : zs.getD k 0 < 256) (hy0 : 0 ≤ y) (hy1 : y < 256) (hne : y ≠ zs.getD k 0) : crcF (zs.set k y) ≠ crcF zs := by
  have h1 : crcTo zs zs.length ≠ crcTo (zs.set k y) (zs.set k y).length := by
    rw [crcTo_all, crcTo_all]
    have e1 : zs = zs.take k ++ zs.getD k 0 :: zs.drop (k + 1) := by
      conv => lhs; rw [← List.take_append_drop k zs, List.drop_eq_getElem_cons hk]
      rw [List.getD_eq_getElem?_getD, List.getElem?_eq_getElem hk]; rfl
    have e2 : zs.set k y = zs.take k ++ y :: zs.drop (k + 1) := by
      rw [List.set_eq_take_append_cons_drop, if_pos hk]
    rw [e2]
    conv => lhs; rw [e1]
    rw [List.foldl_append, List.foldl_append, List.foldl_cons, List.foldl_cons]
    have hr := foldl_lt (zs.take k) 4294967295 (by omega)
    refine foldl_ne _ _ _ (crcOn_lt _ _ hr) (crcOn_lt _ _ hr) (fun h => hne ?_)
    have := crcIt_inj 8 _ _ (Nat.xor_lt_two_pow (n := 32) hr (by omega)) (Nat.xor_lt_two_pow (n := 32) hr (by omega)) h
    have := xor_left _ _ _ this
    omega
  have b1 := crcTo_lt zs zs.length
  have b2 := crcTo_lt (zs.set k y) (zs.set k y).length
  unfold crcF
  omega
end Go.Proofs.Ytjndkhkkgdcghaa
