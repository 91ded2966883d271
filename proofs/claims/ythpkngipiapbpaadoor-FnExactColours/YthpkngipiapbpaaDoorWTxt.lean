/- The texts by which the laws mark: what they are. -/
import Derived.Test.YthpkngipiapbpaaDoorWOwn
import Derived.Test.YthpkngipiapbpaaDoorWBytes
import Derived.Laws.IdiomStrings
namespace Go.Proofs.YthpkngipiapbpaaDoor
open Go.RowKit

def digs (k : Nat) : List UInt8 := if _h : k = 0 then [] else digs (k / 10) ++ [UInt8.ofNat (48 + k % 10)]
termination_by k
decreasing_by omega
theorem digs_pos {k : Nat} (h : 0 < k) : digs k = digs (k / 10) ++ [UInt8.ofNat (48 + k % 10)] := by
  rw [digs]; rw [dif_neg (by omega)]
theorem digs_zero : digs 0 = [] := by rw [digs]; rfl
def mkText (k : Nat) : List UInt8 := if k = 0 then [109, 48] else 109 :: digs k
theorem digs_len (n : Nat) : ∀ k, k < 10 ^ n → (digs k).length ≤ n := by
  induction n with
  | zero => intro k hk; have : k = 0 := by simpa using hk
            subst this; rw [digs_zero]; simp
  | succ n ih =>
    intro k hk
    rcases Nat.eq_zero_or_pos k with h | h
    · subst h; rw [digs_zero]; simp
    · rw [digs_pos h, List.length_append]
      have : k / 10 < 10 ^ n := by rw [Nat.div_lt_iff_lt_mul (by omega)]; rw [Nat.pow_succ] at hk; exact hk
      have := ih _ this
      simp; omega

set_option maxHeartbeats 2000000 in
set_option maxRecDepth 100000 in
theorem markText_eq (k : Nat) (w : World) (hk : k ≤ 1099511627776) :
    Calls Tryd.prog 73 #[.int .i64 k] w fun e w' => ∃ s, e = .returned (.string s) ∧ s.data.toList = mkText k ∧ Upd 0 0 w w' := by
  by_cases h0 : k = 0
  · subst h0
    go_enter Tryd.func73, Tryd.ntmps73
    go_wp2
    go_ret
    exact ⟨_, rfl, rfl, Upd.refl _ _ _⟩
  · have hpos : (0 : Int) < k := by omega
    have hlen := digs_len 13 k (by omega)
    have hlen' := hide hlen
    go_enter Tryd.func73, Tryd.ntmps73
    go_wp2
    go_loopw [0, 3] (fun a o wr => ∃ (m : Nat) (s : ByteArray), a = .int .i64 m ∧ o = .string s ∧ m ≤ k ∧ Hid (digs m ++ s.data.toList = digs k) ∧ Below w.heap.size w wr) (fun a _ _ => (intOf a).toNat)
    case atStart => exact ⟨k, ⟨#[]⟩, rfl, rfl, Nat.le_refl _, hide (by simp), Below.refl _ _⟩
    case round =>
      obtain ⟨m, s, rfl, rfl, hm, hd, hbel⟩ := hrel
      by_cases hz : 0 < m
      · have hz' : (0 : Int) < m := by omega
        have hds := hide (digs_pos hz)
        obtain ⟨r, hr, r10⟩ : ∃ r : Nat, m % 10 = r ∧ r < 10 := ⟨_, rfl, by omega⟩
        obtain ⟨q, hq, hqm⟩ : ∃ q : Nat, m / 10 = q ∧ q < m := ⟨_, rfl, by omega⟩
        rw [hr, hq] at hds
        have hr' : ((m : Int) % 10) = (r : Int) := by omega
        have hq' : ((m : Int) / 10) = (q : Int) := by omega
        replace hr := hide hr
        replace hq := hide hq
        have hsz : s.size ≤ 13 := by
          have h1 := congrArg List.length (unhide hd)
          rw [List.length_append] at h1
          have : s.data.toList.length = s.size := by simp
          have := unhide hlen'; omega
        obtain ⟨c, hc⟩ : ∃ c : ByteArray, (⟨[UInt8.ofNat (48 + r)].toArray⟩ : ByteArray) = c := ⟨_, rfl⟩
        have hcs : c.size = 1 := by rw [← hc]; rfl
        have hcl : Hid (c.data.toList = [UInt8.ofNat (48 + r)]) := hide (by rw [← hc])
        have hconv : (convert 37 9 (.slice (some ⟨wr.heap.size, 0, none⟩) 1 1)).run Tryd.prog (wr.alloc (.cells #[.int .u8 (48 + (r : Int))] 5)) = .ok (.string c) (wr.alloc (.cells #[.int .u8 (48 + (r : Int))] 5)) := hc ▸ run_convert_bytes_back (P := Tryd.prog) (wr.alloc (.cells #[.int .u8 (48 + (r : Int))] 5)) 37 9 5 ⟨wr.heap.size, 0, none⟩ 1 [UInt8.ofNat (48 + r)] Tryd.underlying37 Tryd.underlying5 Tryd.underlying9 (fun j hj => by
          have : j = 0 := by simpa using hj
          subst this
          have e : (⟨wr.heap.size, 0, none⟩ : Addr).add 0 = ⟨wr.heap.size, 0, none⟩ := by simp [Addr.add]
          rw [e, World.cell?_alloc_at _ _ _ _ rfl]
          simp
          have : (48 + r) % 256 = 48 + r := by omega
          omega)
        have hb2 := hide (hbel.alloc hbel.size (.cells #[.int .u8 (48 + (r : Int))] 5))
        have hd2 : Hid (digs q ++ (c ++ s).data.toList = digs k) := hide (by rw [← unhide hd, unhide hds, List.append_assoc, ← unhide hcl]; simp)
        clear hc
        go_wp2_with fail
        go_roundw
        case rel => exact ⟨q, c ++ s, rfl, rfl, by omega, hd2, unhide hb2⟩
        case measure => simp [intOf]; omega
      · have hmz : m = 0 := by omega
        subst hmz
        have hd2 := unhide hd
        rw [digs_zero, List.nil_append] at hd2
        replace hd2 := hide hd2
        replace hbel := hide hbel
        have hsz : s.size ≤ 13 := by
          have h1 := congrArg List.length (unhide hd2)
          have : s.data.toList.length = s.size := by simp
          have := unhide hlen'; omega
        go_wp2_with fail
        go_ret
        refine ⟨_, rfl, ?_, Upd.of_below (unhide hbel) 0 0⟩
        unfold mkText; rw [if_neg h0, ← unhide hd2]; simp
end Go.Proofs.YthpkngipiapbpaaDoor
