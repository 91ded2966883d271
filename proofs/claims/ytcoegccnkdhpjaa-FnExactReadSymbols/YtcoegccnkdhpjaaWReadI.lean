/- The walk of the program's reading of one symbol by its table. -/
import Derived.Test.YtcoegccnkdhpjaaWTakeR
import Derived.Test.YtcoegccnkdhpjaaWTake5
import Derived.Test.YtcoegccnkdhpjaaWTable
import Derived.Test.YtcoegccnkdhpjaaWRead2
namespace Go.Proofs.Ytcoegccnkdhpjaa
open Go.RowKit

/-- A code's table in a block, its symbols behind it. -/
structure TabAt (w : World) (T : Nat) (zs ys : List Int) : Prop where
  lt : T < w.heap.size
  f : ∀ j, j < 16 → w.cell? ⟨T, j, none⟩ = some (.int .i64 (firstOf zs j : Nat))
  m : ∀ j, j < 16 → w.cell? ⟨T, 16 + j, none⟩ = some (.int .i64 (manyOf zs j : Nat))
  s : ∀ j, j < 16 → w.cell? ⟨T, 32 + j, none⟩ = some (.int .i64 (startOf zs j : Nat))
  y : ∃ ad cap, w.cell? ⟨T, 48, none⟩ = some (.slice ad ys.length cap) ∧ ArgI w ad ys ∧ ∀ a, ad = some a → a.block < T
  h : w.cell? ⟨T, 49, none⟩ = some (.int .i64 (endOf zs 15 : Nat))
  len : ys.length = startOf zs 16
  sym : SymTo zs ys zs.length

theorem TabAt.cellOf {w : World} {cs : Array Value} {T : Nat} {zs ys : List Int} {ad : Option Addr} {cap : Nat} (hT : Tab cs (firstOf zs) (manyOf zs) (startOf zs) (.slice ad ys.length cap) (firstOf zs 15 + manyOf zs 15)) (hb : w.heap[T]? = some (.cells cs 81 (0, 0)))
    (hy : ArgI w ad ys) (hne : ∀ a, ad = some a → a.block < T) (hl : ys.length = startOf zs 16) (hs : SymTo zs ys zs.length) : TabAt w T zs ys := by
  have hc : ∀ j, w.cell? ⟨T, j, none⟩ = cs[j]? := fun j => by rw [cell_of_row _ _ _ _ _ _ hb]
  refine ⟨by rcases Nat.lt_or_ge T w.heap.size with h | h; exact h; rw [Array.getElem?_eq_none (by omega)] at hb; simp at hb, ?_, ?_, ?_, ⟨ad, cap, ?_, hy, hne⟩, ?_, hl, hs⟩
  · intro j hj; rw [hc]; simpa using hT.f j hj
  · intro j hj; rw [hc]; simpa using hT.m j hj
  · intro j hj; rw [hc]; simpa using hT.s j hj
  · rw [hc]; exact hT.y
  · rw [hc]; exact hT.h
theorem highTo_one (d : List Int) (p : Nat) : highTo d p 1 = bitHigh d p := by show 2 * 0 + bitHigh d (p + 0) = _; simp
theorem i64_shift_or (v b k : Nat) (hv : v < 2 ^ k) (hb : b ≤ 1) (hk : k < 16) : bits .or .i64 (wrap64 ((v : Int) * 2)) (b : Int) = ((2 * v + b : Nat) : Int) := by
  have h1 : 2 ^ k ≤ 2 ^ 15 := Nat.pow_le_pow_right (by omega) (by omega)
  have e : wrap64 ((v : Int) * 2) = ((2 * v : Nat) : Int) := by rw [wrap64_of (by omega) (by omega)]; omega
  rw [e]
  have hv2 : 2 * v < 65536 := by omega
  clear e h1 hv
  show IntKind.i64.wrap ((BitVec.ofInt 64 ((2 * v : Nat) : Int) ||| BitVec.ofInt 64 (b : Int)).toNat : Int) = _
  rw [BitVec.toNat_or, ofInt_u64 _ (by omega), ofInt_u64 _ (by omega), nat_join1 _ _ (by omega) (by omega)]
  simp [IntKind.wrap, IntKind.bits, IntKind.signed]
  omega

set_option maxHeartbeats 8000000 in
set_option maxRecDepth 1000000 in
theorem implRead (T r cap : Nat) (ad : Option Addr) (zs ys d : List Int) (q : Nat) (w : World) (hg : goodL zs) (hT : TabAt w T zs ys) (hm : d.length ≤ 1048576) (hD : InB d) (hc : ArgY w ad d) (hbr : d ≠ [] → ∀ b off, ad = some ⟨b, off, none⟩ → b ≠ r) (hTr : T < r)
    (hq : q ≤ 9223372036854775807) (hfr : w.frozen? ⟨r, 2, none⟩ = false) (hr : ReaderAt w r 1 (.slice ad d.length cap) q) :
    Calls Try.prog 68 #[.pointer (some ⟨T, 0, none⟩), .pointer (some ⟨r, 0, none⟩)] w fun e w' => OnlyAt r w w' ∧
      (((readOne zs d q).1 = -2 ∧ e = .returned (.tuple #[.int .i64 0, .int .i64 2])) ∨ ((readOne zs d q).1 = -1 ∧ e = .returned (.tuple #[.int .i64 0, .int .i64 4])) ∨
        (0 ≤ (readOne zs d q).1 ∧ e = .returned (.tuple #[.int .i64 (readOne zs d q).1, .int .i64 0]) ∧ w'.frozen? ⟨r, 2, none⟩ = false ∧ ReaderAt w' r 1 (.slice ad d.length cap) ((readOne zs d q).2 : Nat))) := by
  replace hr := hide hr
  replace hT := hide hT
  replace hc := hide hc
  replace hD := hide hD
  replace hg := hide hg
  replace hbr := hide hbr
  go_enter Try.func68, Try.ntmps68
  go_wp2
  go_loopw [6, 7] (fun a c wr => ∃ n : Nat, n ≤ 15 ∧ a = .int .i64 (highTo d q n : Nat) ∧ c = .int .i64 ((n + 1 : Nat) : Int) ∧ Hid (0 < n → q + n ≤ 8 * d.length) ∧ Hid (readOne zs d q = rdF zs d q (15 - n) n) ∧ Hid (endOf zs n ≤ highTo d q n) ∧ ReaderAt wr r 1 (.slice ad d.length cap) ((q + n : Nat) : Int) ∧ wr.frozen? ⟨r, 2, none⟩ = false ∧ OnlyAt r w wr) (fun _ c _ => 17 - (intOf c).toNat)
  case atStart => exact ⟨0, by omega, rfl, rfl, fun h => by omega, rfl, by show endOf zs 0 ≤ _; rw [endOf_zero]; exact Nat.zero_le _, unhide hr, hfr, OnlyAt.refl _ _⟩
  case round =>
    obtain ⟨n, hn, rfl, rfl, hpn, hR, hE, hrr, hff, hon⟩ := hrel
    rw [show ((n + 1 : Nat) : Int) = (n : Int) + 1 by omega]
    by_cases h15 : n = 15
    · subst h15
      have hE2 := hide (show readOne zs d q = (-1, q + 15) by rw [unhide hR]; rfl)
      clear hrr
      go_wp2
      go_ret2
      rw [unhide hE2]
      exact ⟨hon, .inr (.inl ⟨rfl, rfl⟩)⟩
    · by_cases hs : q + n < 8 * d.length
      · have hdne : d ≠ [] := ne_of_lt_length (show 0 < d.length by omega)
        obtain ⟨b, off, rfl, hbl, hcb⟩ := (unhide hc) hdne
        have hbr' := unhide hbr hdne b off rfl
        have hbb : BytesAt wr b off d := fun j hj => (hon.cell (by simpa using hbl) (by simpa using hbr')).trans (hcb j hj)
        have htk := implTakeHighF r b off d.length cap d (q + n) 1 wr rfl (unhide hD) hbb hm (by omega) (by omega) (Nat.lt_of_lt_of_le hbl hon.size) hbr' hff hrr
        rw [highTo_one] at htk
        replace htk := hide htk
        have hw2 := hide (i64_shift_or (highTo d q n) (bitHigh d (q + n)) n (highTo_lt d q n) (bitHigh_le d (q + n)) (by omega))
        clear hrr hff
        go_wp2_with fail
        refine (unhide htk).mono ?_
        rintro e w1 ⟨rfl, hrr, hff, hon1⟩
        have hon2 := hon.trans hon1
        clear htk hon hon1
        replace hrr := hide hrr
        have hwb : Hid (wrap64 (bitHigh d (q + n) : Int) = (bitHigh d (q + n) : Int)) := hide (wrap64_of (by omega) (by have := bitHigh_le d (q + n); omega))
        go_upto_region 9 with fail
        rw [unhide hwb, unhide hw2, show 2 * highTo d q n + bitHigh d (q + n) = highTo d q (n + 1) from rfl]
        have hW15 := highTo_lt15 d q (n + 1) (by omega)
        have hfW : firstOf zs (n + 1) ≤ highTo d q (n + 1) := by
          have := unhide hE
          rw [first_succ]; show _ ≤ 2 * highTo d q n + bitHigh d (q + n); omega
        have hfb := firstOf_lt zs (n + 1) (unhide hg).1 (by omega)
        have hsb := startOf_lt zs (n + 1) (unhide hg).1 (by omega)
        have hTb := (unhide hT).lt
        have tf : w1.cell? ⟨T, n + 1, none⟩ = some (.int .i64 (firstOf zs (n + 1) : Nat)) := (hon2.cell (by simpa using hTb) (by simp only; omega)).trans ((unhide hT).f (n + 1) (by omega))
        have tm : w1.cell? ⟨T, 16 + (n + 1), none⟩ = some (.int .i64 (manyOf zs (n + 1) : Nat)) := (hon2.cell (by simpa using hTb) (by simp only; omega)).trans ((unhide hT).m (n + 1) (by omega))
        have ts : w1.cell? ⟨T, 32 + (n + 1), none⟩ = some (.int .i64 (startOf zs (n + 1) : Nat)) := (hon2.cell (by simpa using hTb) (by simp only; omega)).trans ((unhide hT).s (n + 1) (by omega))
        have th : w1.cell? ⟨T, 49, none⟩ = some (.int .i64 (endOf zs 15 : Nat)) := (hon2.cell (by simpa using hTb) (by simp only; omega)).trans (unhide hT).h
        obtain ⟨ady, capy, hty, hAy, hney⟩ := (unhide hT).y
        have ty : w1.cell? ⟨T, 48, none⟩ = some (.slice ady ys.length capy) := (hon2.cell (by simpa using hTb) (by simp only; omega)).trans hty
        have hpn1 : Hid (0 < n + 1 → q + (n + 1) ≤ 8 * d.length) := hide (fun _ => by omega)
        have hgo := hide (rdF_go (f := 14 - n) hs (zs := zs))
        have hend := hide (rdF_end (f := 14 - n) hs (zs := zs))
        rw [show 14 - n + 1 = 15 - n by omega] at hgo hend
        rw [← unhide hR] at hgo hend
        clear hwb hw2 hpn hR hbb hcb hbl hbr'
        generalize hWe : highTo d q (n + 1) = W at hW15 hfW hgo hend ⊢
        replace hWe := hide hWe
        by_cases hlt : W < endOf zs (n + 1)
        · have hyl := table_lt hfW hlt (by omega)
          have hft := findF_table (unhide hT).sym (by omega) hfW hlt
          rw [← (unhide hT).len] at hyl
          obtain ⟨by', offy, rfl, hby, hcy⟩ := hAy (ne_of_lt_length hyl)
          have hyne : by' ≠ r := by have := hney ⟨by', offy, none⟩ rfl; simp only at this; omega
          have tyv := (hon2.cell (p := ⟨by', offy + (startOf zs (n + 1) + (W - firstOf zs (n + 1))), none⟩) (by simpa using hby) (by simpa using hyne)).trans (hcy _ hyl)
          rw [← hft.1] at tyv
          have hR2 := hide (unhide hend (by omega))
          have hnn := hft.2
          unfold endOf at hlt
          clear hgo hend hft hcy hty hAy hney hE hpn1
          generalize findF zs W (n + 1) = s at hR2 tyv hnn
          obtain ⟨i, hi⟩ : ∃ i, W = firstOf zs (n + 1) + i := ⟨W - firstOf zs (n + 1), by omega⟩
          rw [hi, show firstOf zs (n + 1) + i - firstOf zs (n + 1) = i by omega] at tyv
          have himany : i < manyOf zs (n + 1) := by omega
          rw [hi] at hW15 hfW hlt hyl ⊢
          rw [show firstOf zs (n + 1) + i - firstOf zs (n + 1) = i by omega] at hyl
          clear hi
          generalize firstOf zs (n + 1) = F at tf hfb hW15 hfW hlt ⊢
          generalize manyOf zs (n + 1) = M at tm hfb hlt himany
          generalize startOf zs (n + 1) = S at ts hsb tyv hyl
          go_wp2_with fail
          go_quiet (fail)
          go_wp2
          go_ret2
          rw [unhide hR2]
          exact ⟨hon2.drewN _, .inr (.inr ⟨hnn, rfl, hff, ReaderAt.drewN (unhide hrr) _⟩)⟩
        · have hge : endOf zs (n + 1) ≤ W := by omega
          have hfgo := hide (findF_go (zs := zs) (n := n + 1) (w := W) (by omega) (by omega) hge)
          have hfend := hide (findF_end (n := n + 1) (w := W) (unhide hg) (by omega) (by omega) hge)
          rw [show 15 - (n + 1) = 14 - n by omega] at hfgo hfend
          have hgeM : firstOf zs (n + 1) + manyOf zs (n + 1) ≤ W := hge
          have hshift : W * 2 ^ (14 - n) < 32768 * 32768 := by
            have h1 : 2 ^ (14 - n) ≤ 2 ^ 15 := Nat.pow_le_pow_right (by decide) (by omega)
            have h2 : (2 : Nat) ^ 15 = 32768 := rfl
            rw [h2] at h1
            exact Nat.lt_of_le_of_lt (Nat.mul_le_mul_left W h1) (Nat.mul_lt_mul_of_pos_right hW15 (by decide))
          have hsw : wrap64 ((W : Int) * 2 ^ (14 - n)) = ((W * 2 ^ (14 - n) : Nat) : Int) := by
            rw [show ((W : Int) * 2 ^ (14 - n)) = ((W * 2 ^ (14 - n) : Nat) : Int) by simp]
            generalize W * 2 ^ (14 - n) = y at hshift
            exact wrap64_of (by omega) (by omega)
          generalize W * 2 ^ (14 - n) = y at hfgo hfend hsw
          generalize endOf zs 15 = E at th hfgo hfend
          replace hge := hide hge
          generalize firstOf zs (n + 1) = F at tf hfb hfW hgeM
          generalize manyOf zs (n + 1) = M at tm hgeM
          clear hlt hty hAy hney hE ts ty hsb hshift
          replace hgo := hide (fun h => unhide hgo (unhide hfgo h))
          by_cases hyE : y < E
          · have q1 : decide ((E : Int) ≤ wrap64 ((W : Int) * 2 ^ (14 - n))) = false := by rw [hsw]; simp; omega
            have hR2 := hide (unhide hgo hyE)
            clear hgo hend hfgo hfend
            go_wp2_with fail
            go_quiet (fail)
            go_wp2
            go_roundw
            case rel => exact ⟨n + 1, by omega, by rw [unhide hWe], by go_num, hpn1, by rw [show 15 - (n + 1) = 14 - n by omega]; exact hR2, by rw [unhide hWe]; exact hge, ReaderAt.drewN (unhide hrr) _, hff, hon2.drewN _⟩
            case measure => simp [intOf]; omega
          · have q1 : decide ((E : Int) ≤ wrap64 ((W : Int) * 2 ^ (14 - n))) = true := by rw [hsw]; simp; omega
            have hf1 := unhide hfend (by omega)
            have hR2 := unhide hend (by rw [hf1]; decide)
            rw [hf1] at hR2
            replace hR2 := hide hR2
            clear hgo hend hfgo hfend hf1
            go_wp2_with fail
            go_quiet (fail)
            go_wp2
            go_ret2
            rw [unhide hR2]
            exact ⟨hon2.drewN _, .inr (.inl ⟨rfl, rfl⟩)⟩
      · have hbad := takeBad r 1 ad d.length cap ((q + n : Nat) : Int) 1 wr hm hrr (by omega)
        replace hbad := hide hbad
        have hE2 := hide (show readOne zs d q = (-2, q + n) by
          rw [unhide hR]
          obtain ⟨f, hf⟩ : ∃ f, 15 - n = f + 1 := ⟨14 - n, by omega⟩
          rw [hf]; exact rdF_short (by omega))
        clear hrr
        go_wp2_with fail
        refine (unhide hbad).mono ?_
        rintro e w1 ⟨rfl, nq, rfl⟩
        clear hbad
        go_wp2
        go_ret2
        rw [unhide hE2]
        exact ⟨hon.drewN _, .inl ⟨rfl, rfl⟩⟩
end Go.Proofs.Ytcoegccnkdhpjaa
