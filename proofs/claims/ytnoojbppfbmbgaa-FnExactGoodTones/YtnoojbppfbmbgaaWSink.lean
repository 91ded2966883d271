/- The walks of the sink of bits: the specification's. -/
import Derived.Test.YtnoojbppfbmbgaaWTake3
import Derived.Test.YtnoojbppfbmbgaaPlainP
import Derived.BigRegion
import Derived.Deep.RegionHeld
namespace Go.Proofs.Ytnoojbppfbmbgaa
open Go.RowKit

def vals (zs : List Nat) : List Value := zs.map fun b : Nat => Value.int .u8 (b : Int)
theorem vals_len (zs : List Nat) : (vals zs).length = zs.length := by unfold vals; simp
theorem vals_at (zs : List Nat) (j : Nat) (h : j < zs.length) : (vals zs)[j]? = some (.int .u8 (zs.getD j 0 : Nat)) := by
  unfold vals; rw [List.getElem?_map, List.getD_eq_getElem?_getD, List.getElem?_eq_getElem h]; rfl
theorem vals_set (zs : List Nat) (j a : Nat) : (vals zs).set j (.int .u8 (a : Int)) = vals (zs.set j a) := by unfold vals; rw [List.map_set]
theorem vals_snoc (zs : List Nat) : vals zs ++ [.int .u8 0] = vals (zs ++ [0]) := by unfold vals; simp

/-- A sink or a writer of bits in the variable at block c: its first word, its bytes, its number. -/
def SinkAt (w : World) (c : Nat) (o v : Value) (q : Int) : Prop :=
  c < w.heap.size ∧ w.cell? ⟨c, 0, none⟩ = some o ∧ w.cell? ⟨c, 1, none⟩ = some v ∧ w.cell? ⟨c, 2, none⟩ = some (.int .i64 q) ∧ w.frozen? ⟨c, 1, none⟩ = false ∧ w.frozen? ⟨c, 2, none⟩ = false
def Sink (w : World) (c : Nat) (o : Value) (zs : List Nat) (q : Int) : Prop := ∃ v, SinkAt w c o v q ∧ w.ownsRow (c + 1) 5 1 v zs.length (vals zs)
theorem SinkAt.drewN {w : World} {c : Nat} {o v : Value} {q : Int} (h : SinkAt w c o v q) (n : Nat) : SinkAt (w.drewN n) c o v q := h
theorem SinkAt.drew {w : World} {c : Nat} {o v : Value} {q : Int} (h : SinkAt w c o v q) : SinkAt w.drew c o v q := h
theorem SinkAt.grown {w w' : World} {c : Nat} {o v : Value} {q : Int} {row : Option Nat} (h : SinkAt w c o v q) (hg : w.grownBy w' row) (hr : some c ≠ row) : SinkAt w' c o v q := by
  obtain ⟨h0, h1, h2, h3, f1, f2⟩ := h
  have hb := hg.block c h0 hr
  exact ⟨Nat.lt_of_lt_of_le h0 hg.size, (World.cell?_of_block (a := ⟨c, 0, none⟩) hb).trans h1, (World.cell?_of_block (a := ⟨c, 1, none⟩) hb).trans h2, (World.cell?_of_block (a := ⟨c, 2, none⟩) hb).trans h3,
    (World.frozen?_of_block (a := ⟨c, 1, none⟩) hb).trans f1, (World.frozen?_of_block (a := ⟨c, 2, none⟩) hb).trans f2⟩
theorem SinkAt.data {w : World} {c : Nat} {o v : Value} {q : Int} (h : SinkAt w c o v q) (u : Value) : SinkAt (w.setCell ⟨c, 1, none⟩ u) c o u q := by
  obtain ⟨h0, h1, h2, h3, f1, f2⟩ := h
  refine ⟨by simpa using h0, ?_, World.cell?_setCell_same _ _ _ h2, ?_, (World.frozen?_setCell _ _ _ _).trans f1, (World.frozen?_setCell _ _ _ _).trans f2⟩
  · rw [World.cell?_setCell_other _ _ _ _ (by simp)]; exact h1
  · rw [World.cell?_setCell_other _ _ _ _ (by simp)]; exact h3
theorem SinkAt.num {w : World} {c : Nat} {o v : Value} {q : Int} (h : SinkAt w c o v q) (p : Int) : SinkAt (w.setCell ⟨c, 2, none⟩ (.int .i64 p)) c o v p := by
  obtain ⟨h0, h1, h2, h3, f1, f2⟩ := h
  refine ⟨by simpa using h0, ?_, ?_, World.cell?_setCell_same _ _ _ h3, (World.frozen?_setCell _ _ _ _).trans f1, (World.frozen?_setCell _ _ _ _).trans f2⟩
  · rw [World.cell?_setCell_other _ _ _ _ (by simp)]; exact h1
  · rw [World.cell?_setCell_other _ _ _ _ (by simp)]; exact h2
theorem SinkAt.far {w : World} {c g j : Nat} {o v u : Value} {q : Int} (h : SinkAt w c o v q) (hg : g ≠ c) : SinkAt (w.setCell ⟨g, j, none⟩ u) c o v q := by
  obtain ⟨h0, h1, h2, h3, f1, f2⟩ := h
  refine ⟨by simpa using h0, ?_, ?_, ?_, (World.frozen?_setCell _ _ _ _).trans f1, (World.frozen?_setCell _ _ _ _).trans f2⟩ <;> (rw [World.cell?_setCell_far _ _ _ _ (by simpa using hg)]; assumption)
theorem one_new (w : World) (u : Value) : ∀ j v, [u][j]? = some v → (w.alloc (.cells #[u] 5)).cell? ((⟨w.heap.size, 0, none⟩ : Addr).add j) = some v := by
  intro j v hj
  match j, hj with
  | 0, hj => simp at hj; subst hj; simp [Addr.add]
theorem one_one : ∀ u ∈ [Value.int .u8 0], u.oneCell' = true := by intro u hu; simp at hu; subst hu; rfl
theorem addBit_zero (h : Bool) (zs : List Nat) (L : Nat) (hl : L / 8 < (opn zs L).length) : addBit h zs L 0 = opn zs L := by
  unfold addBit
  rw [Nat.zero_mul, Nat.add_zero, List.getD_eq_getElem?_getD, List.getElem?_eq_getElem hl]
  exact List.set_getElem_self hl
theorem or_bit8 (h : Bool) (x r k : Nat) (hx : x < 256) (hr : r < 8) (hk : k = ex h r) (hf : if h then x % 2 ^ (8 - r) = 0 else x < 2 ^ r) : bits .or .u8 (x : Int) (2 ^ k % 256) = ((x + 1 * 2 ^ ex h r : Nat) : Int) := by
  have hk7 : k ≤ 7 := by subst hk; unfold ex; split <;> omega
  have ho := or_into h x r 1 1 (by omega) hf (by omega)
  have ec : cex h r 1 = ex h r := by unfold ex cex; split <;> omega
  rw [ec, ← hk] at ho
  rw [← hk]
  have e : ((2 : Int) ^ k % 256) = ((2 ^ k : Nat) : Int) := by
    rcases pow_cases k (by omega) with h | h | h | h | h | h | h | h <;> subst h <;> decide
  have hl : 2 ^ k < 256 := by rcases pow_cases k (by omega) with h | h | h | h | h | h | h | h <;> subst h <;> decide
  rw [e, u8_or_nat _ _ hx hl]
  rw [Nat.one_mul] at ho ⊢
  rw [ho]


set_option maxHeartbeats 4000000 in
set_option maxRecDepth 100000 in
theorem specBitF0 (zs : List Nat) (L c : Nat) (w : World) (hi : Inv false zs L) (hL : L ≤ 2097152) (hs : Sink w c (.bool false) zs L) :
    Calls Try.prog 92 #[.pointer (some ⟨c, 0, none⟩), .int .u64 0] w fun e w' => e = .returned (.tuple #[]) ∧ Sink w' c (.bool false) (addBit false zs L 0) ((L + 1 : Nat) : Int) ∧ Below c w w' := by
  obtain ⟨i0, hi0, hz0, hz1, hz2⟩ := info_parts infoB
  obtain ⟨v, hS, hown⟩ := hs
  have hlen := hide hi.1
  have hol := hide (opn_len hi)
  have hx := hide (opn_x hi)
  obtain ⟨s0, s1, s2, s3, s4, s5⟩ := hS
  have hSh : Hid (SinkAt w c (.bool false) v L) := ⟨s0, s1, s2, s3, s4, s5⟩
  obtain ⟨r, hr, hr'⟩ : ∃ r : Nat, (L : Int) % 8 = (r : Int) ∧ L % 8 = r := ⟨L % 8, by omega, rfl⟩
  obtain ⟨i, hii, hii'⟩ : ∃ i : Nat, (L : Int) / 8 = (i : Int) ∧ L / 8 = i := ⟨L / 8, by omega, rfl⟩
  have hr7 : r < 8 := by omega
  by_cases h8 : L % 8 = 0
  · have q8 : ((r : Int) == 0) = true := beq_iff_eq.2 (by omega)
    have hopn : opn zs L = zs ++ [0] := by unfold opn; rw [if_pos h8]
    replace hopn := hide hopn
    clear hi
    replace hr' := hide hr'
    replace hii' := hide hii'
    clear h8
    go_enter Try.func92, Try.ntmps92
    go_wp2_with (at_builtin; refine wpList_append_own _ rfl (.tmp 15) (.tmp 16) 22 rfl (c + 1) 5 i0 (.int .u8 0) 1 1 Try.underlying22 hi0 hz0 hz1 hz2 rfl (by decide) _ _ _ rfl (hown.alloc _) ⟨w.heap.size, 0, none⟩ 1 1 [.int .u8 0] rfl rfl (one_new w _) one_one (by have := unhide hlen; unfold maxLen; omega) (by have := unhide hlen; omega) (by simp; omega) ?_)
    intro v' w1 hown' hgrow _
    have hal := (unhide hSh).grown (World.grownBy_alloc w (.cells #[.int .u8 0] 5) none) (by simp)
    have hne : some c ≠ v.ownBlock := fun e => by have := (hown.lt c e.symm).1; omega
    have hS1 := hal.grown hgrow hne
    have hbel1 := ((Below.refl c w).alloc (by omega) (.cells #[.int .u8 0] 5)).grown hgrow (by simp; omega) (fun k hk => by have := (hown.lt k hk).1; omega)
    rw [vals_snoc, ← unhide hopn] at hown'
    have hlo : zs.length + 1 = (opn zs L).length := by rw [unhide hopn]; simp
    rw [hlo] at hown'
    have hsh : ∃ g cp, v' = .slice (some ⟨g, 0, none⟩) (opn zs L).length cp := by
      rcases hown'.2 with ⟨_, h0⟩ | ⟨g, cp, cur, e, _⟩
      · have := unhide hol; omega
      · exact ⟨g, cp, e⟩
    obtain ⟨g, cp, rfl⟩ := hsh
    have hgc := (hown'.lt g rfl).1
    have hO2 := hide (ownsRow_setCell_below hown' (a := ⟨c, 1, none⟩) (by simp) (.slice (some ⟨g, 0, none⟩) (opn zs L).length cp))
    have hS2 := hide (hS1.data (.slice (some ⟨g, 0, none⟩) (opn zs L).length cp))
    have hB2 := hide (hbel1.setCell (p := ⟨c, 1, none⟩) (by simp) (.slice (some ⟨g, 0, none⟩) (opn zs L).length cp))
    obtain ⟨t0, t1, t2, t3, t4, t5⟩ := hS1
    clear hown hown' hgrow hal hne hbel1 hlo hSh s0 s1 s2 s3 s4 s5 hi0 hz0 hz1 hz2 hopn
    go_wp2
    go_end0
    refine ⟨rfl, ⟨_, (unhide hS2).num _, ?_⟩, (unhide hB2).setCell (by simp) _⟩
    rw [addBit_zero _ _ _ (by have := unhide hol; omega)]
    exact ownsRow_setCell_below (unhide hO2) (by simp) _
  · have q8 : ((r : Int) == 0) = false := beq_eq_false_iff_ne.2 (by omega)
    have hopn : opn zs L = zs := by unfold opn; rw [if_neg h8]
    have hsh : ∃ g cp, v = .slice (some ⟨g, 0, none⟩) (opn zs L).length cp := by
      rcases hown.2 with ⟨_, h0⟩ | ⟨g, cp, cur, e, _⟩
      · have := unhide hlen; omega
      · exact ⟨g, cp, by rw [hopn]; exact e⟩
    rw [← hopn] at hown
    obtain ⟨g, cp, rfl⟩ := hsh
    have hgc := (hown.lt g rfl).1
    have hO2 := hide hown
    have hS2 := hSh
    have hB2 := hide (Below.refl c w)
    clear hown hi hopn hSh hi0 hz0 hz1 hz2
    replace hr' := hide hr'
    replace hii' := hide hii'
    clear h8
    go_enter Try.func92, Try.ntmps92
    go_wp2
    go_end0
    refine ⟨rfl, ⟨_, (unhide hS2).num _, ?_⟩, (unhide hB2).setCell (by simp) _⟩
    rw [addBit_zero _ _ _ (by have := unhide hol; omega)]
    exact ownsRow_setCell_below (unhide hO2) (by simp) _

set_option maxHeartbeats 4000000 in
set_option maxRecDepth 100000 in
theorem specBitF1 (zs : List Nat) (L c : Nat) (w : World) (hi : Inv false zs L) (hL : L ≤ 2097152) (hs : Sink w c (.bool false) zs L) :
    Calls Try.prog 92 #[.pointer (some ⟨c, 0, none⟩), .int .u64 1] w fun e w' => e = .returned (.tuple #[]) ∧ Sink w' c (.bool false) (addBit false zs L 1) ((L + 1 : Nat) : Int) ∧ Below c w w' := by
  obtain ⟨i0, hi0, hz0, hz1, hz2⟩ := info_parts infoB
  obtain ⟨v, hS, hown⟩ := hs
  have hlen := hide hi.1
  have hol := hide (opn_len hi)
  have hx := hide (opn_x hi)
  obtain ⟨s0, s1, s2, s3, s4, s5⟩ := hS
  have hSh : Hid (SinkAt w c (.bool false) v L) := ⟨s0, s1, s2, s3, s4, s5⟩
  obtain ⟨r, hr, hr'⟩ : ∃ r : Nat, (L : Int) % 8 = (r : Int) ∧ L % 8 = r := ⟨L % 8, by omega, rfl⟩
  obtain ⟨i, hii, hii'⟩ : ∃ i : Nat, (L : Int) / 8 = (i : Int) ∧ L / 8 = i := ⟨L / 8, by omega, rfl⟩
  have hr7 : r < 8 := by omega
  by_cases h8 : L % 8 = 0
  · have q8 : ((r : Int) == 0) = true := beq_iff_eq.2 (by omega)
    have hopn : opn zs L = zs ++ [0] := by unfold opn; rw [if_pos h8]
    replace hopn := hide hopn
    clear hi
    replace hr' := hide hr'
    replace hii' := hide hii'
    clear h8
    go_enter Try.func92, Try.ntmps92
    go_wp2_with (at_builtin; refine wpList_append_own _ rfl (.tmp 15) (.tmp 16) 22 rfl (c + 1) 5 i0 (.int .u8 0) 1 1 Try.underlying22 hi0 hz0 hz1 hz2 rfl (by decide) _ _ _ rfl (hown.alloc _) ⟨w.heap.size, 0, none⟩ 1 1 [.int .u8 0] rfl rfl (one_new w _) one_one (by have := unhide hlen; unfold maxLen; omega) (by have := unhide hlen; omega) (by simp; omega) ?_)
    intro v' w1 hown' hgrow _
    have hal := (unhide hSh).grown (World.grownBy_alloc w (.cells #[.int .u8 0] 5) none) (by simp)
    have hne : some c ≠ v.ownBlock := fun e => by have := (hown.lt c e.symm).1; omega
    have hS1 := hal.grown hgrow hne
    have hbel1 := ((Below.refl c w).alloc (by omega) (.cells #[.int .u8 0] 5)).grown hgrow (by simp; omega) (fun k hk => by have := (hown.lt k hk).1; omega)
    rw [vals_snoc, ← unhide hopn] at hown'
    have hlo : zs.length + 1 = (opn zs L).length := by rw [unhide hopn]; simp
    rw [hlo] at hown'
    have hsh : ∃ g cp, v' = .slice (some ⟨g, 0, none⟩) (opn zs L).length cp := by
      rcases hown'.2 with ⟨_, h0⟩ | ⟨g, cp, cur, e, _⟩
      · have := unhide hol; omega
      · exact ⟨g, cp, e⟩
    obtain ⟨g, cp, rfl⟩ := hsh
    have hgc := (hown'.lt g rfl).1
    have hO2 := hide (ownsRow_setCell_below hown' (a := ⟨c, 1, none⟩) (by simp) (.slice (some ⟨g, 0, none⟩) (opn zs L).length cp))
    have hS2 := hide (hS1.data (.slice (some ⟨g, 0, none⟩) (opn zs L).length cp))
    have hB2 := hide (hbel1.setCell (p := ⟨c, 1, none⟩) (by simp) (.slice (some ⟨g, 0, none⟩) (opn zs L).length cp))
    obtain ⟨t0, t1, t2, t3, t4, t5⟩ := hS1
    clear hown hown' hgrow hal hne hbel1 hlo hSh s0 s1 s2 s3 s4 s5 hi0 hz0 hz1 hz2 hopn
    go_wp2_with fail
    generalize w1.setCell ⟨c, 1, none⟩ (.slice (some ⟨g, 0, none⟩) (opn zs L).length cp) = wq at hS2 hO2 hB2 ⊢
    clear t0 t1 t2 t3 t4 t5
    have hck : wq.cell? ⟨g, i, none⟩ = some (.int .u8 ((opn zs L).getD (L / 8) 0 : Nat)) := by
      rw [(unhide hO2).cellAt i (by have := unhide hol; have := unhide hii'; omega), ← unhide hii']; exact vals_at _ _ (by have := unhide hol; omega)
    have hfz := (unhide hO2).frozenAt i
    have hil : (i : Int) < ((opn zs L).length : Int) := by have := unhide hol; have := unhide hii'; omega
    generalize hxe : (opn zs L).getD (L / 8) 0 = x at hck
    replace hxe := hide hxe
    have hSk := hide (unhide hS2)
    obtain ⟨u0, u1, u2, u3, u4, u5⟩ := unhide hS2
    have hA := hide (show addBit false zs L 1 = (opn zs L).set i (x + 1 * 2 ^ ex false r) by unfold addBit; rw [unhide hii', unhide hr', ← unhide hxe, unhide hii'])
    have hvv := hide (or_bit8 false x r (r) (by have := (unhide hx).1; rw [unhide hxe] at this; exact this) hr7 (by simp [ex]) (by have := (unhide hx).2; rw [unhide hxe, unhide hr'] at this; exact this))
    go_region
    go_wp2
    go_end0
    rw [unhide hvv]
    have hst := ((unhide hO2).stored i (.int .u8 ((x + 1 * 2 ^ ex false r : Nat) : Int))).1
    rw [vals_set] at hst
    refine ⟨rfl, ⟨_, (((unhide hSk).far (by omega)).num _).drew, ?_⟩, (((unhide hB2).setCell (p := ⟨g, i, none⟩) (by simp; omega) _).setCell (by simp) _).drew⟩
    rw [unhide hA, List.length_set]
    exact (ownsRow_setCell_below hst (by simp) _).drew
  · have q8 : ((r : Int) == 0) = false := beq_eq_false_iff_ne.2 (by omega)
    have hopn : opn zs L = zs := by unfold opn; rw [if_neg h8]
    have hsh : ∃ g cp, v = .slice (some ⟨g, 0, none⟩) (opn zs L).length cp := by
      rcases hown.2 with ⟨_, h0⟩ | ⟨g, cp, cur, e, _⟩
      · have := unhide hlen; omega
      · exact ⟨g, cp, by rw [hopn]; exact e⟩
    rw [← hopn] at hown
    obtain ⟨g, cp, rfl⟩ := hsh
    have hgc := (hown.lt g rfl).1
    have hO2 := hide hown
    have hS2 := hSh
    have hB2 := hide (Below.refl c w)
    clear hown hi hopn hSh hi0 hz0 hz1 hz2
    replace hr' := hide hr'
    replace hii' := hide hii'
    clear h8
    go_enter Try.func92, Try.ntmps92
    go_wp2_with fail
    clear s0 s1 s2 s3 s4 s5
    have hck : w.cell? ⟨g, i, none⟩ = some (.int .u8 ((opn zs L).getD (L / 8) 0 : Nat)) := by
      rw [(unhide hO2).cellAt i (by have := unhide hol; have := unhide hii'; omega), ← unhide hii']; exact vals_at _ _ (by have := unhide hol; omega)
    have hfz := (unhide hO2).frozenAt i
    have hil : (i : Int) < ((opn zs L).length : Int) := by have := unhide hol; have := unhide hii'; omega
    generalize hxe : (opn zs L).getD (L / 8) 0 = x at hck
    replace hxe := hide hxe
    have hSk := hide (unhide hS2)
    obtain ⟨u0, u1, u2, u3, u4, u5⟩ := unhide hS2
    have hA := hide (show addBit false zs L 1 = (opn zs L).set i (x + 1 * 2 ^ ex false r) by unfold addBit; rw [unhide hii', unhide hr', ← unhide hxe, unhide hii'])
    have hvv := hide (or_bit8 false x r (r) (by have := (unhide hx).1; rw [unhide hxe] at this; exact this) hr7 (by simp [ex]) (by have := (unhide hx).2; rw [unhide hxe, unhide hr'] at this; exact this))
    go_region
    go_wp2
    go_end0
    rw [unhide hvv]
    have hst := ((unhide hO2).stored i (.int .u8 ((x + 1 * 2 ^ ex false r : Nat) : Int))).1
    rw [vals_set] at hst
    refine ⟨rfl, ⟨_, (((unhide hSk).far (by omega)).num _).drew, ?_⟩, (((unhide hB2).setCell (p := ⟨g, i, none⟩) (by simp; omega) _).setCell (by simp) _).drew⟩
    rw [unhide hA, List.length_set]
    exact (ownsRow_setCell_below hst (by simp) _).drew

set_option maxHeartbeats 4000000 in
set_option maxRecDepth 100000 in
theorem specBitT0 (zs : List Nat) (L c : Nat) (w : World) (hi : Inv true zs L) (hL : L ≤ 2097152) (hs : Sink w c (.bool true) zs L) :
    Calls Try.prog 92 #[.pointer (some ⟨c, 0, none⟩), .int .u64 0] w fun e w' => e = .returned (.tuple #[]) ∧ Sink w' c (.bool true) (addBit true zs L 0) ((L + 1 : Nat) : Int) ∧ Below c w w' := by
  obtain ⟨i0, hi0, hz0, hz1, hz2⟩ := info_parts infoB
  obtain ⟨v, hS, hown⟩ := hs
  have hlen := hide hi.1
  have hol := hide (opn_len hi)
  have hx := hide (opn_x hi)
  obtain ⟨s0, s1, s2, s3, s4, s5⟩ := hS
  have hSh : Hid (SinkAt w c (.bool true) v L) := ⟨s0, s1, s2, s3, s4, s5⟩
  obtain ⟨r, hr, hr'⟩ : ∃ r : Nat, (L : Int) % 8 = (r : Int) ∧ L % 8 = r := ⟨L % 8, by omega, rfl⟩
  obtain ⟨i, hii, hii'⟩ : ∃ i : Nat, (L : Int) / 8 = (i : Int) ∧ L / 8 = i := ⟨L / 8, by omega, rfl⟩
  have hr7 : r < 8 := by omega
  by_cases h8 : L % 8 = 0
  · have q8 : ((r : Int) == 0) = true := beq_iff_eq.2 (by omega)
    have hopn : opn zs L = zs ++ [0] := by unfold opn; rw [if_pos h8]
    replace hopn := hide hopn
    clear hi
    replace hr' := hide hr'
    replace hii' := hide hii'
    clear h8
    go_enter Try.func92, Try.ntmps92
    go_wp2_with (at_builtin; refine wpList_append_own _ rfl (.tmp 15) (.tmp 16) 22 rfl (c + 1) 5 i0 (.int .u8 0) 1 1 Try.underlying22 hi0 hz0 hz1 hz2 rfl (by decide) _ _ _ rfl (hown.alloc _) ⟨w.heap.size, 0, none⟩ 1 1 [.int .u8 0] rfl rfl (one_new w _) one_one (by have := unhide hlen; unfold maxLen; omega) (by have := unhide hlen; omega) (by simp; omega) ?_)
    intro v' w1 hown' hgrow _
    have hal := (unhide hSh).grown (World.grownBy_alloc w (.cells #[.int .u8 0] 5) none) (by simp)
    have hne : some c ≠ v.ownBlock := fun e => by have := (hown.lt c e.symm).1; omega
    have hS1 := hal.grown hgrow hne
    have hbel1 := ((Below.refl c w).alloc (by omega) (.cells #[.int .u8 0] 5)).grown hgrow (by simp; omega) (fun k hk => by have := (hown.lt k hk).1; omega)
    rw [vals_snoc, ← unhide hopn] at hown'
    have hlo : zs.length + 1 = (opn zs L).length := by rw [unhide hopn]; simp
    rw [hlo] at hown'
    have hsh : ∃ g cp, v' = .slice (some ⟨g, 0, none⟩) (opn zs L).length cp := by
      rcases hown'.2 with ⟨_, h0⟩ | ⟨g, cp, cur, e, _⟩
      · have := unhide hol; omega
      · exact ⟨g, cp, e⟩
    obtain ⟨g, cp, rfl⟩ := hsh
    have hgc := (hown'.lt g rfl).1
    have hO2 := hide (ownsRow_setCell_below hown' (a := ⟨c, 1, none⟩) (by simp) (.slice (some ⟨g, 0, none⟩) (opn zs L).length cp))
    have hS2 := hide (hS1.data (.slice (some ⟨g, 0, none⟩) (opn zs L).length cp))
    have hB2 := hide (hbel1.setCell (p := ⟨c, 1, none⟩) (by simp) (.slice (some ⟨g, 0, none⟩) (opn zs L).length cp))
    obtain ⟨t0, t1, t2, t3, t4, t5⟩ := hS1
    clear hown hown' hgrow hal hne hbel1 hlo hSh s0 s1 s2 s3 s4 s5 hi0 hz0 hz1 hz2 hopn
    go_wp2
    go_end0
    refine ⟨rfl, ⟨_, (unhide hS2).num _, ?_⟩, (unhide hB2).setCell (by simp) _⟩
    rw [addBit_zero _ _ _ (by have := unhide hol; omega)]
    exact ownsRow_setCell_below (unhide hO2) (by simp) _
  · have q8 : ((r : Int) == 0) = false := beq_eq_false_iff_ne.2 (by omega)
    have hopn : opn zs L = zs := by unfold opn; rw [if_neg h8]
    have hsh : ∃ g cp, v = .slice (some ⟨g, 0, none⟩) (opn zs L).length cp := by
      rcases hown.2 with ⟨_, h0⟩ | ⟨g, cp, cur, e, _⟩
      · have := unhide hlen; omega
      · exact ⟨g, cp, by rw [hopn]; exact e⟩
    rw [← hopn] at hown
    obtain ⟨g, cp, rfl⟩ := hsh
    have hgc := (hown.lt g rfl).1
    have hO2 := hide hown
    have hS2 := hSh
    have hB2 := hide (Below.refl c w)
    clear hown hi hopn hSh hi0 hz0 hz1 hz2
    replace hr' := hide hr'
    replace hii' := hide hii'
    clear h8
    go_enter Try.func92, Try.ntmps92
    go_wp2
    go_end0
    refine ⟨rfl, ⟨_, (unhide hS2).num _, ?_⟩, (unhide hB2).setCell (by simp) _⟩
    rw [addBit_zero _ _ _ (by have := unhide hol; omega)]
    exact ownsRow_setCell_below (unhide hO2) (by simp) _

set_option maxHeartbeats 4000000 in
set_option maxRecDepth 100000 in
theorem specBitT1 (zs : List Nat) (L c : Nat) (w : World) (hi : Inv true zs L) (hL : L ≤ 2097152) (hs : Sink w c (.bool true) zs L) :
    Calls Try.prog 92 #[.pointer (some ⟨c, 0, none⟩), .int .u64 1] w fun e w' => e = .returned (.tuple #[]) ∧ Sink w' c (.bool true) (addBit true zs L 1) ((L + 1 : Nat) : Int) ∧ Below c w w' := by
  obtain ⟨i0, hi0, hz0, hz1, hz2⟩ := info_parts infoB
  obtain ⟨v, hS, hown⟩ := hs
  have hlen := hide hi.1
  have hol := hide (opn_len hi)
  have hx := hide (opn_x hi)
  obtain ⟨s0, s1, s2, s3, s4, s5⟩ := hS
  have hSh : Hid (SinkAt w c (.bool true) v L) := ⟨s0, s1, s2, s3, s4, s5⟩
  obtain ⟨r, hr, hr'⟩ : ∃ r : Nat, (L : Int) % 8 = (r : Int) ∧ L % 8 = r := ⟨L % 8, by omega, rfl⟩
  obtain ⟨i, hii, hii'⟩ : ∃ i : Nat, (L : Int) / 8 = (i : Int) ∧ L / 8 = i := ⟨L / 8, by omega, rfl⟩
  have hr7 : r < 8 := by omega
  by_cases h8 : L % 8 = 0
  · have q8 : ((r : Int) == 0) = true := beq_iff_eq.2 (by omega)
    have hopn : opn zs L = zs ++ [0] := by unfold opn; rw [if_pos h8]
    replace hopn := hide hopn
    clear hi
    replace hr' := hide hr'
    replace hii' := hide hii'
    clear h8
    go_enter Try.func92, Try.ntmps92
    go_wp2_with (at_builtin; refine wpList_append_own _ rfl (.tmp 15) (.tmp 16) 22 rfl (c + 1) 5 i0 (.int .u8 0) 1 1 Try.underlying22 hi0 hz0 hz1 hz2 rfl (by decide) _ _ _ rfl (hown.alloc _) ⟨w.heap.size, 0, none⟩ 1 1 [.int .u8 0] rfl rfl (one_new w _) one_one (by have := unhide hlen; unfold maxLen; omega) (by have := unhide hlen; omega) (by simp; omega) ?_)
    intro v' w1 hown' hgrow _
    have hal := (unhide hSh).grown (World.grownBy_alloc w (.cells #[.int .u8 0] 5) none) (by simp)
    have hne : some c ≠ v.ownBlock := fun e => by have := (hown.lt c e.symm).1; omega
    have hS1 := hal.grown hgrow hne
    have hbel1 := ((Below.refl c w).alloc (by omega) (.cells #[.int .u8 0] 5)).grown hgrow (by simp; omega) (fun k hk => by have := (hown.lt k hk).1; omega)
    rw [vals_snoc, ← unhide hopn] at hown'
    have hlo : zs.length + 1 = (opn zs L).length := by rw [unhide hopn]; simp
    rw [hlo] at hown'
    have hsh : ∃ g cp, v' = .slice (some ⟨g, 0, none⟩) (opn zs L).length cp := by
      rcases hown'.2 with ⟨_, h0⟩ | ⟨g, cp, cur, e, _⟩
      · have := unhide hol; omega
      · exact ⟨g, cp, e⟩
    obtain ⟨g, cp, rfl⟩ := hsh
    have hgc := (hown'.lt g rfl).1
    have hO2 := hide (ownsRow_setCell_below hown' (a := ⟨c, 1, none⟩) (by simp) (.slice (some ⟨g, 0, none⟩) (opn zs L).length cp))
    have hS2 := hide (hS1.data (.slice (some ⟨g, 0, none⟩) (opn zs L).length cp))
    have hB2 := hide (hbel1.setCell (p := ⟨c, 1, none⟩) (by simp) (.slice (some ⟨g, 0, none⟩) (opn zs L).length cp))
    obtain ⟨t0, t1, t2, t3, t4, t5⟩ := hS1
    clear hown hown' hgrow hal hne hbel1 hlo hSh s0 s1 s2 s3 s4 s5 hi0 hz0 hz1 hz2 hopn
    go_wp2_with fail
    generalize w1.setCell ⟨c, 1, none⟩ (.slice (some ⟨g, 0, none⟩) (opn zs L).length cp) = wq at hS2 hO2 hB2 ⊢
    clear t0 t1 t2 t3 t4 t5
    have hck : wq.cell? ⟨g, i, none⟩ = some (.int .u8 ((opn zs L).getD (L / 8) 0 : Nat)) := by
      rw [(unhide hO2).cellAt i (by have := unhide hol; have := unhide hii'; omega), ← unhide hii']; exact vals_at _ _ (by have := unhide hol; omega)
    have hfz := (unhide hO2).frozenAt i
    have hil : (i : Int) < ((opn zs L).length : Int) := by have := unhide hol; have := unhide hii'; omega
    generalize hxe : (opn zs L).getD (L / 8) 0 = x at hck
    replace hxe := hide hxe
    have hSk := hide (unhide hS2)
    obtain ⟨u0, u1, u2, u3, u4, u5⟩ := unhide hS2
    have hA := hide (show addBit true zs L 1 = (opn zs L).set i (x + 1 * 2 ^ ex true r) by unfold addBit; rw [unhide hii', unhide hr', ← unhide hxe, unhide hii'])
    have hvv := hide (or_bit8 true x r (7 - r) (by have := (unhide hx).1; rw [unhide hxe] at this; exact this) hr7 (by simp [ex]) (by have := (unhide hx).2; rw [unhide hxe, unhide hr'] at this; exact this))
    go_region
    go_wp2
    go_end0
    rw [unhide hvv]
    have hst := ((unhide hO2).stored i (.int .u8 ((x + 1 * 2 ^ ex true r : Nat) : Int))).1
    rw [vals_set] at hst
    refine ⟨rfl, ⟨_, (((unhide hSk).far (by omega)).num _).drew, ?_⟩, (((unhide hB2).setCell (p := ⟨g, i, none⟩) (by simp; omega) _).setCell (by simp) _).drew⟩
    rw [unhide hA, List.length_set]
    exact (ownsRow_setCell_below hst (by simp) _).drew
  · have q8 : ((r : Int) == 0) = false := beq_eq_false_iff_ne.2 (by omega)
    have hopn : opn zs L = zs := by unfold opn; rw [if_neg h8]
    have hsh : ∃ g cp, v = .slice (some ⟨g, 0, none⟩) (opn zs L).length cp := by
      rcases hown.2 with ⟨_, h0⟩ | ⟨g, cp, cur, e, _⟩
      · have := unhide hlen; omega
      · exact ⟨g, cp, by rw [hopn]; exact e⟩
    rw [← hopn] at hown
    obtain ⟨g, cp, rfl⟩ := hsh
    have hgc := (hown.lt g rfl).1
    have hO2 := hide hown
    have hS2 := hSh
    have hB2 := hide (Below.refl c w)
    clear hown hi hopn hSh hi0 hz0 hz1 hz2
    replace hr' := hide hr'
    replace hii' := hide hii'
    clear h8
    go_enter Try.func92, Try.ntmps92
    go_wp2_with fail
    clear s0 s1 s2 s3 s4 s5
    have hck : w.cell? ⟨g, i, none⟩ = some (.int .u8 ((opn zs L).getD (L / 8) 0 : Nat)) := by
      rw [(unhide hO2).cellAt i (by have := unhide hol; have := unhide hii'; omega), ← unhide hii']; exact vals_at _ _ (by have := unhide hol; omega)
    have hfz := (unhide hO2).frozenAt i
    have hil : (i : Int) < ((opn zs L).length : Int) := by have := unhide hol; have := unhide hii'; omega
    generalize hxe : (opn zs L).getD (L / 8) 0 = x at hck
    replace hxe := hide hxe
    have hSk := hide (unhide hS2)
    obtain ⟨u0, u1, u2, u3, u4, u5⟩ := unhide hS2
    have hA := hide (show addBit true zs L 1 = (opn zs L).set i (x + 1 * 2 ^ ex true r) by unfold addBit; rw [unhide hii', unhide hr', ← unhide hxe, unhide hii'])
    have hvv := hide (or_bit8 true x r (7 - r) (by have := (unhide hx).1; rw [unhide hxe] at this; exact this) hr7 (by simp [ex]) (by have := (unhide hx).2; rw [unhide hxe, unhide hr'] at this; exact this))
    go_region
    go_wp2
    go_end0
    rw [unhide hvv]
    have hst := ((unhide hO2).stored i (.int .u8 ((x + 1 * 2 ^ ex true r : Nat) : Int))).1
    rw [vals_set] at hst
    refine ⟨rfl, ⟨_, (((unhide hSk).far (by omega)).num _).drew, ?_⟩, (((unhide hB2).setCell (p := ⟨g, i, none⟩) (by simp; omega) _).setCell (by simp) _).drew⟩
    rw [unhide hA, List.length_set]
    exact (ownsRow_setCell_below hst (by simp) _).drew

end Go.Proofs.Ytnoojbppfbmbgaa
