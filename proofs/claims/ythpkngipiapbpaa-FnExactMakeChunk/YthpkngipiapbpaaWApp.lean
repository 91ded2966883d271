/- Appending bytes to a row of the call's own, whatever slice they come in. -/
import Derived.Test.YthpkngipiapbpaaWByts
import Derived.Test.YthpkngipiapbpaaPlainCh
import Derived.Maps.AppendAt
import Derived.Laws.AppendOwnNone
import Derived.Lib.AppendStr
import Derived.Laws.IdiomStrings
namespace Go.Proofs.Ythpkngipiapbpaa
open Go.RowKit

theorem byts_append (a b : List Int) : byts (a ++ b) = byts a ++ byts b := by simp [byts]
theorem byts_one (zs : List Int) : ∀ u ∈ byts zs, u.oneCell' = true := by
  intro u hu
  simp only [byts, List.mem_map] at hu
  obtain ⟨b, _, rfl⟩ := hu
  rfl
theorem byts_cells {w : World} {b off : Nat} {ys : List Int} (h : KindAt .u8 w b off ys) : ∀ j u, (byts ys)[j]? = some u → w.cell? ((⟨b, off, none⟩ : Addr).add j) = some u := by
  intro j u hu
  rw [add_cellA]
  have hj : j < ys.length := by
    rcases Nat.lt_or_ge j ys.length with h' | h'
    · exact h'
    · rw [List.getElem?_eq_none (by rw [byts_length]; exact h')] at hu; cases hu
  have := getD_map_int ys .u8 j hj
  unfold byts at hu
  rw [this] at hu
  cases hu
  exact h j hj
where
  add_cellA {g o j : Nat} : (⟨g, o, none⟩ : Addr).add j = ⟨g, o + j, none⟩ := by unfold Addr.add; split <;> simp_all

/-- Bytes that can be read: nil, or in the cells of a block. -/
def RdN (w : World) (u : Value) (ys : List Int) : Prop := (u = .slice none 0 0 ∧ ys = []) ∨ ∃ b off cap, u = .slice (some ⟨b, off, none⟩) ys.length cap ∧ b < w.heap.size ∧ KindAt .u8 w b off ys
theorem RdN.below {w w' : World} {u : Value} {ys : List Int} (h : RdN w u ys) (hb : Below w.heap.size w w') : RdN w' u ys := by
  rcases h with h | ⟨b, off, cap, e, hl, hc⟩
  · exact .inl h
  · exact .inr ⟨b, off, cap, e, Nat.lt_of_lt_of_le hl hb.size, fun j hj => (hb.cell (by simpa using hl)).trans (hc j hj)⟩
theorem RdN.form {w : World} {u : Value} {ys : List Int} (h : RdN w u ys) : ∃ ad cap, u = .slice ad ys.length cap := by
  rcases h with ⟨rfl, rfl⟩ | ⟨b, off, cap, rfl, _⟩
  · exact ⟨_, _, rfl⟩
  · exact ⟨_, _, rfl⟩
theorem RdN.argB {w : World} {ad : Option Addr} {cap : Nat} {ys : List Int} (h : RdN w (.slice ad ys.length cap) ys) (hB : InB ys) : ArgB w ad ys := by
  refine ⟨hB, fun hne => ?_⟩
  rcases h with ⟨_, rfl⟩ | ⟨b, off, cap', e, hl, hc⟩
  · exact absurd rfl hne
  · cases e; exact ⟨b, off, rfl, hl, hc⟩
theorem inB_append {a b : List Int} (ha : InB a) (hb : InB b) : InB (a ++ b) := by
  intro j
  rcases Nat.lt_or_ge j a.length with h | h
  · have := ha j
    rw [List.getD_eq_getElem?_getD] at this ⊢
    rw [List.getElem?_append_left h]; exact this
  · have := hb (j - a.length)
    rw [List.getD_eq_getElem?_getD] at this ⊢
    rw [List.getElem?_append_right h]; exact this
theorem inB_strB (s : ByteArray) : InB (strB s) := by
  intro j
  rcases Nat.lt_or_ge j s.size with h | h
  · rw [strB_getD s j h]; have := (s[j]'h).toNat_lt; omega
  · rw [List.getD_eq_getElem?_getD, List.getElem?_eq_none (by rw [strB_length]; exact h)]; simp
theorem rdN_of_owns {w : World} {base : Nat} {v : Value} {zs : List Int} (h : w.ownsRow base 5 1 v zs.length (byts zs)) : RdN w v zs := by
  rcases h.2 with ⟨rfl, hn⟩ | ⟨g, cap, cur, rfl, h1, h2, h3⟩
  · exact .inl ⟨rfl, List.length_eq_zero_iff.1 hn⟩
  · refine .inr ⟨g, 0, cap, rfl, (h.lt g rfl).2, fun j hj => ?_⟩
    rw [Nat.zero_add, h.cellAt j (by omega)]
    exact getD_map_int zs .u8 j hj
theorem rdN_of_own {w : World} {a b : Nat} {v : Value} {zs : List Int} (h : OwnY w a b v zs) : RdN w v zs := rdN_of_owns h.1

theorem wpList_appY {ops : Array Oper} {rest : List Oper} {o : Oper} {a : Act} {Q : Exit → Act → World → Prop} {w : World} (hgd : o.guard = none) (s x : Operand)
    (ho : o.op = .call { callee := .builtin .append, args := #[s, x], argTypes := #[22, 22] }) (base : Nat) (v : Value) (zs : List Int) (hs : a.eval s = v)
    (hown : w.ownsRow base 5 1 v zs.length (byts zs)) (u : Value) (ys : List Int) (hx : a.eval x = u) (hr : RdN w u ys) (h63 : zs.length + ys.length ≤ 1099511627776) (hbase : base ≤ w.heap.size)
    (h : ∀ v' w', w'.ownsRow base 5 1 v' (zs ++ ys).length (byts (zs ++ ys)) → w.grownBy w' v.ownBlock → (v'.ownBlock = v.ownBlock ∨ v'.ownBlock = some w.heap.size) → wpList Try.prog ops Q rest (a.put o.dst v') w') :
    wpList Try.prog ops Q (o :: rest) a w := by
  obtain ⟨i0, hi0, hz0, hz1, hz2⟩ := info_parts infoB
  rcases hr with ⟨rfl, rfl⟩ | ⟨b, off, cap, rfl, hl, hc⟩
  · refine wpList_append_own_none hgd s x 22 ho base 5 i0 1 Try.underlying22 hi0 v _ _ hs hown hx ?_
    refine h v w ?_ ⟨rfl, rfl, rfl, Nat.le_refl _, fun _ _ _ => rfl⟩ (.inl rfl)
    rw [List.append_nil]; exact hown
  · refine wpList_append_own_at _ hgd s x 22 ho base 5 i0 (.int .u8 0) 1 1 Try.underlying22 hi0 hz0 hz1 hz2 rfl (by decide) v zs.length (byts zs) hs hown ⟨b, off, none⟩ ys.length cap (byts ys) hx (by rw [byts_length]; omega) (byts_cells hc) (byts_one ys) (by unfold maxLen; omega) (by omega) hbase ?_
    intro v' w' h1 h2 _ h4
    refine h v' w' ?_ h2 h4
    rw [List.length_append, byts_append]; exact h1

theorem strCells_byts (s : ByteArray) : Lib.strCells s = byts (strB s) := by unfold Lib.strCells byts strB; simp
theorem wpList_appS {ops : Array Oper} {rest : List Oper} {o : Oper} {a : Act} {Q : Exit → Act → World → Prop} {w : World} (hgd : o.guard = none) (sl x : Operand)
    (ho : o.op = .call { callee := .builtin .append, args := #[sl, x], argTypes := #[22, 9] }) (base : Nat) (v : Value) (zs : List Int) (hs : a.eval sl = v)
    (hown : w.ownsRow base 5 1 v zs.length (byts zs)) (s : ByteArray) (hx : a.eval x = .string s) (h63 : zs.length + s.size ≤ 1099511627776) (hbase : base ≤ w.heap.size)
    (h : ∀ v' w', w'.ownsRow base 5 1 v' (zs ++ strB s).length (byts (zs ++ strB s)) → w.grownBy w' v.ownBlock → wpList Try.prog ops Q rest (a.put o.dst v') w') :
    wpList Try.prog ops Q (o :: rest) a w := by
  obtain ⟨i0, hi0, hz0, hz1, hz2⟩ := info_parts infoB
  refine Lib.wpList_append_own_string _ hgd sl x 22 9 ho base 5 i0 Try.underlying22 Try.underlying9 hi0 hz0 hz1 hz2 v zs.length (byts zs) hs hown s hx (by unfold maxLen; omega) (by omega) hbase ?_
  intro v' w' h1 h2 _
  refine h v' w' ?_ h2
  rw [List.length_append, byts_append, strB_length, ← strCells_byts]; exact h1
theorem own_nilY (w : World) (a b : Nat) : OwnY w a b (.slice none 0 0) [] := ⟨World.ownsRow_nil _ _ _ _, fun k hk => by simp [Value.ownBlock] at hk⟩
theorem upd_of_grown {w w' : World} {a : Nat} {e : TypeId} {s : Nat} {v : Value} {n : Nat} {xs : List Value} (hg : w.grownBy w' v.ownBlock) (ho : w.ownsRow a e s v n xs) : Upd a w.heap.size w w' :=
  ⟨hg.os, hg.tape, hg.output, hg.size, fun k hk hn => hg.block k hk (fun e => by have := ho.lt k e.symm; omega)⟩
theorem byts_nats (l : List Nat) : byts (l.map (fun n : Nat => (n : Int))) = vals l := by unfold byts vals; simp
/-- A text's bytes, laid anew. -/
theorem bytesOfStr (s : ByteArray) (w : World) : ∃ cp w2, (convert 9 22 (.string s)).run Try.prog w = .ok (.slice (some ⟨w.heap.size, 0, none⟩) s.size cp) w2 ∧ RdN w2 (.slice (some ⟨w.heap.size, 0, none⟩) s.size cp) (strB s) ∧ Upd 0 0 w w2 ∧ w.heap.size < w2.heap.size := by
  refine ⟨_, _, run_bytes_of_string (P := Try.prog) w 9 22 5 s Try.underlying9 Try.underlying22 Try.underlying5, ?_, ?_, ?_⟩
  · refine .inr ⟨w.heap.size, 0, _, by rw [strB_length], ?_, ?_⟩
    · exact (Array.getElem?_eq_some_iff.1 (heap_alloc_new w.drew _)).1
    · intro j hj
      rw [strB_length] at hj
      have := World.cell?_alloc_mark w.drew (bytesRow s (grownCap w s.size 0 5)) 5 ((bytesRow s (grownCap w s.size 0 5)).size, (bytesRow s (grownCap w s.size 0 5)).size + 1) j
      rw [Nat.zero_add, strB_getD s j hj]
      exact this.trans (bytesRow_at s _ j (by simpa using hj))
  · exact (Upd.of_below (Below.alloc (⟨rfl, rfl, rfl, Nat.le_refl _, fun _ _ => rfl⟩ : Below w.heap.size w w.drew) (Nat.le_refl _) _) 0 0)
  · exact (Array.getElem?_eq_some_iff.1 (heap_alloc_new w.drew _)).1
end Go.Proofs.Ythpkngipiapbpaa
