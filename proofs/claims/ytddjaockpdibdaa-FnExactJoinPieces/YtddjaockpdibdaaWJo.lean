/- The program's joiner of bytes: a struct of an owned row and a limit, at some cell of a block; one byte more. -/
import Derived.Test.YtddjaockpdibdaaPlainJ
import Derived.Test.YtddjaockpdibdaaWByts
import Derived.Deep.RegionWith
import Derived.Maps.AppendAt
namespace Go.Proofs.Ytddjaockpdibdaa
open Go.RowKit

def JoAt (w : World) (c o : Nat) (v : Value) (most : Nat) : Prop := c < w.heap.size ∧ w.cell? ⟨c, o, none⟩ = some v ∧ w.cell? ⟨c, o + 1, none⟩ = some (.int .i64 most) ∧ w.frozen? ⟨c, o, none⟩ = false
/-- The joiner at cell o of block c, its bytes in block g. -/
def Jo (w : World) (c o : Nat) (g : Option Nat) (l : List Int) (most : Nat) : Prop := ∃ v, v.ownBlock = g ∧ JoAt w c o v most ∧ w.ownsRow (c + 1) 5 1 v l.length (byts l)
/-- What a joiner's steps leave: all blocks but c and its row, and in c all cells but o. -/
structure GrowJ (c o : Nat) (g g' : Option Nat) (w w' : World) : Prop where
  os : w'.os = w.os
  tape : w'.tape = w.tape
  output : w'.output = w.output
  size : w.heap.size ≤ w'.heap.size
  block : ∀ k, k < w.heap.size → k ≠ c → some k ≠ g → w'.heap[k]? = w.heap[k]?
  here : ∀ j, j ≠ o → w'.cell? ⟨c, j, none⟩ = w.cell? ⟨c, j, none⟩
  fr : ∀ j, w'.frozen? ⟨c, j, none⟩ = w.frozen? ⟨c, j, none⟩
  row : g' = g ∨ ∃ k, g' = some k ∧ w.heap.size ≤ k
theorem GrowJ.refl (c o : Nat) (g : Option Nat) (w : World) : GrowJ c o g g w w := ⟨rfl, rfl, rfl, Nat.le_refl _, fun _ _ _ _ => rfl, fun _ _ => rfl, fun _ => rfl, .inl rfl⟩
theorem GrowJ.trans {c o : Nat} {g g' g'' : Option Nat} {a w w' : World} (h : GrowJ c o g g' a w) (k : GrowJ c o g' g'' w w') : GrowJ c o g g'' a w' := by
  refine ⟨k.os.trans h.os, k.tape.trans h.tape, k.output.trans h.output, Nat.le_trans h.size k.size, fun i hi hc hg => (k.block i (Nat.lt_of_lt_of_le hi h.size) hc ?_).trans (h.block i hi hc hg), fun j hj => (k.here j hj).trans (h.here j hj), fun j => (k.fr j).trans (h.fr j), ?_⟩
  · rcases h.row with e | ⟨m, e, hm⟩
    · rw [e]; exact hg
    · rw [e]; intro h'; injection h' with h'; omega
  · rcases k.row with e | ⟨m, e, hm⟩
    · rw [e]; exact h.row
    · exact .inr ⟨m, e, Nat.le_trans h.size hm⟩
theorem GrowJ.drewN {c o : Nat} {g g' : Option Nat} {a w : World} (h : GrowJ c o g g' a w) (n : Nat) : GrowJ c o g g' a (w.drewN n) :=
  h.trans ⟨rfl, rfl, rfl, Nat.le_refl _, fun _ _ _ _ => rfl, fun _ _ => rfl, fun _ => rfl, .inl rfl⟩
theorem GrowJ.setCell {c o : Nat} {g g' : Option Nat} {a w : World} (h : GrowJ c o g g' a w) (u : Value) : GrowJ c o g g' a (w.setCell ⟨c, o, none⟩ u) :=
  ⟨h.os, h.tape, h.output, by simpa using h.size, fun k hk hc hg => (Below.heap_setCell w ⟨c, o, none⟩ u k hc).trans (h.block k hk hc hg), fun j hj => (World.cell?_setCell_other _ _ _ _ (by simp)).trans (h.here j hj), fun j => (World.frozen?_setCell _ _ _ _).trans (h.fr j), h.row⟩
theorem GrowJ.below {c o : Nat} {g g' : Option Nat} {w w' : World} (h : GrowJ c o g g' w w') (hg : ∀ k, g = some k → c < k) (hc : c < w.heap.size) : Below c w w' :=
  ⟨h.os, h.tape, h.output, h.size, fun k hk => h.block k (by omega) (by omega) (fun e => by have := hg k e.symm; omega)⟩
theorem Jo.drewN {w : World} {c o : Nat} {g : Option Nat} {l : List Int} {most : Nat} (h : Jo w c o g l most) (n : Nat) : Jo (w.drewN n) c o g l most := h
theorem Jo.row {w : World} {c o : Nat} {g : Option Nat} {l : List Int} {most : Nat} (h : Jo w c o g l most) : ∀ k, g = some k → c < k := by
  obtain ⟨v, hv, _, ho⟩ := h
  intro k e
  have := (ho.lt k (hv.trans e)).1
  omega
theorem byts_snoc (l : List Int) (x : Int) : byts l ++ [.int .u8 x] = byts (l ++ [x]) := by unfold byts; simp
theorem one_newY (w : World) (u : Value) : ∀ j v, [u][j]? = some v → (w.alloc (.cells #[u] 5)).cell? ((⟨w.heap.size, 0, none⟩ : Addr).add j) = some v := by
  intro j v hj
  match j, hj with
  | 0, hj => simp at hj; subst hj; simp [Addr.add]
theorem one_oneY (x : Int) : ∀ u ∈ [Value.int .u8 x], u.oneCell' = true := by intro u hu; simp at hu; subst hu; rfl

set_option maxHeartbeats 1000000 in
theorem joFull (c o most : Nat) (g : Option Nat) (l : List Int) (x : Int) (w : World) (h : Jo w c o g l most) (hl : l.length = most) :
    Calls Try.prog 104 #[.pointer (some ⟨c, o, none⟩), .int .u8 x] w fun e w' => e = .returned (.int .i64 7) ∧ ∃ nq, w' = w.drewN nq := by
  obtain ⟨v, hv, ⟨h0, h1, h2, h3⟩, ho⟩ := h
  obtain ⟨ad, cap, rfl, hA⟩ := OwnY.rd (Own.of ho)
  clear hA ho hv
  have q : ((l.length : Int) == (most : Int)) = true := by simp; omega
  go_enter Try.func104, Try.ntmps104
  go_wp2_with fail
  go_quiet (fail)
  go_wp2
  go_ret
  exact ⟨rfl, _, rfl⟩

set_option maxHeartbeats 2000000 in
theorem joAdd (c o most : Nat) (g : Option Nat) (l : List Int) (x : Int) (w : World) (h : Jo w c o g l most) (hm : most ≤ 40000) (hl : l.length < most) :
    Calls Try.prog 104 #[.pointer (some ⟨c, o, none⟩), .int .u8 x] w fun e w' => e = .returned (.int .i64 0) ∧ ∃ g', Jo w' c o g' (l ++ [x]) most ∧ GrowJ c o g g' w w' := by
  obtain ⟨i0, hi0, hz0, hz1, hz2⟩ := info_parts infoB
  obtain ⟨v, hv, ⟨h0, h1, h2, h3⟩, hown⟩ := h
  obtain ⟨ad, cap, hve, hA⟩ := OwnY.rd (Own.of hown)
  clear hA
  have q : ((l.length : Int) == (most : Int)) = false := by simp; omega
  subst hve
  go_enter Try.func104, Try.ntmps104
  go_wp2_with fail
  go_quiet (fail)
  go_wp2_with (at_builtin; refine wpList_append_own_at _ rfl (.tmp 19) (.tmp 21) 22 rfl (c + 1) 5 i0 (.int .u8 0) 1 1 Try.underlying22 hi0 hz0 hz1 hz2 rfl (by decide) _ _ _ rfl ((show (w.drewN nq).ownsRow (c + 1) 5 1 _ l.length (byts l) from hown).alloc _) ⟨(w.drewN nq).heap.size, 0, none⟩ 1 1 [.int .u8 x] rfl rfl (one_newY (w.drewN nq) _) (one_oneY x) (by unfold maxLen; omega) (by omega) (by simp; omega) ?_)
  intro v' w1 hown' hgrow _ hblk
  have hal : GrowJ c o g g w ((w.drewN nq).alloc (.cells #[.int .u8 x] 5)) := ⟨rfl, rfl, rfl, by simp, fun k hk _ _ => (Below.heap_alloc (w.drewN nq) _ k (by simpa using hk)).trans rfl, fun j _ => (World.cell?_alloc_past _ _ _ (by simpa using h0)).trans rfl, fun j => (World.frozen?_alloc_past _ _ _ (by simpa using h0)).trans rfl, .inl rfl⟩
  have hsh : ∃ g2 cp, v' = .slice (some ⟨g2, 0, none⟩) (l.length + 1) cp := by
    rcases hown'.2 with ⟨_, h0'⟩ | ⟨g2, cp, cur, e, _⟩
    · omega
    · exact ⟨g2, cp, e⟩
  obtain ⟨g2, cp, rfl⟩ := hsh
  have hcg : some c ≠ g := fun e => by have := (hown.lt c (hv.trans e.symm)).1; omega
  have hcW : c < ((w.drewN nq).alloc (.cells #[.int .u8 x] 5)).heap.size := by simp; omega
  have hcb := hgrow.block c hcW hcg
  have hg1 : Hid (GrowJ c o g (Value.slice (some ⟨g2, 0, none⟩) (l.length + 1) cp).ownBlock w w1) := hide ⟨hgrow.os.trans hal.os, hgrow.tape.trans hal.tape, hgrow.output.trans hal.output, Nat.le_trans hal.size hgrow.size, fun k hk hc hg => (hgrow.block k (Nat.lt_of_lt_of_le hk hal.size) hg).trans (hal.block k hk hc hg),
    fun j hj => (World.cell?_of_block (a := ⟨c, j, none⟩) hcb).trans (hal.here j hj), fun j => (World.frozen?_of_block (a := ⟨c, j, none⟩) hcb).trans (hal.fr j), by rcases hblk with e | e; exact .inl e; exact .inr ⟨_, e, by omega⟩⟩
  have e1 : w1.cell? ⟨c, o, none⟩ = some (.slice ad l.length cap) := (World.cell?_of_block (a := ⟨c, o, none⟩) hcb).trans ((World.cell?_alloc_past _ _ _ h0).trans h1)
  have e2 : w1.cell? ⟨c, o + 1, none⟩ = some (.int .i64 most) := ((unhide hg1).here (o + 1) (by omega)).trans h2
  have e3 : w1.frozen? ⟨c, o, none⟩ = false := ((unhide hg1).fr o).trans h3
  have e0 : c < w1.heap.size := Nat.lt_of_lt_of_le hcW hgrow.size
  rw [byts_snoc] at hown'
  have hJ : Hid (Jo (w1.setCell ⟨c, o, none⟩ (.slice (some ⟨g2, 0, none⟩) (l.length + 1) cp)) c o (Value.slice (some ⟨g2, 0, none⟩) (l.length + 1) cp).ownBlock (l ++ [x]) most) := by
    refine hide ⟨_, rfl, ⟨by simpa using e0, World.cell?_setCell_same _ _ _ e1, ?_, (World.frozen?_setCell _ _ _ _).trans e3⟩, ?_⟩
    · rw [World.cell?_setCell_other _ _ _ _ (by simp)]; exact e2
    · rw [List.length_append]; exact ownsRow_setCell_below hown' (by simp) _
  have hg2 := hide ((unhide hg1).setCell (.slice (some ⟨g2, 0, none⟩) (l.length + 1) cp))
  clear hg1 hgrow hal hown hown' hcb hcg hcW hblk e2 h1 h2 h3 hi0 hz0 hz1 hz2
  go_wp2
  go_ret
  exact ⟨rfl, _, unhide hJ, unhide hg2⟩
end Go.Proofs.Ytddjaockpdibdaa
