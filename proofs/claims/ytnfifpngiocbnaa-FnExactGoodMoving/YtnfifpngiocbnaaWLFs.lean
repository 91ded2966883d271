/- Lists of Frames, each with a list of its own; the walks of the laws' own helpers on them. -/
import Derived.Test.YtnfifpngiocbnaaWFr
import Derived.Test.YtnfifpngiocbnaaWHeld
import Derived.Test.YtnfifpngiocbnaaWOwn2
import Derived.Deep.RegionWith
namespace Go.Proofs.Ytnfifpngiocbnaa
open Go.RowKit

abbrev Fs := List Fr
abbrev Fr0 : Fr := (0, 0, 0, 0, 0, 0, 0, [])
abbrev Fss (d : Fr) : List Int := d.2.2.2.2.2.2.2
def RowFs (ys : List Value) (ds : Fs) (vs : Nat → Value) (k : Nat) : Prop := ∀ j, j < k → ys[j * 8]? = some (.int .i64 (ds.getD j Fr0).1) ∧ ys[j * 8 + 1]? = some (.int .i64 (ds.getD j Fr0).2.1) ∧ ys[j * 8 + 2]? = some (.int .i64 (ds.getD j Fr0).2.2.1) ∧ ys[j * 8 + 3]? = some (.int .i64 (ds.getD j Fr0).2.2.2.1) ∧ ys[j * 8 + 4]? = some (.int .i64 (ds.getD j Fr0).2.2.2.2.1) ∧ ys[j * 8 + 5]? = some (.int .i64 (ds.getD j Fr0).2.2.2.2.2.1) ∧ ys[j * 8 + 6]? = some (.int .i64 (ds.getD j Fr0).2.2.2.2.2.2.1) ∧ ys[j * 8 + 7]? = some ((vs j))
/-- No two of the lists lie in one block. -/
def DistFs (vs : Nat → Value) (k : Nat) : Prop := ∀ i j, i < k → j < k → i ≠ j → ∀ g, (vs i).ownBlock = some g → (vs j).ownBlock ≠ some g
def OwnFs (w : World) (a b : Nat) (v : Value) (ds : Fs) : Prop := ∃ (ys : List Value) (vs : Nat → Value), Own 49 8 w a b v ds.length ys ∧ RowFs ys ds vs ds.length ∧
  (∀ j, j < ds.length → OwnI w a b (vs j) (Fss (ds.getD j Fr0))) ∧ DistFs vs ds.length ∧ ∀ j, j < ds.length → ∀ g, (vs j).ownBlock = some g → v.ownBlock ≠ some g
def AtFs (w : World) (b off : Nat) (ds : Fs) (vs : Nat → Value) : Prop := ∀ j, j < ds.length → w.cell? ⟨b, off + j * 8, none⟩ = some (.int .i64 (ds.getD j Fr0).1) ∧ w.cell? ⟨b, off + j * 8 + 1, none⟩ = some (.int .i64 (ds.getD j Fr0).2.1) ∧ w.cell? ⟨b, off + j * 8 + 2, none⟩ = some (.int .i64 (ds.getD j Fr0).2.2.1) ∧ w.cell? ⟨b, off + j * 8 + 3, none⟩ = some (.int .i64 (ds.getD j Fr0).2.2.2.1) ∧ w.cell? ⟨b, off + j * 8 + 4, none⟩ = some (.int .i64 (ds.getD j Fr0).2.2.2.2.1) ∧ w.cell? ⟨b, off + j * 8 + 5, none⟩ = some (.int .i64 (ds.getD j Fr0).2.2.2.2.2.1) ∧ w.cell? ⟨b, off + j * 8 + 6, none⟩ = some (.int .i64 (ds.getD j Fr0).2.2.2.2.2.2.1) ∧ w.cell? ⟨b, off + j * 8 + 7, none⟩ = some ((vs j))
def ArgFs (w : World) (ad : Option Addr) (ds : Fs) : Prop := ds ≠ [] → ∃ b off vs, ad = some ⟨b, off, none⟩ ∧ b < w.heap.size ∧ AtFs w b off ds vs ∧ ∀ j, j < ds.length → RdI w (vs j) (Fss (ds.getD j Fr0))
def RdFs (w : World) (v : Value) (ds : Fs) : Prop := ∃ ad cap, v = .slice ad ds.length cap ∧ ArgFs w ad ds
theorem ArgFs.below {w w' : World} {ad : Option Addr} {ds : Fs} (h : ArgFs w ad ds) (hb : Below w.heap.size w w') : ArgFs w' ad ds := by
  intro hne
  obtain ⟨b, off, vs, e, hl, hc, hr⟩ := h hne
  exact ⟨b, off, vs, e, Nat.lt_of_lt_of_le hl hb.size, fun j hj => ⟨(hb.cell (by simpa using hl)).trans (hc j hj).1, (hb.cell (by simpa using hl)).trans (hc j hj).2.1, (hb.cell (by simpa using hl)).trans (hc j hj).2.2.1, (hb.cell (by simpa using hl)).trans (hc j hj).2.2.2.1, (hb.cell (by simpa using hl)).trans (hc j hj).2.2.2.2.1, (hb.cell (by simpa using hl)).trans (hc j hj).2.2.2.2.2.1, (hb.cell (by simpa using hl)).trans (hc j hj).2.2.2.2.2.2.1, (hb.cell (by simpa using hl)).trans (hc j hj).2.2.2.2.2.2.2⟩, fun j hj => (hr j hj).below hb⟩
theorem RdFs.below {w w' : World} {v : Value} {ds : Fs} (h : RdFs w v ds) (hb : Below w.heap.size w w') : RdFs w' v ds := by
  obtain ⟨ad, cap, e, h⟩ := h
  exact ⟨ad, cap, e, h.below hb⟩
theorem OwnFs.rd {w : World} {a b : Nat} {v : Value} {ds : Fs} (h : OwnFs w a b v ds) : RdFs w v ds := by
  obtain ⟨ys, vs, ho, hr, he, _, _⟩ := h
  rcases ho.1.2 with ⟨rfl, hn⟩ | ⟨g, cap, cur, rfl, h1, h2, h3⟩
  · exact ⟨none, 0, by rw [hn], fun hne => absurd (List.length_eq_zero_iff.1 hn) hne⟩
  · refine ⟨some ⟨g, 0, none⟩, cap, rfl, fun _ => ⟨g, 0, vs, rfl, (ho.1.lt g rfl).2, fun j hj => ?_, fun j hj => OwnI.rd (he j hj)⟩⟩
    have := hr j hj
    rw [Nat.zero_add, ho.1.cellAt _ (by omega), ho.1.cellAt _ (by omega), ho.1.cellAt _ (by omega), ho.1.cellAt _ (by omega), ho.1.cellAt _ (by omega), ho.1.cellAt _ (by omega), ho.1.cellAt _ (by omega), ho.1.cellAt _ (by omega)]
    exact this
theorem OwnFs.upd {w w' : World} {a b c e : Nat} {v : Value} {ds : Fs} (h : OwnFs w a b v ds) (u : Upd c e w w') (hd : b ≤ c ∨ e ≤ a) : OwnFs w' a b v ds := by
  obtain ⟨ys, vs, ho, hr, he, h4, h5⟩ := h
  exact ⟨ys, vs, ho.upd u hd, hr, fun j hj => (he j hj).upd u hd, h4, h5⟩
theorem OwnFs.keep {w w' : World} {a b : Nat} {v : Value} {ds : Fs} (h : OwnFs w a b v ds) (u : Upd 0 0 w w') : OwnFs w' a b v ds := h.upd u (.inr (Nat.zero_le _))
theorem OwnFs.mono {w : World} {a b a' b' : Nat} {v : Value} {ds : Fs} (h : OwnFs w a b v ds) (ha : a' ≤ a) (hb : b ≤ b') : OwnFs w a' b' v ds := by
  obtain ⟨ys, vs, ho, hr, he, h4, h5⟩ := h
  exact ⟨ys, vs, own_mono ho ha hb, hr, fun j hj => own_mono (he j hj) ha hb, h4, h5⟩
theorem OwnFs.set' {w : World} {a b : Nat} {v : Value} {ds : Fs} (h : OwnFs w a b v ds) {c : Nat} (hc : c < a) (o : Nat) (u : Value) : OwnFs (w.setCell ⟨c, o, none⟩ u) a b v ds := by
  obtain ⟨ys, vs, ho, hr, he, h4, h5⟩ := h
  exact ⟨ys, vs, ho.set' hc o u, hr, fun j hj => (he j hj).set' hc o u, h4, h5⟩
/-- All numbers fit, and no list is longer than a list can be. -/
def InFs (ds : Fs) : Prop := (∀ j, InFr (ds.getD j Fr0)) ∧ ∀ j, (Fss (ds.getD j Fr0)).length ≤ 9223372036854775807
theorem infoFs : (Try.prog.info? 49).map (fun i => (i.zero, i.size, i.bytes)) = some (some (.agg #[.int .i64 0, .int .i64 0, .int .i64 0, .int .i64 0, .int .i64 0, .int .i64 0, .int .i64 0, .slice none 0 0]), 8, 80) := by kernel_rfl
/-- How much a list of Frames holds. -/
def size1Fs (d : Fr) : Nat := (Fss d).length
def szToFs (ds : Fs) (k : Nat) : Nat := ((ds.take k).map size1Fs).sum
def sizeFs (ds : Fs) : Nat := ds.length + szToFs ds ds.length
theorem szToFs_succ (ds : Fs) (k : Nat) (h : k < ds.length) : szToFs ds (k + 1) = szToFs ds k + size1Fs (ds.getD k Fr0) := by
  unfold szToFs; rw [take_snoc_getD ds Fr0 k h]; simp
theorem szToFs_le (ds : Fs) (k : Nat) : szToFs ds k ≤ szToFs ds ds.length := by
  have e : szToFs ds ds.length = szToFs ds k + ((ds.drop k).map size1Fs).sum := by
    unfold szToFs; rw [List.take_length, ← List.sum_append, ← List.map_append, List.take_append_drop]
  omega
theorem size1Fs_le (ds : Fs) (k : Nat) (h : k < ds.length) : size1Fs (ds.getD k Fr0) ≤ szToFs ds ds.length := by
  have := szToFs_succ ds k h
  have := szToFs_le ds (k + 1)
  omega

theorem Own.setsFs {e : TypeId} {s : Nat} {w : World} {a b : Nat} {v : Value} {n : Nat} {xs : List Value} (h : Own e s w a b v n xs) {c : Nat} (hc : c < a) (o : Nat) (u0 u1 u2 u3 u4 u5 u6 u7 : Value) :
    Own e s ((((((((w.setCell ⟨c, o, none⟩ u0).setCell ⟨c, o + 1, none⟩ u1).setCell ⟨c, o + 2, none⟩ u2).setCell ⟨c, o + 3, none⟩ u3).setCell ⟨c, o + 4, none⟩ u4).setCell ⟨c, o + 5, none⟩ u5).setCell ⟨c, o + 6, none⟩ u6).setCell ⟨c, o + 7, none⟩ u7) a b v n xs := (Own.set' (Own.set' (Own.set' (Own.set' (Own.set' (Own.set' (Own.set' (Own.set' h hc (o) u0) hc (o + 1) u1) hc (o + 2) u2) hc (o + 3) u3) hc (o + 4) u4) hc (o + 5) u5) hc (o + 6) u6) hc (o + 7) u7)
theorem sizesFs (w : World) (c o : Nat) (u0 u1 u2 u3 u4 u5 u6 u7 : Value) : ((((((((w.setCell ⟨c, o, none⟩ u0).setCell ⟨c, o + 1, none⟩ u1).setCell ⟨c, o + 2, none⟩ u2).setCell ⟨c, o + 3, none⟩ u3).setCell ⟨c, o + 4, none⟩ u4).setCell ⟨c, o + 5, none⟩ u5).setCell ⟨c, o + 6, none⟩ u6).setCell ⟨c, o + 7, none⟩ u7).heap.size = w.heap.size := by simp

set_option maxHeartbeats 8000000 in
set_option maxRecDepth 100000 in
theorem toFrameS_own (ad : Option Addr) (cap : Nat) (ds : Fs) (w : World) (hsz : sizeFs ds ≤ 1048576) (hA : ArgFs w ad ds) :
    Calls Try.prog 99 #[.slice ad ds.length cap] w fun e w' => ∃ v, e = .returned v ∧ OwnFs w' w.heap.size w'.heap.size v ds ∧ Upd 0 0 w w' := by
  have hn : ds.length ≤ 1048576 := by unfold sizeFs at hsz; omega
  have hEach : Hid (∀ k, k < ds.length → (Fss (ds.getD k Fr0)).length ≤ 1048576) := hide (fun k hk => by have := size1Fs_le ds k hk; unfold sizeFs at hsz; unfold size1Fs at this; omega)
  obtain ⟨i0, hi, hz0, hz1, hz2⟩ := info_parts infoFs
  replace hA := hide hA
  go_enter Try.func99, Try.ntmps99
  go_wp2_with (at_make; refine wpList_make_full _ rfl _ _ 33 rfl w.heap.size 49 i0 (.agg #[.int .i64 0, .int .i64 0, .int .i64 0, .int .i64 0, .int .i64 0, .int .i64 0, .int .i64 0, .slice none 0 0]) 8 Try.underlying33 hi hz0 hz1 .i64 .i64 _ _ ds.length rfl rfl (by omega) (by omega) (by rw [hz2]; omega) (by unfold maxLen; omega) (Nat.le_refl _) ?_; intro w1 hown hgrow)
  have hbel := (Below.refl w.heap.size w).grown hgrow (Nat.le_refl _) (by simp)
  generalize (madeCells (Value.cells (.agg #[.int .i64 0, .int .i64 0, .int .i64 0, .int .i64 0, .int .i64 0, .int .i64 0, .int .i64 0, .slice none 0 0])) (ds.length * 8)).toList = ys0 at hown
  clear hgrow
  go_loopw [4] (fun i wr => ∃ (k : Nat) (ys : List Value) (vs : Nat → Value), k ≤ ds.length ∧ i = .int .i64 k ∧ wr.ownsRow w.heap.size 49 8 (.slice (some ⟨w.heap.size, 0, none⟩) ds.length ds.length) ds.length ys ∧ Hid (RowFs ys ds vs k) ∧ Hid (∀ j, j < k → OwnI wr (w.heap.size + 1) wr.heap.size (vs j) (Fss (ds.getD j Fr0))) ∧ Hid (DistFs vs k) ∧ Below w.heap.size w wr) (fun i _ => ds.length - (intOf i).toNat)
  case atStart => exact ⟨0, ys0, fun _ => undef, Nat.zero_le _, rfl, hown, fun j hj => by omega, fun j hj => by omega, fun i j hi => by omega, hbel⟩
  case round =>
    clear hown hbel
    obtain ⟨k, ys, vs, hk, rfl, hown, hrow, hel, hdi, hbel⟩ := hrel
    by_cases hlt : k < ds.length
    · obtain ⟨b, off, us, rfl, hbl, hc, hru⟩ := ((unhide hA).below hbel) (ne_of_lt_length hlt)
      have hl : ys.length = ds.length * 8 := hown.1
      have hnk := unhide hEach k hlt
      obtain ⟨d0, d1, d2, d3, d4, d5, d6, d7⟩ := hc k hlt
      have hru2 := hru k hlt
      clear hc hru
      generalize hf : ds.getD k Fr0 = f at d0 d1 d2 d3 d4 d5 d6 d7 hru2 hnk
      replace hf := hide hf
      obtain ⟨x0, x1, x2, x3, x4, x5, x6, zs⟩ := f
      obtain ⟨uk, huk⟩ : ∃ uk, us k = uk := ⟨_, rfl⟩
      rw [huk] at d7 hru2
      clear huk
      obtain ⟨adk, capk, rfl, hAk⟩ := hru2
      simp only [Fss] at d0 d1 d2 d3 d4 d5 d6 d7 hnk hAk
      have hsz1 : w.heap.size + 1 ≤ wr.heap.size := (hown.lt w.heap.size rfl).2
      have hTo := hide (toFrame_own _ (x0, x1, x2, x3, x4, x5, x6, zs) wr hnk ⟨_, rfl, adk, capk, rfl, hAk⟩)
      replace hown := hide (Own.of hown)
      replace hbel := hide hbel
      clear hAk
      go_wp2_with fail
      refine (unhide hTo).mono ?_
      rintro e w2 ⟨u2, rfl, ho2, hu2⟩
      obtain ⟨vl, rfl, ho2⟩ := ho2
      obtain ⟨ad2, cap2, rfl, _⟩ := OwnI.rd ho2
      replace ho2 : OwnI w2 wr.heap.size w2.heap.size (.slice ad2 zs.length cap2) zs := ho2
      have hwz : wr.heap.size ≤ w2.heap.size := hu2.size
      have hel2 := hide (fun j (hj : j < k) => own_mono ((unhide hel j hj).keep hu2) (Nat.le_refl _) hwz)
      have helb := hide (fun j (hj : j < k) => (unhide hel j hj).2)
      have hown2 := ((unhide hown).keep hu2).1
      have hbel2 := below_upd (unhide hbel) hu2 (Nat.le_refl _) (.inr (Nat.le_refl _))
      clear hown hbel hel hu2 d0 d1 d2 d3 d4 d5 d6 d7
      have e0 : ∃ a, w2.cell? ⟨w.heap.size, k * 8, none⟩ = some a := by rw [hown2.cellAt _ (by omega)]; exact ⟨_, List.getElem?_eq_getElem (by omega)⟩
      have e1 : ∃ a, w2.cell? ⟨w.heap.size, k * 8 + 1, none⟩ = some a := by rw [hown2.cellAt _ (by omega)]; exact ⟨_, List.getElem?_eq_getElem (by omega)⟩
      have e2 : ∃ a, w2.cell? ⟨w.heap.size, k * 8 + 2, none⟩ = some a := by rw [hown2.cellAt _ (by omega)]; exact ⟨_, List.getElem?_eq_getElem (by omega)⟩
      have e3 : ∃ a, w2.cell? ⟨w.heap.size, k * 8 + 3, none⟩ = some a := by rw [hown2.cellAt _ (by omega)]; exact ⟨_, List.getElem?_eq_getElem (by omega)⟩
      have e4 : ∃ a, w2.cell? ⟨w.heap.size, k * 8 + 4, none⟩ = some a := by rw [hown2.cellAt _ (by omega)]; exact ⟨_, List.getElem?_eq_getElem (by omega)⟩
      have e5 : ∃ a, w2.cell? ⟨w.heap.size, k * 8 + 5, none⟩ = some a := by rw [hown2.cellAt _ (by omega)]; exact ⟨_, List.getElem?_eq_getElem (by omega)⟩
      have e6 : ∃ a, w2.cell? ⟨w.heap.size, k * 8 + 6, none⟩ = some a := by rw [hown2.cellAt _ (by omega)]; exact ⟨_, List.getElem?_eq_getElem (by omega)⟩
      have e7 : ∃ a, w2.cell? ⟨w.heap.size, k * 8 + 7, none⟩ = some a := by rw [hown2.cellAt _ (by omega)]; exact ⟨_, List.getElem?_eq_getElem (by omega)⟩
      obtain ⟨a0, e0⟩ := e0
      obtain ⟨a1, e1⟩ := e1
      obtain ⟨a2, e2⟩ := e2
      obtain ⟨a3, e3⟩ := e3
      obtain ⟨a4, e4⟩ := e4
      obtain ⟨a5, e5⟩ := e5
      obtain ⟨a6, e6⟩ := e6
      obtain ⟨a7, e7⟩ := e7
      have f0 := hown2.frozenAt (k * 8)
      have f1 := hown2.frozenAt (k * 8 + 1)
      have f2 := hown2.frozenAt (k * 8 + 2)
      have f3 := hown2.frozenAt (k * 8 + 3)
      have f4 := hown2.frozenAt (k * 8 + 4)
      have f5 := hown2.frozenAt (k * 8 + 5)
      have f6 := hown2.frozenAt (k * 8 + 6)
      have f7 := hown2.frozenAt (k * 8 + 7)
      have hst := hide (((((((((hown2.stored (k * 8) (.int .i64 x0)).1.stored (k * 8 + 1) (.int .i64 x1)).1.stored (k * 8 + 2) (.int .i64 x2)).1.stored (k * 8 + 3) (.int .i64 x3)).1.stored (k * 8 + 4) (.int .i64 x4)).1.stored (k * 8 + 5) (.int .i64 x5)).1.stored (k * 8 + 6) (.int .i64 x6)).1.stored (k * 8 + 7) (.slice ad2 zs.length cap2)).1)
      have hB2 := hide (((((((((hbel2.setCell (p := ⟨w.heap.size, k * 8, none⟩) (Nat.le_refl _) (.int .i64 x0)).setCell (p := ⟨w.heap.size, k * 8 + 1, none⟩) (Nat.le_refl _) (.int .i64 x1)).setCell (p := ⟨w.heap.size, k * 8 + 2, none⟩) (Nat.le_refl _) (.int .i64 x2)).setCell (p := ⟨w.heap.size, k * 8 + 3, none⟩) (Nat.le_refl _) (.int .i64 x3)).setCell (p := ⟨w.heap.size, k * 8 + 4, none⟩) (Nat.le_refl _) (.int .i64 x4)).setCell (p := ⟨w.heap.size, k * 8 + 5, none⟩) (Nat.le_refl _) (.int .i64 x5)).setCell (p := ⟨w.heap.size, k * 8 + 6, none⟩) (Nat.le_refl _) (.int .i64 x6)).setCell (p := ⟨w.heap.size, k * 8 + 7, none⟩) (Nat.le_refl _) (.slice ad2 zs.length cap2)))
      have ho3 : OwnI w2 (w.heap.size + 1) w2.heap.size (.slice ad2 zs.length cap2) zs := own_mono ho2 hsz1 (Nat.le_refl _)
      have hrow2 : Hid (RowFs ((((((((ys.set (k * 8) (.int .i64 x0)).set (k * 8 + 1) (.int .i64 x1)).set (k * 8 + 2) (.int .i64 x2)).set (k * 8 + 3) (.int .i64 x3)).set (k * 8 + 4) (.int .i64 x4)).set (k * 8 + 5) (.int .i64 x5)).set (k * 8 + 6) (.int .i64 x6)).set (k * 8 + 7) (.slice ad2 zs.length cap2)) ds (fun j => if j = k then .slice ad2 zs.length cap2 else vs j) (k + 1)) := by
        intro j hj
        by_cases e : j = k
        · subst e
          rw [unhide hf]
          refine ⟨?_, ?_, ?_, ?_, ?_, ?_, ?_, ?_⟩
          · rw [List.getElem?_set_ne (by omega), List.getElem?_set_ne (by omega), List.getElem?_set_ne (by omega), List.getElem?_set_ne (by omega), List.getElem?_set_ne (by omega), List.getElem?_set_ne (by omega), List.getElem?_set_ne (by omega), List.getElem?_set_self (by first | omega | (simp; omega))]
          · rw [List.getElem?_set_ne (by omega), List.getElem?_set_ne (by omega), List.getElem?_set_ne (by omega), List.getElem?_set_ne (by omega), List.getElem?_set_ne (by omega), List.getElem?_set_ne (by omega), List.getElem?_set_self (by first | omega | (simp; omega))]
          · rw [List.getElem?_set_ne (by omega), List.getElem?_set_ne (by omega), List.getElem?_set_ne (by omega), List.getElem?_set_ne (by omega), List.getElem?_set_ne (by omega), List.getElem?_set_self (by first | omega | (simp; omega))]
          · rw [List.getElem?_set_ne (by omega), List.getElem?_set_ne (by omega), List.getElem?_set_ne (by omega), List.getElem?_set_ne (by omega), List.getElem?_set_self (by first | omega | (simp; omega))]
          · rw [List.getElem?_set_ne (by omega), List.getElem?_set_ne (by omega), List.getElem?_set_ne (by omega), List.getElem?_set_self (by first | omega | (simp; omega))]
          · rw [List.getElem?_set_ne (by omega), List.getElem?_set_ne (by omega), List.getElem?_set_self (by first | omega | (simp; omega))]
          · rw [List.getElem?_set_ne (by omega), List.getElem?_set_self (by first | omega | (simp; omega))]
          · refine Eq.trans ?_ (congrArg some (if_pos rfl).symm); rw [List.getElem?_set_self (by first | omega | (simp; omega))]
        · have := unhide hrow j (by omega)
          refine ⟨?_, ?_, ?_, ?_, ?_, ?_, ?_, ?_⟩
          · rw [List.getElem?_set_ne (by omega), List.getElem?_set_ne (by omega), List.getElem?_set_ne (by omega), List.getElem?_set_ne (by omega), List.getElem?_set_ne (by omega), List.getElem?_set_ne (by omega), List.getElem?_set_ne (by omega), List.getElem?_set_ne (by omega)]; exact this.1
          · rw [List.getElem?_set_ne (by omega), List.getElem?_set_ne (by omega), List.getElem?_set_ne (by omega), List.getElem?_set_ne (by omega), List.getElem?_set_ne (by omega), List.getElem?_set_ne (by omega), List.getElem?_set_ne (by omega), List.getElem?_set_ne (by omega)]; exact this.2.1
          · rw [List.getElem?_set_ne (by omega), List.getElem?_set_ne (by omega), List.getElem?_set_ne (by omega), List.getElem?_set_ne (by omega), List.getElem?_set_ne (by omega), List.getElem?_set_ne (by omega), List.getElem?_set_ne (by omega), List.getElem?_set_ne (by omega)]; exact this.2.2.1
          · rw [List.getElem?_set_ne (by omega), List.getElem?_set_ne (by omega), List.getElem?_set_ne (by omega), List.getElem?_set_ne (by omega), List.getElem?_set_ne (by omega), List.getElem?_set_ne (by omega), List.getElem?_set_ne (by omega), List.getElem?_set_ne (by omega)]; exact this.2.2.2.1
          · rw [List.getElem?_set_ne (by omega), List.getElem?_set_ne (by omega), List.getElem?_set_ne (by omega), List.getElem?_set_ne (by omega), List.getElem?_set_ne (by omega), List.getElem?_set_ne (by omega), List.getElem?_set_ne (by omega), List.getElem?_set_ne (by omega)]; exact this.2.2.2.2.1
          · rw [List.getElem?_set_ne (by omega), List.getElem?_set_ne (by omega), List.getElem?_set_ne (by omega), List.getElem?_set_ne (by omega), List.getElem?_set_ne (by omega), List.getElem?_set_ne (by omega), List.getElem?_set_ne (by omega), List.getElem?_set_ne (by omega)]; exact this.2.2.2.2.2.1
          · rw [List.getElem?_set_ne (by omega), List.getElem?_set_ne (by omega), List.getElem?_set_ne (by omega), List.getElem?_set_ne (by omega), List.getElem?_set_ne (by omega), List.getElem?_set_ne (by omega), List.getElem?_set_ne (by omega), List.getElem?_set_ne (by omega)]; exact this.2.2.2.2.2.2.1
          · refine Eq.trans ?_ (congrArg some (if_neg e).symm); rw [List.getElem?_set_ne (by omega), List.getElem?_set_ne (by omega), List.getElem?_set_ne (by omega), List.getElem?_set_ne (by omega), List.getElem?_set_ne (by omega), List.getElem?_set_ne (by omega), List.getElem?_set_ne (by omega), List.getElem?_set_ne (by omega)]; exact this.2.2.2.2.2.2.2
      have hel3 : Hid (∀ j, j < k + 1 → OwnI ((((((((w2.setCell ⟨w.heap.size, k * 8, none⟩ (.int .i64 x0)).setCell ⟨w.heap.size, k * 8 + 1, none⟩ (.int .i64 x1)).setCell ⟨w.heap.size, k * 8 + 2, none⟩ (.int .i64 x2)).setCell ⟨w.heap.size, k * 8 + 3, none⟩ (.int .i64 x3)).setCell ⟨w.heap.size, k * 8 + 4, none⟩ (.int .i64 x4)).setCell ⟨w.heap.size, k * 8 + 5, none⟩ (.int .i64 x5)).setCell ⟨w.heap.size, k * 8 + 6, none⟩ (.int .i64 x6)).setCell ⟨w.heap.size, k * 8 + 7, none⟩ (.slice ad2 zs.length cap2)) (w.heap.size + 1) ((((((((w2.setCell ⟨w.heap.size, k * 8, none⟩ (.int .i64 x0)).setCell ⟨w.heap.size, k * 8 + 1, none⟩ (.int .i64 x1)).setCell ⟨w.heap.size, k * 8 + 2, none⟩ (.int .i64 x2)).setCell ⟨w.heap.size, k * 8 + 3, none⟩ (.int .i64 x3)).setCell ⟨w.heap.size, k * 8 + 4, none⟩ (.int .i64 x4)).setCell ⟨w.heap.size, k * 8 + 5, none⟩ (.int .i64 x5)).setCell ⟨w.heap.size, k * 8 + 6, none⟩ (.int .i64 x6)).setCell ⟨w.heap.size, k * 8 + 7, none⟩ (.slice ad2 zs.length cap2)).heap.size (if j = k then .slice ad2 zs.length cap2 else vs j) (Fss (ds.getD j Fr0))) := by
        intro j hj
        rw [sizesFs]
        by_cases e : j = k
        · subst e
          rw [if_pos rfl, unhide hf]
          exact Own.setsFs ho3 (Nat.lt_succ_self _) _ (.int .i64 x0) (.int .i64 x1) (.int .i64 x2) (.int .i64 x3) (.int .i64 x4) (.int .i64 x5) (.int .i64 x6) (.slice ad2 zs.length cap2)
        · rw [if_neg e]
          exact Own.setsFs (unhide hel2 j (by omega)) (Nat.lt_succ_self _) _ (.int .i64 x0) (.int .i64 x1) (.int .i64 x2) (.int .i64 x3) (.int .i64 x4) (.int .i64 x5) (.int .i64 x6) (.slice ad2 zs.length cap2)
      have hdi2 : Hid (DistFs (fun j => if j = k then .slice ad2 zs.length cap2 else vs j) (k + 1)) := by
        intro i j hi hj hne g hg hg'
        simp only at hg hg'
        by_cases e : i = k
        · rw [if_pos e] at hg
          rw [if_neg (by omega)] at hg'
          have h1 := (ho2.1.lt g hg).1
          have h2 := unhide helb j (by omega) g hg'
          omega
        · rw [if_neg e] at hg
          by_cases e' : j = k
          · rw [if_pos e'] at hg'
            have h1 := (ho2.1.lt g hg').1
            have h2 := unhide helb i (by omega) g hg
            omega
          · rw [if_neg e'] at hg'
            exact unhide hdi i j (by omega) (by omega) hne g hg hg'
      clear hown2 hbel2 hrow hf hel2 helb ho2 ho3 hdi hTo hEach
      simp only [Frv]
      go_wp2
      go_roundw
      case rel => exact ⟨k + 1, _, _, by omega, by go_num, unhide hst, hrow2, hel3, hdi2, unhide hB2⟩
      case measure => simp [intOf]; omega
    · have hkl : k = ds.length := by omega
      subst hkl
      replace hown := hide hown
      replace hbel := hide hbel
      go_wp2
      go_ret
      refine ⟨_, rfl, ⟨ys, vs, Own.of (unhide hown), unhide hrow, fun j hj => own_mono (unhide hel j hj) (by omega) (Nat.le_refl _), unhide hdi, fun j hj g hg => ?_⟩, Upd.of_below (unhide hbel) 0 0⟩
      have := ((unhide hel j hj).1.lt g hg).1
      simp [Value.ownBlock]
      omega

set_option maxHeartbeats 8000000 in
set_option maxRecDepth 100000 in
theorem eqFrameS_rd (u v : Value) (ds : Fs) (w : World) (hsz : sizeFs ds ≤ 1048576) (hu : RdFs w u ds) (hv : RdFs w v ds) :
    Calls Try.prog 102 #[u, v] w fun e w' => e = .returned (.bool true) ∧ Upd 0 0 w w' := by
  have hn : ds.length ≤ 1048576 := by unfold sizeFs at hsz; omega
  have hEach : Hid (∀ k, k < ds.length → (Fss (ds.getD k Fr0)).length ≤ 1048576) := hide (fun k hk => by have := size1Fs_le ds k hk; unfold sizeFs at hsz; unfold size1Fs at this; omega)
  obtain ⟨ad, cap, rfl, hA⟩ := hu
  obtain ⟨ad', cap', rfl, hA'⟩ := hv
  replace hA := hide hA
  replace hA' := hide hA'
  go_enter Try.func102, Try.ntmps102
  go_wp2
  go_loopw [5] (fun i wr => ∃ k : Nat, k ≤ ds.length ∧ i = .int .i64 k ∧ Below w.heap.size w wr) (fun i _ => ds.length - (intOf i).toNat)
  case atStart => exact ⟨0, Nat.zero_le _, rfl, Below.refl _ _⟩
  case round =>
    obtain ⟨k, hk, rfl, hbel⟩ := hrel
    by_cases hlt : k < ds.length
    · obtain ⟨b, off, us, rfl, hbl, hc, hr⟩ := ((unhide hA).below hbel) (ne_of_lt_length hlt)
      obtain ⟨b', off', us', rfl, hbl', hc', hr'⟩ := ((unhide hA').below hbel) (ne_of_lt_length hlt)
      obtain ⟨d0, d1, d2, d3, d4, d5, d6, d7⟩ := hc k hlt
      obtain ⟨g0, g1, g2, g3, g4, g5, g6, g7⟩ := hc' k hlt
      have hr2 := hr k hlt
      have hr2' := hr' k hlt
      have hnk := unhide hEach k hlt
      clear hc hc' hbl hbl' hr hr'
      generalize ds.getD k Fr0 = f at d0 d1 d2 d3 d4 d5 d6 d7 g0 g1 g2 g3 g4 g5 g6 g7 hr2 hr2' hnk
      obtain ⟨x0, x1, x2, x3, x4, x5, x6, zs⟩ := f
      obtain ⟨uk, huk⟩ : ∃ uk, us k = uk := ⟨_, rfl⟩
      obtain ⟨uk', huk'⟩ : ∃ uk', us' k = uk' := ⟨_, rfl⟩
      rw [huk] at d7 hr2
      rw [huk'] at g7 hr2'
      clear huk huk'
      simp only [Fss] at d0 d1 d2 d3 d4 d5 d6 d7 g0 g1 g2 g3 g4 g5 g6 g7 hr2 hr2' hnk
      have hEq := hide (fun (W : World) (hW : Below wr.heap.size wr W) => eqFrame_rd _ _ (x0, x1, x2, x3, x4, x5, x6, zs) W hnk ⟨_, rfl, hr2.below hW⟩ ⟨_, rfl, hr2'.below hW⟩)
      clear hr2 hr2' hnk
      have hk0 : (0 : Int) ≤ (k : Int) := by omega
      have hk1 : (k : Int) < (ds.length : Int) := by omega
      go_wp2_with fail
      go_region_with (go_at_call 54; refine (unhide hEq _ (Below.refl _ _).drew).mono ?_; rintro e w2 ⟨rfl, hb2⟩)
      all_goals
        have hb3 := hbel.drew.trans (hb2.below (B := w.heap.size) (by simpa using hbel.size) (.inr (Nat.zero_le _)))
        clear hb2
        go_wp2
        go_roundw
        case rel => exact ⟨k + 1, by omega, by go_num, hb3⟩
        case measure => simp [intOf]; omega
    · have hkl : k = ds.length := by omega
      subst hkl
      go_wp2
      go_ret
      exact ⟨rfl, Upd.of_below hbel 0 0⟩

set_option maxHeartbeats 8000000 in
set_option maxRecDepth 100000 in
theorem szFrameS_any (ad : Option Addr) (ds : Fs) (cap : Nat) (left : Int) (w : World) (h0 : 0 ≤ left) (h1 : left ≤ 1099511627776) (hn : ds.length ≤ 9223372036854775807) (hI : ∀ j, (Fss (ds.getD j Fr0)).length ≤ 9223372036854775807) (hA : ArgFs w ad ds) :
    Calls Try.prog 98 #[.slice ad ds.length cap, .int .i64 left] w fun e w' => e = .returned (.int .i64 (if left < ((sizeFs ds : Nat) : Int) then -1 else left - ((sizeFs ds : Nat) : Int))) ∧ Upd 0 0 w w' := by
  by_cases hlt : left < ds.length
  · have hc : left < ((sizeFs ds : Nat) : Int) := by unfold sizeFs; omega
    rw [if_pos hc]
    clear hA hI
    go_enter Try.func98, Try.ntmps98
    go_wp2
    go_ret
    exact ⟨rfl, Upd.refl _ _ _⟩
  · replace hA := hide hA
    replace hI := hide hI
    have q : decide (left - (ds.length : Int) < 0) = false := by simp; omega
    obtain ⟨R, hR⟩ : ∃ R : Int, R = if left < ((sizeFs ds : Nat) : Int) then -1 else left - ((sizeFs ds : Nat) : Int) := ⟨_, rfl⟩
    rw [← hR]
    replace hR := hide hR
    go_enter Try.func98, Try.ntmps98
    go_wp2
    go_loopw [1, 5] (fun l i wr => ∃ k : Nat, k ≤ ds.length ∧ i = .int .i64 k ∧ l = .int .i64 (left - (ds.length : Int) - ((szToFs ds k : Nat) : Int)) ∧ Hid (0 ≤ left - (ds.length : Int) - ((szToFs ds k : Nat) : Int)) ∧ Below w.heap.size w wr) (fun _ i _ => ds.length - (intOf i).toNat)
    case atStart => exact ⟨0, Nat.zero_le _, rfl, by simp [szToFs], hide (by simp [szToFs]; omega), Below.refl _ _⟩
    case round =>
      obtain ⟨k, hk, rfl, rfl, hp, hbel⟩ := hrel
      by_cases hk' : k < ds.length
      · obtain ⟨b, off, us, rfl, hbl, hc, hru⟩ := ((unhide hA).below hbel) (ne_of_lt_length hk')
        obtain ⟨d0, d1, d2, d3, d4, d5, d6, d7⟩ := hc k hk'
        have hru2 := hru k hk'
        have hnk := unhide hI k
        have hs := hide (szToFs_succ ds k hk')
        have hle := hide (szToFs_le ds (k + 1))
        have hp' := unhide hp
        clear hc hbl hru
        generalize ds.getD k Fr0 = f at d0 d1 d2 d3 d4 d5 d6 d7 hru2 hnk hs
        obtain ⟨x0, x1, x2, x3, x4, x5, x6, zs⟩ := f
        obtain ⟨uk, huk⟩ : ∃ uk, us k = uk := ⟨_, rfl⟩
        rw [huk] at d7 hru2
        clear huk
        obtain ⟨adk, capk, rfl, _⟩ := hru2
        simp only [Fss] at d0 d1 d2 d3 d4 d5 d6 d7 hnk
        change Hid (szToFs ds (k + 1) = szToFs ds k + (zs.length)) at hs
        obtain ⟨l0, hl0⟩ : ∃ l0 : Int, l0 = left - (ds.length : Int) - ((szToFs ds k : Nat) : Int) := ⟨_, rfl⟩
        rw [← hl0] at hp' ⊢
        have hSz := hide (szFrame_any x0 x1 x2 x3 x4 x5 x6 zs adk capk l0 wr hp' (by omega) hnk)
        replace hl0 := hide hl0
        replace hp' := hide hp'
        clear hp hnk hlt q h0 h1
        by_cases hx : l0 < ((zs.length : Nat) : Int)
        · rw [if_pos hx] at hSz
          go_wp2_with fail
          refine (unhide hSz).mono ?_
          rintro e w2 ⟨rfl, hu⟩
          have hb2 := hide (below_upd hbel hu (Nat.le_refl _) (.inr (Nat.zero_le _)))
          have hE : R = -1 := by
            rw [unhide hR, if_pos]
            have := unhide hl0; have := unhide hs; have := unhide hle
            unfold sizeFs; omega
          subst hE
          clear hu hSz
          go_wp2
          go_ret
          exact ⟨rfl, Upd.of_below (unhide hb2) 0 0⟩
        · rw [if_neg hx] at hSz
          have q2 : decide (l0 - ((zs.length : Nat) : Int) < 0) = false := by simp; omega
          have hnx : Hid (0 ≤ l0 - ((zs.length : Nat) : Int)) := hide (by omega)
          have he : Hid (l0 - ((zs.length : Nat) : Int) = left - (ds.length : Int) - ((szToFs ds (k + 1) : Nat) : Int)) := hide (by have := unhide hl0; have := unhide hs; omega)
          obtain ⟨l1, hl1⟩ : ∃ l1 : Int, l1 = l0 - ((zs.length : Nat) : Int) := ⟨_, rfl⟩
          rw [← hl1] at hSz q2 hnx he
          clear hl1 hx
          go_wp2_with fail
          refine (unhide hSz).mono ?_
          rintro e w2 ⟨rfl, hu⟩
          have hb2 := hide (below_upd hbel hu (Nat.le_refl _) (.inr (Nat.zero_le _)))
          clear hu hSz
          go_wp2
          go_roundw
          case rel => exact ⟨k + 1, by omega, by go_num, by rw [← unhide he], by rw [← unhide he]; exact hnx, unhide hb2⟩
          case measure => simp [intOf]; omega
      · have hkl : k = ds.length := by omega
        subst hkl
        have hE : R = left - (ds.length : Int) - ((szToFs ds ds.length : Nat) : Int) := by
          rw [unhide hR, if_neg]
          · unfold sizeFs; omega
          · have := unhide hp; unfold sizeFs; omega
        replace hbel := hide hbel
        rw [← hE] at hp ⊢
        clear hE hR hlt q
        go_wp2
        go_ret
        exact ⟨rfl, Upd.of_below (unhide hbel) 0 0⟩
theorem szFrameS_in (ad : Option Addr) (ds : Fs) (cap : Nat) (left : Int) (w : World) (h0 : 0 ≤ left) (h1 : left ≤ 1099511627776) (hn : ds.length ≤ 9223372036854775807) (hI : InFs ds) (hA : ArgFs w ad ds) :
    Calls Try.prog 98 #[.slice ad ds.length cap, .int .i64 left] w fun e w' => e = .returned (.int .i64 (if left < ((sizeFs ds : Nat) : Int) then -1 else left - ((sizeFs ds : Nat) : Int))) ∧ Upd 0 0 w w' := szFrameS_any ad ds cap left w h0 h1 hn hI.2 hA
end Go.Proofs.Ytnfifpngiocbnaa
