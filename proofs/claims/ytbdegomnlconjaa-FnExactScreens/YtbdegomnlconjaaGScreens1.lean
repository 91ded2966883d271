/- The texts behind FnExactScreens, part 1: what each of them says stands at its head. -/
import Derived.Test.YtbdegomnlconjaaGScreens0
import Derived.Deep.RegionWith
import Derived.Deep.RegionHeld3
import Derived.Deep.DeepCutAuto
import Derived.Lib.SliceRun
/- Lists of Frames, each with a list of its own; the walks of the laws' own helpers on them. -/
namespace Go.Proofs.Ytbdegomnlconjaa
open Go.RowKit

abbrev Fs := List Fr
abbrev Fr0 : Fr := (0, 0, 0, 0, 0, 0, 0, [])
abbrev Fss (d : Fr) : List Int := d.2.2.2.2.2.2.2
def RowFs (ys : List Value) (ds : Fs) (vs : Nat → Value) (k : Nat) : Prop := ∀ j, j < k → ys[j * 8]? = some (.int .i64 (ds.getD j Fr0).1) ∧ ys[j * 8 + 1]? = some (.int .i64 (ds.getD j Fr0).2.1) ∧ ys[j * 8 + 2]? = some (.int .i64 (ds.getD j Fr0).2.2.1) ∧ ys[j * 8 + 3]? = some (.int .i64 (ds.getD j Fr0).2.2.2.1) ∧ ys[j * 8 + 4]? = some (.int .i64 (ds.getD j Fr0).2.2.2.2.1) ∧ ys[j * 8 + 5]? = some (.int .i64 (ds.getD j Fr0).2.2.2.2.2.1) ∧ ys[j * 8 + 6]? = some (.int .i64 (ds.getD j Fr0).2.2.2.2.2.2.1) ∧ ys[j * 8 + 7]? = some ((vs j))
/-- No two of the lists lie in one block. -/
def DistFs (vs : Nat → Value) (k : Nat) : Prop := ∀ i j, i < k → j < k → i ≠ j → ∀ g, (vs i).ownBlock = some g → (vs j).ownBlock ≠ some g
def OwnFs (w : World) (a b : Nat) (v : Value) (ds : Fs) : Prop := ∃ (ys : List Value) (vs : Nat → Value), Own 27 8 w a b v ds.length ys ∧ RowFs ys ds vs ds.length ∧
  (∀ j, j < ds.length → OwnI w a b (vs j) (Fss (ds.getD j Fr0))) ∧ DistFs vs ds.length ∧ ∀ j, j < ds.length → ∀ g, (vs j).ownBlock = some g → v.ownBlock ≠ some g
def AtFs (w : World) (b off : Nat) (ds : Fs) (vs : Nat → Value) : Prop := ∀ j, j < ds.length → w.cell? ⟨b, off + j * 8, none⟩ = some (.int .i64 (ds.getD j Fr0).1) ∧ w.cell? ⟨b, off + j * 8 + 1, none⟩ = some (.int .i64 (ds.getD j Fr0).2.1) ∧ w.cell? ⟨b, off + j * 8 + 2, none⟩ = some (.int .i64 (ds.getD j Fr0).2.2.1) ∧ w.cell? ⟨b, off + j * 8 + 3, none⟩ = some (.int .i64 (ds.getD j Fr0).2.2.2.1) ∧ w.cell? ⟨b, off + j * 8 + 4, none⟩ = some (.int .i64 (ds.getD j Fr0).2.2.2.2.1) ∧ w.cell? ⟨b, off + j * 8 + 5, none⟩ = some (.int .i64 (ds.getD j Fr0).2.2.2.2.2.1) ∧ w.cell? ⟨b, off + j * 8 + 6, none⟩ = some (.int .i64 (ds.getD j Fr0).2.2.2.2.2.2.1) ∧ w.cell? ⟨b, off + j * 8 + 7, none⟩ = some ((vs j))
def ArgFs (w : World) (ad : Option Addr) (ds : Fs) : Prop := ds ≠ [] → ∃ b off vs, ad = some ⟨b, off, none⟩ ∧ b < w.heap.size ∧ AtFs w b off ds vs ∧ ∀ j, j < ds.length → RdI w (vs j) (Fss (ds.getD j Fr0))
def RdFs (w : World) (v : Value) (ds : Fs) : Prop := ∃ ad cap, v = .slice ad ds.length cap ∧ ArgFs w ad ds
theorem ArgFs.below {w w' : World} {ad : Option Addr} {ds : Fs} (h : ArgFs w ad ds) (hb : Below w.heap.size w w') : ArgFs w' ad ds := by
  intro hne
  obtain ⟨b, off, vs, e, hl, hc, hr⟩ := h hne
  exact ⟨b, off, vs, e, Nat.lt_of_lt_of_le hl hb.size, fun j hj => ⟨(hb.cell (by simpa using hl)).trans (hc j hj).1, (hb.cell (by simpa using hl)).trans (hc j hj).2.1, (hb.cell (by simpa using hl)).trans (hc j hj).2.2.1, (hb.cell (by simpa using hl)).trans (hc j hj).2.2.2.1, (hb.cell (by simpa using hl)).trans (hc j hj).2.2.2.2.1, (hb.cell (by simpa using hl)).trans (hc j hj).2.2.2.2.2.1, (hb.cell (by simpa using hl)).trans (hc j hj).2.2.2.2.2.2.1, (hb.cell (by simpa using hl)).trans (hc j hj).2.2.2.2.2.2.2⟩, fun j hj => (hr j hj).below hb⟩
theorem RdFs.below {w w' : World} {v : Value} {ds : Fs} (h : RdFs w v ds) (hb : Below w.heap.size w w') : RdFs w' v ds := by
  obtain ⟨ad, cap, e, h⟩ := h
  exact ⟨ad, cap, e, h.below hb⟩
theorem OwnFs.rd {w : World} {a b : Nat} {v : Value} {ds : Fs} (h : OwnFs w a b v ds) : RdFs w v ds := by
  obtain ⟨ys, vs, ho, hr, he, _, _⟩ := h
  rcases ho.1.2 with ⟨rfl, hn⟩ | ⟨g, cap, cur, rfl, h1, h2, h3⟩
  · exact ⟨none, 0, by rw [hn], fun hne => absurd (List.length_eq_zero_iff.1 hn) hne⟩
  · refine ⟨some ⟨g, 0, none⟩, cap, rfl, fun _ => ⟨g, 0, vs, rfl, (ho.1.lt g rfl).2, fun j hj => ?_, fun j hj => OwnI.rd (he j hj)⟩⟩
    have := hr j hj
    rw [Nat.zero_add, ho.1.cellAt _ (by omega), ho.1.cellAt _ (by omega), ho.1.cellAt _ (by omega), ho.1.cellAt _ (by omega), ho.1.cellAt _ (by omega), ho.1.cellAt _ (by omega), ho.1.cellAt _ (by omega), ho.1.cellAt _ (by omega)]
    exact this
theorem OwnFs.upd {w w' : World} {a b c e : Nat} {v : Value} {ds : Fs} (h : OwnFs w a b v ds) (u : Upd c e w w') (hd : b ≤ c ∨ e ≤ a) : OwnFs w' a b v ds := by
  obtain ⟨ys, vs, ho, hr, he, h4, h5⟩ := h
  exact ⟨ys, vs, ho.upd u hd, hr, fun j hj => (he j hj).upd u hd, h4, h5⟩
theorem OwnFs.keep {w w' : World} {a b : Nat} {v : Value} {ds : Fs} (h : OwnFs w a b v ds) (u : Upd 0 0 w w') : OwnFs w' a b v ds := h.upd u (.inr (Nat.zero_le _))
theorem OwnFs.mono {w : World} {a b a' b' : Nat} {v : Value} {ds : Fs} (h : OwnFs w a b v ds) (ha : a' ≤ a) (hb : b ≤ b') : OwnFs w a' b' v ds := by
  obtain ⟨ys, vs, ho, hr, he, h4, h5⟩ := h
  exact ⟨ys, vs, own_mono ho ha hb, hr, fun j hj => own_mono (he j hj) ha hb, h4, h5⟩
theorem OwnFs.set' {w : World} {a b : Nat} {v : Value} {ds : Fs} (h : OwnFs w a b v ds) {c : Nat} (hc : c < a) (o : Nat) (u : Value) : OwnFs (w.setCell ⟨c, o, none⟩ u) a b v ds := by
  obtain ⟨ys, vs, ho, hr, he, h4, h5⟩ := h
  exact ⟨ys, vs, ho.set' hc o u, hr, fun j hj => (he j hj).set' hc o u, h4, h5⟩
/-- All numbers fit, and no list is longer than a list can be. -/
def InFs (ds : Fs) : Prop := (∀ j, InFr (ds.getD j Fr0)) ∧ ∀ j, (Fss (ds.getD j Fr0)).length ≤ 9223372036854775807
theorem infoFs : (Try.prog.info? 27).map (fun i => (i.zero, i.size, i.bytes)) = some (some (.agg #[.int .i64 0, .int .i64 0, .int .i64 0, .int .i64 0, .int .i64 0, .int .i64 0, .int .i64 0, .slice none 0 0]), 8, 80) := by kernel_rfl
/-- How much a list of Frames holds. -/
def size1Fs (d : Fr) : Nat := (Fss d).length
def szToFs (ds : Fs) (k : Nat) : Nat := ((ds.take k).map size1Fs).sum
def sizeFs (ds : Fs) : Nat := ds.length + szToFs ds ds.length
theorem szToFs_succ (ds : Fs) (k : Nat) (h : k < ds.length) : szToFs ds (k + 1) = szToFs ds k + size1Fs (ds.getD k Fr0) := by
  unfold szToFs; rw [take_snoc_getD ds Fr0 k h]; simp
theorem szToFs_le (ds : Fs) (k : Nat) : szToFs ds k ≤ szToFs ds ds.length := by
  have e : szToFs ds ds.length = szToFs ds k + ((ds.drop k).map size1Fs).sum := by
    unfold szToFs; rw [List.take_length, ← List.sum_append, ← List.map_append, List.take_append_drop]
  omega
theorem size1Fs_le (ds : Fs) (k : Nat) (h : k < ds.length) : size1Fs (ds.getD k Fr0) ≤ szToFs ds ds.length := by
  have := szToFs_succ ds k h
  have := szToFs_le ds (k + 1)
  omega

theorem Own.setsFs {e : TypeId} {s : Nat} {w : World} {a b : Nat} {v : Value} {n : Nat} {xs : List Value} (h : Own e s w a b v n xs) {c : Nat} (hc : c < a) (o : Nat) (u0 u1 u2 u3 u4 u5 u6 u7 : Value) :
    Own e s ((((((((w.setCell ⟨c, o, none⟩ u0).setCell ⟨c, o + 1, none⟩ u1).setCell ⟨c, o + 2, none⟩ u2).setCell ⟨c, o + 3, none⟩ u3).setCell ⟨c, o + 4, none⟩ u4).setCell ⟨c, o + 5, none⟩ u5).setCell ⟨c, o + 6, none⟩ u6).setCell ⟨c, o + 7, none⟩ u7) a b v n xs := (Own.set' (Own.set' (Own.set' (Own.set' (Own.set' (Own.set' (Own.set' (Own.set' h hc (o) u0) hc (o + 1) u1) hc (o + 2) u2) hc (o + 3) u3) hc (o + 4) u4) hc (o + 5) u5) hc (o + 6) u6) hc (o + 7) u7)
theorem sizesFs (w : World) (c o : Nat) (u0 u1 u2 u3 u4 u5 u6 u7 : Value) : ((((((((w.setCell ⟨c, o, none⟩ u0).setCell ⟨c, o + 1, none⟩ u1).setCell ⟨c, o + 2, none⟩ u2).setCell ⟨c, o + 3, none⟩ u3).setCell ⟨c, o + 4, none⟩ u4).setCell ⟨c, o + 5, none⟩ u5).setCell ⟨c, o + 6, none⟩ u6).setCell ⟨c, o + 7, none⟩ u7).heap.size = w.heap.size := by simp

set_option maxHeartbeats 8000000 in
set_option maxRecDepth 100000 in
theorem toFrameS_own (ad : Option Addr) (cap : Nat) (ds : Fs) (w : World) (hsz : sizeFs ds ≤ 1048576) (hA : ArgFs w ad ds) :
    Calls Try.prog 60 #[.slice ad ds.length cap] w fun e w' => ∃ v, e = .returned v ∧ OwnFs w' w.heap.size w'.heap.size v ds ∧ Upd 0 0 w w' := by
  have hn : ds.length ≤ 1048576 := by unfold sizeFs at hsz; omega
  have hEach : Hid (∀ k, k < ds.length → (Fss (ds.getD k Fr0)).length ≤ 1048576) := hide (fun k hk => by have := size1Fs_le ds k hk; unfold sizeFs at hsz; unfold size1Fs at this; omega)
  obtain ⟨i0, hi, hz0, hz1, hz2⟩ := info_parts infoFs
  replace hA := hide hA
  go_enter Try.func60, Try.ntmps60
  go_wp2_with (at_make; refine wpList_make_full _ rfl _ _ 47 rfl w.heap.size 27 i0 (.agg #[.int .i64 0, .int .i64 0, .int .i64 0, .int .i64 0, .int .i64 0, .int .i64 0, .int .i64 0, .slice none 0 0]) 8 Try.underlying47 hi hz0 hz1 .i64 .i64 _ _ ds.length rfl rfl (by omega) (by omega) (by rw [hz2]; omega) (by unfold maxLen; omega) (Nat.le_refl _) ?_; intro w1 hown hgrow)
  have hbel := (Below.refl w.heap.size w).grown hgrow (Nat.le_refl _) (by simp)
  generalize (madeCells (Value.cells (.agg #[.int .i64 0, .int .i64 0, .int .i64 0, .int .i64 0, .int .i64 0, .int .i64 0, .int .i64 0, .slice none 0 0])) (ds.length * 8)).toList = ys0 at hown
  clear hgrow
  go_loopw [4] (fun i wr => ∃ (k : Nat) (ys : List Value) (vs : Nat → Value), k ≤ ds.length ∧ i = .int .i64 k ∧ wr.ownsRow w.heap.size 27 8 (.slice (some ⟨w.heap.size, 0, none⟩) ds.length ds.length) ds.length ys ∧ Hid (RowFs ys ds vs k) ∧ Hid (∀ j, j < k → OwnI wr (w.heap.size + 1) wr.heap.size (vs j) (Fss (ds.getD j Fr0))) ∧ Hid (DistFs vs k) ∧ Below w.heap.size w wr) (fun i _ => ds.length - (intOf i).toNat)
  case atStart => exact ⟨0, ys0, fun _ => undef, Nat.zero_le _, rfl, hown, fun j hj => by omega, fun j hj => by omega, fun i j hi => by omega, hbel⟩
  case round =>
    clear hown hbel
    obtain ⟨k, ys, vs, hk, rfl, hown, hrow, hel, hdi, hbel⟩ := hrel
    by_cases hlt : k < ds.length
    · obtain ⟨b, off, us, rfl, hbl, hc, hru⟩ := ((unhide hA).below hbel) (ne_of_lt_length hlt)
      have hl : ys.length = ds.length * 8 := hown.1
      have hnk := unhide hEach k hlt
      obtain ⟨d0, d1, d2, d3, d4, d5, d6, d7⟩ := hc k hlt
      have hru2 := hru k hlt
      clear hc hru
      generalize hf : ds.getD k Fr0 = f at d0 d1 d2 d3 d4 d5 d6 d7 hru2 hnk
      replace hf := hide hf
      obtain ⟨x0, x1, x2, x3, x4, x5, x6, zs⟩ := f
      obtain ⟨uk, huk⟩ : ∃ uk, us k = uk := ⟨_, rfl⟩
      rw [huk] at d7 hru2
      clear huk
      obtain ⟨adk, capk, rfl, hAk⟩ := hru2
      simp only [Fss] at d0 d1 d2 d3 d4 d5 d6 d7 hnk hAk
      have hsz1 : w.heap.size + 1 ≤ wr.heap.size := (hown.lt w.heap.size rfl).2
      have hTo := hide (toFrame_own _ (x0, x1, x2, x3, x4, x5, x6, zs) wr hnk ⟨_, rfl, adk, capk, rfl, hAk⟩)
      replace hown := hide (Own.of hown)
      replace hbel := hide hbel
      clear hAk
      go_wp2_with fail
      refine (unhide hTo).mono ?_
      rintro e w2 ⟨u2, rfl, ho2, hu2⟩
      obtain ⟨vl, rfl, ho2⟩ := ho2
      obtain ⟨ad2, cap2, rfl, _⟩ := OwnI.rd ho2
      replace ho2 : OwnI w2 wr.heap.size w2.heap.size (.slice ad2 zs.length cap2) zs := ho2
      have hwz : wr.heap.size ≤ w2.heap.size := hu2.size
      have hel2 := hide (fun j (hj : j < k) => own_mono ((unhide hel j hj).keep hu2) (Nat.le_refl _) hwz)
      have helb := hide (fun j (hj : j < k) => (unhide hel j hj).2)
      have hown2 := ((unhide hown).keep hu2).1
      have hbel2 := below_upd (unhide hbel) hu2 (Nat.le_refl _) (.inr (Nat.le_refl _))
      clear hown hbel hel hu2 d0 d1 d2 d3 d4 d5 d6 d7
      have e0 : ∃ a, w2.cell? ⟨w.heap.size, k * 8, none⟩ = some a := by rw [hown2.cellAt _ (by omega)]; exact ⟨_, List.getElem?_eq_getElem (by omega)⟩
      have e1 : ∃ a, w2.cell? ⟨w.heap.size, k * 8 + 1, none⟩ = some a := by rw [hown2.cellAt _ (by omega)]; exact ⟨_, List.getElem?_eq_getElem (by omega)⟩
      have e2 : ∃ a, w2.cell? ⟨w.heap.size, k * 8 + 2, none⟩ = some a := by rw [hown2.cellAt _ (by omega)]; exact ⟨_, List.getElem?_eq_getElem (by omega)⟩
      have e3 : ∃ a, w2.cell? ⟨w.heap.size, k * 8 + 3, none⟩ = some a := by rw [hown2.cellAt _ (by omega)]; exact ⟨_, List.getElem?_eq_getElem (by omega)⟩
      have e4 : ∃ a, w2.cell? ⟨w.heap.size, k * 8 + 4, none⟩ = some a := by rw [hown2.cellAt _ (by omega)]; exact ⟨_, List.getElem?_eq_getElem (by omega)⟩
      have e5 : ∃ a, w2.cell? ⟨w.heap.size, k * 8 + 5, none⟩ = some a := by rw [hown2.cellAt _ (by omega)]; exact ⟨_, List.getElem?_eq_getElem (by omega)⟩
      have e6 : ∃ a, w2.cell? ⟨w.heap.size, k * 8 + 6, none⟩ = some a := by rw [hown2.cellAt _ (by omega)]; exact ⟨_, List.getElem?_eq_getElem (by omega)⟩
      have e7 : ∃ a, w2.cell? ⟨w.heap.size, k * 8 + 7, none⟩ = some a := by rw [hown2.cellAt _ (by omega)]; exact ⟨_, List.getElem?_eq_getElem (by omega)⟩
      obtain ⟨a0, e0⟩ := e0
      obtain ⟨a1, e1⟩ := e1
      obtain ⟨a2, e2⟩ := e2
      obtain ⟨a3, e3⟩ := e3
      obtain ⟨a4, e4⟩ := e4
      obtain ⟨a5, e5⟩ := e5
      obtain ⟨a6, e6⟩ := e6
      obtain ⟨a7, e7⟩ := e7
      have f0 := hown2.frozenAt (k * 8)
      have f1 := hown2.frozenAt (k * 8 + 1)
      have f2 := hown2.frozenAt (k * 8 + 2)
      have f3 := hown2.frozenAt (k * 8 + 3)
      have f4 := hown2.frozenAt (k * 8 + 4)
      have f5 := hown2.frozenAt (k * 8 + 5)
      have f6 := hown2.frozenAt (k * 8 + 6)
      have f7 := hown2.frozenAt (k * 8 + 7)
      have hst := hide (((((((((hown2.stored (k * 8) (.int .i64 x0)).1.stored (k * 8 + 1) (.int .i64 x1)).1.stored (k * 8 + 2) (.int .i64 x2)).1.stored (k * 8 + 3) (.int .i64 x3)).1.stored (k * 8 + 4) (.int .i64 x4)).1.stored (k * 8 + 5) (.int .i64 x5)).1.stored (k * 8 + 6) (.int .i64 x6)).1.stored (k * 8 + 7) (.slice ad2 zs.length cap2)).1)
      have hB2 := hide (((((((((hbel2.setCell (p := ⟨w.heap.size, k * 8, none⟩) (Nat.le_refl _) (.int .i64 x0)).setCell (p := ⟨w.heap.size, k * 8 + 1, none⟩) (Nat.le_refl _) (.int .i64 x1)).setCell (p := ⟨w.heap.size, k * 8 + 2, none⟩) (Nat.le_refl _) (.int .i64 x2)).setCell (p := ⟨w.heap.size, k * 8 + 3, none⟩) (Nat.le_refl _) (.int .i64 x3)).setCell (p := ⟨w.heap.size, k * 8 + 4, none⟩) (Nat.le_refl _) (.int .i64 x4)).setCell (p := ⟨w.heap.size, k * 8 + 5, none⟩) (Nat.le_refl _) (.int .i64 x5)).setCell (p := ⟨w.heap.size, k * 8 + 6, none⟩) (Nat.le_refl _) (.int .i64 x6)).setCell (p := ⟨w.heap.size, k * 8 + 7, none⟩) (Nat.le_refl _) (.slice ad2 zs.length cap2)))
      have ho3 : OwnI w2 (w.heap.size + 1) w2.heap.size (.slice ad2 zs.length cap2) zs := own_mono ho2 hsz1 (Nat.le_refl _)
      have hrow2 : Hid (RowFs ((((((((ys.set (k * 8) (.int .i64 x0)).set (k * 8 + 1) (.int .i64 x1)).set (k * 8 + 2) (.int .i64 x2)).set (k * 8 + 3) (.int .i64 x3)).set (k * 8 + 4) (.int .i64 x4)).set (k * 8 + 5) (.int .i64 x5)).set (k * 8 + 6) (.int .i64 x6)).set (k * 8 + 7) (.slice ad2 zs.length cap2)) ds (fun j => if j = k then .slice ad2 zs.length cap2 else vs j) (k + 1)) := by
        intro j hj
        by_cases e : j = k
        · subst e
          rw [unhide hf]
          refine ⟨?_, ?_, ?_, ?_, ?_, ?_, ?_, ?_⟩
          · rw [List.getElem?_set_ne (by omega), List.getElem?_set_ne (by omega), List.getElem?_set_ne (by omega), List.getElem?_set_ne (by omega), List.getElem?_set_ne (by omega), List.getElem?_set_ne (by omega), List.getElem?_set_ne (by omega), List.getElem?_set_self (by first | omega | (simp; omega))]
          · rw [List.getElem?_set_ne (by omega), List.getElem?_set_ne (by omega), List.getElem?_set_ne (by omega), List.getElem?_set_ne (by omega), List.getElem?_set_ne (by omega), List.getElem?_set_ne (by omega), List.getElem?_set_self (by first | omega | (simp; omega))]
          · rw [List.getElem?_set_ne (by omega), List.getElem?_set_ne (by omega), List.getElem?_set_ne (by omega), List.getElem?_set_ne (by omega), List.getElem?_set_ne (by omega), List.getElem?_set_self (by first | omega | (simp; omega))]
          · rw [List.getElem?_set_ne (by omega), List.getElem?_set_ne (by omega), List.getElem?_set_ne (by omega), List.getElem?_set_ne (by omega), List.getElem?_set_self (by first | omega | (simp; omega))]
          · rw [List.getElem?_set_ne (by omega), List.getElem?_set_ne (by omega), List.getElem?_set_ne (by omega), List.getElem?_set_self (by first | omega | (simp; omega))]
          · rw [List.getElem?_set_ne (by omega), List.getElem?_set_ne (by omega), List.getElem?_set_self (by first | omega | (simp; omega))]
          · rw [List.getElem?_set_ne (by omega), List.getElem?_set_self (by first | omega | (simp; omega))]
          · refine Eq.trans ?_ (congrArg some (if_pos rfl).symm); rw [List.getElem?_set_self (by first | omega | (simp; omega))]
        · have := unhide hrow j (by omega)
          refine ⟨?_, ?_, ?_, ?_, ?_, ?_, ?_, ?_⟩
          · rw [List.getElem?_set_ne (by omega), List.getElem?_set_ne (by omega), List.getElem?_set_ne (by omega), List.getElem?_set_ne (by omega), List.getElem?_set_ne (by omega), List.getElem?_set_ne (by omega), List.getElem?_set_ne (by omega), List.getElem?_set_ne (by omega)]; exact this.1
          · rw [List.getElem?_set_ne (by omega), List.getElem?_set_ne (by omega), List.getElem?_set_ne (by omega), List.getElem?_set_ne (by omega), List.getElem?_set_ne (by omega), List.getElem?_set_ne (by omega), List.getElem?_set_ne (by omega), List.getElem?_set_ne (by omega)]; exact this.2.1
          · rw [List.getElem?_set_ne (by omega), List.getElem?_set_ne (by omega), List.getElem?_set_ne (by omega), List.getElem?_set_ne (by omega), List.getElem?_set_ne (by omega), List.getElem?_set_ne (by omega), List.getElem?_set_ne (by omega), List.getElem?_set_ne (by omega)]; exact this.2.2.1
          · rw [List.getElem?_set_ne (by omega), List.getElem?_set_ne (by omega), List.getElem?_set_ne (by omega), List.getElem?_set_ne (by omega), List.getElem?_set_ne (by omega), List.getElem?_set_ne (by omega), List.getElem?_set_ne (by omega), List.getElem?_set_ne (by omega)]; exact this.2.2.2.1
          · rw [List.getElem?_set_ne (by omega), List.getElem?_set_ne (by omega), List.getElem?_set_ne (by omega), List.getElem?_set_ne (by omega), List.getElem?_set_ne (by omega), List.getElem?_set_ne (by omega), List.getElem?_set_ne (by omega), List.getElem?_set_ne (by omega)]; exact this.2.2.2.2.1
          · rw [List.getElem?_set_ne (by omega), List.getElem?_set_ne (by omega), List.getElem?_set_ne (by omega), List.getElem?_set_ne (by omega), List.getElem?_set_ne (by omega), List.getElem?_set_ne (by omega), List.getElem?_set_ne (by omega), List.getElem?_set_ne (by omega)]; exact this.2.2.2.2.2.1
          · rw [List.getElem?_set_ne (by omega), List.getElem?_set_ne (by omega), List.getElem?_set_ne (by omega), List.getElem?_set_ne (by omega), List.getElem?_set_ne (by omega), List.getElem?_set_ne (by omega), List.getElem?_set_ne (by omega), List.getElem?_set_ne (by omega)]; exact this.2.2.2.2.2.2.1
          · refine Eq.trans ?_ (congrArg some (if_neg e).symm); rw [List.getElem?_set_ne (by omega), List.getElem?_set_ne (by omega), List.getElem?_set_ne (by omega), List.getElem?_set_ne (by omega), List.getElem?_set_ne (by omega), List.getElem?_set_ne (by omega), List.getElem?_set_ne (by omega), List.getElem?_set_ne (by omega)]; exact this.2.2.2.2.2.2.2
      have hel3 : Hid (∀ j, j < k + 1 → OwnI ((((((((w2.setCell ⟨w.heap.size, k * 8, none⟩ (.int .i64 x0)).setCell ⟨w.heap.size, k * 8 + 1, none⟩ (.int .i64 x1)).setCell ⟨w.heap.size, k * 8 + 2, none⟩ (.int .i64 x2)).setCell ⟨w.heap.size, k * 8 + 3, none⟩ (.int .i64 x3)).setCell ⟨w.heap.size, k * 8 + 4, none⟩ (.int .i64 x4)).setCell ⟨w.heap.size, k * 8 + 5, none⟩ (.int .i64 x5)).setCell ⟨w.heap.size, k * 8 + 6, none⟩ (.int .i64 x6)).setCell ⟨w.heap.size, k * 8 + 7, none⟩ (.slice ad2 zs.length cap2)) (w.heap.size + 1) ((((((((w2.setCell ⟨w.heap.size, k * 8, none⟩ (.int .i64 x0)).setCell ⟨w.heap.size, k * 8 + 1, none⟩ (.int .i64 x1)).setCell ⟨w.heap.size, k * 8 + 2, none⟩ (.int .i64 x2)).setCell ⟨w.heap.size, k * 8 + 3, none⟩ (.int .i64 x3)).setCell ⟨w.heap.size, k * 8 + 4, none⟩ (.int .i64 x4)).setCell ⟨w.heap.size, k * 8 + 5, none⟩ (.int .i64 x5)).setCell ⟨w.heap.size, k * 8 + 6, none⟩ (.int .i64 x6)).setCell ⟨w.heap.size, k * 8 + 7, none⟩ (.slice ad2 zs.length cap2)).heap.size (if j = k then .slice ad2 zs.length cap2 else vs j) (Fss (ds.getD j Fr0))) := by
        intro j hj
        rw [sizesFs]
        by_cases e : j = k
        · subst e
          rw [if_pos rfl, unhide hf]
          exact Own.setsFs ho3 (Nat.lt_succ_self _) _ (.int .i64 x0) (.int .i64 x1) (.int .i64 x2) (.int .i64 x3) (.int .i64 x4) (.int .i64 x5) (.int .i64 x6) (.slice ad2 zs.length cap2)
        · rw [if_neg e]
          exact Own.setsFs (unhide hel2 j (by omega)) (Nat.lt_succ_self _) _ (.int .i64 x0) (.int .i64 x1) (.int .i64 x2) (.int .i64 x3) (.int .i64 x4) (.int .i64 x5) (.int .i64 x6) (.slice ad2 zs.length cap2)
      have hdi2 : Hid (DistFs (fun j => if j = k then .slice ad2 zs.length cap2 else vs j) (k + 1)) := by
        intro i j hi hj hne g hg hg'
        simp only at hg hg'
        by_cases e : i = k
        · rw [if_pos e] at hg
          rw [if_neg (by omega)] at hg'
          have h1 := (ho2.1.lt g hg).1
          have h2 := unhide helb j (by omega) g hg'
          omega
        · rw [if_neg e] at hg
          by_cases e' : j = k
          · rw [if_pos e'] at hg'
            have h1 := (ho2.1.lt g hg').1
            have h2 := unhide helb i (by omega) g hg
            omega
          · rw [if_neg e'] at hg'
            exact unhide hdi i j (by omega) (by omega) hne g hg hg'
      clear hown2 hbel2 hrow hf hel2 helb ho2 ho3 hdi hTo hEach
      simp only [Frv]
      go_wp2
      go_roundw
      case rel => exact ⟨k + 1, _, _, by omega, by go_num, unhide hst, hrow2, hel3, hdi2, unhide hB2⟩
      case measure => simp [intOf]; omega
    · have hkl : k = ds.length := by omega
      subst hkl
      replace hown := hide hown
      replace hbel := hide hbel
      go_wp2
      go_ret
      refine ⟨_, rfl, ⟨ys, vs, Own.of (unhide hown), unhide hrow, fun j hj => own_mono (unhide hel j hj) (by omega) (Nat.le_refl _), unhide hdi, fun j hj g hg => ?_⟩, Upd.of_below (unhide hbel) 0 0⟩
      have := ((unhide hel j hj).1.lt g hg).1
      simp [Value.ownBlock]
      omega

set_option maxHeartbeats 8000000 in
set_option maxRecDepth 100000 in
theorem eqFrameS_rd (u v : Value) (ds : Fs) (w : World) (hsz : sizeFs ds ≤ 1048576) (hu : RdFs w u ds) (hv : RdFs w v ds) :
    Calls Try.prog 66 #[u, v] w fun e w' => e = .returned (.bool true) ∧ Upd 0 0 w w' := by
  have hn : ds.length ≤ 1048576 := by unfold sizeFs at hsz; omega
  have hEach : Hid (∀ k, k < ds.length → (Fss (ds.getD k Fr0)).length ≤ 1048576) := hide (fun k hk => by have := size1Fs_le ds k hk; unfold sizeFs at hsz; unfold size1Fs at this; omega)
  obtain ⟨ad, cap, rfl, hA⟩ := hu
  obtain ⟨ad', cap', rfl, hA'⟩ := hv
  replace hA := hide hA
  replace hA' := hide hA'
  go_enter Try.func66, Try.ntmps66
  go_wp2
  go_loopw [5] (fun i wr => ∃ k : Nat, k ≤ ds.length ∧ i = .int .i64 k ∧ Below w.heap.size w wr) (fun i _ => ds.length - (intOf i).toNat)
  case atStart => exact ⟨0, Nat.zero_le _, rfl, Below.refl _ _⟩
  case round =>
    obtain ⟨k, hk, rfl, hbel⟩ := hrel
    by_cases hlt : k < ds.length
    · obtain ⟨b, off, us, rfl, hbl, hc, hr⟩ := ((unhide hA).below hbel) (ne_of_lt_length hlt)
      obtain ⟨b', off', us', rfl, hbl', hc', hr'⟩ := ((unhide hA').below hbel) (ne_of_lt_length hlt)
      obtain ⟨d0, d1, d2, d3, d4, d5, d6, d7⟩ := hc k hlt
      obtain ⟨g0, g1, g2, g3, g4, g5, g6, g7⟩ := hc' k hlt
      have hr2 := hr k hlt
      have hr2' := hr' k hlt
      have hnk := unhide hEach k hlt
      clear hc hc' hbl hbl' hr hr'
      generalize ds.getD k Fr0 = f at d0 d1 d2 d3 d4 d5 d6 d7 g0 g1 g2 g3 g4 g5 g6 g7 hr2 hr2' hnk
      obtain ⟨x0, x1, x2, x3, x4, x5, x6, zs⟩ := f
      obtain ⟨uk, huk⟩ : ∃ uk, us k = uk := ⟨_, rfl⟩
      obtain ⟨uk', huk'⟩ : ∃ uk', us' k = uk' := ⟨_, rfl⟩
      rw [huk] at d7 hr2
      rw [huk'] at g7 hr2'
      clear huk huk'
      simp only [Fss] at d0 d1 d2 d3 d4 d5 d6 d7 g0 g1 g2 g3 g4 g5 g6 g7 hr2 hr2' hnk
      have hEq := hide (fun (W : World) (hW : Below wr.heap.size wr W) => eqFrame_rd _ _ (x0, x1, x2, x3, x4, x5, x6, zs) W hnk ⟨_, rfl, hr2.below hW⟩ ⟨_, rfl, hr2'.below hW⟩)
      clear hr2 hr2' hnk
      have hk0 : (0 : Int) ≤ (k : Int) := by omega
      have hk1 : (k : Int) < (ds.length : Int) := by omega
      go_wp2_with fail
      go_region_with (go_at_call 29; refine (unhide hEq _ (Below.refl _ _).drew).mono ?_; rintro e w2 ⟨rfl, hb2⟩)
      all_goals
        have hb3 := hbel.drew.trans (hb2.below (B := w.heap.size) (by simpa using hbel.size) (.inr (Nat.zero_le _)))
        clear hb2
        go_wp2
        go_roundw
        case rel => exact ⟨k + 1, by omega, by go_num, hb3⟩
        case measure => simp [intOf]; omega
    · have hkl : k = ds.length := by omega
      subst hkl
      go_wp2
      go_ret
      exact ⟨rfl, Upd.of_below hbel 0 0⟩

set_option maxHeartbeats 8000000 in
set_option maxRecDepth 100000 in
theorem szFrameS_any (ad : Option Addr) (ds : Fs) (cap : Nat) (left : Int) (w : World) (h0 : 0 ≤ left) (h1 : left ≤ 1099511627776) (hn : ds.length ≤ 9223372036854775807) (hI : ∀ j, (Fss (ds.getD j Fr0)).length ≤ 9223372036854775807) (hA : ArgFs w ad ds) :
    Calls Try.prog 58 #[.slice ad ds.length cap, .int .i64 left] w fun e w' => e = .returned (.int .i64 (if left < ((sizeFs ds : Nat) : Int) then -1 else left - ((sizeFs ds : Nat) : Int))) ∧ Upd 0 0 w w' := by
  by_cases hlt : left < ds.length
  · have hc : left < ((sizeFs ds : Nat) : Int) := by unfold sizeFs; omega
    rw [if_pos hc]
    clear hA hI
    go_enter Try.func58, Try.ntmps58
    go_wp2
    go_ret
    exact ⟨rfl, Upd.refl _ _ _⟩
  · replace hA := hide hA
    replace hI := hide hI
    have q : decide (left - (ds.length : Int) < 0) = false := by simp; omega
    obtain ⟨R, hR⟩ : ∃ R : Int, R = if left < ((sizeFs ds : Nat) : Int) then -1 else left - ((sizeFs ds : Nat) : Int) := ⟨_, rfl⟩
    rw [← hR]
    replace hR := hide hR
    go_enter Try.func58, Try.ntmps58
    go_wp2
    go_loopw [1, 5] (fun l i wr => ∃ k : Nat, k ≤ ds.length ∧ i = .int .i64 k ∧ l = .int .i64 (left - (ds.length : Int) - ((szToFs ds k : Nat) : Int)) ∧ Hid (0 ≤ left - (ds.length : Int) - ((szToFs ds k : Nat) : Int)) ∧ Below w.heap.size w wr) (fun _ i _ => ds.length - (intOf i).toNat)
    case atStart => exact ⟨0, Nat.zero_le _, rfl, by simp [szToFs], hide (by simp [szToFs]; omega), Below.refl _ _⟩
    case round =>
      obtain ⟨k, hk, rfl, rfl, hp, hbel⟩ := hrel
      by_cases hk' : k < ds.length
      · obtain ⟨b, off, us, rfl, hbl, hc, hru⟩ := ((unhide hA).below hbel) (ne_of_lt_length hk')
        obtain ⟨d0, d1, d2, d3, d4, d5, d6, d7⟩ := hc k hk'
        have hru2 := hru k hk'
        have hnk := unhide hI k
        have hs := hide (szToFs_succ ds k hk')
        have hle := hide (szToFs_le ds (k + 1))
        have hp' := unhide hp
        clear hc hbl hru
        generalize ds.getD k Fr0 = f at d0 d1 d2 d3 d4 d5 d6 d7 hru2 hnk hs
        obtain ⟨x0, x1, x2, x3, x4, x5, x6, zs⟩ := f
        obtain ⟨uk, huk⟩ : ∃ uk, us k = uk := ⟨_, rfl⟩
        rw [huk] at d7 hru2
        clear huk
        obtain ⟨adk, capk, rfl, _⟩ := hru2
        simp only [Fss] at d0 d1 d2 d3 d4 d5 d6 d7 hnk
        change Hid (szToFs ds (k + 1) = szToFs ds k + (zs.length)) at hs
        obtain ⟨l0, hl0⟩ : ∃ l0 : Int, l0 = left - (ds.length : Int) - ((szToFs ds k : Nat) : Int) := ⟨_, rfl⟩
        rw [← hl0] at hp' ⊢
        have hSz := hide (szFrame_any x0 x1 x2 x3 x4 x5 x6 zs adk capk l0 wr hp' (by omega) hnk)
        replace hl0 := hide hl0
        replace hp' := hide hp'
        clear hp hnk hlt q h0 h1
        by_cases hx : l0 < ((zs.length : Nat) : Int)
        · rw [if_pos hx] at hSz
          go_wp2_with fail
          refine (unhide hSz).mono ?_
          rintro e w2 ⟨rfl, hu⟩
          have hb2 := hide (below_upd hbel hu (Nat.le_refl _) (.inr (Nat.zero_le _)))
          have hE : R = -1 := by
            rw [unhide hR, if_pos]
            have := unhide hl0; have := unhide hs; have := unhide hle
            unfold sizeFs; omega
          subst hE
          clear hu hSz
          go_wp2
          go_ret
          exact ⟨rfl, Upd.of_below (unhide hb2) 0 0⟩
        · rw [if_neg hx] at hSz
          have q2 : decide (l0 - ((zs.length : Nat) : Int) < 0) = false := by simp; omega
          have hnx : Hid (0 ≤ l0 - ((zs.length : Nat) : Int)) := hide (by omega)
          have he : Hid (l0 - ((zs.length : Nat) : Int) = left - (ds.length : Int) - ((szToFs ds (k + 1) : Nat) : Int)) := hide (by have := unhide hl0; have := unhide hs; omega)
          obtain ⟨l1, hl1⟩ : ∃ l1 : Int, l1 = l0 - ((zs.length : Nat) : Int) := ⟨_, rfl⟩
          rw [← hl1] at hSz q2 hnx he
          clear hl1 hx
          go_wp2_with fail
          refine (unhide hSz).mono ?_
          rintro e w2 ⟨rfl, hu⟩
          have hb2 := hide (below_upd hbel hu (Nat.le_refl _) (.inr (Nat.zero_le _)))
          clear hu hSz
          go_wp2
          go_roundw
          case rel => exact ⟨k + 1, by omega, by go_num, by rw [← unhide he], by rw [← unhide he]; exact hnx, unhide hb2⟩
          case measure => simp [intOf]; omega
      · have hkl : k = ds.length := by omega
        subst hkl
        have hE : R = left - (ds.length : Int) - ((szToFs ds ds.length : Nat) : Int) := by
          rw [unhide hR, if_neg]
          · unfold sizeFs; omega
          · have := unhide hp; unfold sizeFs; omega
        replace hbel := hide hbel
        rw [← hE] at hp ⊢
        clear hE hR hlt q
        go_wp2
        go_ret
        exact ⟨rfl, Upd.of_below (unhide hbel) 0 0⟩
theorem szFrameS_in (ad : Option Addr) (ds : Fs) (cap : Nat) (left : Int) (w : World) (h0 : 0 ≤ left) (h1 : left ≤ 1099511627776) (hn : ds.length ≤ 9223372036854775807) (hI : InFs ds) (hA : ArgFs w ad ds) :
    Calls Try.prog 58 #[.slice ad ds.length cap, .int .i64 left] w fun e w' => e = .returned (.int .i64 (if left < ((sizeFs ds : Nat) : Int) then -1 else left - ((sizeFs ds : Nat) : Int))) ∧ Upd 0 0 w w' := szFrameS_any ad ds cap left w h0 h1 hn hI.2 hA
end Go.Proofs.Ytbdegomnlconjaa

/- Movings as arguments and answers; the walks of the laws' own helpers on them. -/
namespace Go.Proofs.Ytbdegomnlconjaa
open Go.RowKit

abbrev Mv := Int × Int × List Int × Int × List Fr
abbrev Mvv (d : Mv) (v0 v1 : Value) : Value := .agg #[.int .i64 d.1, .int .i64 d.2.1, v0, .int .i64 d.2.2.2.1, v1]
def RdMv (w : World) (v : Value) (d : Mv) : Prop := ∃ v0 v1, v = Mvv d v0 v1 ∧ RdI w v0 d.2.2.1 ∧ RdFs w v1 d.2.2.2.2
def OwnMv (w : World) (a b : Nat) (v : Value) (d : Mv) : Prop := ∃ v0 v1 a1, v = Mvv d v0 v1 ∧ (a ≤ a1 ∧ a1 ≤ b) ∧ OwnI w a a1 v0 d.2.2.1 ∧ OwnFs w a1 b v1 d.2.2.2.2
theorem OwnMv.rd {w : World} {a b : Nat} {v : Value} {d : Mv} (h : OwnMv w a b v d) : RdMv w v d := by
  obtain ⟨v0, v1, a1, rfl, _, h0, h1⟩ := h
  exact ⟨v0, v1, rfl, h0.rd, h1.rd⟩
theorem RdMv.below {w w' : World} {v : Value} {d : Mv} (h : RdMv w v d) (hb : Below w.heap.size w w') : RdMv w' v d := by
  obtain ⟨v0, v1, rfl, h0, h1⟩ := h
  exact ⟨v0, v1, rfl, h0.below hb, h1.below hb⟩
theorem OwnMv.upd {w w' : World} {a b c e : Nat} {v : Value} {d : Mv} (h : OwnMv w a b v d) (u : Upd c e w w') (hd : b ≤ c ∨ e ≤ a) : OwnMv w' a b v d := by
  obtain ⟨v0, v1, a1, rfl, hch, h0, h1⟩ := h
  exact ⟨v0, v1, a1, rfl, hch, h0.upd u (by omega), h1.upd u (by omega)⟩
theorem OwnMv.keep {w w' : World} {a b : Nat} {v : Value} {d : Mv} (h : OwnMv w a b v d) (u : Upd 0 0 w w') : OwnMv w' a b v d := h.upd u (.inr (Nat.zero_le _))
theorem OwnMv.form {w : World} {a b : Nat} {v : Value} {d : Mv} (h : OwnMv w a b v d) : ∃ ad0 cap0 ad1 cap1, v = Mvv d (.slice ad0 d.2.2.1.length cap0) (.slice ad1 d.2.2.2.2.length cap1) := by
  obtain ⟨v0, v1, a1, rfl, _, h0, h1⟩ := h
  obtain ⟨ad0, cap0, rfl, _⟩ := h0.rd
  obtain ⟨ad1, cap1, rfl, _⟩ := h1.rd
  exact ⟨ad0, cap0, ad1, cap1, rfl⟩
/-- All numbers fit. -/
def InMv (d : Mv) : Prop := (-9223372036854775808 ≤ d.1 ∧ d.1 ≤ 9223372036854775807) ∧ (-9223372036854775808 ≤ d.2.1 ∧ d.2.1 ≤ 9223372036854775807) ∧ InI d.2.2.1 ∧ (-9223372036854775808 ≤ d.2.2.2.1 ∧ d.2.2.2.1 ≤ 9223372036854775807) ∧ InFs d.2.2.2.2
def MvSize (d : Mv) : Nat := d.2.2.1.length + sizeFs d.2.2.2.2
def MvCount (d : Mv) : Nat := d.2.2.1.length + 0 * d.2.2.2.2.length

set_option maxHeartbeats 8000000 in
set_option maxRecDepth 100000 in
theorem toMoving_own (v : Value) (d : Mv) (w : World) (hn : MvSize d ≤ 1048576) (hv : RdMv w v d) :
    Calls Try.prog 21 #[v] w fun e w' => ∃ u, e = .returned u ∧ OwnMv w' w.heap.size w'.heap.size u d ∧ Upd 0 0 w w' := by
  obtain ⟨l0, l1, rfl, hr0, hr1⟩ := hv
  obtain ⟨x0, x1, zs0, x2, zs1⟩ := d
  simp only [Mvv, MvSize] at hn ⊢
  have hn0 : zs0.length ≤ 1048576 := by omega
  have hn1 : sizeFs zs1 ≤ 1048576 := by omega
  have hB0 := (((Below.refl w.heap.size w).alloc (Nat.le_refl _) (.cells #[.int .i64 x0, .int .i64 x1, l0, .int .i64 x2, l1] 44)).alloc (by simp) (.cells #[.int .i64 0, .int .i64 0, .slice none 0 0, .int .i64 0, .slice none 0 0] 49)).alloc (by simp; omega) (.cells #[.int .i64 x0, .int .i64 x1, .slice none 0 0, .int .i64 0, .slice none 0 0] 49)
  have hbx := ((heldF_new w [.int .i64 x0, .int .i64 x1, l0, .int .i64 x2, l1] 44).keep (Upd.of_below ((Below.refl _ _).alloc (Nat.le_refl _) (.cells #[.int .i64 0, .int .i64 0, .slice none 0 0, .int .i64 0, .slice none 0 0] 49)) 0 0)).keep (Upd.of_below ((Below.refl _ _).alloc (Nat.le_refl _) (.cells #[.int .i64 x0, .int .i64 x1, .slice none 0 0, .int .i64 0, .slice none 0 0] 49)) 0 0)
  have hrs := (heldF_new (w.alloc (.cells #[.int .i64 x0, .int .i64 x1, l0, .int .i64 x2, l1] 44)) [.int .i64 0, .int .i64 0, .slice none 0 0, .int .i64 0, .slice none 0 0] 49).keep (Upd.of_below ((Below.refl _ _).alloc (Nat.le_refl _) (.cells #[.int .i64 x0, .int .i64 x1, .slice none 0 0, .int .i64 0, .slice none 0 0] 49)) 0 0)
  have hot := heldF_new ((w.alloc (.cells #[.int .i64 x0, .int .i64 x1, l0, .int .i64 x2, l1] 44)).alloc (.cells #[.int .i64 0, .int .i64 0, .slice none 0 0, .int .i64 0, .slice none 0 0] 49)) [.int .i64 x0, .int .i64 x1, .slice none 0 0, .int .i64 0, .slice none 0 0] 49
  have hsz : (((w.alloc (.cells #[.int .i64 x0, .int .i64 x1, l0, .int .i64 x2, l1] 44)).alloc (.cells #[.int .i64 0, .int .i64 0, .slice none 0 0, .int .i64 0, .slice none 0 0] 49)).alloc (.cells #[.int .i64 x0, .int .i64 x1, .slice none 0 0, .int .i64 0, .slice none 0 0] 49)).heap.size = w.heap.size + 3 := by simp
  have e1 : (w.alloc (.cells #[.int .i64 x0, .int .i64 x1, l0, .int .i64 x2, l1] 44)).heap.size = w.heap.size + 1 := by simp
  have e2 : ((w.alloc (.cells #[.int .i64 x0, .int .i64 x1, l0, .int .i64 x2, l1] 44)).alloc (.cells #[.int .i64 0, .int .i64 0, .slice none 0 0, .int .i64 0, .slice none 0 0] 49)).heap.size = w.heap.size + 2 := by simp
  rw [e1] at hrs
  rw [e2] at hot
  clear e1 e2
  replace hr0 := hide hr0
  replace hr1 := hide hr1
  go_enter Try.func21, Try.ntmps21
  go_wp2_with fail
  generalize (((w.alloc (.cells #[.int .i64 x0, .int .i64 x1, l0, .int .i64 x2, l1] 44)).alloc (.cells #[.int .i64 0, .int .i64 0, .slice none 0 0, .int .i64 0, .slice none 0 0] 49)).alloc (.cells #[.int .i64 x0, .int .i64 x1, .slice none 0 0, .int .i64 0, .slice none 0 0] 49)) = w0 at hB0 hbx hrs hot hsz ⊢
  have hB := hide hB0
  replace hbx := hide hbx
  replace hrs := hide hrs
  replace hot := hide hot
  have hs0 : w.heap.size + 3 ≤ w0.heap.size := by omega
  clear hsz hB0
  obtain ⟨adx0, cpx0, hfx0, hax0⟩ := ((unhide hr0).below (unhide hB))
  rw [hfx0]
  refine (toIntS_own adx0 cpx0 zs0 w0 hn0 hax0).mono ?_
  rintro e w1 ⟨u2, rfl, ho2, hu⟩
  obtain ⟨as0, cs0, rfl, _⟩ := ho2.rd
  replace ho2 := hide ho2
  replace hot := hide ((unhide hot).keep hu)
  replace hbx := hide ((unhide hbx).keep hu)
  replace hrs := hide ((unhide hrs).keep hu)
  replace hB := hide (below_upd (unhide hB) hu (Nat.le_refl _) (.inr (Nat.le_refl _)))
  have hs1 : w0.heap.size ≤ w1.heap.size := hu.size
  clear hu
  have cb0 := (unhide hbx).1.2 0 _ rfl
  have cb1 := (unhide hbx).1.2 1 _ rfl
  have cb2 := (unhide hbx).1.2 2 _ rfl
  have cb3 := (unhide hbx).1.2 3 _ rfl
  have cb4 := (unhide hbx).1.2 4 _ rfl
  have cbl := (unhide hbx).1.1
  have co0 := (unhide hot).1.2 0 _ rfl
  have co1 := (unhide hot).1.2 1 _ rfl
  have co2 := (unhide hot).1.2 2 _ rfl
  have co3 := (unhide hot).1.2 3 _ rfl
  have co4 := (unhide hot).1.2 4 _ rfl
  have col := (unhide hot).1.1
  have coz0 := (unhide hot).2 0
  have coz1 := (unhide hot).2 1
  have coz2 := (unhide hot).2 2
  have coz3 := (unhide hot).2 3
  have coz4 := (unhide hot).2 4
  go_wp2_with fail
  clear cb0 cb1 cb2 cb3 cb4 cbl co0 co1 co2 co3 co4 col coz0 coz1 coz2 coz3 coz4
  replace hot := hide (((unhide hot).set 2 (.slice as0 zs0.length cs0) (by simp)).set 3 (.int .i64 x2) (by simp))
  replace hbx := hide (((unhide hbx).other (g' := w.heap.size + 2) (by omega) 2 (.slice as0 zs0.length cs0)).other (g' := w.heap.size + 2) (by omega) 3 (.int .i64 x2))
  replace hrs := hide (((unhide hrs).other (g' := w.heap.size + 2) (by omega) 2 (.slice as0 zs0.length cs0)).other (g' := w.heap.size + 2) (by omega) 3 (.int .i64 x2))
  replace hB := hide (((unhide hB).setCell (p := ⟨w.heap.size + 2, 2, none⟩) (by first | (simp; done) | (simp; omega)) (.slice as0 zs0.length cs0)).setCell (p := ⟨w.heap.size + 2, 3, none⟩) (by first | (simp; done) | (simp; omega)) (.int .i64 x2))
  simp only [List.set_cons_zero, List.set_cons_succ] at hot
  replace ho2 := hide (((unhide ho2).set' (c := w.heap.size + 2) (by omega) 2 (.slice as0 zs0.length cs0)).set' (c := w.heap.size + 2) (by omega) 3 (.int .i64 x2))
  have hsz1 : ((w1.setCell ⟨w.heap.size + 2, 2, none⟩ (.slice as0 zs0.length cs0)).setCell ⟨w.heap.size + 2, 3, none⟩ (.int .i64 x2)).heap.size = w1.heap.size := by simp
  generalize ((w1.setCell ⟨w.heap.size + 2, 2, none⟩ (.slice as0 zs0.length cs0)).setCell ⟨w.heap.size + 2, 3, none⟩ (.int .i64 x2)) = W1 at hot hbx hrs hB hsz1 ho2 ⊢
  have hs1b : w1.heap.size ≤ W1.heap.size := by omega
  obtain ⟨adx1, cpx1, hfx1, hax1⟩ := ((unhide hr1).below (unhide hB))
  rw [hfx1]
  refine (toFrameS_own adx1 cpx1 zs1 W1 hn1 hax1).mono ?_
  rintro e w2 ⟨u4, rfl, ho4, hu⟩
  obtain ⟨as1, cs1, rfl, _⟩ := ho4.rd
  replace ho2 := hide ((unhide ho2).keep hu)
  replace ho4 := hide ho4
  replace hot := hide ((unhide hot).keep hu)
  replace hbx := hide ((unhide hbx).keep hu)
  replace hrs := hide ((unhide hrs).keep hu)
  replace hB := hide (below_upd (unhide hB) hu (Nat.le_refl _) (.inr (Nat.le_refl _)))
  have hs2 : W1.heap.size ≤ w2.heap.size := hu.size
  clear hu
  have cb0 := (unhide hbx).1.2 0 _ rfl
  have cb1 := (unhide hbx).1.2 1 _ rfl
  have cb2 := (unhide hbx).1.2 2 _ rfl
  have cb3 := (unhide hbx).1.2 3 _ rfl
  have cb4 := (unhide hbx).1.2 4 _ rfl
  have cbl := (unhide hbx).1.1
  have co0 := (unhide hot).1.2 0 _ rfl
  have co1 := (unhide hot).1.2 1 _ rfl
  have co2 := (unhide hot).1.2 2 _ rfl
  have co3 := (unhide hot).1.2 3 _ rfl
  have co4 := (unhide hot).1.2 4 _ rfl
  have col := (unhide hot).1.1
  have coz0 := (unhide hot).2 0
  have coz1 := (unhide hot).2 1
  have coz2 := (unhide hot).2 2
  have coz3 := (unhide hot).2 3
  have coz4 := (unhide hot).2 4
  have cr0 := (unhide hrs).1.2 0 _ rfl
  have cr1 := (unhide hrs).1.2 1 _ rfl
  have cr2 := (unhide hrs).1.2 2 _ rfl
  have cr3 := (unhide hrs).1.2 3 _ rfl
  have cr4 := (unhide hrs).1.2 4 _ rfl
  have crl := (unhide hrs).1.1
  have crz0 := (unhide hrs).2 0
  have crz1 := (unhide hrs).2 1
  have crz2 := (unhide hrs).2 2
  have crz3 := (unhide hrs).2 3
  have crz4 := (unhide hrs).2 4
  go_wp2
  refine bodyPost_ret (v := .agg #[.int .i64 x0, .int .i64 x1, .slice as0 zs0.length cs0, .int .i64 x2, .slice as1 zs1.length cs1]) (by simp [results, Try.results21, go_sem, cr0, cr1, cr2, cr3, cr4]) rfl ⟨_, rfl, ⟨_, _, w1.heap.size, rfl, ⟨(by first | omega | (simp; done) | (simp; omega)), (by first | omega | (simp; done) | (simp; omega))⟩, own_mono (((((((unhide ho2).set' (c := w.heap.size + 2) (by omega) 4 _).set' (c := w.heap.size + 1) (by omega) 0 _).set' (c := w.heap.size + 1) (by omega) 1 _).set' (c := w.heap.size + 1) (by omega) 2 _).set' (c := w.heap.size + 1) (by omega) 3 _).set' (c := w.heap.size + 1) (by omega) 4 _) (by first | omega | (simp; done) | (simp; omega)) (by first | omega | (simp; done) | (simp; omega)), OwnFs.mono (((((((unhide ho4).set' (c := w.heap.size + 2) (by omega) 4 _).set' (c := w.heap.size + 1) (by omega) 0 _).set' (c := w.heap.size + 1) (by omega) 1 _).set' (c := w.heap.size + 1) (by omega) 2 _).set' (c := w.heap.size + 1) (by omega) 3 _).set' (c := w.heap.size + 1) (by omega) 4 _) (by first | omega | (simp; done) | (simp; omega)) (by first | omega | (simp; done) | (simp; omega))⟩, Upd.of_below (((((((unhide hB).setCell (p := ⟨w.heap.size + 2, 4, none⟩) (by first | (simp; done) | (simp; omega)) _).setCell (p := ⟨w.heap.size + 1, 0, none⟩) (by first | (simp; done) | (simp; omega)) _).setCell (p := ⟨w.heap.size + 1, 1, none⟩) (by first | (simp; done) | (simp; omega)) _).setCell (p := ⟨w.heap.size + 1, 2, none⟩) (by first | (simp; done) | (simp; omega)) _).setCell (p := ⟨w.heap.size + 1, 3, none⟩) (by first | (simp; done) | (simp; omega)) _).setCell (p := ⟨w.heap.size + 1, 4, none⟩) (by first | (simp; done) | (simp; omega)) _) 0 0⟩

set_option maxHeartbeats 4000000 in
set_option maxRecDepth 100000 in
theorem szMoving_any (x0 : Int) (x1 : Int) (zs0 : List Int) (x2 : Int) (zs1 : List Fr) (ad0 : Option Addr) (cap0 : Nat) (ad1 : Option Addr) (cap1 : Nat) (left : Int) (w : World) (h0 : 0 ≤ left) (h1 : left ≤ 1099511627776) (hb0 : zs0.length ≤ 9223372036854775807) (hb1 : zs1.length ≤ 9223372036854775807) (hi1 : InFs zs1) (ha1 : ArgFs w ad1 zs1) :
    Calls Try.prog 19 #[.agg #[.int .i64 x0, .int .i64 x1, .slice ad0 zs0.length cap0, .int .i64 x2, .slice ad1 zs1.length cap1], .int .i64 left] w fun e w' => e = .returned (.int .i64 (if left < ((zs0.length + sizeFs zs1 : Nat) : Int) then -1 else left - ((zs0.length + sizeFs zs1 : Nat) : Int))) ∧ Upd 0 0 w w' := by
  replace hi1 := hide hi1
  replace ha1 := hide ha1
  obtain ⟨R, hR⟩ : ∃ R : Int, (if left < ((zs0.length + sizeFs zs1 : Nat) : Int) then -1 else left - ((zs0.length + sizeFs zs1 : Nat) : Int)) = R := ⟨_, rfl⟩
  rw [hR]
  have hbx0 := heldF_new w [.int .i64 x0, .int .i64 x1, .slice ad0 zs0.length cap0, .int .i64 x2, .slice ad1 zs1.length cap1] 44
  have hB0 := (Below.refl w.heap.size w).alloc (Nat.le_refl _) (.cells #[.int .i64 x0, .int .i64 x1, .slice ad0 zs0.length cap0, .int .i64 x2, .slice ad1 zs1.length cap1] 44)
  obtain ⟨l0, e0⟩ : ∃ l : Int, l = left := ⟨_, rfl⟩
  rw [← e0] at hR h0 h1 ⊢
  subst e0
  skip
  obtain ⟨l1, e1⟩ : ∃ l : Int, l = l0 - ((((zs0.length) : Nat)) : Int) := ⟨_, rfl⟩
  by_cases c0 : l0 < ((((zs0.length) : Nat)) : Int)
  · have hRe : R = -1 := by rw [← hR, if_pos (by omega)]
    subst hRe
    replace hR := hide hR
    replace e1 := hide e1
    go_enter Try.func19, Try.ntmps19
    go_wp2_with fail
    generalize w.alloc (.cells #[.int .i64 x0, .int .i64 x1, .slice ad0 zs0.length cap0, .int .i64 x2, .slice ad1 zs1.length cap1] 44) = w0 at hbx0 hB0 ⊢
    have hbx := hide hbx0
    have hB := hide hB0
    clear hbx0 hB0
    have hC := upd_of_same (szIntS_any ad0 zs0.length cap0 l0 w0 (by omega) (by omega) hb0)
    rw [if_pos (by omega)] at hC
    replace hC := hide hC
    refine (unhide hC).mono ?_
    rintro e w1 ⟨rfl, hu⟩
    replace hbx := hide ((unhide hbx).keep hu)
    replace hB := hide (below_upd (unhide hB) hu (Nat.le_refl _) (.inr (Nat.le_refl _)))
    clear hu hC
    have cb0 := (unhide hbx).1.2 0 _ rfl
    have cb1 := (unhide hbx).1.2 1 _ rfl
    have cb2 := (unhide hbx).1.2 2 _ rfl
    have cb3 := (unhide hbx).1.2 3 _ rfl
    have cb4 := (unhide hbx).1.2 4 _ rfl
    go_wp2
    go_ret
    exact ⟨by first | rfl | exact ret_int (by have := unhide hR; omega), Upd.of_below (unhide hB) 0 0⟩
  · skip
    have q0 : decide (l1 < 0) = false := by simp; omega
    have n0 : 0 ≤ l1 := by omega
    have m0 : l1 ≤ 1099511627776 := by omega
    obtain ⟨l2, e2⟩ : ∃ l : Int, l = l1 - ((((sizeFs zs1) : Nat)) : Int) := ⟨_, rfl⟩
    by_cases c1 : l1 < ((((sizeFs zs1) : Nat)) : Int)
    · have hRe : R = -1 := by rw [← hR, if_pos (by omega)]
      subst hRe
      replace hR := hide hR
      replace e1 := hide e1
      replace e2 := hide e2
      go_enter Try.func19, Try.ntmps19
      go_wp2_with fail
      generalize w.alloc (.cells #[.int .i64 x0, .int .i64 x1, .slice ad0 zs0.length cap0, .int .i64 x2, .slice ad1 zs1.length cap1] 44) = w0 at hbx0 hB0 ⊢
      have hbx := hide hbx0
      have hB := hide hB0
      clear hbx0 hB0
      have hC := upd_of_same (szIntS_any ad0 zs0.length cap0 l0 w0 (by omega) (by omega) hb0)
      rw [if_neg (by omega)] at hC
      rw [← unhide e1] at hC
      replace hC := hide hC
      refine (unhide hC).mono ?_
      rintro e w1 ⟨rfl, hu⟩
      replace hbx := hide ((unhide hbx).keep hu)
      replace hB := hide (below_upd (unhide hB) hu (Nat.le_refl _) (.inr (Nat.le_refl _)))
      clear hu hC
      have cb0 := (unhide hbx).1.2 0 _ rfl
      have cb1 := (unhide hbx).1.2 1 _ rfl
      have cb2 := (unhide hbx).1.2 2 _ rfl
      have cb3 := (unhide hbx).1.2 3 _ rfl
      have cb4 := (unhide hbx).1.2 4 _ rfl
      go_wp2_with fail
      clear cb0 cb1 cb2 cb3 cb4
      have hC := szFrameS_in ad1 zs1 cap1 l1 w1 (by omega) (by omega) hb1 (unhide hi1) ((unhide ha1).below (unhide hB))
      rw [if_pos (by omega)] at hC
      replace hC := hide hC
      refine (unhide hC).mono ?_
      rintro e w2 ⟨rfl, hu⟩
      replace hbx := hide ((unhide hbx).keep hu)
      replace hB := hide (below_upd (unhide hB) hu (Nat.le_refl _) (.inr (Nat.le_refl _)))
      clear hu hC
      have cb0 := (unhide hbx).1.2 0 _ rfl
      have cb1 := (unhide hbx).1.2 1 _ rfl
      have cb2 := (unhide hbx).1.2 2 _ rfl
      have cb3 := (unhide hbx).1.2 3 _ rfl
      have cb4 := (unhide hbx).1.2 4 _ rfl
      go_wp2
      go_ret
      exact ⟨by first | rfl | exact ret_int (by have := unhide hR; omega), Upd.of_below (unhide hB) 0 0⟩
    · skip
      have q1 : decide (l2 < 0) = false := by simp; omega
      have n1 : 0 ≤ l2 := by omega
      have m1 : l2 ≤ 1099511627776 := by omega
      have hRe : R = l2 := by rw [← hR, if_neg (by omega)]; omega
      subst hRe
      replace hR := hide hR
      replace e1 := hide e1
      replace e2 := hide e2
      go_enter Try.func19, Try.ntmps19
      go_wp2_with fail
      generalize w.alloc (.cells #[.int .i64 x0, .int .i64 x1, .slice ad0 zs0.length cap0, .int .i64 x2, .slice ad1 zs1.length cap1] 44) = w0 at hbx0 hB0 ⊢
      have hbx := hide hbx0
      have hB := hide hB0
      clear hbx0 hB0
      have hC := upd_of_same (szIntS_any ad0 zs0.length cap0 l0 w0 (by omega) (by omega) hb0)
      rw [if_neg (by omega)] at hC
      rw [← unhide e1] at hC
      replace hC := hide hC
      refine (unhide hC).mono ?_
      rintro e w1 ⟨rfl, hu⟩
      replace hbx := hide ((unhide hbx).keep hu)
      replace hB := hide (below_upd (unhide hB) hu (Nat.le_refl _) (.inr (Nat.le_refl _)))
      clear hu hC
      have cb0 := (unhide hbx).1.2 0 _ rfl
      have cb1 := (unhide hbx).1.2 1 _ rfl
      have cb2 := (unhide hbx).1.2 2 _ rfl
      have cb3 := (unhide hbx).1.2 3 _ rfl
      have cb4 := (unhide hbx).1.2 4 _ rfl
      go_wp2_with fail
      clear cb0 cb1 cb2 cb3 cb4
      have hC := szFrameS_in ad1 zs1 cap1 l1 w1 (by omega) (by omega) hb1 (unhide hi1) ((unhide ha1).below (unhide hB))
      rw [if_neg (by omega)] at hC
      rw [← unhide e2] at hC
      replace hC := hide hC
      refine (unhide hC).mono ?_
      rintro e w2 ⟨rfl, hu⟩
      replace hbx := hide ((unhide hbx).keep hu)
      replace hB := hide (below_upd (unhide hB) hu (Nat.le_refl _) (.inr (Nat.le_refl _)))
      clear hu hC
      have cb0 := (unhide hbx).1.2 0 _ rfl
      have cb1 := (unhide hbx).1.2 1 _ rfl
      have cb2 := (unhide hbx).1.2 2 _ rfl
      have cb3 := (unhide hbx).1.2 3 _ rfl
      have cb4 := (unhide hbx).1.2 4 _ rfl
      go_wp2
      go_ret
      exact ⟨by first | rfl | exact ret_int (by have := unhide hR; omega), Upd.of_below (unhide hB) 0 0⟩

set_option maxHeartbeats 4000000 in
set_option maxRecDepth 100000 in
theorem eqMoving_rd (u v : Value) (d : Mv) (w : World) (hn : MvSize d ≤ 1048576) (hu : RdMv w u d) (hv : RdMv w v d) :
    Calls Try.prog 24 #[u, v] w fun e w' => e = .returned (.bool true) ∧ Upd 0 0 w w' := by
  obtain ⟨p0, p1, rfl, hu0, hu1⟩ := hu
  obtain ⟨v0, v1, rfl, hv0, hv1⟩ := hv
  obtain ⟨x0, x1, zs0, x2, zs1⟩ := d
  simp only [Mvv, MvSize] at hn ⊢
  have hn0 : zs0.length ≤ 1048576 := by omega
  have hn1 : sizeFs zs1 ≤ 1048576 := by omega
  replace hu0 := hide hu0
  replace hv0 := hide hv0
  replace hu1 := hide hu1
  replace hv1 := hide hv1
  have hB0 := ((Below.refl w.heap.size w).alloc (Nat.le_refl _) (.cells #[.int .i64 x0, .int .i64 x1, p0, .int .i64 x2, p1] 49)).alloc (by simp) (.cells #[.int .i64 x0, .int .i64 x1, v0, .int .i64 x2, v1] 49)
  have hbx0 := (heldF_new w [.int .i64 x0, .int .i64 x1, p0, .int .i64 x2, p1] 49).keep (Upd.of_below ((Below.refl _ _).alloc (Nat.le_refl _) (.cells #[.int .i64 x0, .int .i64 x1, v0, .int .i64 x2, v1] 49)) 0 0)
  have hby0 := heldF_new (w.alloc (.cells #[.int .i64 x0, .int .i64 x1, p0, .int .i64 x2, p1] 49)) [.int .i64 x0, .int .i64 x1, v0, .int .i64 x2, v1] 49
  have e1 : (w.alloc (.cells #[.int .i64 x0, .int .i64 x1, p0, .int .i64 x2, p1] 49)).heap.size = w.heap.size + 1 := by simp
  rw [e1] at hby0
  clear e1
  go_enter Try.func24, Try.ntmps24
  go_wp2_with fail
  generalize (w.alloc (.cells #[.int .i64 x0, .int .i64 x1, p0, .int .i64 x2, p1] 49)).alloc (.cells #[.int .i64 x0, .int .i64 x1, v0, .int .i64 x2, v1] 49) = w0 at hbx0 hby0 hB0 ⊢
  have hbx := hide hbx0
  have hby := hide hby0
  have hB := hide hB0
  clear hbx0 hby0 hB0
  refine (eqIntS_rd _ _ zs0 w0 hn0 ((unhide hu0).below (unhide hB)) ((unhide hv0).below (unhide hB))).mono ?_
  rintro e w1 ⟨rfl, hu⟩
  replace hbx := hide ((unhide hbx).keep hu)
  replace hby := hide ((unhide hby).keep hu)
  replace hB := hide (below_upd (unhide hB) hu (Nat.le_refl _) (.inr (Nat.le_refl _)))
  clear hu
  have cb0 := (unhide hbx).1.2 0 _ rfl
  have cd0 := (unhide hby).1.2 0 _ rfl
  have cb1 := (unhide hbx).1.2 1 _ rfl
  have cd1 := (unhide hby).1.2 1 _ rfl
  have cb2 := (unhide hbx).1.2 2 _ rfl
  have cd2 := (unhide hby).1.2 2 _ rfl
  have cb3 := (unhide hbx).1.2 3 _ rfl
  have cd3 := (unhide hby).1.2 3 _ rfl
  have cb4 := (unhide hbx).1.2 4 _ rfl
  have cd4 := (unhide hby).1.2 4 _ rfl
  go_wp2_with fail
  clear cb0 cd0 cb1 cd1 cb2 cd2 cb3 cd3 cb4 cd4
  refine (eqFrameS_rd _ _ zs1 w1 hn1 ((unhide hu1).below (unhide hB)) ((unhide hv1).below (unhide hB))).mono ?_
  rintro e w2 ⟨rfl, hu⟩
  replace hbx := hide ((unhide hbx).keep hu)
  replace hby := hide ((unhide hby).keep hu)
  replace hB := hide (below_upd (unhide hB) hu (Nat.le_refl _) (.inr (Nat.le_refl _)))
  clear hu
  have cb0 := (unhide hbx).1.2 0 _ rfl
  have cd0 := (unhide hby).1.2 0 _ rfl
  have cb1 := (unhide hbx).1.2 1 _ rfl
  have cd1 := (unhide hby).1.2 1 _ rfl
  have cb2 := (unhide hbx).1.2 2 _ rfl
  have cd2 := (unhide hby).1.2 2 _ rfl
  have cb3 := (unhide hbx).1.2 3 _ rfl
  have cd3 := (unhide hby).1.2 3 _ rfl
  have cb4 := (unhide hbx).1.2 4 _ rfl
  have cd4 := (unhide hby).1.2 4 _ rfl
  go_wp2
  go_ret
  exact ⟨rfl, Upd.of_below (unhide hB) 0 0⟩

end Go.Proofs.Ytbdegomnlconjaa

/- Plain: good moving pictures. -/
namespace Go.Proofs.Ytbdegomnlconjaa
open Go.RowKit

noncomputable def mB (p : Prop) : Bool := open Classical in decide p
theorem mB_yes {p : Prop} (h : p) : mB p = true := by unfold mB; simpa using h
theorem mB_no {p : Prop} (h : ¬ p) : mB p = false := by unfold mB; simpa using h
/-- How many bits tell just so many. -/
def logB (n : Nat) : Nat := if n = 2 then 1 else if n = 4 then 2 else if n = 8 then 3 else if n = 16 then 4 else if n = 32 then 5 else if n = 64 then 6 else if n = 128 then 7 else if n = 256 then 8 else 0
theorem logB_cases (n : Nat) : (logB n = 0 ∧ n ≠ 2 ∧ n ≠ 4 ∧ n ≠ 8 ∧ n ≠ 16 ∧ n ≠ 32 ∧ n ≠ 64 ∧ n ≠ 128 ∧ n ≠ 256) ∨ (n = 2 ∧ logB n = 1) ∨ (n = 4 ∧ logB n = 2) ∨ (n = 8 ∧ logB n = 3) ∨ (n = 16 ∧ logB n = 4) ∨ (n = 32 ∧ logB n = 5) ∨ (n = 64 ∧ logB n = 6) ∨ (n = 128 ∧ logB n = 7) ∨ (n = 256 ∧ logB n = 8) := by
  unfold logB
  repeat' split
  all_goals omega
theorem logB_le (n : Nat) : logB n ≤ 8 := by rcases logB_cases n with h | h | h | h | h | h | h | h | h <;> omega
theorem logB_pow {n : Nat} (h : 0 < logB n) : n = 2 ^ logB n := by
  rcases logB_cases n with ⟨e, _⟩ | ⟨rfl, e⟩ | ⟨rfl, e⟩ | ⟨rfl, e⟩ | ⟨rfl, e⟩ | ⟨rfl, e⟩ | ⟨rfl, e⟩ | ⟨rfl, e⟩ | ⟨rfl, e⟩
  · omega
  all_goals rw [e]
def ColsOk (zs : List Int) : Prop := zs.length ≤ 256 ∧ ∀ j, j < zs.length → 0 ≤ zs.getD j 0 ∧ zs.getD j 0 ≤ 16777215
def PixOk (n : Nat) (zs : List Int) : Prop := ∀ j, j < zs.length → 0 ≤ zs.getD j 0 ∧ zs.getD j 0 < (n : Int)
def FrOk (a b n x0 x1 x2 x3 x4 x5 x6 : Int) : Prop := 0 ≤ x0 ∧ 0 ≤ x1 ∧ 1 ≤ x2 ∧ 1 ≤ x3 ∧ x2 ≤ a - x0 ∧ x3 ≤ b - x1 ∧ (0 ≤ x4 ∧ x4 ≤ 65535) ∧ (0 ≤ x5 ∧ x5 ≤ 2) ∧ (-1 ≤ x6 ∧ x6 < n)
def FrAll (a b : Int) (n : Nat) (f : Fr) : Prop := FrOk a b (n : Int) f.1 f.2.1 f.2.2.1 f.2.2.2.1 f.2.2.2.2.1 f.2.2.2.2.2.1 f.2.2.2.2.2.2.1 ∧ ((Fss f).length : Int) = f.2.2.1 * f.2.2.2.1 ∧ PixOk n (Fss f)
def SideOk (a b : Int) : Prop := (1 ≤ a ∧ a ≤ 512) ∧ (1 ≤ b ∧ b ≤ 512) ∧ a * b ≤ 4096
def HeadOk (a b : Int) (zs : List Int) (l : Int) : Prop := SideOk a b ∧ 0 < logB zs.length ∧ ColsOk zs ∧ (0 ≤ l ∧ l ≤ 65535)
def FramesOk (a b : Int) (n : Nat) (fs : Fs) : Prop := (∀ j, j < fs.length → FrAll a b n (fs.getD j Fr0)) ∧ szToFs fs fs.length ≤ 16384
def GoodMv (d : Mv) : Prop := HeadOk d.1 d.2.1 d.2.2.1 d.2.2.2.1 ∧ (1 ≤ d.2.2.2.2.length ∧ d.2.2.2.2.length ≤ 40) ∧ FramesOk d.1 d.2.1 d.2.2.1.length d.2.2.2.2
theorem side_prod {w h : Int} (hw : 1 ≤ w ∧ w ≤ 512) (hh : 1 ≤ h ∧ h ≤ 512) : ∃ P : Int, w * h = P ∧ 1 ≤ P ∧ P ≤ 262144 := by
  obtain ⟨W, rfl⟩ := Int.eq_ofNat_of_zero_le (show 0 ≤ w by omega)
  obtain ⟨H, rfl⟩ := Int.eq_ofNat_of_zero_le (show 0 ≤ h by omega)
  have h1 : W * H ≤ 512 * 512 := Nat.mul_le_mul (by omega) (by omega)
  have h2 : 1 * 1 ≤ W * H := Nat.mul_le_mul (by omega) (by omega)
  exact ⟨((W * H : Nat) : Int), by simp, by omega, by omega⟩
end Go.Proofs.Ytbdegomnlconjaa

/- Good moving pictures: how many bits colours have, colours, pixels. -/
namespace Go.Proofs.Ytbdegomnlconjaa
open Go.RowKit

set_option maxHeartbeats 4000000 in
theorem specL6Log (n : Nat) (w : World) (hn : n ≤ 1048576) : Calls Try.prog 115 #[.int .i64 (n : Int)] w fun e w' => e = .returned (.int .i64 ((logB n : Nat) : Int)) ∧ w' = w := by
  go_enter Try.func115, Try.ntmps115
  go_wp2
  go_loop [3] (fun i => ∃ k : Nat, 1 ≤ k ∧ k ≤ 9 ∧ i = .int .i64 k ∧ Hid (∀ j, 1 ≤ j → j < k → n ≠ 2 ^ j)) (fun i => 9 - (intOf i).toNat)
  case atStart => exact ⟨1, by omega, by omega, rfl, hide (fun j h1 h2 => by omega)⟩
  case round =>
    obtain ⟨k, h1, h2, rfl, hno⟩ := hrel
    rcases (show k = 1 ∨ k = 2 ∨ k = 3 ∨ k = 4 ∨ k = 5 ∨ k = 6 ∨ k = 7 ∨ k = 8 ∨ k = 9 by omega) with rfl | rfl | rfl | rfl | rfl | rfl | rfl | rfl | rfl
    · by_cases he : n = 2
      · subst he
        clear hno hn h1 h2
        go_wp2
        go_ret
        exact ⟨rfl, rfl⟩
      · have hno2 : Hid (∀ j, 1 ≤ j → j < 2 → n ≠ 2 ^ j) := hide (fun j a b => by
          by_cases e : j < 1
          · exact unhide hno j a e
          · have : j = 1 := by omega
            subst this; exact he)
        have q : ((n : Int) == 2) = false := beq_eq_false_iff_ne.2 (by omega)
        replace he := hide he
        clear hno h1 h2
        go_wp2
        go_round
        case rel => exact ⟨2, by omega, by omega, rfl, hno2⟩
        case measure => simp [intOf]
    · by_cases he : n = 4
      · subst he
        clear hno hn h1 h2
        go_wp2
        go_ret
        exact ⟨rfl, rfl⟩
      · have hno2 : Hid (∀ j, 1 ≤ j → j < 3 → n ≠ 2 ^ j) := hide (fun j a b => by
          by_cases e : j < 2
          · exact unhide hno j a e
          · have : j = 2 := by omega
            subst this; exact he)
        have q : ((n : Int) == 4) = false := beq_eq_false_iff_ne.2 (by omega)
        replace he := hide he
        clear hno h1 h2
        go_wp2
        go_round
        case rel => exact ⟨3, by omega, by omega, rfl, hno2⟩
        case measure => simp [intOf]
    · by_cases he : n = 8
      · subst he
        clear hno hn h1 h2
        go_wp2
        go_ret
        exact ⟨rfl, rfl⟩
      · have hno2 : Hid (∀ j, 1 ≤ j → j < 4 → n ≠ 2 ^ j) := hide (fun j a b => by
          by_cases e : j < 3
          · exact unhide hno j a e
          · have : j = 3 := by omega
            subst this; exact he)
        have q : ((n : Int) == 8) = false := beq_eq_false_iff_ne.2 (by omega)
        replace he := hide he
        clear hno h1 h2
        go_wp2
        go_round
        case rel => exact ⟨4, by omega, by omega, rfl, hno2⟩
        case measure => simp [intOf]
    · by_cases he : n = 16
      · subst he
        clear hno hn h1 h2
        go_wp2
        go_ret
        exact ⟨rfl, rfl⟩
      · have hno2 : Hid (∀ j, 1 ≤ j → j < 5 → n ≠ 2 ^ j) := hide (fun j a b => by
          by_cases e : j < 4
          · exact unhide hno j a e
          · have : j = 4 := by omega
            subst this; exact he)
        have q : ((n : Int) == 16) = false := beq_eq_false_iff_ne.2 (by omega)
        replace he := hide he
        clear hno h1 h2
        go_wp2
        go_round
        case rel => exact ⟨5, by omega, by omega, rfl, hno2⟩
        case measure => simp [intOf]
    · by_cases he : n = 32
      · subst he
        clear hno hn h1 h2
        go_wp2
        go_ret
        exact ⟨rfl, rfl⟩
      · have hno2 : Hid (∀ j, 1 ≤ j → j < 6 → n ≠ 2 ^ j) := hide (fun j a b => by
          by_cases e : j < 5
          · exact unhide hno j a e
          · have : j = 5 := by omega
            subst this; exact he)
        have q : ((n : Int) == 32) = false := beq_eq_false_iff_ne.2 (by omega)
        replace he := hide he
        clear hno h1 h2
        go_wp2
        go_round
        case rel => exact ⟨6, by omega, by omega, rfl, hno2⟩
        case measure => simp [intOf]
    · by_cases he : n = 64
      · subst he
        clear hno hn h1 h2
        go_wp2
        go_ret
        exact ⟨rfl, rfl⟩
      · have hno2 : Hid (∀ j, 1 ≤ j → j < 7 → n ≠ 2 ^ j) := hide (fun j a b => by
          by_cases e : j < 6
          · exact unhide hno j a e
          · have : j = 6 := by omega
            subst this; exact he)
        have q : ((n : Int) == 64) = false := beq_eq_false_iff_ne.2 (by omega)
        replace he := hide he
        clear hno h1 h2
        go_wp2
        go_round
        case rel => exact ⟨7, by omega, by omega, rfl, hno2⟩
        case measure => simp [intOf]
    · by_cases he : n = 128
      · subst he
        clear hno hn h1 h2
        go_wp2
        go_ret
        exact ⟨rfl, rfl⟩
      · have hno2 : Hid (∀ j, 1 ≤ j → j < 8 → n ≠ 2 ^ j) := hide (fun j a b => by
          by_cases e : j < 7
          · exact unhide hno j a e
          · have : j = 7 := by omega
            subst this; exact he)
        have q : ((n : Int) == 128) = false := beq_eq_false_iff_ne.2 (by omega)
        replace he := hide he
        clear hno h1 h2
        go_wp2
        go_round
        case rel => exact ⟨8, by omega, by omega, rfl, hno2⟩
        case measure => simp [intOf]
    · by_cases he : n = 256
      · subst he
        clear hno hn h1 h2
        go_wp2
        go_ret
        exact ⟨rfl, rfl⟩
      · have hno2 : Hid (∀ j, 1 ≤ j → j < 9 → n ≠ 2 ^ j) := hide (fun j a b => by
          by_cases e : j < 8
          · exact unhide hno j a e
          · have : j = 8 := by omega
            subst this; exact he)
        have q : ((n : Int) == 256) = false := beq_eq_false_iff_ne.2 (by omega)
        replace he := hide he
        clear hno h1 h2
        go_wp2
        go_round
        case rel => exact ⟨9, by omega, by omega, rfl, hno2⟩
        case measure => simp [intOf]
    · have hE : logB n = 0 := by
        have g : ∀ j, 1 ≤ j → j < 9 → n ≠ 2 ^ j := unhide hno
        have g1 := g 1 (by omega) (by omega); have g2 := g 2 (by omega) (by omega); have g3 := g 3 (by omega) (by omega); have g4 := g 4 (by omega) (by omega)
        have g5 := g 5 (by omega) (by omega); have g6 := g 6 (by omega) (by omega); have g7 := g 7 (by omega) (by omega); have g8 := g 8 (by omega) (by omega)
        rcases logB_cases n with h | h | h | h | h | h | h | h | h <;> omega
      replace hE := hide hE
      clear hno h1 h2
      go_wp2
      go_ret
      exact ⟨by rw [unhide hE]; rfl, rfl⟩

set_option maxHeartbeats 4000000 in
theorem implPaletteBits (n : Nat) (w : World) (hn : n ≤ 1048576) : Calls Try.prog 117 #[.int .i64 (n : Int)] w fun e w' => e = .returned (.int .i64 ((logB n : Nat) : Int)) ∧ w' = w := by
  go_enter Try.func117, Try.ntmps117
  go_wp2
  go_loop [3] (fun i => ∃ k : Nat, 1 ≤ k ∧ k ≤ 9 ∧ i = .int .i64 k ∧ Hid (∀ j, 1 ≤ j → j < k → n ≠ 2 ^ j)) (fun i => 9 - (intOf i).toNat)
  case atStart => exact ⟨1, by omega, by omega, rfl, hide (fun j h1 h2 => by omega)⟩
  case round =>
    obtain ⟨k, h1, h2, rfl, hno⟩ := hrel
    rcases (show k = 1 ∨ k = 2 ∨ k = 3 ∨ k = 4 ∨ k = 5 ∨ k = 6 ∨ k = 7 ∨ k = 8 ∨ k = 9 by omega) with rfl | rfl | rfl | rfl | rfl | rfl | rfl | rfl | rfl
    · by_cases he : n = 2
      · subst he
        clear hno hn h1 h2
        go_wp2
        go_ret
        exact ⟨rfl, rfl⟩
      · have hno2 : Hid (∀ j, 1 ≤ j → j < 2 → n ≠ 2 ^ j) := hide (fun j a b => by
          by_cases e : j < 1
          · exact unhide hno j a e
          · have : j = 1 := by omega
            subst this; exact he)
        have q : ((n : Int) == 2) = false := beq_eq_false_iff_ne.2 (by omega)
        replace he := hide he
        clear hno h1 h2
        go_wp2
        go_round
        case rel => exact ⟨2, by omega, by omega, rfl, hno2⟩
        case measure => simp [intOf]
    · by_cases he : n = 4
      · subst he
        clear hno hn h1 h2
        go_wp2
        go_ret
        exact ⟨rfl, rfl⟩
      · have hno2 : Hid (∀ j, 1 ≤ j → j < 3 → n ≠ 2 ^ j) := hide (fun j a b => by
          by_cases e : j < 2
          · exact unhide hno j a e
          · have : j = 2 := by omega
            subst this; exact he)
        have q : ((n : Int) == 4) = false := beq_eq_false_iff_ne.2 (by omega)
        replace he := hide he
        clear hno h1 h2
        go_wp2
        go_round
        case rel => exact ⟨3, by omega, by omega, rfl, hno2⟩
        case measure => simp [intOf]
    · by_cases he : n = 8
      · subst he
        clear hno hn h1 h2
        go_wp2
        go_ret
        exact ⟨rfl, rfl⟩
      · have hno2 : Hid (∀ j, 1 ≤ j → j < 4 → n ≠ 2 ^ j) := hide (fun j a b => by
          by_cases e : j < 3
          · exact unhide hno j a e
          · have : j = 3 := by omega
            subst this; exact he)
        have q : ((n : Int) == 8) = false := beq_eq_false_iff_ne.2 (by omega)
        replace he := hide he
        clear hno h1 h2
        go_wp2
        go_round
        case rel => exact ⟨4, by omega, by omega, rfl, hno2⟩
        case measure => simp [intOf]
    · by_cases he : n = 16
      · subst he
        clear hno hn h1 h2
        go_wp2
        go_ret
        exact ⟨rfl, rfl⟩
      · have hno2 : Hid (∀ j, 1 ≤ j → j < 5 → n ≠ 2 ^ j) := hide (fun j a b => by
          by_cases e : j < 4
          · exact unhide hno j a e
          · have : j = 4 := by omega
            subst this; exact he)
        have q : ((n : Int) == 16) = false := beq_eq_false_iff_ne.2 (by omega)
        replace he := hide he
        clear hno h1 h2
        go_wp2
        go_round
        case rel => exact ⟨5, by omega, by omega, rfl, hno2⟩
        case measure => simp [intOf]
    · by_cases he : n = 32
      · subst he
        clear hno hn h1 h2
        go_wp2
        go_ret
        exact ⟨rfl, rfl⟩
      · have hno2 : Hid (∀ j, 1 ≤ j → j < 6 → n ≠ 2 ^ j) := hide (fun j a b => by
          by_cases e : j < 5
          · exact unhide hno j a e
          · have : j = 5 := by omega
            subst this; exact he)
        have q : ((n : Int) == 32) = false := beq_eq_false_iff_ne.2 (by omega)
        replace he := hide he
        clear hno h1 h2
        go_wp2
        go_round
        case rel => exact ⟨6, by omega, by omega, rfl, hno2⟩
        case measure => simp [intOf]
    · by_cases he : n = 64
      · subst he
        clear hno hn h1 h2
        go_wp2
        go_ret
        exact ⟨rfl, rfl⟩
      · have hno2 : Hid (∀ j, 1 ≤ j → j < 7 → n ≠ 2 ^ j) := hide (fun j a b => by
          by_cases e : j < 6
          · exact unhide hno j a e
          · have : j = 6 := by omega
            subst this; exact he)
        have q : ((n : Int) == 64) = false := beq_eq_false_iff_ne.2 (by omega)
        replace he := hide he
        clear hno h1 h2
        go_wp2
        go_round
        case rel => exact ⟨7, by omega, by omega, rfl, hno2⟩
        case measure => simp [intOf]
    · by_cases he : n = 128
      · subst he
        clear hno hn h1 h2
        go_wp2
        go_ret
        exact ⟨rfl, rfl⟩
      · have hno2 : Hid (∀ j, 1 ≤ j → j < 8 → n ≠ 2 ^ j) := hide (fun j a b => by
          by_cases e : j < 7
          · exact unhide hno j a e
          · have : j = 7 := by omega
            subst this; exact he)
        have q : ((n : Int) == 128) = false := beq_eq_false_iff_ne.2 (by omega)
        replace he := hide he
        clear hno h1 h2
        go_wp2
        go_round
        case rel => exact ⟨8, by omega, by omega, rfl, hno2⟩
        case measure => simp [intOf]
    · by_cases he : n = 256
      · subst he
        clear hno hn h1 h2
        go_wp2
        go_ret
        exact ⟨rfl, rfl⟩
      · have hno2 : Hid (∀ j, 1 ≤ j → j < 9 → n ≠ 2 ^ j) := hide (fun j a b => by
          by_cases e : j < 8
          · exact unhide hno j a e
          · have : j = 8 := by omega
            subst this; exact he)
        have q : ((n : Int) == 256) = false := beq_eq_false_iff_ne.2 (by omega)
        replace he := hide he
        clear hno h1 h2
        go_wp2
        go_round
        case rel => exact ⟨9, by omega, by omega, rfl, hno2⟩
        case measure => simp [intOf]
    · have hE : logB n = 0 := by
        have g : ∀ j, 1 ≤ j → j < 9 → n ≠ 2 ^ j := unhide hno
        have g1 := g 1 (by omega) (by omega); have g2 := g 2 (by omega) (by omega); have g3 := g 3 (by omega) (by omega); have g4 := g 4 (by omega) (by omega)
        have g5 := g 5 (by omega) (by omega); have g6 := g 6 (by omega) (by omega); have g7 := g 7 (by omega) (by omega); have g8 := g 8 (by omega) (by omega)
        rcases logB_cases n with h | h | h | h | h | h | h | h | h <;> omega
      replace hE := hide hE
      clear hno h1 h2
      go_wp2
      go_ret
      exact ⟨by rw [unhide hE]; rfl, rfl⟩

set_option maxHeartbeats 2000000 in
theorem specL5Cols (v : Value) (zs : List Int) (w : World) (hn : zs.length ≤ 1048576) (hv : RdI w v zs) :
    Calls Try.prog 116 #[v] w fun e w' => e = .returned (.bool (mB (ColsOk zs))) ∧ w' = w := by
  obtain ⟨ad, cap, rfl, hA⟩ := hv
  replace hA := hide hA
  have hBad : Hid (∀ k, k < zs.length → ¬ (0 ≤ zs.getD k 0 ∧ zs.getD k 0 ≤ 16777215) → mB (ColsOk zs) = false) := hide (fun k hk hb => mB_no (fun h => hb (h.2 k hk)))
  have hGood : Hid ((∀ k, k < zs.length → (0 ≤ zs.getD k 0 ∧ zs.getD k 0 ≤ 16777215)) → zs.length ≤ 256 → mB (ColsOk zs) = true) := hide (fun h h2 => mB_yes ⟨h2, h⟩)
  have hLong : Hid (256 < zs.length → mB (ColsOk zs) = false) := hide (fun h => mB_no (fun h' => by have := h'.1; omega))
  go_enter Try.func116, Try.ntmps116
  go_wp2
  go_loop [7] (fun i => ∃ k : Nat, k ≤ zs.length ∧ i = .int .i64 k ∧ Hid (∀ j, j < k → (0 ≤ zs.getD j 0 ∧ zs.getD j 0 ≤ 16777215))) (fun i => zs.length - (intOf i).toNat)
  case atStart => exact ⟨0, Nat.zero_le _, rfl, fun j hj => by omega⟩
  case round =>
    obtain ⟨k, hk', rfl, hok⟩ := hrel
    by_cases hlt : k < zs.length
    · obtain ⟨b, off, rfl, hbl, hcl⟩ := (unhide hA) (ne_of_lt_length hlt)
      have hck := hcl k hlt
      have hbad := hide (unhide hBad k hlt)
      have hOk : Hid ((0 ≤ zs.getD k 0 ∧ zs.getD k 0 ≤ 16777215) → ∀ j, j < k + 1 → (0 ≤ zs.getD j 0 ∧ zs.getD j 0 ≤ 16777215)) := hide (fun h j hj => by
        rcases Nat.lt_or_eq_of_le (Nat.le_of_lt_succ hj) with h' | h'
        · exact unhide hok j h'
        · subst h'; exact h)
      clear hcl hbl
      generalize zs.getD k 0 = x at hck hbad hOk
      by_cases h1 : x < 0
      · have hB := hide (unhide hbad (fun h => by have := h.1; omega))
        clear hbad hOk
        go_wp2
        go_ret
        exact ⟨by rw [unhide hB]; rfl, rfl⟩
      · by_cases h2 : x ≤ 16777215
        · have hok2 := hide (unhide hOk ⟨by omega, h2⟩)
          clear hbad hOk
          go_wp2
          all_goals
            go_round
            case rel => exact ⟨k + 1, by omega, by go_num, unhide hok2⟩
            case measure => simp [intOf]; omega
        · have hB := hide (unhide hbad (fun h => h2 h.2))
          have h3 : 16777215 < x := by omega
          clear hbad hOk
          go_wp2
          go_ret
          exact ⟨by rw [unhide hB]; rfl, rfl⟩
    · have hkl : k = zs.length := by omega
      subst hkl
      by_cases h2 : zs.length ≤ 256
      · have hs := hide (unhide hGood (unhide hok) h2)
        go_wp2
        go_ret
        exact ⟨by rw [unhide hs]; simp; omega, rfl⟩
      · have hs := hide (unhide hLong (by omega))
        go_wp2
        go_ret
        exact ⟨by rw [unhide hs]; simp; omega, rfl⟩

set_option maxHeartbeats 2000000 in
theorem implGoodColours (v : Value) (zs : List Int) (w : World) (hn : zs.length ≤ 1048576) (hv : RdI w v zs) :
    Calls Try.prog 118 #[v] w fun e w' => e = .returned (.bool (mB (ColsOk zs))) ∧ w' = w := by
  obtain ⟨ad, cap, rfl, hA⟩ := hv
  replace hA := hide hA
  have hBad : Hid (∀ k, k < zs.length → ¬ (0 ≤ zs.getD k 0 ∧ zs.getD k 0 ≤ 16777215) → mB (ColsOk zs) = false) := hide (fun k hk hb => mB_no (fun h => hb (h.2 k hk)))
  have hGood : Hid ((∀ k, k < zs.length → (0 ≤ zs.getD k 0 ∧ zs.getD k 0 ≤ 16777215)) → zs.length ≤ 256 → mB (ColsOk zs) = true) := hide (fun h h2 => mB_yes ⟨h2, h⟩)
  have hLong : Hid (256 < zs.length → mB (ColsOk zs) = false) := hide (fun h => mB_no (fun h' => by have := h'.1; omega))
  go_enter Try.func118, Try.ntmps118
  go_wp2
  go_loop [7] (fun i => ∃ k : Nat, k ≤ zs.length ∧ i = .int .i64 k ∧ Hid (∀ j, j < k → (0 ≤ zs.getD j 0 ∧ zs.getD j 0 ≤ 16777215))) (fun i => zs.length - (intOf i).toNat)
  case atStart => exact ⟨0, Nat.zero_le _, rfl, fun j hj => by omega⟩
  case round =>
    obtain ⟨k, hk', rfl, hok⟩ := hrel
    by_cases hlt : k < zs.length
    · obtain ⟨b, off, rfl, hbl, hcl⟩ := (unhide hA) (ne_of_lt_length hlt)
      have hck := hcl k hlt
      have hbad := hide (unhide hBad k hlt)
      have hOk : Hid ((0 ≤ zs.getD k 0 ∧ zs.getD k 0 ≤ 16777215) → ∀ j, j < k + 1 → (0 ≤ zs.getD j 0 ∧ zs.getD j 0 ≤ 16777215)) := hide (fun h j hj => by
        rcases Nat.lt_or_eq_of_le (Nat.le_of_lt_succ hj) with h' | h'
        · exact unhide hok j h'
        · subst h'; exact h)
      clear hcl hbl
      generalize zs.getD k 0 = x at hck hbad hOk
      by_cases h1 : x < 0
      · have hB := hide (unhide hbad (fun h => by have := h.1; omega))
        clear hbad hOk
        go_wp2
        go_ret
        exact ⟨by rw [unhide hB]; rfl, rfl⟩
      · by_cases h2 : x ≤ 16777215
        · have hok2 := hide (unhide hOk ⟨by omega, h2⟩)
          clear hbad hOk
          go_wp2
          all_goals
            go_round
            case rel => exact ⟨k + 1, by omega, by go_num, unhide hok2⟩
            case measure => simp [intOf]; omega
        · have hB := hide (unhide hbad (fun h => h2 h.2))
          have h3 : 16777215 < x := by omega
          clear hbad hOk
          go_wp2
          go_ret
          exact ⟨by rw [unhide hB]; rfl, rfl⟩
    · have hkl : k = zs.length := by omega
      subst hkl
      by_cases h2 : zs.length ≤ 256
      · have hs := hide (unhide hGood (unhide hok) h2)
        go_wp2
        go_ret
        exact ⟨by rw [unhide hs]; simp; omega, rfl⟩
      · have hs := hide (unhide hLong (by omega))
        go_wp2
        go_ret
        exact ⟨by rw [unhide hs]; simp; omega, rfl⟩


set_option maxHeartbeats 4000000 in
theorem specL6Pixels (a b l : Int) (adp adf : Option Addr) (np cpp nf cpf : Nat) (v : Value) (zs : List Int) (w : World) (_hp : np ≤ 1048576) (hn : zs.length ≤ 1048576) (hv : RdI w v zs) :
    Calls Try.prog 91 #[.agg #[.int .i64 a, .int .i64 b, .slice adp np cpp, .int .i64 l, .slice adf nf cpf], v] w fun e w' => e = .returned (.bool (mB (PixOk np zs))) ∧ Upd 0 0 w w' := by
  obtain ⟨ad, cap, rfl, hA⟩ := hv
  replace hA := hide hA
  have hBad : Hid (∀ k, k < zs.length → ¬ (0 ≤ zs.getD k 0 ∧ zs.getD k 0 < (np : Int)) → mB (PixOk np zs) = false) := hide (fun k hk hb => mB_no (fun h => hb (h k hk)))
  have hGood : Hid ((∀ k, k < zs.length → (0 ≤ zs.getD k 0 ∧ zs.getD k 0 < (np : Int))) → mB (PixOk np zs) = true) := hide (fun h => mB_yes h)
  have hB0 := (Below.refl w.heap.size w).alloc (Nat.le_refl _) (.cells #[.int .i64 a, .int .i64 b, .slice adp np cpp, .int .i64 l, .slice adf nf cpf] 49)
  have hbx0 := held_new w [.int .i64 a, .int .i64 b, .slice adp np cpp, .int .i64 l, .slice adf nf cpf] 49
  go_enter Try.func91, Try.ntmps91
  go_wp2
  change Held (w.alloc (.cells #[.int .i64 a, .int .i64 b, .slice adp np cpp, .int .i64 l, .slice adf nf cpf] 49)) _ _ at hbx0
  generalize w.alloc (.cells #[.int .i64 a, .int .i64 b, .slice adp np cpp, .int .i64 l, .slice adf nf cpf] 49) = w0 at hbx0 hB0 ⊢
  have cb := hbx0.2 2 _ rfl
  replace hbx0 := hide hbx0
  go_loop [9] (fun i => ∃ k : Nat, k ≤ zs.length ∧ i = .int .i64 k ∧ Hid (∀ j, j < k → (0 ≤ zs.getD j 0 ∧ zs.getD j 0 < (np : Int)))) (fun i => zs.length - (intOf i).toNat)
  case atStart => exact ⟨0, Nat.zero_le _, rfl, fun j hj => by omega⟩
  case round =>
    obtain ⟨k, hk', rfl, hok⟩ := hrel
    by_cases hlt : k < zs.length
    · obtain ⟨b, off, rfl, hbl, hcl⟩ := ((unhide hA).below hB0) (ne_of_lt_length hlt)
      have hck := hcl k hlt
      have hbad := hide (unhide hBad k hlt)
      have hOk : Hid ((0 ≤ zs.getD k 0 ∧ zs.getD k 0 < (np : Int)) → ∀ j, j < k + 1 → (0 ≤ zs.getD j 0 ∧ zs.getD j 0 < (np : Int))) := hide (fun h j hj => by
        rcases Nat.lt_or_eq_of_le (Nat.le_of_lt_succ hj) with h' | h'
        · exact unhide hok j h'
        · subst h'; exact h)
      clear hcl hbl
      generalize zs.getD k 0 = x at hck hbad hOk
      by_cases h1 : x < 0
      · have hB := hide (unhide hbad (fun h => by have := h.1; omega))
        clear hbad hOk
        go_wp2
        go_ret
        exact ⟨by rw [unhide hB]; rfl, Upd.of_below hB0 0 0⟩
      · by_cases h2 : x < (np : Int)
        · have hok2 := hide (unhide hOk ⟨by omega, h2⟩)
          clear hbad hOk
          go_wp2
          all_goals
            go_round
            case rel => exact ⟨k + 1, by omega, by go_num, unhide hok2⟩
            case measure => simp [intOf]; omega
        · have hB := hide (unhide hbad (fun h => h2 h.2))
          clear hbad hOk
          go_wp2
          go_ret
          exact ⟨by rw [unhide hB]; rfl, Upd.of_below hB0 0 0⟩
    · have hkl : k = zs.length := by omega
      subst hkl
      have hs := hide (unhide hGood (unhide hok))
      go_wp2
      go_ret
      exact ⟨by rw [unhide hs]; rfl, Upd.of_below hB0 0 0⟩

set_option maxHeartbeats 1000000 in
theorem implGoodSide (a : Int) (w : World) : Calls Try.prog 70 #[.int .i64 a] w fun e w' => e = .returned (.bool (sideB a)) ∧ w' = w := by
  by_cases h1 : 1 ≤ a
  · by_cases h2 : a ≤ 512
    · rw [sideB_yes ⟨h1, h2⟩]
      go_enter Try.func70, Try.ntmps70
      go_wp2
      go_ret
      exact ⟨rfl, rfl⟩
    · rw [sideB_no (fun h => h2 h.2)]
      go_enter Try.func70, Try.ntmps70
      go_wp2
      go_ret
      exact ⟨rfl, rfl⟩
  · rw [sideB_no (fun h => h1 h.1)]
    go_enter Try.func70, Try.ntmps70
    go_wp2
    go_ret
    exact ⟨rfl, rfl⟩

set_option maxHeartbeats 1000000 in
theorem implGoodShort (a : Int) (w : World) : Calls Try.prog 119 #[.int .i64 a] w fun e w' => e = .returned (.bool (decide (0 ≤ a ∧ a ≤ 65535))) ∧ w' = w := by
  by_cases h1 : 0 ≤ a
  · by_cases h2 : a ≤ 65535
    · rw [decide_eq_true ⟨h1, h2⟩]
      go_enter Try.func119, Try.ntmps119
      go_wp2
      go_ret
      exact ⟨rfl, rfl⟩
    · rw [decide_eq_false (fun h => h2 h.2)]
      go_enter Try.func119, Try.ntmps119
      go_wp2
      go_ret
      exact ⟨rfl, rfl⟩
  · rw [decide_eq_false (fun h => h1 h.1)]
    go_enter Try.func119, Try.ntmps119
    go_wp2
    go_ret
    exact ⟨rfl, rfl⟩
end Go.Proofs.Ytbdegomnlconjaa

/- Good moving pictures: frames that may be, their pixels aside. -/
namespace Go.Proofs.Ytbdegomnlconjaa
open Go.RowKit

set_option maxHeartbeats 8000000 in
set_option maxRecDepth 1000000 in
theorem specL6Frame (a b l x0 x1 x2 x3 x4 x5 x6 : Int) (adp adf adx : Option Addr) (np cpp nf cpf nx cpx : Nat) (w : World) (ha : 1 ≤ a ∧ a ≤ 512) (hb : 1 ≤ b ∧ b ≤ 512) (_hp : np ≤ 1048576) (_hx0 : x0 ≤ 9223372036854775807) (_hx1 : x1 ≤ 9223372036854775807) :
    Calls Try.prog 90 #[.agg #[.int .i64 a, .int .i64 b, .slice adp np cpp, .int .i64 l, .slice adf nf cpf], .agg #[.int .i64 x0, .int .i64 x1, .int .i64 x2, .int .i64 x3, .int .i64 x4, .int .i64 x5, .int .i64 x6, .slice adx nx cpx]] w fun e w' => e = .returned (.bool (mB (FrOk a b np x0 x1 x2 x3 x4 x5 x6))) ∧ Upd 0 0 w w' := by
  have hB := hide (Upd.of_below (((Below.refl w.heap.size w).alloc (Nat.le_refl _) (.cells #[.int .i64 a, .int .i64 b, .slice adp np cpp, .int .i64 l, .slice adf nf cpf] 49)).alloc (by simp) (.cells #[.int .i64 x0, .int .i64 x1, .int .i64 x2, .int .i64 x3, .int .i64 x4, .int .i64 x5, .int .i64 x6, .slice adx nx cpx] 27)) 0 0)
  by_cases p0 : 0 ≤ x0
  case neg =>
    have q0 : decide (x0 < 0) = true := by simp; omega
    rw [mB_no (by unfold FrOk; omega)]
    go_enter Try.func90, Try.ntmps90
    go_wp2
    go_ret
    exact ⟨rfl, unhide hB⟩
  have q0 : decide (x0 < 0) = false := by simp; omega
  by_cases p1 : 0 ≤ x1
  case neg =>
    have q1 : decide (x1 < 0) = true := by simp; omega
    rw [mB_no (by unfold FrOk; omega)]
    go_enter Try.func90, Try.ntmps90
    go_wp2
    go_ret
    exact ⟨rfl, unhide hB⟩
  have q1 : decide (x1 < 0) = false := by simp; omega
  by_cases p2 : 1 ≤ x2
  case neg =>
    have q2 : decide (x2 < 1) = true := by simp; omega
    rw [mB_no (by unfold FrOk; omega)]
    go_enter Try.func90, Try.ntmps90
    go_wp2
    go_ret
    exact ⟨rfl, unhide hB⟩
  have q2 : decide (x2 < 1) = false := by simp; omega
  by_cases p3 : 1 ≤ x3
  case neg =>
    have q3 : decide (x3 < 1) = true := by simp; omega
    rw [mB_no (by unfold FrOk; omega)]
    go_enter Try.func90, Try.ntmps90
    go_wp2
    go_ret
    exact ⟨rfl, unhide hB⟩
  have q3 : decide (x3 < 1) = false := by simp; omega
  by_cases p4 : x0 ≤ a
  case neg =>
    have q4 : decide (a < x0) = true := by simp; omega
    rw [mB_no (by unfold FrOk; omega)]
    go_enter Try.func90, Try.ntmps90
    go_wp2
    go_ret
    exact ⟨rfl, unhide hB⟩
  have q4 : decide (a < x0) = false := by simp; omega
  by_cases p5 : x1 ≤ b
  case neg =>
    have q5 : decide (b < x1) = true := by simp; omega
    rw [mB_no (by unfold FrOk; omega)]
    go_enter Try.func90, Try.ntmps90
    go_wp2
    go_ret
    exact ⟨rfl, unhide hB⟩
  have q5 : decide (b < x1) = false := by simp; omega
  by_cases p6 : x2 ≤ a - x0
  case neg =>
    have q6 : decide (a - x0 < x2) = true := by simp; omega
    rw [mB_no (by unfold FrOk; omega)]
    go_enter Try.func90, Try.ntmps90
    go_wp2
    go_ret
    exact ⟨rfl, unhide hB⟩
  have q6 : decide (a - x0 < x2) = false := by simp; omega
  by_cases p7 : x3 ≤ b - x1
  case neg =>
    have q7 : decide (b - x1 < x3) = true := by simp; omega
    rw [mB_no (by unfold FrOk; omega)]
    go_enter Try.func90, Try.ntmps90
    go_wp2
    go_ret
    exact ⟨rfl, unhide hB⟩
  have q7 : decide (b - x1 < x3) = false := by simp; omega
  by_cases p8 : 0 ≤ x4
  case neg =>
    have q8 : decide (0 ≤ x4) = false := by simp; omega
    rw [mB_no (by unfold FrOk; omega)]
    go_enter Try.func90, Try.ntmps90
    go_wp2
    go_ret
    exact ⟨rfl, unhide hB⟩
  have q8 : decide (0 ≤ x4) = true := by simp; omega
  by_cases p9 : x4 ≤ 65535
  case neg =>
    have q9 : decide (x4 ≤ 65535) = false := by simp; omega
    rw [mB_no (by unfold FrOk; omega)]
    go_enter Try.func90, Try.ntmps90
    go_wp2
    go_ret
    exact ⟨rfl, unhide hB⟩
  have q9 : decide (x4 ≤ 65535) = true := by simp; omega
  by_cases p10 : 0 ≤ x5
  case neg =>
    have q10 : decide (0 ≤ x5) = false := by simp; omega
    rw [mB_no (by unfold FrOk; omega)]
    go_enter Try.func90, Try.ntmps90
    go_wp2
    go_ret
    exact ⟨rfl, unhide hB⟩
  have q10 : decide (0 ≤ x5) = true := by simp; omega
  by_cases p11 : x5 ≤ 2
  case neg =>
    have q11 : decide (x5 ≤ 2) = false := by simp; omega
    rw [mB_no (by unfold FrOk; omega)]
    go_enter Try.func90, Try.ntmps90
    go_wp2
    go_ret
    exact ⟨rfl, unhide hB⟩
  have q11 : decide (x5 ≤ 2) = true := by simp; omega
  by_cases p12 : -1 ≤ x6
  case neg =>
    have q12 : decide (-1 ≤ x6) = false := by simp; omega
    rw [mB_no (by unfold FrOk; omega)]
    go_enter Try.func90, Try.ntmps90
    go_wp2
    go_ret
    exact ⟨rfl, unhide hB⟩
  have q12 : decide (-1 ≤ x6) = true := by simp; omega
  by_cases p13 : x6 < (np : Int)
  case neg =>
    have q13 : decide (x6 < (np : Int)) = false := by simp; omega
    rw [mB_no (by unfold FrOk; omega)]
    go_enter Try.func90, Try.ntmps90
    go_wp2
    go_ret
    exact ⟨rfl, unhide hB⟩
  have q13 : decide (x6 < (np : Int)) = true := by simp; omega
  rw [mB_yes (by unfold FrOk; omega)]
  go_enter Try.func90, Try.ntmps90
  go_wp2
  go_ret
  exact ⟨rfl, unhide hB⟩

set_option maxHeartbeats 8000000 in
set_option maxRecDepth 1000000 in
theorem implMayHold (a b l x0 x1 x2 x3 x4 x5 x6 : Int) (adp adf adx : Option Addr) (np cpp nf cpf nx cpx : Nat) (w : World) (ha : 1 ≤ a ∧ a ≤ 512) (hb : 1 ≤ b ∧ b ≤ 512) (_hp : np ≤ 1048576) (hx0 : x0 ≤ 9223372036854775807) (hx1 : x1 ≤ 9223372036854775807) :
    Calls Try.prog 120 #[.agg #[.int .i64 a, .int .i64 b, .slice adp np cpp, .int .i64 l, .slice adf nf cpf], .agg #[.int .i64 x0, .int .i64 x1, .int .i64 x2, .int .i64 x3, .int .i64 x4, .int .i64 x5, .int .i64 x6, .slice adx nx cpx]] w fun e w' => e = .returned (.bool (mB (FrOk a b np x0 x1 x2 x3 x4 x5 x6))) ∧ Upd 0 0 w w' := by
  have hB := hide (Upd.of_below (((Below.refl w.heap.size w).alloc (Nat.le_refl _) (.cells #[.int .i64 a, .int .i64 b, .slice adp np cpp, .int .i64 l, .slice adf nf cpf] 49)).alloc (by simp) (.cells #[.int .i64 x0, .int .i64 x1, .int .i64 x2, .int .i64 x3, .int .i64 x4, .int .i64 x5, .int .i64 x6, .slice adx nx cpx] 27)) 0 0)
  have hS := hide (fun W => implGoodShort x4 W)
  by_cases p0 : 0 ≤ x0
  case neg =>
    have q0 : decide (x0 < 0) = true := by simp; omega
    rw [mB_no (by unfold FrOk; omega)]
    go_enter Try.func120, Try.ntmps120
    go_wp2
    go_ret
    exact ⟨rfl, unhide hB⟩
  have q0 : decide (x0 < 0) = false := by simp; omega
  by_cases p1 : 1 ≤ x2
  case neg =>
    have q1 : decide (x2 < 1) = true := by simp; omega
    rw [mB_no (by unfold FrOk; omega)]
    go_enter Try.func120, Try.ntmps120
    go_wp2
    go_ret
    exact ⟨rfl, unhide hB⟩
  have q1 : decide (x2 < 1) = false := by simp; omega
  by_cases p2 : x2 ≤ a - x0
  case neg =>
    have q2 : decide (a - x0 < x2) = true := by simp; omega
    rw [mB_no (by unfold FrOk; omega)]
    go_enter Try.func120, Try.ntmps120
    go_wp2
    go_ret
    exact ⟨rfl, unhide hB⟩
  have q2 : decide (a - x0 < x2) = false := by simp; omega
  by_cases p3 : 0 ≤ x1
  case neg =>
    have q3 : decide (x1 < 0) = true := by simp; omega
    rw [mB_no (by unfold FrOk; omega)]
    go_enter Try.func120, Try.ntmps120
    go_wp2
    go_ret
    exact ⟨rfl, unhide hB⟩
  have q3 : decide (x1 < 0) = false := by simp; omega
  by_cases p4 : 1 ≤ x3
  case neg =>
    have q4 : decide (x3 < 1) = true := by simp; omega
    rw [mB_no (by unfold FrOk; omega)]
    go_enter Try.func120, Try.ntmps120
    go_wp2
    go_ret
    exact ⟨rfl, unhide hB⟩
  have q4 : decide (x3 < 1) = false := by simp; omega
  by_cases p5 : x3 ≤ b - x1
  case neg =>
    have q5 : decide (b - x1 < x3) = true := by simp; omega
    rw [mB_no (by unfold FrOk; omega)]
    go_enter Try.func120, Try.ntmps120
    go_wp2
    go_ret
    exact ⟨rfl, unhide hB⟩
  have q5 : decide (b - x1 < x3) = false := by simp; omega
  by_cases p6 : 0 ≤ x4 ∧ x4 ≤ 65535
  case neg =>
    rw [mB_no (by unfold FrOk; omega)]
    rw [decide_eq_false (by omega)] at hS
    go_enter Try.func120, Try.ntmps120
    go_wp2_with fail
    refine (unhide hS _).mono ?_
    rintro e w1 ⟨rfl, rfl⟩
    go_wp2
    go_ret
    exact ⟨rfl, unhide hB⟩
  by_cases p7 : 0 ≤ x5
  case neg =>
    have q7 : decide (0 ≤ x5) = false := by simp; omega
    rw [mB_no (by unfold FrOk; omega)]
    rw [decide_eq_true (by omega)] at hS
    go_enter Try.func120, Try.ntmps120
    go_wp2_with fail
    refine (unhide hS _).mono ?_
    rintro e w1 ⟨rfl, rfl⟩
    go_wp2
    go_ret
    exact ⟨rfl, unhide hB⟩
  have q7 : decide (0 ≤ x5) = true := by simp; omega
  by_cases p8 : x5 ≤ 2
  case neg =>
    have q8 : decide (x5 < 3) = false := by simp; omega
    rw [mB_no (by unfold FrOk; omega)]
    rw [decide_eq_true (by omega)] at hS
    go_enter Try.func120, Try.ntmps120
    go_wp2_with fail
    refine (unhide hS _).mono ?_
    rintro e w1 ⟨rfl, rfl⟩
    go_wp2
    go_ret
    exact ⟨rfl, unhide hB⟩
  have q8 : decide (x5 < 3) = true := by simp; omega
  by_cases p9 : -1 ≤ x6
  case neg =>
    have q9 : decide (-1 ≤ x6) = false := by simp; omega
    rw [mB_no (by unfold FrOk; omega)]
    rw [decide_eq_true (by omega)] at hS
    go_enter Try.func120, Try.ntmps120
    go_wp2_with fail
    refine (unhide hS _).mono ?_
    rintro e w1 ⟨rfl, rfl⟩
    go_wp2
    go_ret
    exact ⟨rfl, unhide hB⟩
  have q9 : decide (-1 ≤ x6) = true := by simp; omega
  by_cases p10 : x6 < (np : Int)
  case neg =>
    have q10 : decide (x6 < (np : Int)) = false := by simp; omega
    rw [mB_no (by unfold FrOk; omega)]
    rw [decide_eq_true (by omega)] at hS
    go_enter Try.func120, Try.ntmps120
    go_wp2_with fail
    refine (unhide hS _).mono ?_
    rintro e w1 ⟨rfl, rfl⟩
    go_wp2
    go_ret
    exact ⟨rfl, unhide hB⟩
  have q10 : decide (x6 < (np : Int)) = true := by simp; omega
  rw [mB_yes (by unfold FrOk; omega)]
  rw [decide_eq_true (by omega)] at hS
  go_enter Try.func120, Try.ntmps120
  go_wp2_with fail
  refine (unhide hS _).mono ?_
  rintro e w1 ⟨rfl, rfl⟩
  go_wp2
  go_ret
  exact ⟨rfl, unhide hB⟩

end Go.Proofs.Ytbdegomnlconjaa

/- The walk of the specification's test of sides. -/
namespace Go.Proofs.Ytbdegomnlconjaa
open Go.RowKit

set_option maxHeartbeats 1000000 in
theorem specL4Sides (a b : Int) (w : World) : Calls Try.prog 42 #[.int .i64 a, .int .i64 b] w fun e w' => e = .returned (.bool (sidesB a b)) ∧ w' = w := by
  by_cases ha : 1 ≤ a ∧ a ≤ 512
  · have hE : sidesB a b = sideB b := by unfold sidesB; rw [sideB_yes ha]; rfl
    rw [hE]
    obtain ⟨a1, a2⟩ := ha
    by_cases hb : 1 ≤ b ∧ b ≤ 512
    · rw [sideB_yes hb]
      obtain ⟨b1, b2⟩ := hb
      clear hE
      go_enter Try.func42, Try.ntmps42
      go_wp2
      go_ret
      exact ⟨rfl, rfl⟩
    · rw [sideB_no hb]
      clear hE
      by_cases h1 : b < 1
      · have q1 : decide (1 ≤ b) = false := by simp; omega
        clear hb
        go_enter Try.func42, Try.ntmps42
        go_wp2
        go_ret
        exact ⟨rfl, rfl⟩
      · have q1 : decide (1 ≤ b) = true := by simp; omega
        have q2 : decide (b ≤ 512) = false := by simp; omega
        clear hb
        go_enter Try.func42, Try.ntmps42
        go_wp2
        go_ret
        exact ⟨rfl, rfl⟩
  · have hE : sidesB a b = false := by unfold sidesB; rw [sideB_no ha]; rfl
    rw [hE]
    clear hE
    by_cases h1 : a < 1
    · have q1 : decide (1 ≤ a) = false := by simp; omega
      clear ha
      go_enter Try.func42, Try.ntmps42
      go_wp2
      go_ret
      exact ⟨rfl, rfl⟩
    · have q1 : decide (1 ≤ a) = true := by simp; omega
      have q2 : decide (a ≤ 512) = false := by simp; omega
      clear ha
      go_enter Try.func42, Try.ntmps42
      go_wp2
      go_ret
      exact ⟨rfl, rfl⟩

end Go.Proofs.Ytbdegomnlconjaa

/- Good moving pictures: the head. -/
namespace Go.Proofs.Ytbdegomnlconjaa
open Go.RowKit

theorem sideOk_sides {a b : Int} (h : SideOk a b) : sidesB a b = true := sidesB_yes h.1 h.2.1
set_option maxHeartbeats 2000000 in
theorem implGoodSides (a b : Int) (w : World) : Calls Try.prog 35 #[.int .i64 a, .int .i64 b] w fun e w' => e = .returned (.bool (mB (SideOk a b))) ∧ w' = w := by
  have hA := hide (fun W => implGoodSide a W)
  have hB := hide (fun W => implGoodSide b W)
  by_cases ha : 1 ≤ a ∧ a ≤ 512
  case neg =>
    rw [mB_no (fun h => ha h.1)]
    rw [sideB_no ha] at hA
    clear ha
    go_enter Try.func35, Try.ntmps35
    go_wp2_with fail
    refine (unhide hA _).mono ?_
    rintro e w1 ⟨rfl, rfl⟩
    go_wp2
    go_ret
    exact ⟨rfl, rfl⟩
  by_cases hb : 1 ≤ b ∧ b ≤ 512
  case neg =>
    rw [mB_no (fun h => hb h.2.1)]
    rw [sideB_yes ha] at hA
    rw [sideB_no hb] at hB
    clear ha hb
    go_enter Try.func35, Try.ntmps35
    go_wp2_with fail
    refine (unhide hA _).mono ?_
    rintro e w1 ⟨rfl, rfl⟩
    go_wp2_with fail
    refine (unhide hB _).mono ?_
    rintro e w1 ⟨rfl, rfl⟩
    go_wp2
    go_ret
    exact ⟨rfl, rfl⟩
  obtain ⟨P, hP, P1, P2⟩ := side_prod ha hb
  have hR : mB (SideOk a b) = decide (P ≤ 4096) := by
    by_cases h : P ≤ 4096
    · rw [decide_eq_true h]; exact mB_yes ⟨ha, hb, by omega⟩
    · rw [decide_eq_false h]; exact mB_no (fun h' => h (by have := h'.2.2; omega))
  rw [hR]
  rw [sideB_yes ha] at hA
  rw [sideB_yes hb] at hB
  clear ha hb hR
  go_enter Try.func35, Try.ntmps35
  go_wp2_with fail
  refine (unhide hA _).mono ?_
  rintro e w1 ⟨rfl, rfl⟩
  go_wp2_with fail
  refine (unhide hB _).mono ?_
  rintro e w1 ⟨rfl, rfl⟩
  go_wp2
  go_ret
  exact ⟨rfl, rfl⟩

set_option maxHeartbeats 8000000 in
set_option maxRecDepth 1000000 in
theorem specL6Head (a b l : Int) (adp adf : Option Addr) (cpp nf cpf : Nat) (zs : List Int) (w : World) (hn : zs.length ≤ 1048576) (hv : RdI w (.slice adp zs.length cpp) zs) :
    Calls Try.prog 89 #[.agg #[.int .i64 a, .int .i64 b, .slice adp zs.length cpp, .int .i64 l, .slice adf nf cpf]] w fun e w' => e = .returned (.bool (mB (HeadOk a b zs l))) ∧ Upd 0 0 w w' := by
  have hB0 := (Below.refl w.heap.size w).alloc (Nat.le_refl _) (.cells #[.int .i64 a, .int .i64 b, .slice adp zs.length cpp, .int .i64 l, .slice adf nf cpf] 49)
  have hU := hide (Upd.of_below hB0 0 0)
  have hr := hide (hv.below hB0)
  clear hB0 hv
  have hS := hide (fun W => specL4Sides a b W)
  have hL := hide (fun W => specL6Log zs.length W hn)
  have hC := hide (fun W h => specL5Cols (.slice adp zs.length cpp) zs W hn h)
  by_cases hs : sidesB a b = true
  case neg =>
    rw [mB_no (fun h => hs (sideOk_sides h.1))]
    rw [show sidesB a b = false by simpa using hs] at hS
    clear hs
    go_enter Try.func89, Try.ntmps89
    go_wp2_with fail
    refine (unhide hS _).mono ?_
    rintro e w1 ⟨rfl, rfl⟩
    go_wp2
    go_ret
    exact ⟨rfl, unhide hU⟩
  have hab : (1 ≤ a ∧ a ≤ 512) ∧ (1 ≤ b ∧ b ≤ 512) := by unfold sidesB at hs; simp only [Bool.and_eq_true, sideB_iff] at hs; exact hs
  rw [hs] at hS
  obtain ⟨P, hP, P1, P2⟩ := side_prod hab.1 hab.2
  by_cases h4 : P ≤ 4096
  case neg =>
    rw [mB_no (fun h => h4 (by have := h.1.2.2; omega))]
    clear hs hab
    go_enter Try.func89, Try.ntmps89
    go_wp2_with fail
    refine (unhide hS _).mono ?_
    rintro e w1 ⟨rfl, rfl⟩
    go_wp2
    go_ret
    exact ⟨rfl, unhide hU⟩
  have hSide : Hid (SideOk a b) := hide ⟨hab.1, hab.2, by omega⟩
  clear hs hab
  by_cases hg : 0 < logB zs.length
  case neg =>
    rw [mB_no (fun h => hg h.2.1)]
    rw [show logB zs.length = 0 by omega] at hL
    clear hg
    go_enter Try.func89, Try.ntmps89
    go_wp2_with fail
    refine (unhide hS _).mono ?_
    rintro e w1 ⟨rfl, rfl⟩
    go_wp2_with fail
    refine (unhide hL _).mono ?_
    rintro e w1 ⟨rfl, rfl⟩
    go_wp2
    go_ret
    exact ⟨rfl, unhide hU⟩
  have hg8 := logB_le zs.length
  obtain ⟨k, hk⟩ : ∃ k, logB zs.length = k := ⟨_, rfl⟩
  rw [hk] at hL hg hg8
  replace hk := hide hk
  by_cases hc : ColsOk zs
  case neg =>
    rw [mB_no (fun h => hc h.2.2.1)]
    rw [mB_no hc] at hC
    clear hc
    go_enter Try.func89, Try.ntmps89
    go_wp2_with fail
    refine (unhide hS _).mono ?_
    rintro e w1 ⟨rfl, rfl⟩
    go_wp2_with fail
    refine (unhide hL _).mono ?_
    rintro e w1 ⟨rfl, rfl⟩
    go_wp2_with fail
    refine (unhide hC _ (unhide hr)).mono ?_
    rintro e w1 ⟨rfl, rfl⟩
    go_wp2
    go_ret
    exact ⟨rfl, unhide hU⟩
  have hCol : Hid (ColsOk zs) := hide hc
  rw [mB_yes hc] at hC
  clear hc
  have hY : Hid ((0 ≤ l ∧ l ≤ 65535) → mB (HeadOk a b zs l) = true) := hide (fun h => mB_yes ⟨unhide hSide, by rw [unhide hk]; exact hg, unhide hCol, h⟩)
  have hX : Hid (¬ (0 ≤ l ∧ l ≤ 65535) → mB (HeadOk a b zs l) = false) := hide (fun h => mB_no (fun h' => h h'.2.2.2))
  by_cases h0 : 0 ≤ l
  case neg =>
    rw [unhide hX (by omega)]
    go_enter Try.func89, Try.ntmps89
    go_wp2_with fail
    refine (unhide hS _).mono ?_
    rintro e w1 ⟨rfl, rfl⟩
    go_wp2_with fail
    refine (unhide hL _).mono ?_
    rintro e w1 ⟨rfl, rfl⟩
    go_wp2_with fail
    refine (unhide hC _ (unhide hr)).mono ?_
    rintro e w1 ⟨rfl, rfl⟩
    go_wp2
    go_ret
    exact ⟨rfl, unhide hU⟩
  by_cases h1 : l ≤ 65535
  case neg =>
    have q1 : decide (l ≤ 65535) = false := by simp; omega
    rw [unhide hX (by omega)]
    go_enter Try.func89, Try.ntmps89
    go_wp2_with fail
    refine (unhide hS _).mono ?_
    rintro e w1 ⟨rfl, rfl⟩
    go_wp2_with fail
    refine (unhide hL _).mono ?_
    rintro e w1 ⟨rfl, rfl⟩
    go_wp2_with fail
    refine (unhide hC _ (unhide hr)).mono ?_
    rintro e w1 ⟨rfl, rfl⟩
    go_wp2
    go_ret
    exact ⟨rfl, unhide hU⟩
  rw [unhide hY ⟨h0, h1⟩]
  go_enter Try.func89, Try.ntmps89
  go_wp2_with fail
  refine (unhide hS _).mono ?_
  rintro e w1 ⟨rfl, rfl⟩
  go_wp2_with fail
  refine (unhide hL _).mono ?_
  rintro e w1 ⟨rfl, rfl⟩
  go_wp2_with fail
  refine (unhide hC _ (unhide hr)).mono ?_
  rintro e w1 ⟨rfl, rfl⟩
  go_wp2
  go_ret
  exact ⟨rfl, unhide hU⟩

set_option maxHeartbeats 8000000 in
set_option maxRecDepth 1000000 in
theorem implGoodHead (a b l : Int) (adp adf : Option Addr) (cpp nf cpf : Nat) (zs : List Int) (w : World) (hn : zs.length ≤ 1048576) (hv : RdI w (.slice adp zs.length cpp) zs) :
    Calls Try.prog 93 #[.agg #[.int .i64 a, .int .i64 b, .slice adp zs.length cpp, .int .i64 l, .slice adf nf cpf]] w fun e w' => e = .returned (.bool (mB (HeadOk a b zs l))) ∧ Upd 0 0 w w' := by
  have hB0 := (Below.refl w.heap.size w).alloc (Nat.le_refl _) (.cells #[.int .i64 a, .int .i64 b, .slice adp zs.length cpp, .int .i64 l, .slice adf nf cpf] 49)
  have hU := hide (Upd.of_below hB0 0 0)
  have hr := hide (hv.below hB0)
  clear hB0 hv
  have hS := hide (fun W => implGoodSides a b W)
  have hL := hide (fun W => implPaletteBits zs.length W hn)
  have hC := hide (fun W h => implGoodColours (.slice adp zs.length cpp) zs W hn h)
  have hT := hide (fun W => implGoodShort l W)
  by_cases hs : SideOk a b
  case neg =>
    rw [mB_no (fun h => hs h.1)]
    rw [mB_no hs] at hS
    clear hs
    go_enter Try.func93, Try.ntmps93
    go_wp2_with fail
    refine (unhide hS _).mono ?_
    rintro e w1 ⟨rfl, rfl⟩
    go_wp2
    go_ret
    exact ⟨rfl, unhide hU⟩
  rw [mB_yes hs] at hS
  have hSide : Hid (SideOk a b) := hide hs
  clear hs
  by_cases hg : 0 < logB zs.length
  case neg =>
    rw [mB_no (fun h => hg h.2.1)]
    rw [show logB zs.length = 0 by omega] at hL
    clear hg
    go_enter Try.func93, Try.ntmps93
    go_wp2_with fail
    refine (unhide hS _).mono ?_
    rintro e w1 ⟨rfl, rfl⟩
    go_wp2_with fail
    refine (unhide hL _).mono ?_
    rintro e w1 ⟨rfl, rfl⟩
    go_wp2
    go_ret
    exact ⟨rfl, unhide hU⟩
  have hg8 := logB_le zs.length
  obtain ⟨k, hk⟩ : ∃ k, logB zs.length = k := ⟨_, rfl⟩
  rw [hk] at hL hg hg8
  replace hk := hide hk
  by_cases hc : ColsOk zs
  case neg =>
    rw [mB_no (fun h => hc h.2.2.1)]
    rw [mB_no hc] at hC
    clear hc
    go_enter Try.func93, Try.ntmps93
    go_wp2_with fail
    refine (unhide hS _).mono ?_
    rintro e w1 ⟨rfl, rfl⟩
    go_wp2_with fail
    refine (unhide hL _).mono ?_
    rintro e w1 ⟨rfl, rfl⟩
    go_wp2_with fail
    refine (unhide hC _ (unhide hr)).mono ?_
    rintro e w1 ⟨rfl, rfl⟩
    go_wp2
    go_ret
    exact ⟨rfl, unhide hU⟩
  have hCol : Hid (ColsOk zs) := hide hc
  rw [mB_yes hc] at hC
  clear hc
  have hY : Hid ((0 ≤ l ∧ l ≤ 65535) → mB (HeadOk a b zs l) = true) := hide (fun h => mB_yes ⟨unhide hSide, by rw [unhide hk]; exact hg, unhide hCol, h⟩)
  have hX : Hid (¬ (0 ≤ l ∧ l ≤ 65535) → mB (HeadOk a b zs l) = false) := hide (fun h => mB_no (fun h' => h h'.2.2.2))
  by_cases h0 : 0 ≤ l ∧ l ≤ 65535
  case neg =>
    rw [unhide hX h0]
    rw [decide_eq_false h0] at hT
    clear h0
    go_enter Try.func93, Try.ntmps93
    go_wp2_with fail
    refine (unhide hS _).mono ?_
    rintro e w1 ⟨rfl, rfl⟩
    go_wp2_with fail
    refine (unhide hL _).mono ?_
    rintro e w1 ⟨rfl, rfl⟩
    go_wp2_with fail
    refine (unhide hC _ (unhide hr)).mono ?_
    rintro e w1 ⟨rfl, rfl⟩
    go_wp2_with fail
    refine (unhide hT _).mono ?_
    rintro e w1 ⟨rfl, rfl⟩
    go_wp2
    go_ret
    exact ⟨rfl, unhide hU⟩
  rw [unhide hY h0]
  rw [decide_eq_true h0] at hT
  clear h0
  go_enter Try.func93, Try.ntmps93
  go_wp2_with fail
  refine (unhide hS _).mono ?_
  rintro e w1 ⟨rfl, rfl⟩
  go_wp2_with fail
  refine (unhide hL _).mono ?_
  rintro e w1 ⟨rfl, rfl⟩
  go_wp2_with fail
  refine (unhide hC _ (unhide hr)).mono ?_
  rintro e w1 ⟨rfl, rfl⟩
  go_wp2_with fail
  refine (unhide hT _).mono ?_
  rintro e w1 ⟨rfl, rfl⟩
  go_wp2
  go_ret
  exact ⟨rfl, unhide hU⟩

end Go.Proofs.Ytbdegomnlconjaa

/- Good moving pictures: GoodMoving, the program. -/
namespace Go.Proofs.Ytbdegomnlconjaa
open Go.RowKit

set_option maxHeartbeats 2000000 in
theorem implGoodPix (v : Value) (zs : List Int) (D n : Nat) (w : World) (hD : D ≤ 8) (hnD : n = 2 ^ D) (hn : zs.length ≤ 1048576) (hv : RdI w v zs) :
    Calls Try.prog 121 #[v, .int .i64 D] w fun e w' => e = .returned (.bool (mB (PixOk n zs))) ∧ w' = w := by
  obtain ⟨ad, cap, rfl, hA⟩ := hv
  replace hA := hide hA
  have hp : (0 : Int) < (2 : Int) ^ D ∧ (2 : Int) ^ D ≤ 65536 := by
    have h1 : 2 ^ D ≤ 2 ^ 16 := Nat.pow_le_pow_right (by omega) (by omega)
    have h2 : 0 < 2 ^ D := Nat.pow_pos (by omega)
    have e : (2 : Int) ^ D = ((2 ^ D : Nat) : Int) := by simp
    rw [e]; generalize 2 ^ D = y at h1 h2; omega
  have hE : (n : Int) = (2 : Int) ^ D := by rw [hnD]; simp
  have hBad : Hid (∀ k, k < zs.length → ¬ (0 ≤ zs.getD k 0 ∧ zs.getD k 0 < 2 ^ D) → mB (PixOk n zs) = false) := hide (fun k hk' hb => mB_no (fun h => hb (by have := h k hk'; rw [hE] at this; exact this)))
  have hGood : Hid ((∀ k, k < zs.length → (0 ≤ zs.getD k 0 ∧ zs.getD k 0 < 2 ^ D)) → mB (PixOk n zs) = true) := hide (fun h => mB_yes (fun j hj => by rw [hE]; exact h j hj))
  clear hnD hE
  go_enter Try.func121, Try.ntmps121
  go_wp2
  go_loop [9] (fun i => ∃ k : Nat, k ≤ zs.length ∧ i = .int .i64 k ∧ Hid (∀ j, j < k → (0 ≤ zs.getD j 0 ∧ zs.getD j 0 < 2 ^ D))) (fun i => zs.length - (intOf i).toNat)
  case atStart => exact ⟨0, Nat.zero_le _, rfl, fun j hj => by omega⟩
  case round =>
    obtain ⟨k, hk', rfl, hok⟩ := hrel
    by_cases hlt : k < zs.length
    · obtain ⟨b, off, rfl, hbl, hcl⟩ := (unhide hA) (ne_of_lt_length hlt)
      have hck := hcl k hlt
      have hbad := hide (unhide hBad k hlt)
      have hOk : Hid ((0 ≤ zs.getD k 0 ∧ zs.getD k 0 < 2 ^ D) → ∀ j, j < k + 1 → (0 ≤ zs.getD j 0 ∧ zs.getD j 0 < 2 ^ D)) := hide (fun h j hj => by
        rcases Nat.lt_or_eq_of_le (Nat.le_of_lt_succ hj) with h' | h'
        · exact unhide hok j h'
        · subst h'; exact h)
      clear hcl hbl
      generalize zs.getD k 0 = x at hck hbad hOk
      by_cases h1 : x < 0
      · have hB := hide (unhide hbad (fun h => by have := h.1; omega))
        clear hbad hOk
        go_wp2
        go_ret
        exact ⟨by rw [unhide hB]; rfl, rfl⟩
      · by_cases h2 : x < 2 ^ D
        · have hok2 := hide (unhide hOk ⟨by omega, h2⟩)
          clear hbad hOk
          go_wp2
          all_goals
            go_round
            case rel => exact ⟨k + 1, by omega, by go_num, unhide hok2⟩
            case measure => simp [intOf]; omega
        · have hB := hide (unhide hbad (fun h => h2 h.2))
          clear hbad hOk
          go_wp2
          go_ret
          exact ⟨by rw [unhide hB]; rfl, rfl⟩
    · have hkl : k = zs.length := by omega
      subst hkl
      have hs := hide (unhide hGood (unhide hok))
      go_wp2
      go_ret
      exact ⟨by rw [unhide hs]; rfl, rfl⟩

set_option maxHeartbeats 8000000 in
set_option maxRecDepth 1000000 in
theorem implGoodFrames (a b l : Int) (adp adf : Option Addr) (cpp cpf : Nat) (zs : List Int) (fs : Fs) (w : World) (hn0 : zs.length ≤ 1048576) (hn1 : sizeFs fs ≤ 1048576) (hRF : InFs fs) (ha : 1 ≤ a ∧ a ≤ 512) (hb : 1 ≤ b ∧ b ≤ 512) (hlg : 0 < logB zs.length) (hAf : ArgFs w adf fs) :
    Calls Try.prog 94 #[.agg #[.int .i64 a, .int .i64 b, .slice adp zs.length cpp, .int .i64 l, .slice adf fs.length cpf]] w fun e w' => e = .returned (.bool (mB (FramesOk a b zs.length fs))) ∧ Upd 0 0 w w' := by
  replace hRF := hide hRF
  have hn2 : fs.length ≤ 1048576 := by unfold sizeFs at hn1; omega
  have hn3 : Hid (szToFs fs fs.length ≤ 1048576) := hide (by unfold sizeFs at hn1; omega)
  have hEach : Hid (∀ k, k < fs.length → (Fss (fs.getD k Fr0)).length ≤ 1048576) := hide (fun k hk => by have h1 := size1Fs_le fs k hk; have h2 := unhide hn3; unfold size1Fs at h1; omega)
  replace hAf := hide hAf
  have hB0 := hide ((Below.refl w.heap.size w).alloc (Nat.le_refl _) (.cells #[.int .i64 a, .int .i64 b, .slice adp zs.length cpp, .int .i64 l, .slice adf fs.length cpf] 49))
  have hbx := hide (held_new w [.int .i64 a, .int .i64 b, .slice adp zs.length cpp, .int .i64 l, .slice adf fs.length cpf] 49)
  clear hn1
  have hNo : Hid (∀ k, k < fs.length → ¬ FrAll a b zs.length (fs.getD k Fr0) → mB (FramesOk a b zs.length fs) = false) := hide (fun k hk h => mB_no (fun h' => h (h'.1 k hk)))
  have hEnd : Hid ((∀ k, k < fs.length → FrAll a b zs.length (fs.getD k Fr0)) → mB (FramesOk a b zs.length fs) = decide (((szToFs fs fs.length : Nat) : Int) ≤ 16384)) := hide (fun h => by
    by_cases h4 : szToFs fs fs.length ≤ 16384
    · rw [mB_yes ⟨h, h4⟩]; simp; omega
    · rw [mB_no (fun h' => h4 h'.2)]; simp; omega)
  generalize mB (FramesOk a b zs.length fs) = R at hNo hEnd ⊢
  have hPw : Hid (zs.length = 2 ^ logB zs.length) := hide (logB_pow hlg)
  have hD8 := logB_le zs.length
  have hLg := hide (fun W => implPaletteBits zs.length W hn0)
  obtain ⟨D, hDe⟩ : ∃ D, logB zs.length = D := ⟨_, rfl⟩
  rw [hDe] at hD8 hLg
  rw [hDe] at hPw
  clear hlg hDe
  go_enter Try.func94, Try.ntmps94
  go_wp2
  change Hid (Held (w.alloc (.cells #[.int .i64 a, .int .i64 b, .slice adp zs.length cpp, .int .i64 l, .slice adf fs.length cpf] 49)) _ _) at hbx
  generalize w.alloc (.cells #[.int .i64 a, .int .i64 b, .slice adp zs.length cpp, .int .i64 l, .slice adf fs.length cpf] 49) = w0 at hB0 hbx ⊢
  go_loopw [3, 9] (fun s i wr => ∃ k : Nat, k ≤ fs.length ∧ i = .int .i64 k ∧ s = .int .i64 ((szToFs fs k : Nat) : Int) ∧ Hid (∀ j, j < k → FrAll a b zs.length (fs.getD j Fr0)) ∧ Hid (Held wr w.heap.size [.int .i64 a, .int .i64 b, .slice adp zs.length cpp, .int .i64 l, .slice adf fs.length cpf]) ∧ Hid (Below w.heap.size w wr)) (fun _ i _ => fs.length - (intOf i).toNat)
  case atStart => exact ⟨0, Nat.zero_le _, rfl, by simp [szToFs], hide (fun j hj => by omega), hbx, hB0⟩
  case round =>
    clear hbx hB0
    obtain ⟨k, hk, rfl, rfl, hok, hbx, hB0⟩ := hrel
    by_cases hlt : k < fs.length
    · obtain ⟨bb, off, us, rfl, hbl, hc, hru⟩ := ((unhide hAf).below (unhide hB0)) (ne_of_lt_length hlt)
      obtain ⟨d0, d1, d2, d3, d4, d5, d6, d7⟩ := hc k hlt
      have hru2 := hru k hlt
      have hnk := unhide hEach k hlt
      have hin := (unhide hRF).1 k
      have hs := hide (szToFs_succ fs k hlt)
      have hle := hide (szToFs_le fs (k + 1))
      have hno := hide (unhide hNo k hlt)
      have hOk : Hid (FrAll a b zs.length (fs.getD k Fr0) → ∀ j, j < k + 1 → FrAll a b zs.length (fs.getD j Fr0)) := hide (fun h j hj => by
        rcases Nat.lt_or_eq_of_le (Nat.le_of_lt_succ hj) with h' | h'
        · exact unhide hok j h'
        · subst h'; exact h)
      clear hc hru hok
      generalize fs.getD k Fr0 = f at d0 d1 d2 d3 d4 d5 d6 d7 hru2 hnk hin hs hno hOk
      obtain ⟨x0, x1, x2, x3, x4, x5, x6, px⟩ := f
      obtain ⟨uk, huk⟩ : ∃ uk, us k = uk := ⟨_, rfl⟩
      rw [huk] at d7 hru2
      clear huk
      obtain ⟨adx, cpx, rfl, hAx⟩ := hru2
      simp only [Fss] at d0 d1 d2 d3 d4 d5 d6 d7 hnk hAx
      change Hid (szToFs fs (k + 1) = szToFs fs k + px.length) at hs
      obtain ⟨i0, i1, i2, i3, i4, i5, i6, _⟩ := hin
      simp only at i0 i1 i2 i3 i4 i5 i6
      have hBn := (Below.refl wr.heap.size wr).alloc (Nat.le_refl _) (.cells #[.int .i64 x0, .int .i64 x1, .int .i64 x2, .int .i64 x3, .int .i64 x4, .int .i64 x5, .int .i64 x6, .slice adx px.length cpx] 27)
      have hfr := hide (held_new wr [.int .i64 x0, .int .i64 x1, .int .i64 x2, .int .i64 x3, .int .i64 x4, .int .i64 x5, .int .i64 x6, .slice adx px.length cpx] 27)
      have hFc := hide (fun W => implMayHold a b l x0 x1 x2 x3 x4 x5 x6 adp (some ⟨bb, off, none⟩) adx zs.length cpp fs.length cpf px.length cpx W ha hb hn0 i0.2 i1.2)
      have hPc := hide (fun W h => implGoodPix (.slice adx px.length cpx) px D zs.length W hD8 (unhide hPw) hnk h)
      have hu2 := Upd.of_below hBn 0 0
      have hbx2 := hide ((unhide hbx).keep hu2)
      have hB2 := hide (below_upd (unhide hB0) hu2 (Nat.le_refl _) (.inr (Nat.zero_le _)))
      have hrx := hide (show RdI (wr.alloc (.cells #[.int .i64 x0, .int .i64 x1, .int .i64 x2, .int .i64 x3, .int .i64 x4, .int .i64 x5, .int .i64 x6, .slice adx px.length cpx] 27)) (.slice adx px.length cpx) px from RdI.below ⟨adx, cpx, rfl, hAx⟩ hBn)
      have hng := hide (show ∀ h : ¬ FrOk a b zs.length x0 x1 x2 x3 x4 x5 x6, R = false from fun h => unhide hno (fun h' => h h'.1))
      have hnp := hide (show ∀ h : ¬ (px.length : Int) = x2 * x3, R = false from fun h => unhide hno (fun h' => h h'.2.1))
      have hnx := hide (show ∀ h : ¬ PixOk zs.length px, R = false from fun h => unhide hno (fun h' => h h'.2.2))
      have hyes := hide (fun (h1 : FrOk a b zs.length x0 x1 x2 x3 x4 x5 x6) (h2 : (px.length : Int) = x2 * x3) (h3 : PixOk zs.length px) => unhide hOk ⟨h1, h2, h3⟩)
      clear hu2 hBn hAx hbx hB0 hno hOk hnk
      go_upto_region 5 with fail
      change Hid (Held (wr.alloc (.cells #[.int .i64 x0, .int .i64 x1, .int .i64 x2, .int .i64 x3, .int .i64 x4, .int .i64 x5, .int .i64 x6, .slice adx px.length cpx] 27)) wr.heap.size _) at hfr
      generalize wr.alloc (.cells #[.int .i64 x0, .int .i64 x1, .int .i64 x2, .int .i64 x3, .int .i64 x4, .int .i64 x5, .int .i64 x6, .slice adx px.length cpx] 27) = w2 at hbx2 hB2 hrx hfr ⊢
      generalize wr.heap.size = gf at hfr ⊢
      clear d0 d1 d2 d3 d4 d5 d6 d7 hbl
      have hbx := hbx2
      have hB0 := hB2
      clear hbx2 hB2
      by_cases hf : FrOk a b zs.length x0 x1 x2 x3 x4 x5 x6
      case neg =>
        have hRe : R = false := unhide hng hf
        subst hRe
        rw [mB_no hf] at hFc
        clear hf
        have c0 := fun x : UpdT w2 => ((unhide hbx).updT x).2 0 _ rfl
        have c1 := fun x : UpdT w2 => ((unhide hbx).updT x).2 1 _ rfl
        have c2 := fun x : UpdT w2 => ((unhide hbx).updT x).2 2 _ rfl
        have c3 := fun x : UpdT w2 => ((unhide hbx).updT x).2 3 _ rfl
        have c4 := fun x : UpdT w2 => ((unhide hbx).updT x).2 4 _ rfl
        have f0 := fun x : UpdT w2 => ((unhide hfr).updT x).2 0 _ rfl
        have f1 := fun x : UpdT w2 => ((unhide hfr).updT x).2 1 _ rfl
        have f2 := fun x : UpdT w2 => ((unhide hfr).updT x).2 2 _ rfl
        have f3 := fun x : UpdT w2 => ((unhide hfr).updT x).2 3 _ rfl
        have f4 := fun x : UpdT w2 => ((unhide hfr).updT x).2 4 _ rfl
        have f5 := fun x : UpdT w2 => ((unhide hfr).updT x).2 5 _ rfl
        have f6 := fun x : UpdT w2 => ((unhide hfr).updT x).2 6 _ rfl
        have f7 := fun x : UpdT w2 => ((unhide hfr).updT x).2 7 _ rfl
        have cl := fun x : UpdT w2 => ((unhide hbx).updT x).1
        have fl := fun x : UpdT w2 => ((unhide hfr).updT x).1
        have hPc2 := hide (fun x : UpdT w2 => unhide hPc x.to ((unhide hrx).below (x.upd.below (Nat.le_refl _) (.inr (Nat.zero_le _)))))
        refine wq_region_upd (by kernel_rfl) (by kernel_rfl) ?_
        repeat
          refine WQ.step (fun K hK => ?_)
          go_simp
          first
            | (refine hK _ ?_; clear hK K)
            | (apply Exists.intro
               refine ⟨fun _ => ?_, hK _ ?_⟩
               (first | (go_at_call 120; exact Calls.updT _ (unhide hFc _)) | (go_at_call 117; exact Calls.updT_same _ (unhide hLg _)) | (go_at_call 121; exact Calls.updT_same _ (unhide hPc2 _)))
               clear hK K)
        refine WQ.nil ?_
        rintro _ ⟨x, rfl⟩
        clear c0 c1 c2 c3 c4 f0 f1 f2 f3 f4 f5 f6 f7 cl fl
        have hx := x.upd
        generalize x.to = w3 at hx ⊢
        replace hbx := hide ((unhide hbx).keep hx)
        replace hfr := hide ((unhide hfr).keep hx)
        replace hB0 := hide (below_upd (unhide hB0) hx (Nat.le_refl _) (.inr (Nat.zero_le _)))
        clear hx hPc2 hrx
        go_wp2
        go_ret
        exact ⟨by first | rfl | simp, Upd.of_below (unhide hB0) 0 0⟩
      rw [mB_yes hf] at hFc
      obtain ⟨P, hP, P1, P2⟩ := side_prod (w := x2) (h := x3) (by unfold FrOk at hf; omega) (by unfold FrOk at hf; omega)
      rw [hP] at hnp hyes
      have hsl : IntKind.i64.wrap P = P := by simp [IntKind.wrap, IntKind.bits, IntKind.signed]; omega
      replace hf := hide hf
      by_cases hpl : (px.length : Int) = P
      case neg =>
        have hRe : R = false := unhide hnp hpl
        subst hRe
        have q : ((px.length : Int) == P) = false := beq_eq_false_iff_ne.2 hpl
        have q2 : ((px.length : Int) != P) = true := bne_iff_ne.2 hpl
        clear hpl
        have c0 := fun x : UpdT w2 => ((unhide hbx).updT x).2 0 _ rfl
        have c1 := fun x : UpdT w2 => ((unhide hbx).updT x).2 1 _ rfl
        have c2 := fun x : UpdT w2 => ((unhide hbx).updT x).2 2 _ rfl
        have c3 := fun x : UpdT w2 => ((unhide hbx).updT x).2 3 _ rfl
        have c4 := fun x : UpdT w2 => ((unhide hbx).updT x).2 4 _ rfl
        have f0 := fun x : UpdT w2 => ((unhide hfr).updT x).2 0 _ rfl
        have f1 := fun x : UpdT w2 => ((unhide hfr).updT x).2 1 _ rfl
        have f2 := fun x : UpdT w2 => ((unhide hfr).updT x).2 2 _ rfl
        have f3 := fun x : UpdT w2 => ((unhide hfr).updT x).2 3 _ rfl
        have f4 := fun x : UpdT w2 => ((unhide hfr).updT x).2 4 _ rfl
        have f5 := fun x : UpdT w2 => ((unhide hfr).updT x).2 5 _ rfl
        have f6 := fun x : UpdT w2 => ((unhide hfr).updT x).2 6 _ rfl
        have f7 := fun x : UpdT w2 => ((unhide hfr).updT x).2 7 _ rfl
        have cl := fun x : UpdT w2 => ((unhide hbx).updT x).1
        have fl := fun x : UpdT w2 => ((unhide hfr).updT x).1
        have hPc2 := hide (fun x : UpdT w2 => unhide hPc x.to ((unhide hrx).below (x.upd.below (Nat.le_refl _) (.inr (Nat.zero_le _)))))
        refine wq_region_upd (by kernel_rfl) (by kernel_rfl) ?_
        repeat
          refine WQ.step (fun K hK => ?_)
          go_simp
          first
            | (refine hK _ ?_; clear hK K)
            | (apply Exists.intro
               refine ⟨fun _ => ?_, hK _ ?_⟩
               (first | (go_at_call 120; exact Calls.updT _ (unhide hFc _)) | (go_at_call 117; exact Calls.updT_same _ (unhide hLg _)) | (go_at_call 121; exact Calls.updT_same _ (unhide hPc2 _)))
               clear hK K)
        refine WQ.nil ?_
        rintro _ ⟨x, rfl⟩
        clear c0 c1 c2 c3 c4 f0 f1 f2 f3 f4 f5 f6 f7 cl fl
        have hx := x.upd
        generalize x.to = w3 at hx ⊢
        replace hbx := hide ((unhide hbx).keep hx)
        replace hfr := hide ((unhide hfr).keep hx)
        replace hB0 := hide (below_upd (unhide hB0) hx (Nat.le_refl _) (.inr (Nat.zero_le _)))
        clear hx hPc2 hrx
        go_wp2
        go_ret
        exact ⟨by first | rfl | simp, Upd.of_below (unhide hB0) 0 0⟩
      have q : ((px.length : Int) == P) = true := beq_iff_eq.2 hpl
      have q2 : ((px.length : Int) != P) = false := by simp [hpl]
      by_cases hpx : PixOk zs.length px
      case neg =>
        have hRe : R = false := unhide hnx hpx
        subst hRe
        rw [mB_no hpx] at hPc
        clear hpx
        replace hpl := hide hpl
        have c0 := fun x : UpdT w2 => ((unhide hbx).updT x).2 0 _ rfl
        have c1 := fun x : UpdT w2 => ((unhide hbx).updT x).2 1 _ rfl
        have c2 := fun x : UpdT w2 => ((unhide hbx).updT x).2 2 _ rfl
        have c3 := fun x : UpdT w2 => ((unhide hbx).updT x).2 3 _ rfl
        have c4 := fun x : UpdT w2 => ((unhide hbx).updT x).2 4 _ rfl
        have f0 := fun x : UpdT w2 => ((unhide hfr).updT x).2 0 _ rfl
        have f1 := fun x : UpdT w2 => ((unhide hfr).updT x).2 1 _ rfl
        have f2 := fun x : UpdT w2 => ((unhide hfr).updT x).2 2 _ rfl
        have f3 := fun x : UpdT w2 => ((unhide hfr).updT x).2 3 _ rfl
        have f4 := fun x : UpdT w2 => ((unhide hfr).updT x).2 4 _ rfl
        have f5 := fun x : UpdT w2 => ((unhide hfr).updT x).2 5 _ rfl
        have f6 := fun x : UpdT w2 => ((unhide hfr).updT x).2 6 _ rfl
        have f7 := fun x : UpdT w2 => ((unhide hfr).updT x).2 7 _ rfl
        have cl := fun x : UpdT w2 => ((unhide hbx).updT x).1
        have fl := fun x : UpdT w2 => ((unhide hfr).updT x).1
        have hPc2 := hide (fun x : UpdT w2 => unhide hPc x.to ((unhide hrx).below (x.upd.below (Nat.le_refl _) (.inr (Nat.zero_le _)))))
        refine wq_region_upd (by kernel_rfl) (by kernel_rfl) ?_
        repeat
          refine WQ.step (fun K hK => ?_)
          go_simp
          first
            | (refine hK _ ?_; clear hK K)
            | (apply Exists.intro
               refine ⟨fun _ => ?_, hK _ ?_⟩
               (first | (go_at_call 120; exact Calls.updT _ (unhide hFc _)) | (go_at_call 117; exact Calls.updT_same _ (unhide hLg _)) | (go_at_call 121; exact Calls.updT_same _ (unhide hPc2 _)))
               clear hK K)
        refine WQ.nil ?_
        rintro _ ⟨x, rfl⟩
        clear c0 c1 c2 c3 c4 f0 f1 f2 f3 f4 f5 f6 f7 cl fl
        have hx := x.upd
        generalize x.to = w3 at hx ⊢
        replace hbx := hide ((unhide hbx).keep hx)
        replace hfr := hide ((unhide hfr).keep hx)
        replace hB0 := hide (below_upd (unhide hB0) hx (Nat.le_refl _) (.inr (Nat.zero_le _)))
        clear hx hPc2 hrx
        go_wp2
        go_ret
        exact ⟨by first | rfl | simp, Upd.of_below (unhide hB0) 0 0⟩
      have hok2 := hide (unhide hyes (unhide hf) hpl hpx)
      rw [mB_yes hpx] at hPc
      clear hpx hyes
      replace hpl := hide hpl
      have hsum : szToFs fs k + px.length ≤ 1048576 := by have := unhide hs; have := unhide hle; have := unhide hn3; omega
      have c0 := fun x : UpdT w2 => ((unhide hbx).updT x).2 0 _ rfl
      have c1 := fun x : UpdT w2 => ((unhide hbx).updT x).2 1 _ rfl
      have c2 := fun x : UpdT w2 => ((unhide hbx).updT x).2 2 _ rfl
      have c3 := fun x : UpdT w2 => ((unhide hbx).updT x).2 3 _ rfl
      have c4 := fun x : UpdT w2 => ((unhide hbx).updT x).2 4 _ rfl
      have f0 := fun x : UpdT w2 => ((unhide hfr).updT x).2 0 _ rfl
      have f1 := fun x : UpdT w2 => ((unhide hfr).updT x).2 1 _ rfl
      have f2 := fun x : UpdT w2 => ((unhide hfr).updT x).2 2 _ rfl
      have f3 := fun x : UpdT w2 => ((unhide hfr).updT x).2 3 _ rfl
      have f4 := fun x : UpdT w2 => ((unhide hfr).updT x).2 4 _ rfl
      have f5 := fun x : UpdT w2 => ((unhide hfr).updT x).2 5 _ rfl
      have f6 := fun x : UpdT w2 => ((unhide hfr).updT x).2 6 _ rfl
      have f7 := fun x : UpdT w2 => ((unhide hfr).updT x).2 7 _ rfl
      have cl := fun x : UpdT w2 => ((unhide hbx).updT x).1
      have fl := fun x : UpdT w2 => ((unhide hfr).updT x).1
      have hPc2 := hide (fun x : UpdT w2 => unhide hPc x.to ((unhide hrx).below (x.upd.below (Nat.le_refl _) (.inr (Nat.zero_le _)))))
      refine wq_region_upd (by kernel_rfl) (by kernel_rfl) ?_
      repeat
        refine WQ.step (fun K hK => ?_)
        go_simp
        first
          | (refine hK _ ?_; clear hK K)
          | (apply Exists.intro
             refine ⟨fun _ => ?_, hK _ ?_⟩
             (first | (go_at_call 120; exact Calls.updT _ (unhide hFc _)) | (go_at_call 117; exact Calls.updT_same _ (unhide hLg _)) | (go_at_call 121; exact Calls.updT_same _ (unhide hPc2 _)))
             clear hK K)
      refine WQ.nil ?_
      rintro _ ⟨x, rfl⟩
      clear c0 c1 c2 c3 c4 f0 f1 f2 f3 f4 f5 f6 f7 cl fl
      have hx := x.upd
      generalize x.to = w3 at hx ⊢
      replace hbx := hide ((unhide hbx).keep hx)
      replace hfr := hide ((unhide hfr).keep hx)
      replace hB0 := hide (below_upd (unhide hB0) hx (Nat.le_refl _) (.inr (Nat.zero_le _)))
      clear hx hPc2 hrx
      have f7 := (unhide hfr).2 7 _ rfl
      go_wp2
      go_roundw
      case rel => exact ⟨k + 1, by omega, by go_num, by rw [unhide hs]; simp <;> exact (unhide hpl).symm, hok2, hbx, hB0⟩
      case measure => simp [intOf]; omega
    · have hkl : k = fs.length := by omega
      subst hkl
      have hRe := unhide hEnd (unhide hok)
      subst hRe
      go_wp2
      go_ret
      exact ⟨rfl, Upd.of_below (unhide hB0) 0 0⟩
end Go.Proofs.Ytbdegomnlconjaa

/- Good moving pictures: GoodMoving, the program. -/
namespace Go.Proofs.Ytbdegomnlconjaa
open Go.RowKit

set_option maxHeartbeats 8000000 in
set_option maxRecDepth 1000000 in
theorem implGoodMoving (v : Value) (d : Mv) (w : World) (hn : MvSize d ≤ 1048576) (hR : InMv d) (hv : RdMv w v d) :
    Calls Try.prog 61 #[v] w fun e w' => e = .returned (.bool (mB (GoodMv d))) ∧ Upd 0 0 w w' := by
  obtain ⟨l0, l1, rfl, hr0, hr1⟩ := hv
  obtain ⟨a, b, zs, l, fs⟩ := d
  simp only [Mvv, MvSize] at hn ⊢
  change RdI w l0 zs at hr0
  change RdFs w l1 fs at hr1
  have hRF : Hid (InFs fs) := hide hR.2.2.2.2
  have hn0 : zs.length ≤ 1048576 := by omega
  have hn1 : sizeFs fs ≤ 1048576 := by omega
  have hn2 : fs.length ≤ 1048576 := by unfold sizeFs at hn1; omega
  obtain ⟨adp, cpp, rfl, hA0⟩ := hr0
  obtain ⟨adf, cpf, rfl, hAf⟩ := hr1
  replace hAf := hide hAf
  have hB0 := (Below.refl w.heap.size w).alloc (Nat.le_refl _) (.cells #[.int .i64 a, .int .i64 b, .slice adp zs.length cpp, .int .i64 l, .slice adf fs.length cpf] 49)
  have hbx := held_new w [.int .i64 a, .int .i64 b, .slice adp zs.length cpp, .int .i64 l, .slice adf fs.length cpf] 49
  have hH := hide (implGoodHead a b l adp adf cpp fs.length cpf zs _ hn0 (RdI.below ⟨adp, cpp, rfl, hA0⟩ hB0))
  replace hB0 := hide hB0
  replace hbx := hide hbx
  clear hA0 hR hn

  by_cases hh : HeadOk a b zs l
  case neg =>
    rw [mB_no (fun h => hh h.1)]
    rw [mB_no hh] at hH
    clear hh
    go_enter Try.func61, Try.ntmps61
    go_wp2_with fail
    change Hid (Held (w.alloc (.cells #[.int .i64 a, .int .i64 b, .slice adp zs.length cpp, .int .i64 l, .slice adf fs.length cpf] 49)) _ _) at hbx
    generalize w.alloc (.cells #[.int .i64 a, .int .i64 b, .slice adp zs.length cpp, .int .i64 l, .slice adf fs.length cpf] 49) = w0 at hB0 hbx hH ⊢
    refine (unhide hH).mono ?_
    rintro e w1 ⟨rfl, hu⟩
    replace hbx := hide ((unhide hbx).keep hu)
    replace hB0 := hide (below_upd (unhide hB0) hu (Nat.le_refl _) (.inr (Nat.le_refl _)))
    clear hu hH
    go_wp2
    go_ret
    exact ⟨by first | rfl | simp, Upd.of_below (unhide hB0) 0 0⟩
  rw [mB_yes hh] at hH
  have hh2 := hide hh
  obtain ⟨⟨ha, hb, hab⟩, hlg, hcol, hl⟩ := hh
  clear hcol hl hab
  replace hlg := hide hlg
  by_cases hl1 : 1 ≤ fs.length
  case neg =>
    rw [mB_no (fun h => hl1 h.2.1.1)]
    go_enter Try.func61, Try.ntmps61
    go_wp2_with fail
    change Hid (Held (w.alloc (.cells #[.int .i64 a, .int .i64 b, .slice adp zs.length cpp, .int .i64 l, .slice adf fs.length cpf] 49)) _ _) at hbx
    generalize w.alloc (.cells #[.int .i64 a, .int .i64 b, .slice adp zs.length cpp, .int .i64 l, .slice adf fs.length cpf] 49) = w0 at hB0 hbx hH ⊢
    refine (unhide hH).mono ?_
    rintro e w1 ⟨rfl, hu⟩
    replace hbx := hide ((unhide hbx).keep hu)
    replace hB0 := hide (below_upd (unhide hB0) hu (Nat.le_refl _) (.inr (Nat.le_refl _)))
    clear hu hH
    have c0 := (unhide hbx).2 0 _ rfl
    have c1 := (unhide hbx).2 1 _ rfl
    have c2 := (unhide hbx).2 2 _ rfl
    have c3 := (unhide hbx).2 3 _ rfl
    have c4 := (unhide hbx).2 4 _ rfl
    have cl := (unhide hbx).1
    go_wp2
    go_ret
    exact ⟨by first | rfl | simp, Upd.of_below (unhide hB0) 0 0⟩
  by_cases hl2 : fs.length ≤ 40
  case neg =>
    rw [mB_no (fun h => hl2 h.2.1.2)]
    go_enter Try.func61, Try.ntmps61
    go_wp2_with fail
    change Hid (Held (w.alloc (.cells #[.int .i64 a, .int .i64 b, .slice adp zs.length cpp, .int .i64 l, .slice adf fs.length cpf] 49)) _ _) at hbx
    generalize w.alloc (.cells #[.int .i64 a, .int .i64 b, .slice adp zs.length cpp, .int .i64 l, .slice adf fs.length cpf] 49) = w0 at hB0 hbx hH ⊢
    refine (unhide hH).mono ?_
    rintro e w1 ⟨rfl, hu⟩
    replace hbx := hide ((unhide hbx).keep hu)
    replace hB0 := hide (below_upd (unhide hB0) hu (Nat.le_refl _) (.inr (Nat.le_refl _)))
    clear hu hH
    have c0 := (unhide hbx).2 0 _ rfl
    have c1 := (unhide hbx).2 1 _ rfl
    have c2 := (unhide hbx).2 2 _ rfl
    have c3 := (unhide hbx).2 3 _ rfl
    have c4 := (unhide hbx).2 4 _ rfl
    have cl := (unhide hbx).1
    go_wp2
    go_ret
    exact ⟨by first | rfl | simp, Upd.of_below (unhide hB0) 0 0⟩
  have hE : mB (GoodMv (a, b, zs, l, fs)) = mB (FramesOk a b zs.length fs) := by
    by_cases h : FramesOk a b zs.length fs
    · rw [mB_yes h]; exact mB_yes ⟨unhide hh2, ⟨hl1, hl2⟩, h⟩
    · rw [mB_no h]; exact mB_no (fun h' => h h'.2.2)
  rw [hE]
  have hG := hide (fun W h => implGoodFrames a b l adp adf cpp cpf zs fs W hn0 hn1 (unhide hRF) ha hb (unhide hlg) h)
  generalize mB (FramesOk a b zs.length fs) = R at hG ⊢
  clear hE
  go_enter Try.func61, Try.ntmps61
  go_wp2_with fail
  change Hid (Held (w.alloc (.cells #[.int .i64 a, .int .i64 b, .slice adp zs.length cpp, .int .i64 l, .slice adf fs.length cpf] 49)) _ _) at hbx
  generalize w.alloc (.cells #[.int .i64 a, .int .i64 b, .slice adp zs.length cpp, .int .i64 l, .slice adf fs.length cpf] 49) = w0 at hB0 hbx hH ⊢
  refine (unhide hH).mono ?_
  rintro e w1 ⟨rfl, hu⟩
  replace hbx := hide ((unhide hbx).keep hu)
  replace hB0 := hide (below_upd (unhide hB0) hu (Nat.le_refl _) (.inr (Nat.le_refl _)))
  clear hu hH
  have c0 := (unhide hbx).2 0 _ rfl
  have c1 := (unhide hbx).2 1 _ rfl
  have c2 := (unhide hbx).2 2 _ rfl
  have c3 := (unhide hbx).2 3 _ rfl
  have c4 := (unhide hbx).2 4 _ rfl
  have cl := (unhide hbx).1
  go_wp2_with fail
  clear c0 c1 c2 c3 c4 cl
  refine (unhide hG _ ((unhide hAf).below (unhide hB0))).mono ?_
  rintro e w2 ⟨rfl, hu⟩
  replace hB0 := hide (below_upd (unhide hB0) hu (Nat.le_refl _) (.inr (Nat.zero_le _)))
  clear hu
  go_wp2
  go_ret
  exact ⟨by first | rfl | simp, Upd.of_below (unhide hB0) 0 0⟩
end Go.Proofs.Ytbdegomnlconjaa

/- slices.Clone of a list of ints. -/
namespace Go.Proofs.Ytbdegomnlconjaa
open Go.RowKit

set_option maxHeartbeats 1000000 in
set_option maxRecDepth 100000 in
theorem cloneI (u : Value) (zs : List Int) (w : World) (hn : zs.length ≤ 1048576) (hr : RdJ w u zs) :
    Calls Try.prog 63 #[u] w fun e w' => ∃ v, e = .returned v ∧ OwnI w' w.heap.size w'.heap.size v zs ∧ Upd 0 0 w w' := by
  have hr0 := hide hr
  rcases hr with ⟨rfl, rfl⟩ | ⟨b, off, cap, rfl, _, _⟩
  · have hq := Lib.run_eql_slice_nil (P := Try.prog) w 23 3 none 0 0 0 0 Try.underlying23
    go_enter Try.func63, Try.ntmps63
    go_wp2
    go_ret
    exact ⟨_, rfl, own_nilI _ _ _, Upd.refl _ _ _⟩
  · have hq := Lib.run_eql_slice_nil (P := Try.prog) w 23 3 (some ⟨b, off, none⟩) zs.length cap 0 0 Try.underlying23
    have hb1 := (Below.refl w.heap.size w).alloc (Nat.le_refl _) (.cells #[] 3)
    have ho1 := World.ownsRow_made (base := w.heap.size) (e := 3) (size := 1) w #[] 0 (Nat.le_refl _) (by unfold maxLen; omega) rfl
    have hr1 := hide ((unhide hr0).below hb1)
    replace hb1 := hide hb1
    replace ho1 := hide ho1
    go_enter Try.func63, Try.ntmps63
    go_wp2_with (at_builtin; go_loud (refine wpList_appI rfl (.tmp 5) (.tmp 6) rfl w.heap.size _ [] rfl (unhide ho1) _ zs rfl (unhide hr1) (by simp; omega) (by simp) ?_))
    intro v2 w2 ho2 hg2 _
    have hb2 := hide (below_upd (unhide hb1) (upd_of_grownI hg2 (unhide ho1)) (Nat.le_refl _) (.inl (Nat.le_refl _)))
    have hO := hide (Own.of (show w2.ownsRow w.heap.size 3 1 v2 zs.length (ints zs) from ho2))
    clear ho2 hg2
    go_wp2
    go_ret
    exact ⟨_, rfl, unhide hO, Upd.of_below (unhide hb2) 0 0⟩
end Go.Proofs.Ytbdegomnlconjaa

/- What a moving picture shows: the program's walk. -/
namespace Go.Proofs.Ytbdegomnlconjaa
open Go.RowKit

def seenF (Wd : Nat) (f : Fr) (s : List Int) : List Int := putZ f.1.toNat f.2.1.toNat f.2.2.1.toNat Wd f.2.2.2.2.2.2.1 (Fss f) s (Fss f).length
def nextF (Wd : Nat) (f : Fr) (s : List Int) : List Int := if f.2.2.2.2.2.1 = 2 then s else if f.2.2.2.2.2.1 = 1 then wipZ f.1.toNat f.2.1.toNat f.2.2.1.toNat Wd (seenF Wd f s) (Fss f).length else seenF Wd f s
/-- The screen ahead of the k-th frame. -/
def scrN (Wd : Nat) (fs : Fs) (s0 : List Int) : Nat → List Int
  | 0 => s0
  | k + 1 => nextF Wd (fs.getD k Fr0) (scrN Wd fs s0 k)
def screensTo (Wd : Nat) (fs : Fs) (s0 : List Int) (k : Nat) : Ll := (List.range k).map fun i => seenF Wd (fs.getD i Fr0) (scrN Wd fs s0 i)
theorem screensTo_length (Wd : Nat) (fs : Fs) (s0 : List Int) (k : Nat) : (screensTo Wd fs s0 k).length = k := by simp [screensTo]
theorem screensTo_succ (Wd : Nat) (fs : Fs) (s0 : List Int) (k : Nat) : screensTo Wd fs s0 (k + 1) = screensTo Wd fs s0 k ++ [seenF Wd (fs.getD k Fr0) (scrN Wd fs s0 k)] := by
  unfold screensTo; rw [List.range_succ, List.map_append]; rfl
theorem seenF_length (Wd : Nat) (f : Fr) (s : List Int) : (seenF Wd f s).length = s.length := putZ_length _ _ _ _ _ _ _ _
theorem nextF_length (Wd : Nat) (f : Fr) (s : List Int) : (nextF Wd f s).length = s.length := by
  unfold nextF
  split
  · rfl
  · split
    · rw [wipZ_length, seenF_length]
    · exact seenF_length _ _ _
theorem scrN_length (Wd : Nat) (fs : Fs) (s0 : List Int) (k : Nat) : (scrN Wd fs s0 k).length = s0.length := by
  induction k with
  | zero => rfl
  | succ k ih => exact (nextF_length _ _ _).trans ih
noncomputable def screensF (d : Mv) : Ll := open Classical in if GoodMv d then screensTo d.1.toNat d.2.2.2.2 (List.replicate (d.1 * d.2.1).toNat (-1)) d.2.2.2.2.length else []
/-- Frames to be read, no row longer than its capacity. -/
def ArgFsC (w : World) (ad : Option Addr) (ds : Fs) : Prop := ds ≠ [] → ∃ b off vs, ad = some ⟨b, off, none⟩ ∧ b < w.heap.size ∧ AtFs w b off ds vs ∧ ∀ j, j < ds.length → ∃ a c, vs j = .slice a (Fss (ds.getD j Fr0)).length c ∧ ArgI w a (Fss (ds.getD j Fr0)) ∧ (Fss (ds.getD j Fr0)).length ≤ c
theorem ArgFsC.arg {w : World} {ad : Option Addr} {ds : Fs} (h : ArgFsC w ad ds) : ArgFs w ad ds := fun hne => by
  obtain ⟨b, off, vs, e, hl, hc, hr⟩ := h hne
  exact ⟨b, off, vs, e, hl, hc, fun j hj => by obtain ⟨a, c, e2, hA, _⟩ := hr j hj; exact ⟨a, c, e2, hA⟩⟩
theorem nil_ownLl (w : World) (a b : Nat) : OwnLl w a b (.slice none 0 0) [] :=
  ⟨[], fun _ => undef, ⟨World.ownsRow_nil _ _ _ _, fun k hk => (by cases hk)⟩, fun j hj => absurd hj (Nat.not_lt_zero _), fun j hj => absurd hj (Nat.not_lt_zero _), fun i j hi => absurd hi (Nat.not_lt_zero _), fun j hj => absurd hj (Nat.not_lt_zero _)⟩
abbrev mvc (a b : Int) (vp : Value) (l : Int) (vf : Value) : List Value := [.int .i64 a, .int .i64 b, vp, .int .i64 l, vf]
theorem RowC.rdJ {w : World} {g n cap : Nat} {zs : List Int} (h : RowC w g n cap (ints zs)) (hl : zs.length = n) : RdJ w (.slice (some ⟨g, 0, none⟩) n cap) zs := by
  subst hl
  refine .inr ⟨g, 0, cap, rfl, h.lt, fun j hj => ?_⟩
  rw [Nat.zero_add, h.cell j hj, ints, getD_map_int zs .i64 j hj]
theorem ownI_rowC {w : World} {a b : Nat} {v : Value} {zs : List Int} (h : OwnI w a b v zs) (hne : zs.length ≠ 0) : ∃ g cap, v = .slice (some ⟨g, 0, none⟩) zs.length cap ∧ RowC w g zs.length cap (ints zs) ∧ a ≤ g ∧ g < b := by
  have h0 := h.2
  obtain ⟨⟨hl, hv⟩, _⟩ := h
  rcases hv with ⟨rfl, hn⟩ | ⟨g, cap, cur, rfl, h1, h2, h3⟩
  · exact absurd hn hne
  · exact ⟨g, cap, rfl, ⟨hl, .inr ⟨g, cap, cur, rfl, Nat.le_refl _, h2, h3⟩⟩, h1, h0 g rfl⟩
theorem HeldF.grown {w w' : World} {g : Nat} {cs : List Value} {r : Option Nat} (h : HeldF w g cs) (hg : w.grownBy w' r) (hne : some g ≠ r) : HeldF w' g cs := by
  cases r with
  | none => exact h.keep ⟨hg.os, hg.tape, hg.output, hg.size, fun k hk _ => hg.block k hk (by simp)⟩
  | some gv => exact h.upd (c := gv) (e := gv + 1) ⟨hg.os, hg.tape, hg.output, hg.size, fun k hk hn => hg.block k hk (by intro e; cases e; omega)⟩ (by have : g ≠ gv := fun e => hne (by rw [e]); omega)
theorem RowC.grown {w w' : World} {g n cap : Nat} {cs : List Value} {r : Option Nat} (h : RowC w g n cap cs) (hg : w.grownBy w' r) (hne : some g ≠ r) : RowC w' g n cap cs := by
  cases r with
  | none => exact h.keep ⟨hg.os, hg.tape, hg.output, hg.size, fun k hk _ => hg.block k hk (by simp)⟩
  | some gv => exact h.upd (c := gv) (e := gv + 1) ⟨hg.os, hg.tape, hg.output, hg.size, fun k hk hn => hg.block k hk (by intro e; cases e; omega)⟩ (by have : g ≠ gv := fun e => hne (by rw [e]); omega)
theorem oneNewS (w : World) (ad : Option Addr) (n c : Nat) (t : TypeId) : ∀ j u, [Value.slice ad n c][j]? = some u → (w.alloc (.cells #[.slice ad n c] t)).cell? ((⟨w.heap.size, 0, none⟩ : Addr).add j) = some u := by
  intro j u hu
  match j, hu with
  | 0, hu => simp at hu; subst hu; simp [Addr.add]
theorem oneOneS (ad : Option Addr) (n c : Nat) : ∀ u ∈ [Value.slice ad n c], u.oneCell' = true := by
  intro u hu; simp at hu; subst hu; rfl
set_option maxHeartbeats 8000000 in
set_option maxRecDepth 100000 in
theorem implScreensR (a b l : Int) (zs : List Int) (fs : Fs) (adp adf : Option Addr) (cpp cpf : Nat) (w : World) (hn : MvSize (a, b, zs, l, fs) ≤ 1048576) (hR : InMv (a, b, zs, l, fs)) (hAp : ArgI w adp zs) (hAf : ArgFsC w adf fs) :
    Calls Try.prog 22 #[.agg #[.int .i64 a, .int .i64 b, .slice adp zs.length cpp, .int .i64 l, .slice adf fs.length cpf]] w fun e w' => ∃ u, e = .returned u ∧ OwnLl w' w.heap.size w'.heap.size u (screensF (a, b, zs, l, fs)) ∧ Upd 0 0 w w' := by
  have hbx := hide (heldF_new w (mvc a b (.slice adp zs.length cpp) l (.slice adf fs.length cpf)) 49)
  have hbel := hide ((Below.refl w.heap.size w).alloc (Nat.le_refl _) (.cells #[.int .i64 a, .int .i64 b, .slice adp zs.length cpp, .int .i64 l, .slice adf fs.length cpf] 49))
  have hG := hide (fun W (hb : Below w.heap.size w W) => implGoodMoving (.agg #[.int .i64 a, .int .i64 b, .slice adp zs.length cpp, .int .i64 l, .slice adf fs.length cpf]) (a, b, zs, l, fs) W hn hR ⟨_, _, rfl, RdI.below ⟨adp, cpp, rfl, hAp⟩ hb, RdFs.below ⟨adf, cpf, rfl, hAf.arg⟩ hb⟩)
  clear hAp hn hR
  replace hAf := hide hAf
  by_cases hg : GoodMv (a, b, zs, l, fs)
  case neg =>
    have hres : Hid (screensF (a, b, zs, l, fs) = []) := hide (by unfold screensF; rw [if_neg hg])
    rw [mB_no hg] at hG
    clear hg
    go_enter Try.func22, Try.ntmps22
    go_upto_region 1 with fail
    change Hid (HeldF (w.alloc (.cells #[.int .i64 a, .int .i64 b, .slice adp zs.length cpp, .int .i64 l, .slice adf fs.length cpf] 49)) w.heap.size (mvc a b (.slice adp zs.length cpp) l (.slice adf fs.length cpf))) at hbx
    generalize w.alloc (.cells #[.int .i64 a, .int .i64 b, .slice adp zs.length cpp, .int .i64 l, .slice adf fs.length cpf] 49) = w0 at hbx hbel ⊢
    have p0 := (unhide hbx).1.2 0 _ rfl
    have p1 := (unhide hbx).1.2 1 _ rfl
    have p2 := (unhide hbx).1.2 2 _ rfl
    have p3 := (unhide hbx).1.2 3 _ rfl
    have p4 := (unhide hbx).1.2 4 _ rfl
    have pl := (unhide hbx).1.1
    go_wp2_with fail
    refine (unhide hG w0 (unhide hbel)).mono ?_
    rintro e w1 ⟨rfl, hu⟩
    have hU := hide ((Upd.of_below (unhide hbel) 0 0).trans hu)
    clear p0 p1 p2 p3 p4 pl hbx hbel hu hG
    go_wp2
    go_ret
    exact ⟨_, rfl, by rw [unhide hres]; exact nil_ownLl _ _ _, unhide hU⟩
  rw [mB_yes hg] at hG
  have hres : Hid (screensF (a, b, zs, l, fs) = screensTo a.toNat fs (List.replicate (a * b).toNat (-1)) fs.length) := hide (by unfold screensF; rw [if_pos hg])
  obtain ⟨⟨⟨ha, hb, hab⟩, _, _, _⟩, ⟨hf1, hf2⟩, hfr, _⟩ := hg
  change 1 ≤ a ∧ a ≤ 512 at ha
  change 1 ≤ b ∧ b ≤ 512 at hb
  change a * b ≤ 4096 at hab
  change 1 ≤ fs.length at hf1
  change fs.length ≤ 40 at hf2
  change ∀ j, j < fs.length → FrAll a b zs.length (fs.getD j Fr0) at hfr
  obtain ⟨A, rfl⟩ := Int.eq_ofNat_of_zero_le (show 0 ≤ a by omega)
  obtain ⟨B, rfl⟩ := Int.eq_ofNat_of_zero_le (show 0 ≤ b by omega)
  obtain ⟨N, hN⟩ : ∃ N, A * B = N := ⟨_, rfl⟩
  have hNI : (A : Int) * (B : Int) = (N : Int) := by rw [← hN, Int.natCast_mul]
  rw [hNI] at hab hres
  rw [Int.toNat_natCast, Int.toNat_natCast] at hres
  have hN1 : 1 ≤ N := by rw [← hN]; exact Nat.mul_pos (by omega) (by omega)
  have hN4 : N ≤ 4096 := by omega
  replace hfr := hide hfr
  go_enter Try.func22, Try.ntmps22
  go_upto_region 1 with fail
  change Hid (HeldF (w.alloc (.cells #[.int .i64 (A : Int), .int .i64 (B : Int), .slice adp zs.length cpp, .int .i64 l, .slice adf fs.length cpf] 49)) w.heap.size (mvc (A : Int) (B : Int) (.slice adp zs.length cpp) l (.slice adf fs.length cpf))) at hbx
  generalize w.alloc (.cells #[.int .i64 (A : Int), .int .i64 (B : Int), .slice adp zs.length cpp, .int .i64 l, .slice adf fs.length cpf] 49) = w0 at hbx hbel ⊢
  have p0 := (unhide hbx).1.2 0 _ rfl
  have p1 := (unhide hbx).1.2 1 _ rfl
  have p2 := (unhide hbx).1.2 2 _ rfl
  have p3 := (unhide hbx).1.2 3 _ rfl
  have p4 := (unhide hbx).1.2 4 _ rfl
  have pl := (unhide hbx).1.1
  go_wp2_with fail
  refine (unhide hG w0 (unhide hbel)).mono ?_
  rintro e w1 ⟨rfl, hu⟩
  replace hbel := hide (below_upd (unhide hbel) hu (Nat.le_refl _) (.inr (Nat.zero_le _)))
  replace hbx := hide ((unhide hbx).keep hu)
  clear p0 p1 p2 p3 p4 pl hu hG
  have p0 := (unhide hbx).1.2 0 _ rfl
  have p1 := (unhide hbx).1.2 1 _ rfl
  clear p0 p1
  have hbxs := hide ((unhide hbx).keep (Upd.of_below ((Below.refl w1.heap.size w1).alloc (Nat.le_refl _) (.cells #[.int .i64 (-1)] 3)) 0 0))
  have hbels := hide ((unhide hbel).alloc (by exact (unhide hbel).size) (.cells #[.int .i64 (-1)] 3))
  have p0 := (unhide hbxs).1.2 0 _ rfl
  have p1 := (unhide hbxs).1.2 1 _ rfl
  have hone : (w1.alloc (.cells #[.int .i64 (-1)] 3)).cell? ⟨w1.heap.size, 0, none⟩ = some (.int .i64 (-1)) := by
    have := (heldF_new w1 [.int .i64 (-1)] 3).1.2 0 _ rfl
    exact this
  have hols := (heldF_new w1 [.int .i64 (-1)] 3).1.1
  replace hone := hide hone
  have hA512 : A ≤ 512 := by omega
  go_wp2_with fail
  change w1.heap.size < (w1.alloc (.cells #[.int .i64 (-1)] 3)).heap.size at hols
  generalize w1.alloc (.cells #[.int .i64 (-1)] 3) = w2 at hbxs hbels hone hols p0 p1 ⊢
  refine (implRepeat w1.heap.size 0 1 (-1) N w2 ⟨hN1, by omega⟩ hols (unhide hone)).mono ?_
  rintro e w3 ⟨gs, rfl, hRs, hgs, hu⟩
  have hgs2 : w.heap.size < gs := by have := (unhide hbxs).1.1; omega
  replace hbel := hide (below_upd (unhide hbels) hu (Nat.le_refl _) (.inr (Nat.zero_le _)))
  replace hbx := hide ((unhide hbxs).keep hu)
  clear p0 p1 hols hone hbxs hbels hu
  have hgw : w.heap.size < gs := hgs2
  have hR0 : Hid (RowC w3 gs N N (ints (scrN A fs (List.replicate N (-1)) 0))) := hide (by
    show RowC w3 gs N N (ints (List.replicate N (-1)))
    unfold ints; rw [List.map_replicate]; exact hRs)
  have hsl : Hid (∀ k, (scrN A fs (List.replicate N (-1)) k).length = N) := hide (fun k => by rw [scrN_length, List.length_replicate])
  obtain ⟨S, hS⟩ : ∃ S, scrN A fs (List.replicate N (-1)) = S := ⟨_, rfl⟩
  obtain ⟨L, hL⟩ : ∃ L, screensTo A fs (List.replicate N (-1)) = L := ⟨_, rfl⟩
  have hSn : Hid (∀ k, S (k + 1) = nextF A (fs.getD k Fr0) (S k)) := hide (fun k => by rw [← hS]; rfl)
  have hLn : Hid (∀ k, L (k + 1) = L k ++ [seenF A (fs.getD k Fr0) (S k)]) := hide (fun k => by rw [← hS, ← hL]; exact screensTo_succ _ _ _ _)
  have hLl : Hid (∀ k, (L k).length = k) := hide (fun k => by rw [← hL]; exact screensTo_length _ _ _ _)
  have hL0 : Hid (OwnLl w3 (w.heap.size + 1) w3.heap.size (.slice none 0 0) (L 0)) := hide (by rw [← hL]; exact nil_ownLl _ _ _)
  rw [hS] at hR0 hsl
  rw [hL] at hres
  clear hS hL hRs hgs
  have p4 := (unhide hbx).1.2 4 _ rfl
  have hsz : w.heap.size < w3.heap.size := (unhide hbx).1.1
  go_upto_region 6 with fail
  clear p4
  go_loopw [3, 4, 6, 7, 21, 38, 41, 50] (fun lv sv _ _ i _ _ _ wr => ∃ (k gs cps : Nat), k ≤ fs.length ∧ i = .int .i64 k ∧ sv = .slice (some ⟨gs, 0, none⟩) N cps ∧ w.heap.size < gs ∧ Hid (RowC wr gs N cps (ints (S k))) ∧ Hid (OwnLl wr (w.heap.size + 1) wr.heap.size lv (L k)) ∧ Hid (∀ g, lv.ownBlock = some g → g ≠ gs) ∧ Hid (HeldF wr w.heap.size (mvc (A : Int) (B : Int) (.slice adp zs.length cpp) l (.slice adf fs.length cpf))) ∧ Hid (Below w.heap.size w wr)) (fun _ _ _ _ i _ _ _ _ => fs.length - (intOf i).toNat)
  case atStart => exact ⟨0, gs, N, Nat.zero_le _, rfl, rfl, by omega, hR0, hL0, hide (fun g h => by cases h), hbx, hbel⟩
  case round =>
    clear hR0 hL0 hbx hbel hsz hgw
    obtain ⟨k, gs, cps, hk, rfl, rfl, hgw, hR, hL, hne, hbx, hbel⟩ := hrel
    by_cases hlt : k < fs.length
    · obtain ⟨bb, off, us, rfl, hbl, hc, hru⟩ := (unhide hAf) (ne_of_lt_length hlt)
      obtain ⟨d0, d1, d2, d3, d4, d5, d6, d7⟩ := hc k hlt
      obtain ⟨adx, cpx, huk, hAx, hcx⟩ := hru k hlt
      have hF := unhide hfr k hlt
      have hSk := unhide hSn k
      have hLk := unhide hLn k
      have hlk := unhide hsl k
      rw [huk] at d7
      clear hc hru huk
      replace hcl := hide (fun o v (h : w.cell? ⟨bb, o, none⟩ = some v) => ((unhide hbel).cell (p := ⟨bb, o, none⟩) (by simpa using hbl)).trans h)
      generalize fs.getD k Fr0 = f at d0 d1 d2 d3 d4 d5 d6 d7 hF hSk hLk hAx hcx
      obtain ⟨x0, x1, x2, x3, x4, x5, x6, px⟩ := f
      simp only [Fss] at d0 d1 d2 d3 d4 d5 d6 d7 hAx hcx
      obtain ⟨⟨f0, f1, f2, f3, f4, f5, f6, f7, f8⟩, hpl, _⟩ := hF
      simp only [Fss] at f0 f1 f2 f3 f4 f5 f6 f7 f8 hpl
      obtain ⟨X, rfl⟩ := Int.eq_ofNat_of_zero_le (show 0 ≤ x0 by omega)
      obtain ⟨Y, rfl⟩ := Int.eq_ofNat_of_zero_le (show 0 ≤ x1 by omega)
      obtain ⟨W, rfl⟩ := Int.eq_ofNat_of_zero_le (show 0 ≤ x2 by omega)
      obtain ⟨H, rfl⟩ := Int.eq_ofNat_of_zero_le (show 0 ≤ x3 by omega)
      obtain ⟨M, hM⟩ : ∃ M, px.length = M := ⟨_, rfl⟩
      rw [hM] at hpl
      have hWH : W * H = M := by have e : ((W * H : Nat) : Int) = (M : Int) := by rw [Int.natCast_mul, hpl]
                                 omega
      have hM1 : 1 ≤ M := by rw [← hWH]; exact Nat.mul_pos (by omega) (by omega)
      obtain ⟨bp, op, rfl, hbp, hpc⟩ := hAx (by intro e; rw [e] at hM; simp at hM; omega)
      rw [hM] at hcx d7
      replace hpc := fun j (hj : j < M) => hpc j (by rw [hM]; exact hj)
      have hseen : seenF A ((X : Int), (Y : Int), (W : Int), (H : Int), x4, x5, x6, px) (S k) = putZ X Y W A x6 px (S k) M := by
        unfold seenF; simp only [Fss, Int.toNat_natCast, hM]
      have hnext : nextF A ((X : Int), (Y : Int), (W : Int), (H : Int), x4, x5, x6, px) (S k) = if x5 = 2 then S k else if x5 = 1 then wipZ X Y W A (putZ X Y W A x6 px (S k) M) M else putZ X Y W A x6 px (S k) M := by
        unfold nextF; rw [hseen]; simp only [Fss, Int.toNat_natCast, hM]
      rw [hseen] at hLk
      rw [hnext] at hSk
      clear hseen hnext
      have hHB : H ≤ 512 := by omega
      have hW1 : 1 ≤ W := by omega
      have hXA : X + W ≤ A := by omega
      have hYN : (Y + H) * A ≤ N := by rw [← hN, Nat.mul_comm A B]; exact Nat.mul_le_mul_right _ (by omega)
      replace d0 := unhide hcl _ _ d0
      replace d1 := unhide hcl _ _ d1
      replace d2 := unhide hcl _ _ d2
      replace d3 := unhide hcl _ _ d3
      replace d4 := unhide hcl _ _ d4
      replace d5 := unhide hcl _ _ d5
      replace d6 := unhide hcl _ _ d6
      replace d7 := unhide hcl _ _ d7
      clear hcl
      replace hbl := Nat.lt_of_lt_of_le hbl (unhide hbel).size
      have hfx := hide (heldF_new wr (fcs X Y W H x4 x5 x6 (.slice (some ⟨bp, op, none⟩) M cpx)) 27)
      have hu1 := Upd.of_below ((Below.refl wr.heap.size wr).alloc (Nat.le_refl _) (.cells #[.int .i64 (X : Int), .int .i64 (Y : Int), .int .i64 (W : Int), .int .i64 (H : Int), .int .i64 x4, .int .i64 x5, .int .i64 x6, .slice (some ⟨bp, op, none⟩) M cpx] 27)) 0 0
      have hgl := (unhide hR).lt
      have hR1 := hide ((unhide hR).keep hu1)
      have hL1 := hide ((unhide hL).keep hu1)
      have hbx1 := hide ((unhide hbx).keep hu1)
      have hbel1 := hide (below_upd (unhide hbel) hu1 (Nat.le_refl _) (.inr (Nat.zero_le _)))
      have hwr := (unhide hbel).size
      have hbz := (unhide hbx).1.1
      clear hu1 hR hL hbx hbel hpl
      replace hSk := hide hSk
      replace hLk := hide hLk
      replace hpc := hide hpc
      have hx5 := f7
      go_upto_region 8 with fail
      change Hid (HeldF (wr.alloc (.cells #[.int .i64 (X : Int), .int .i64 (Y : Int), .int .i64 (W : Int), .int .i64 (H : Int), .int .i64 x4, .int .i64 x5, .int .i64 x6, .slice (some ⟨bp, op, none⟩) M cpx] 27)) wr.heap.size (fcs X Y W H x4 x5 x6 (.slice (some ⟨bp, op, none⟩) M cpx))) at hfx
      generalize wr.alloc (.cells #[.int .i64 (X : Int), .int .i64 (Y : Int), .int .i64 (W : Int), .int .i64 (H : Int), .int .i64 x4, .int .i64 x5, .int .i64 x6, .slice (some ⟨bp, op, none⟩) M cpx] 27) = W1 at hfx hR1 hL1 hbx1 hbel1 ⊢
      obtain ⟨c, hc0⟩ : ∃ c, wr.heap.size = c := ⟨_, rfl⟩
      rw [hc0] at hfx hL1 hgl hwr hbz ⊢
      clear d0 d1 d2 d3 d4 d5 d6 d7 f0 f1 f2 f3 f4 f5 f6 f7 f8 hbl hc0
      have hcW := (unhide hfx).1.1
      go_wp2_with fail
      refine (cloneI _ (S k) W1 (by omega) (by have := (unhide hR1).rdJ hlk; exact this)).mono ?_
      rintro e W2 ⟨vs, rfl, hOs, hu2⟩
      obtain ⟨g2, cp2, rfl, hR2, hg2, hg2b⟩ := ownI_rowC hOs (by omega)
      rw [hlk] at hR2 ⊢
      have hgs := hide ((unhide hR1).keep hu2)
      have hL2 := hide ((unhide hL1).keep hu2)
      have hbx2 := hide ((unhide hbx1).keep hu2)
      have hfx2 := hide ((unhide hfx).keep hu2)
      have hbel2 := hide (below_upd (unhide hbel1) hu2 (Nat.le_refl _) (.inr (Nat.zero_le _)))
      clear hu2 hOs hR1 hL1 hbx1 hfx hbel1 hg2b
      have hcg : c < g2 := by omega
      have q0 := (unhide hfx2).1.2 0 _ rfl
      have q1 := (unhide hfx2).1.2 1 _ rfl
      have q2 := (unhide hfx2).1.2 2 _ rfl
      have q3 := (unhide hfx2).1.2 3 _ rfl
      have q4 := (unhide hfx2).1.2 4 _ rfl
      have q5 := (unhide hfx2).1.2 5 _ rfl
      have q6 := (unhide hfx2).1.2 6 _ rfl
      have q7 := (unhide hfx2).1.2 7 _ rfl
      have ql := (unhide hfx2).1.1
      have p0 := (unhide hbx2).1.2 0 _ rfl
      replace hR2 := hide hR2
      go_wp2_with fail
      refine (implPutOn X Y W H x4 x5 x6 bp op cpx px (S k) M A g2 N cp2 W2 hW1 hHB hXA hA512 hYN (by omega) hWH hM hcx (by have := (unhide hbel2).size; omega) (by omega) (fun j hj => ((unhide hbel2).cell (p := ⟨bp, op + j, none⟩) (by simpa using hbp)).trans (unhide hpc j hj)) (unhide hR2)).mono ?_
      rintro e W3 ⟨rfl, hR3, hu3⟩
      have hgs3 := hide ((unhide hgs).upd hu3 (.inl (by omega)))
      have hL3 := hide ((unhide hL2).upd hu3 (.inl (by omega)))
      have hbx3 := hide ((unhide hbx2).upd hu3 (.inl (by omega)))
      have hfx3 := hide ((unhide hfx2).upd hu3 (.inl (by omega)))
      have hbel3 := hide (below_upd (unhide hbel2) hu3 (Nat.le_refl _) (.inl (by omega)))
      clear hu3 hR2 hgs hL2 hbx2 hfx2 hbel2 q0 q1 q2 q3 q4 q5 q6 q7 ql p0
      obtain ⟨P, hP⟩ : ∃ P, putZ X Y W A x6 px (S k) M = P := ⟨_, rfl⟩
      have hPl : P.length = N := by rw [← hP, putZ_length]; exact hlk
      rw [hP] at hR3 hLk hSk
      clear hP
      obtain ⟨ys, us2, hO3, hrow, hel, hdi, hxx⟩ := unhide hL3
      rw [unhide hLl k] at hO3
      obtain ⟨i0, hi, hz0, hz1, hz2⟩ := info_parts infoLl
      have hsz3 := hR3.lt
      have hvb : Hid (∀ g, u3.ownBlock = some g → w.heap.size + 1 ≤ g ∧ g < c) := hide (fun g h => ⟨(hO3.1.lt g h).1, hO3.2 g h⟩)
      have hus := Upd.of_below ((Below.refl W3.heap.size W3).alloc (Nat.le_refl _) (.cells #[.slice (some ⟨g2, 0, none⟩) N cp2] 23)) 0 0
      have hnew := hide (oneNewS W3 (some ⟨g2, 0, none⟩) N cp2 23)
      have hO4 := hide (hO3.keep hus)
      have hel4 := hide (fun j hj => own_mono ((hel j hj).keep hus) (Nat.le_refl _) (Nat.le_refl _))
      have hR4 := hide (hR3.keep hus)
      have hgs4 := hide ((unhide hgs3).keep hus)
      have hbx4 := hide ((unhide hbx3).keep hus)
      have hfx4 := hide ((unhide hfx3).keep hus)
      have hbel4 := hide (below_upd (unhide hbel3) hus (Nat.le_refl _) (.inr (Nat.zero_le _)))
      have hsz4 := hus.size
      have hbase : w.heap.size + 1 ≤ (W3.alloc (.cells #[.slice (some ⟨g2, 0, none⟩) N cp2] 23)).heap.size := by omega
      replace hrow := hide hrow
      replace hdi := hide hdi
      replace hxx := hide hxx
      replace hel := ()
      clear hel hO3 hL3 hR3 hgs3 hbx3 hfx3 hbel3 hus
      go_upto_region 11 with (at_builtin; go_loud (refine wpList_append_own_at _ rfl (.tmp 32) (.tmp 34) 31 rfl (w.heap.size + 1) 23 i0 (.slice none 0 0) 1 24 Try.underlying31 hi hz0 hz1 hz2 rfl (by decide) _ k ys rfl (unhide hO4).1 ⟨W3.heap.size, 0, none⟩ 1 1 [.slice (some ⟨g2, 0, none⟩) N cp2] rfl rfl (unhide hnew) (oneOneS _ _ _) (by unfold maxLen; omega) (by omega) hbase ?_; intro v4 w6 hown' hgrow _ hat))
      generalize W3.alloc (.cells #[.slice (some ⟨g2, 0, none⟩) N cp2] 23) = W4 at hO4 hel4 hR4 hgs4 hbx4 hfx4 hbel4 hsz4 hbase hgrow hat hnew
      have hfx6 := hide ((unhide hfx4).grown hgrow (fun e => by have := unhide hvb c e.symm; omega))
      have hbx6 := hide ((unhide hbx4).grown hgrow (fun e => by have := unhide hvb w.heap.size e.symm; omega))
      have hgs6 := hide ((unhide hgs4).grown hgrow (fun e => unhide hne gs e.symm rfl))
      have hR6 := hide ((unhide hR4).grown hgrow (fun e => by have := unhide hvb g2 e.symm; omega))
      have hbel6 := hide (below_upd (unhide hbel4) (upd_of_grownI hgrow (unhide hO4).1) (Nat.le_refl _) (.inl (Nat.le_succ _)))
      have hL6 : Hid (OwnLl w6 (w.heap.size + 1) w6.heap.size v4 (L (k + 1))) := hide (by
        rw [unhide hLk]
        refine OwnLl.snoc (c := c) (vs := us2) (ys := ys) (u := .slice (some ⟨g2, 0, none⟩) N cp2) (by rw [unhide hLl k]; exact unhide hO4) (unhide hrow) (unhide hel4) (unhide hdi) (unhide hxx) (by omega) ?_ (by rw [unhide hLl k]; exact hown') hgrow hat
        show Own 3 1 W4 c W4.heap.size (.slice (some ⟨g2, 0, none⟩) N cp2) P.length (ints P)
        rw [hPl]
        exact own_mono (unhide hR4).own (by omega) (by omega))
      have hv6 : Hid (∀ g, v4.ownBlock = some g → g < w6.heap.size ∧ ((w.heap.size + 1 ≤ g ∧ g < c ∧ g ≠ gs) ∨ g = W4.heap.size)) := hide (fun g h => by
        refine ⟨(hown'.lt g h).2, ?_⟩
        rcases hat with e | e
        · rw [e] at h; exact .inl ⟨(unhide hvb g h).1, (unhide hvb g h).2, unhide hne g h⟩
        · rw [e] at h; cases h; exact .inr rfl)
      have hsz6 := hgrow.size
      clear hown' hgrow hat hO4 hel4 hR4 hgs4 hbx4 hfx4 hbel4 hrow hdi hxx hvb hne hnew hLk
      have q5 := (unhide hfx6).1.2 5 _ rfl
      by_cases h0 : x5 = 0
      · subst h0
        rw [if_neg (by decide), if_neg (by decide)] at hSk
        rw [← unhide hSk] at hR6
        clear q5 hSk
        have q5 := (unhide hfx6).1.2 5 _ rfl
        go_wp2
        refine ⟨⟨k + 1, g2, cp2, by omega, by go_num, rfl, by omega, hR6, hL6, hide (fun g h => by rcases unhide hv6 g h with ⟨_, h' | h'⟩ <;> omega), hbx6, hbel6⟩, by simp [intOf]; omega⟩
      · by_cases h2 : x5 = 2
        · subst h2
          rw [if_pos rfl] at hSk
          rw [← unhide hSk] at hgs6
          clear q5 hSk
          have q5 := (unhide hfx6).1.2 5 _ rfl
          go_wp2
          refine ⟨⟨k + 1, gs, cps, by omega, by go_num, rfl, hgw, hgs6, hL6, hide (fun g h => by rcases unhide hv6 g h with ⟨_, h' | h'⟩ <;> omega), hbx6, hbel6⟩, by simp [intOf]; omega⟩
        · have h1 : x5 = 1 := by omega
          subst h1
          rw [if_neg (by decide), if_pos rfl] at hSk
          clear q5
          have q5 := (unhide hfx6).1.2 5 _ rfl
          go_wp2_with fail
          refine (cloneI _ P w6 (by omega) (by have := (unhide hR6).rdJ hPl; exact this)).mono ?_
          rintro e W7 ⟨vs, rfl, hOs, hu7⟩
          obtain ⟨g3, cp3, rfl, hR7, hg3, _⟩ := ownI_rowC hOs (by omega)
          rw [hPl] at hR7 ⊢
          have hL7 := hide ((unhide hL6).keep hu7)
          have hbx7 := hide ((unhide hbx6).keep hu7)
          have hfx7 := hide ((unhide hfx6).keep hu7)
          have hbel7 := hide (below_upd (unhide hbel6) hu7 (Nat.le_refl _) (.inr (Nat.zero_le _)))
          have hs7 := hu7.size
          clear hu7 hOs hR6 hL6 hbx6 hfx6 hbel6 q5 hgs6
          have q0 := (unhide hfx7).1.2 0 _ rfl
          have q1 := (unhide hfx7).1.2 1 _ rfl
          have q2 := (unhide hfx7).1.2 2 _ rfl
          have q3 := (unhide hfx7).1.2 3 _ rfl
          have q4 := (unhide hfx7).1.2 4 _ rfl
          have q5 := (unhide hfx7).1.2 5 _ rfl
          have q6 := (unhide hfx7).1.2 6 _ rfl
          have q7 := (unhide hfx7).1.2 7 _ rfl
          have ql := (unhide hfx7).1.1
          have p0 := (unhide hbx7).1.2 0 _ rfl
          replace hR7 := hide hR7
          go_wp2_with fail
          refine (implWipeOff X Y W H x4 1 x6 (some ⟨bp, op, none⟩) M cpx P M A g3 N cp3 W7 hW1 hHB hXA hA512 hYN (by omega) hWH (unhide hR7)).mono ?_
          rintro e W8 ⟨rfl, hR8, hu8⟩
          have hL8 := hide (((unhide hL7).upd hu8 (.inl hg3)).mono (Nat.le_refl _) (Nat.le_trans hs7 hu8.size))
          have hbx8 := hide ((unhide hbx7).upd hu8 (.inl (by omega)))
          have hbel8 := hide (below_upd (unhide hbel7) hu8 (Nat.le_refl _) (.inl (by omega)))
          rw [← unhide hSk] at hR8
          replace hR8 := hide hR8
          clear hu8 hR7 hL7 hbx7 hfx7 hbel7 q0 q1 q2 q3 q4 q5 q6 q7 ql p0 hSk
          go_wp2
          refine ⟨⟨k + 1, g3, cp3, by omega, by go_num, rfl, by omega, hR8, hL8, hide (fun g h => by rcases unhide hv6 g h with ⟨_, h' | h'⟩ <;> omega), hbx8, hbel8⟩, by simp [intOf]; omega⟩
    · have hkf : k = fs.length := by omega
      subst hkf
      rw [← unhide hres] at hL
      go_wp2
      go_ret
      exact ⟨_, rfl, (unhide hL).mono (Nat.le_succ _) (Nat.le_refl _), Upd.of_below (unhide hbel) 0 0⟩
end Go.Proofs.Ytbdegomnlconjaa

/- Good moving pictures: GoodMoving, as the specification has it. -/
namespace Go.Proofs.Ytbdegomnlconjaa
open Go.RowKit

set_option maxHeartbeats 8000000 in
set_option maxRecDepth 1000000 in
theorem specGoodMoving (v : Value) (d : Mv) (w : World) (hn : MvSize d ≤ 1048576) (hR : InMv d) (hv : RdMv w v d) :
    Calls Try.prog 59 #[v] w fun e w' => e = .returned (.bool (mB (GoodMv d))) ∧ Upd 0 0 w w' := by
  obtain ⟨l0, l1, rfl, hr0, hr1⟩ := hv
  obtain ⟨a, b, zs, l, fs⟩ := d
  simp only [Mvv, MvSize] at hn ⊢
  change RdI w l0 zs at hr0
  change RdFs w l1 fs at hr1
  have hRF : Hid (InFs fs) := hide hR.2.2.2.2
  have hn0 : zs.length ≤ 1048576 := by omega
  have hn1 : sizeFs fs ≤ 1048576 := by omega
  have hn2 : fs.length ≤ 1048576 := by unfold sizeFs at hn1; omega
  have hn3 : Hid (szToFs fs fs.length ≤ 1048576) := hide (by unfold sizeFs at hn1; omega)
  have hEach : Hid (∀ k, k < fs.length → (Fss (fs.getD k Fr0)).length ≤ 1048576) := hide (fun k hk => by have h1 := size1Fs_le fs k hk; have h2 := unhide hn3; unfold size1Fs at h1; omega)
  obtain ⟨adp, cpp, rfl, hA0⟩ := hr0
  obtain ⟨adf, cpf, rfl, hAf⟩ := hr1
  replace hAf := hide hAf
  have hB0 := (Below.refl w.heap.size w).alloc (Nat.le_refl _) (.cells #[.int .i64 a, .int .i64 b, .slice adp zs.length cpp, .int .i64 l, .slice adf fs.length cpf] 49)
  have hbx := held_new w [.int .i64 a, .int .i64 b, .slice adp zs.length cpp, .int .i64 l, .slice adf fs.length cpf] 49
  have hH := hide (specL6Head a b l adp adf cpp fs.length cpf zs _ hn0 (RdI.below ⟨adp, cpp, rfl, hA0⟩ hB0))
  replace hB0 := hide hB0
  replace hbx := hide hbx
  clear hA0 hR hn hn1

  by_cases hh : HeadOk a b zs l
  case neg =>
    rw [mB_no (fun h => hh h.1)]
    rw [mB_no hh] at hH
    clear hh
    go_enter Try.func59, Try.ntmps59
    go_wp2_with fail
    change Hid (Held (w.alloc (.cells #[.int .i64 a, .int .i64 b, .slice adp zs.length cpp, .int .i64 l, .slice adf fs.length cpf] 49)) _ _) at hbx
    generalize w.alloc (.cells #[.int .i64 a, .int .i64 b, .slice adp zs.length cpp, .int .i64 l, .slice adf fs.length cpf] 49) = w0 at hB0 hbx hH ⊢
    refine (unhide hH).mono ?_
    rintro e w1 ⟨rfl, hu⟩
    replace hbx := hide ((unhide hbx).keep hu)
    replace hB0 := hide (below_upd (unhide hB0) hu (Nat.le_refl _) (.inr (Nat.le_refl _)))
    clear hu hH
    go_wp2
    go_ret
    exact ⟨by first | rfl | simp, Upd.of_below (unhide hB0) 0 0⟩
  rw [mB_yes hh] at hH
  have hh2 := hide hh
  obtain ⟨⟨ha, hb, hab⟩, hlg, hcol, hl⟩ := hh
  clear hcol hl hlg hab
  by_cases hl1 : 1 ≤ fs.length
  case neg =>
    rw [mB_no (fun h => hl1 h.2.1.1)]
    go_enter Try.func59, Try.ntmps59
    go_wp2_with fail
    change Hid (Held (w.alloc (.cells #[.int .i64 a, .int .i64 b, .slice adp zs.length cpp, .int .i64 l, .slice adf fs.length cpf] 49)) _ _) at hbx
    generalize w.alloc (.cells #[.int .i64 a, .int .i64 b, .slice adp zs.length cpp, .int .i64 l, .slice adf fs.length cpf] 49) = w0 at hB0 hbx hH ⊢
    refine (unhide hH).mono ?_
    rintro e w1 ⟨rfl, hu⟩
    replace hbx := hide ((unhide hbx).keep hu)
    replace hB0 := hide (below_upd (unhide hB0) hu (Nat.le_refl _) (.inr (Nat.le_refl _)))
    clear hu hH
    have c0 := (unhide hbx).2 0 _ rfl
    have c1 := (unhide hbx).2 1 _ rfl
    have c2 := (unhide hbx).2 2 _ rfl
    have c3 := (unhide hbx).2 3 _ rfl
    have c4 := (unhide hbx).2 4 _ rfl
    have cl := (unhide hbx).1
    go_wp2
    go_ret
    exact ⟨by first | rfl | simp, Upd.of_below (unhide hB0) 0 0⟩
  by_cases hl2 : fs.length ≤ 40
  case neg =>
    rw [mB_no (fun h => hl2 h.2.1.2)]
    go_enter Try.func59, Try.ntmps59
    go_wp2_with fail
    change Hid (Held (w.alloc (.cells #[.int .i64 a, .int .i64 b, .slice adp zs.length cpp, .int .i64 l, .slice adf fs.length cpf] 49)) _ _) at hbx
    generalize w.alloc (.cells #[.int .i64 a, .int .i64 b, .slice adp zs.length cpp, .int .i64 l, .slice adf fs.length cpf] 49) = w0 at hB0 hbx hH ⊢
    refine (unhide hH).mono ?_
    rintro e w1 ⟨rfl, hu⟩
    replace hbx := hide ((unhide hbx).keep hu)
    replace hB0 := hide (below_upd (unhide hB0) hu (Nat.le_refl _) (.inr (Nat.le_refl _)))
    clear hu hH
    have c0 := (unhide hbx).2 0 _ rfl
    have c1 := (unhide hbx).2 1 _ rfl
    have c2 := (unhide hbx).2 2 _ rfl
    have c3 := (unhide hbx).2 3 _ rfl
    have c4 := (unhide hbx).2 4 _ rfl
    have cl := (unhide hbx).1
    go_wp2
    go_ret
    exact ⟨by first | rfl | simp, Upd.of_below (unhide hB0) 0 0⟩
  have hNo : Hid (∀ k, k < fs.length → ¬ FrAll a b zs.length (fs.getD k Fr0) → mB (GoodMv (a, b, zs, l, fs)) = false) := hide (fun k hk h => mB_no (fun h' => h (h'.2.2.1 k hk)))
  have hEnd : Hid ((∀ k, k < fs.length → FrAll a b zs.length (fs.getD k Fr0)) → mB (GoodMv (a, b, zs, l, fs)) = decide (((szToFs fs fs.length : Nat) : Int) ≤ 16384)) := hide (fun h => by
    by_cases h4 : szToFs fs fs.length ≤ 16384
    · rw [mB_yes ⟨unhide hh2, ⟨hl1, hl2⟩, h, h4⟩]; simp; omega
    · rw [mB_no (fun h' => h4 h'.2.2.2)]; simp; omega)
  generalize mB (GoodMv (a, b, zs, l, fs)) = R at hNo hEnd ⊢
  go_enter Try.func59, Try.ntmps59
  go_wp2_with fail
  change Hid (Held (w.alloc (.cells #[.int .i64 a, .int .i64 b, .slice adp zs.length cpp, .int .i64 l, .slice adf fs.length cpf] 49)) _ _) at hbx
  generalize w.alloc (.cells #[.int .i64 a, .int .i64 b, .slice adp zs.length cpp, .int .i64 l, .slice adf fs.length cpf] 49) = w0 at hB0 hbx hH ⊢
  refine (unhide hH).mono ?_
  rintro e w1 ⟨rfl, hu⟩
  replace hbx := hide ((unhide hbx).keep hu)
  replace hB0 := hide (below_upd (unhide hB0) hu (Nat.le_refl _) (.inr (Nat.le_refl _)))
  clear hu hH
  have c0 := (unhide hbx).2 0 _ rfl
  have c1 := (unhide hbx).2 1 _ rfl
  have c2 := (unhide hbx).2 2 _ rfl
  have c3 := (unhide hbx).2 3 _ rfl
  have c4 := (unhide hbx).2 4 _ rfl
  have cl := (unhide hbx).1
  go_wp2
  clear c0 c1 c2 c3 c4 cl
  go_loopw [3, 24] (fun s i wr => ∃ k : Nat, k ≤ fs.length ∧ i = .int .i64 k ∧ s = .int .i64 ((szToFs fs k : Nat) : Int) ∧ Hid (∀ j, j < k → FrAll a b zs.length (fs.getD j Fr0)) ∧ Hid (Held wr w.heap.size [.int .i64 a, .int .i64 b, .slice adp zs.length cpp, .int .i64 l, .slice adf fs.length cpf]) ∧ Hid (Below w.heap.size w wr)) (fun _ i _ => fs.length - (intOf i).toNat)
  case atStart => exact ⟨0, Nat.zero_le _, rfl, by simp [szToFs], hide (fun j hj => by omega), hbx, hB0⟩
  case round =>
    clear hbx hB0
    obtain ⟨k, hk, rfl, rfl, hok, hbx, hB0⟩ := hrel
    by_cases hlt : k < fs.length
    · obtain ⟨bb, off, us, rfl, hbl, hc, hru⟩ := ((unhide hAf).below (unhide hB0)) (ne_of_lt_length hlt)
      obtain ⟨d0, d1, d2, d3, d4, d5, d6, d7⟩ := hc k hlt
      have hru2 := hru k hlt
      have hnk := unhide hEach k hlt
      have hin := (unhide hRF).1 k
      have hs := hide (szToFs_succ fs k hlt)
      have hle := hide (szToFs_le fs (k + 1))
      have hno := hide (unhide hNo k hlt)
      have hOk : Hid (FrAll a b zs.length (fs.getD k Fr0) → ∀ j, j < k + 1 → FrAll a b zs.length (fs.getD j Fr0)) := hide (fun h j hj => by
        rcases Nat.lt_or_eq_of_le (Nat.le_of_lt_succ hj) with h' | h'
        · exact unhide hok j h'
        · subst h'; exact h)
      clear hc hru hok
      generalize fs.getD k Fr0 = f at d0 d1 d2 d3 d4 d5 d6 d7 hru2 hnk hin hs hno hOk
      obtain ⟨x0, x1, x2, x3, x4, x5, x6, px⟩ := f
      obtain ⟨uk, huk⟩ : ∃ uk, us k = uk := ⟨_, rfl⟩
      rw [huk] at d7 hru2
      clear huk
      obtain ⟨adx, cpx, rfl, hAx⟩ := hru2
      simp only [Fss] at d0 d1 d2 d3 d4 d5 d6 d7 hnk hAx
      change Hid (szToFs fs (k + 1) = szToFs fs k + px.length) at hs
      obtain ⟨i0, i1, i2, i3, i4, i5, i6, _⟩ := hin
      simp only at i0 i1 i2 i3 i4 i5 i6
      have hBn := (Below.refl wr.heap.size wr).alloc (Nat.le_refl _) (.cells #[.int .i64 x0, .int .i64 x1, .int .i64 x2, .int .i64 x3, .int .i64 x4, .int .i64 x5, .int .i64 x6, .slice adx px.length cpx] 27)
      have hfr := hide (held_new wr [.int .i64 x0, .int .i64 x1, .int .i64 x2, .int .i64 x3, .int .i64 x4, .int .i64 x5, .int .i64 x6, .slice adx px.length cpx] 27)
      have hFc := hide (fun W => specL6Frame a b l x0 x1 x2 x3 x4 x5 x6 adp (some ⟨bb, off, none⟩) adx zs.length cpp fs.length cpf px.length cpx W ha hb hn0 i0.2 i1.2)
      have hPc := hide (fun W h => specL6Pixels a b l adp (some ⟨bb, off, none⟩) zs.length cpp fs.length cpf (.slice adx px.length cpx) px W hn0 hnk h)
      have hu2 := Upd.of_below hBn 0 0
      have hbx2 := hide ((unhide hbx).keep hu2)
      have hB2 := hide (below_upd (unhide hB0) hu2 (Nat.le_refl _) (.inr (Nat.zero_le _)))
      have hrx := hide (show RdI (wr.alloc (.cells #[.int .i64 x0, .int .i64 x1, .int .i64 x2, .int .i64 x3, .int .i64 x4, .int .i64 x5, .int .i64 x6, .slice adx px.length cpx] 27)) (.slice adx px.length cpx) px from RdI.below ⟨adx, cpx, rfl, hAx⟩ hBn)
      have hng := hide (show ∀ h : ¬ FrOk a b zs.length x0 x1 x2 x3 x4 x5 x6, R = false from fun h => unhide hno (fun h' => h h'.1))
      have hnp := hide (show ∀ h : ¬ (px.length : Int) = x2 * x3, R = false from fun h => unhide hno (fun h' => h h'.2.1))
      have hnx := hide (show ∀ h : ¬ PixOk zs.length px, R = false from fun h => unhide hno (fun h' => h h'.2.2))
      have hyes := hide (fun (h1 : FrOk a b zs.length x0 x1 x2 x3 x4 x5 x6) (h2 : (px.length : Int) = x2 * x3) (h3 : PixOk zs.length px) => unhide hOk ⟨h1, h2, h3⟩)
      clear hu2 hBn hAx hbx hB0 hno hOk hnk
      go_upto_region 7 with fail
      change Hid (Held (wr.alloc (.cells #[.int .i64 x0, .int .i64 x1, .int .i64 x2, .int .i64 x3, .int .i64 x4, .int .i64 x5, .int .i64 x6, .slice adx px.length cpx] 27)) wr.heap.size _) at hfr
      generalize wr.alloc (.cells #[.int .i64 x0, .int .i64 x1, .int .i64 x2, .int .i64 x3, .int .i64 x4, .int .i64 x5, .int .i64 x6, .slice adx px.length cpx] 27) = w2 at hbx2 hB2 hrx hfr ⊢
      generalize wr.heap.size = gf at hfr ⊢
      clear d0 d1 d2 d3 d4 d5 d6 d7 hbl
      have hbx := hbx2
      have hB0 := hB2
      clear hbx2 hB2
      by_cases hf : FrOk a b zs.length x0 x1 x2 x3 x4 x5 x6
      case neg =>
        have hRe : R = false := unhide hng hf
        subst hRe
        rw [mB_no hf] at hFc
        clear hf
        have c0 := (unhide hbx).2 0 _ rfl
        have c1 := (unhide hbx).2 1 _ rfl
        have c2 := (unhide hbx).2 2 _ rfl
        have c3 := (unhide hbx).2 3 _ rfl
        have c4 := (unhide hbx).2 4 _ rfl
        have cl := (unhide hbx).1
        have f0 := (unhide hfr).2 0 _ rfl
        have f1 := (unhide hfr).2 1 _ rfl
        have f2 := (unhide hfr).2 2 _ rfl
        have f3 := (unhide hfr).2 3 _ rfl
        have f4 := (unhide hfr).2 4 _ rfl
        have f5 := (unhide hfr).2 5 _ rfl
        have f6 := (unhide hfr).2 6 _ rfl
        have f7 := (unhide hfr).2 7 _ rfl
        have fl := (unhide hfr).1
        go_wp2_with fail
        clear c0 c1 c2 c3 c4 cl
        clear f0 f1 f2 f3 f4 f5 f6 f7 fl
        refine (unhide hFc _).mono ?_
        rintro e w3 ⟨rfl, hu⟩
        replace hbx := hide ((unhide hbx).keep hu)
        replace hfr := hide ((unhide hfr).keep hu)
        replace hrx := hide ((unhide hrx).below (hu.below (Nat.le_refl _) (.inr (Nat.zero_le _))))
        replace hB0 := hide (below_upd (unhide hB0) hu (Nat.le_refl _) (.inr (Nat.zero_le _)))
        clear hu
        have c0 := (unhide hbx).2 0 _ rfl
        have c1 := (unhide hbx).2 1 _ rfl
        have c2 := (unhide hbx).2 2 _ rfl
        have c3 := (unhide hbx).2 3 _ rfl
        have c4 := (unhide hbx).2 4 _ rfl
        have cl := (unhide hbx).1
        have f0 := (unhide hfr).2 0 _ rfl
        have f1 := (unhide hfr).2 1 _ rfl
        have f2 := (unhide hfr).2 2 _ rfl
        have f3 := (unhide hfr).2 3 _ rfl
        have f4 := (unhide hfr).2 4 _ rfl
        have f5 := (unhide hfr).2 5 _ rfl
        have f6 := (unhide hfr).2 6 _ rfl
        have f7 := (unhide hfr).2 7 _ rfl
        have fl := (unhide hfr).1
        go_wp2
        go_ret
        exact ⟨by first | rfl | simp, Upd.of_below (unhide hB0) 0 0⟩
      rw [mB_yes hf] at hFc
      obtain ⟨P, hP, P1, P2⟩ := side_prod (w := x2) (h := x3) (by unfold FrOk at hf; omega) (by unfold FrOk at hf; omega)
      rw [hP] at hnp hyes
      replace hf := hide hf
      by_cases hpl : (px.length : Int) = P
      case neg =>
        have hRe : R = false := unhide hnp hpl
        subst hRe
        have q : ((px.length : Int) != P) = true := bne_iff_ne.2 hpl
        clear hpl
        have c0 := (unhide hbx).2 0 _ rfl
        have c1 := (unhide hbx).2 1 _ rfl
        have c2 := (unhide hbx).2 2 _ rfl
        have c3 := (unhide hbx).2 3 _ rfl
        have c4 := (unhide hbx).2 4 _ rfl
        have cl := (unhide hbx).1
        have f0 := (unhide hfr).2 0 _ rfl
        have f1 := (unhide hfr).2 1 _ rfl
        have f2 := (unhide hfr).2 2 _ rfl
        have f3 := (unhide hfr).2 3 _ rfl
        have f4 := (unhide hfr).2 4 _ rfl
        have f5 := (unhide hfr).2 5 _ rfl
        have f6 := (unhide hfr).2 6 _ rfl
        have f7 := (unhide hfr).2 7 _ rfl
        have fl := (unhide hfr).1
        go_wp2_with fail
        clear c0 c1 c2 c3 c4 cl
        clear f0 f1 f2 f3 f4 f5 f6 f7 fl
        refine (unhide hFc _).mono ?_
        rintro e w3 ⟨rfl, hu⟩
        replace hbx := hide ((unhide hbx).keep hu)
        replace hfr := hide ((unhide hfr).keep hu)
        replace hrx := hide ((unhide hrx).below (hu.below (Nat.le_refl _) (.inr (Nat.zero_le _))))
        replace hB0 := hide (below_upd (unhide hB0) hu (Nat.le_refl _) (.inr (Nat.zero_le _)))
        clear hu
        have c0 := (unhide hbx).2 0 _ rfl
        have c1 := (unhide hbx).2 1 _ rfl
        have c2 := (unhide hbx).2 2 _ rfl
        have c3 := (unhide hbx).2 3 _ rfl
        have c4 := (unhide hbx).2 4 _ rfl
        have cl := (unhide hbx).1
        have f0 := (unhide hfr).2 0 _ rfl
        have f1 := (unhide hfr).2 1 _ rfl
        have f2 := (unhide hfr).2 2 _ rfl
        have f3 := (unhide hfr).2 3 _ rfl
        have f4 := (unhide hfr).2 4 _ rfl
        have f5 := (unhide hfr).2 5 _ rfl
        have f6 := (unhide hfr).2 6 _ rfl
        have f7 := (unhide hfr).2 7 _ rfl
        have fl := (unhide hfr).1
        go_wp2
        go_ret
        exact ⟨by first | rfl | simp, Upd.of_below (unhide hB0) 0 0⟩
      by_cases hpx : PixOk zs.length px
      case neg =>
        have hRe : R = false := unhide hnx hpx
        subst hRe
        rw [mB_no hpx] at hPc
        have q : ((px.length : Int) == P) = true := beq_iff_eq.2 hpl
        clear hpx
        replace hpl := hide hpl
        have c0 := (unhide hbx).2 0 _ rfl
        have c1 := (unhide hbx).2 1 _ rfl
        have c2 := (unhide hbx).2 2 _ rfl
        have c3 := (unhide hbx).2 3 _ rfl
        have c4 := (unhide hbx).2 4 _ rfl
        have cl := (unhide hbx).1
        have f0 := (unhide hfr).2 0 _ rfl
        have f1 := (unhide hfr).2 1 _ rfl
        have f2 := (unhide hfr).2 2 _ rfl
        have f3 := (unhide hfr).2 3 _ rfl
        have f4 := (unhide hfr).2 4 _ rfl
        have f5 := (unhide hfr).2 5 _ rfl
        have f6 := (unhide hfr).2 6 _ rfl
        have f7 := (unhide hfr).2 7 _ rfl
        have fl := (unhide hfr).1
        go_wp2_with fail
        clear c0 c1 c2 c3 c4 cl
        clear f0 f1 f2 f3 f4 f5 f6 f7 fl
        refine (unhide hFc _).mono ?_
        rintro e w3 ⟨rfl, hu⟩
        replace hbx := hide ((unhide hbx).keep hu)
        replace hfr := hide ((unhide hfr).keep hu)
        replace hrx := hide ((unhide hrx).below (hu.below (Nat.le_refl _) (.inr (Nat.zero_le _))))
        replace hB0 := hide (below_upd (unhide hB0) hu (Nat.le_refl _) (.inr (Nat.zero_le _)))
        clear hu
        have c0 := (unhide hbx).2 0 _ rfl
        have c1 := (unhide hbx).2 1 _ rfl
        have c2 := (unhide hbx).2 2 _ rfl
        have c3 := (unhide hbx).2 3 _ rfl
        have c4 := (unhide hbx).2 4 _ rfl
        have cl := (unhide hbx).1
        have f0 := (unhide hfr).2 0 _ rfl
        have f1 := (unhide hfr).2 1 _ rfl
        have f2 := (unhide hfr).2 2 _ rfl
        have f3 := (unhide hfr).2 3 _ rfl
        have f4 := (unhide hfr).2 4 _ rfl
        have f5 := (unhide hfr).2 5 _ rfl
        have f6 := (unhide hfr).2 6 _ rfl
        have f7 := (unhide hfr).2 7 _ rfl
        have fl := (unhide hfr).1
        go_wp2_with fail
        clear c0 c1 c2 c3 c4 cl
        clear f0 f1 f2 f3 f4 f5 f6 f7 fl
        refine (unhide hPc _ (unhide hrx)).mono ?_
        rintro e w4 ⟨rfl, hu⟩
        replace hbx := hide ((unhide hbx).keep hu)
        replace hfr := hide ((unhide hfr).keep hu)
        replace hrx := hide ((unhide hrx).below (hu.below (Nat.le_refl _) (.inr (Nat.zero_le _))))
        replace hB0 := hide (below_upd (unhide hB0) hu (Nat.le_refl _) (.inr (Nat.zero_le _)))
        clear hu
        have c0 := (unhide hbx).2 0 _ rfl
        have c1 := (unhide hbx).2 1 _ rfl
        have c2 := (unhide hbx).2 2 _ rfl
        have c3 := (unhide hbx).2 3 _ rfl
        have c4 := (unhide hbx).2 4 _ rfl
        have cl := (unhide hbx).1
        have f0 := (unhide hfr).2 0 _ rfl
        have f1 := (unhide hfr).2 1 _ rfl
        have f2 := (unhide hfr).2 2 _ rfl
        have f3 := (unhide hfr).2 3 _ rfl
        have f4 := (unhide hfr).2 4 _ rfl
        have f5 := (unhide hfr).2 5 _ rfl
        have f6 := (unhide hfr).2 6 _ rfl
        have f7 := (unhide hfr).2 7 _ rfl
        have fl := (unhide hfr).1
        go_wp2
        go_ret
        exact ⟨by first | rfl | simp, Upd.of_below (unhide hB0) 0 0⟩
      have hok2 := hide (unhide hyes (unhide hf) hpl hpx)
      rw [mB_yes hpx] at hPc
      have q : ((px.length : Int) == P) = true := beq_iff_eq.2 hpl
      clear hpx hyes
      replace hpl := hide hpl
      have hsum : szToFs fs k + px.length ≤ 1048576 := by have := unhide hs; have := unhide hle; have := unhide hn3; omega
      have c0 := (unhide hbx).2 0 _ rfl
      have c1 := (unhide hbx).2 1 _ rfl
      have c2 := (unhide hbx).2 2 _ rfl
      have c3 := (unhide hbx).2 3 _ rfl
      have c4 := (unhide hbx).2 4 _ rfl
      have cl := (unhide hbx).1
      have f0 := (unhide hfr).2 0 _ rfl
      have f1 := (unhide hfr).2 1 _ rfl
      have f2 := (unhide hfr).2 2 _ rfl
      have f3 := (unhide hfr).2 3 _ rfl
      have f4 := (unhide hfr).2 4 _ rfl
      have f5 := (unhide hfr).2 5 _ rfl
      have f6 := (unhide hfr).2 6 _ rfl
      have f7 := (unhide hfr).2 7 _ rfl
      have fl := (unhide hfr).1
      go_wp2_with fail
      clear c0 c1 c2 c3 c4 cl
      clear f0 f1 f2 f3 f4 f5 f6 f7 fl
      refine (unhide hFc _).mono ?_
      rintro e w3 ⟨rfl, hu⟩
      replace hbx := hide ((unhide hbx).keep hu)
      replace hfr := hide ((unhide hfr).keep hu)
      replace hrx := hide ((unhide hrx).below (hu.below (Nat.le_refl _) (.inr (Nat.zero_le _))))
      replace hB0 := hide (below_upd (unhide hB0) hu (Nat.le_refl _) (.inr (Nat.zero_le _)))
      clear hu
      have c0 := (unhide hbx).2 0 _ rfl
      have c1 := (unhide hbx).2 1 _ rfl
      have c2 := (unhide hbx).2 2 _ rfl
      have c3 := (unhide hbx).2 3 _ rfl
      have c4 := (unhide hbx).2 4 _ rfl
      have cl := (unhide hbx).1
      have f0 := (unhide hfr).2 0 _ rfl
      have f1 := (unhide hfr).2 1 _ rfl
      have f2 := (unhide hfr).2 2 _ rfl
      have f3 := (unhide hfr).2 3 _ rfl
      have f4 := (unhide hfr).2 4 _ rfl
      have f5 := (unhide hfr).2 5 _ rfl
      have f6 := (unhide hfr).2 6 _ rfl
      have f7 := (unhide hfr).2 7 _ rfl
      have fl := (unhide hfr).1
      go_wp2_with fail
      clear c0 c1 c2 c3 c4 cl
      clear f0 f1 f2 f3 f4 f5 f6 f7 fl
      refine (unhide hPc _ (unhide hrx)).mono ?_
      rintro e w4 ⟨rfl, hu⟩
      replace hbx := hide ((unhide hbx).keep hu)
      replace hfr := hide ((unhide hfr).keep hu)
      replace hrx := hide ((unhide hrx).below (hu.below (Nat.le_refl _) (.inr (Nat.zero_le _))))
      replace hB0 := hide (below_upd (unhide hB0) hu (Nat.le_refl _) (.inr (Nat.zero_le _)))
      clear hu
      have c0 := (unhide hbx).2 0 _ rfl
      have c1 := (unhide hbx).2 1 _ rfl
      have c2 := (unhide hbx).2 2 _ rfl
      have c3 := (unhide hbx).2 3 _ rfl
      have c4 := (unhide hbx).2 4 _ rfl
      have cl := (unhide hbx).1
      have f0 := (unhide hfr).2 0 _ rfl
      have f1 := (unhide hfr).2 1 _ rfl
      have f2 := (unhide hfr).2 2 _ rfl
      have f3 := (unhide hfr).2 3 _ rfl
      have f4 := (unhide hfr).2 4 _ rfl
      have f5 := (unhide hfr).2 5 _ rfl
      have f6 := (unhide hfr).2 6 _ rfl
      have f7 := (unhide hfr).2 7 _ rfl
      have fl := (unhide hfr).1
      go_wp2
      go_roundw
      case rel => exact ⟨k + 1, by omega, by go_num, by rw [unhide hs]; simp; exact (unhide hpl).symm, hok2, hbx, hB0⟩
      case measure => simp [intOf]; omega
    · have hkl : k = fs.length := by omega
      subst hkl
      have hRe := unhide hEnd (unhide hok)
      subst hRe
      go_wp2
      go_ret
      exact ⟨rfl, Upd.of_below (unhide hB0) 0 0⟩
end Go.Proofs.Ytbdegomnlconjaa
