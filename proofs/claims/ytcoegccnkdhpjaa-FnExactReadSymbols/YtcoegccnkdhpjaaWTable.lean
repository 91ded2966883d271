/- The walk of the program's table of a code. -/
import Derived.Test.YtcoegccnkdhpjaaWWords
import Derived.Test.YtcoegccnkdhpjaaWRow
import Derived.Test.YtcoegccnkdhpjaaPlainS
import Derived.RegionTactic
import Derived.ChangeAlike
import Derived.Deep.DeepCutAuto
namespace Go.Proofs.Ytcoegccnkdhpjaa
open Go.RowKit

/-- The cells of a code's table. -/
structure Tab (cs : Array Value) (f m s : Nat → Nat) (y : Value) (h : Nat) : Prop where
  size : cs.size = 50
  one : OneCells cs
  f : NumsAt cs 0 16 f
  m : NumsAt cs 16 16 m
  s : NumsAt cs 32 16 s
  y : cs[48]? = some y
  h : cs[49]? = some (.int .i64 (h : Nat))
theorem tab_zero : Tab (Array.replicate 48 (.int .i64 0) ++ #[.slice none 0 0, .int .i64 0]) (fun _ => 0) (fun _ => 0) (fun _ => 0) (.slice none 0 0) 0 := by
  refine ⟨by simp, by unfold OneCells; decide +kernel, ?_, ?_, ?_, by simp, by simp⟩ <;>
  · intro j hj
    rw [Array.getElem?_append_left (by simp; omega), Array.getElem?_replicate, if_pos (by omega)]; rfl
theorem Tab.setF {cs : Array Value} {f m s : Nat → Nat} {y : Value} {h : Nat} (t : Tab cs f m s y h) (i x : Nat) (hi : i < 16) (f' : Nat → Nat) (hx : f' i = x) (hf : ∀ j, j ≠ i → f' j = f j) :
    Tab (cs.setIfInBounds i (.int .i64 (x : Nat))) f' m s y h :=
  ⟨by simpa using t.size, t.one.set _ _ rfl, by simpa using t.f.set i x hi f' hx hf, t.m.other _ _ (by omega), t.s.other _ _ (by omega), getElem?_set_other t.y (by omega), getElem?_set_other t.h (by omega)⟩
theorem Tab.setM {cs : Array Value} {f m s : Nat → Nat} {y : Value} {h : Nat} (t : Tab cs f m s y h) (i x : Nat) (hi : i < 16) (f' : Nat → Nat) (hx : f' i = x) (hf : ∀ j, j ≠ i → f' j = m j) :
    Tab (cs.setIfInBounds (16 + i) (.int .i64 (x : Nat))) f f' s y h :=
  ⟨by simpa using t.size, t.one.set _ _ rfl, t.f.other _ _ (by omega), t.m.set i x hi f' hx hf, t.s.other _ _ (by omega), getElem?_set_other t.y (by omega), getElem?_set_other t.h (by omega)⟩
theorem Tab.setS {cs : Array Value} {f m s : Nat → Nat} {y : Value} {h : Nat} (t : Tab cs f m s y h) (i x : Nat) (hi : i < 16) (f' : Nat → Nat) (hx : f' i = x) (hf : ∀ j, j ≠ i → f' j = s j) :
    Tab (cs.setIfInBounds (32 + i) (.int .i64 (x : Nat))) f m f' y h :=
  ⟨by simpa using t.size, t.one.set _ _ rfl, t.f.other _ _ (by omega), t.m.other _ _ (by omega), t.s.set i x hi f' hx hf, getElem?_set_other t.y (by omega), getElem?_set_other t.h (by omega)⟩
theorem Tab.setY {cs : Array Value} {f m s : Nat → Nat} {y : Value} {h : Nat} (t : Tab cs f m s y h) (y' : Value) (hy : y'.oneCell' = true) : Tab (cs.setIfInBounds 48 y') f m s y' h :=
  ⟨by simpa using t.size, t.one.set _ _ hy, t.f.other _ _ (by omega), t.m.other _ _ (by omega), t.s.other _ _ (by omega), getElem?_set_same (by rw [t.size]; omega), getElem?_set_other t.h (by omega)⟩
theorem Tab.setH {cs : Array Value} {f m s : Nat → Nat} {y : Value} {h : Nat} (t : Tab cs f m s y h) (x : Nat) : Tab (cs.setIfInBounds 49 (.int .i64 (x : Nat))) f m s y x :=
  ⟨by simpa using t.size, t.one.set _ _ rfl, t.f.other _ _ (by omega), t.m.other _ _ (by omega), t.s.other _ _ (by omega), getElem?_set_other t.y (by omega), getElem?_set_same (by rw [t.size]; omega)⟩
theorem Tab.congr {cs : Array Value} {f m s f' m' s' : Nat → Nat} {y : Value} {h : Nat} (t : Tab cs f m s y h) (hf : ∀ j, j < 16 → f' j = f j) (hm : ∀ j, j < 16 → m' j = m j) (hs : ∀ j, j < 16 → s' j = s j) : Tab cs f' m' s' y h :=
  ⟨t.size, t.one, fun j hj => by rw [hf j hj]; exact t.f j hj, fun j hj => by rw [hm j hj]; exact t.m j hj, fun j hj => by rw [hs j hj]; exact t.s j hj, t.y, t.h⟩

theorem infoCT : (Try.prog.info? 81).map (fun i => (i.zero, i.size)) = some (some (.agg (Array.replicate 48 (.int .i64 0) ++ #[.slice none 0 0, .int .i64 0])), 50) := by kernel_rfl
theorem zeroCT : ∃ z, Tab z (fun _ => 0) (fun _ => 0) (fun _ => 0) (.slice none 0 0) 0 ∧ ∀ w, (zeroValue 81).run Try.prog w = .ok (.agg z) w := ⟨_, tab_zero, (zero_of_info infoCT).1⟩
theorem sizeCT : (Try.prog.info? 81).map (·.size) = some 50 := (zero_of_info infoCT).2
theorem infoA16 : (Try.prog.info? 79).map (fun i => (i.zero, i.size)) = some (some (.agg (Array.replicate 16 (.int .i64 0))), 16) := by kernel_rfl
theorem zeroA16 : ∃ z : Array Value, (z.size = 16 ∧ OneCells z) ∧ ∀ w, (zeroValue 79).run Try.prog w = .ok (.agg z) w := ⟨_, ⟨by simp, by unfold OneCells; decide +kernel⟩, (zero_of_info infoA16).1⟩
theorem sizeA16 : (Try.prog.info? 79).map (·.size) = some 16 := (zero_of_info infoA16).2

theorem owns_below_of {w w' : World} {base : Nat} {e : TypeId} {size n : Nat} {v : Value} {xs : List Value} (h : w.ownsRow base e size v n xs) (hb : Below w.heap.size w w') : w'.ownsRow base e size v n xs :=
  ((Own.of h).keep (Upd.of_below hb 0 0)).1
theorem ownsRow_of_block {w w' : World} {base : Nat} {e : TypeId} {size n g cap : Nat} {xs : List Value} (h : w.ownsRow base e size (.slice (some ⟨g, 0, none⟩) n cap) n xs) (hb : w'.heap[g]? = w.heap[g]?) : w'.ownsRow base e size (.slice (some ⟨g, 0, none⟩) n cap) n xs := by
  refine ⟨h.1, ?_⟩
  rcases h.2 with ⟨h0, _⟩ | ⟨g', cap', cur, he, h1, h2, h3⟩
  · simp at h0
  · simp at he
    obtain ⟨rfl, rfl⟩ := he
    exact .inr ⟨g, cap, cur, rfl, h1, by rw [hb]; exact h2, h3⟩
def upto (l : Nat) (f : Nat → Nat) (j : Nat) : Nat := if j < l then f j else 0
theorem upto_at (l : Nat) (f : Nat → Nat) : upto (l + 1) f l = f l := by unfold upto; rw [if_pos (by omega)]
theorem upto_ne (l : Nat) (f : Nat → Nat) (j : Nat) (h : j ≠ l) : upto (l + 1) f j = upto l f j := by
  unfold upto
  by_cases h1 : j < l
  · rw [if_pos h1, if_pos (by omega)]
  · rw [if_neg h1, if_neg (by omega)]
theorem upto_all (f : Nat → Nat) (j : Nat) (h : j < 16) : f j = upto 16 f j := by unfold upto; rw [if_pos h]
theorem upto_one (f : Nat → Nat) (h : f 0 = 0) (j : Nat) : upto 1 f j = 0 := by
  unfold upto; split
  · rw [show j = 0 by omega, h]
  · rfl

set_option maxHeartbeats 4000000 in
set_option maxRecDepth 1000000 in
theorem implTable (v : Value) (zs : List Int) (w : World) (hg : goodL zs) (hv : RdI w v zs) :
    Calls Try.prog 67 #[v] w fun e w' => ∃ cs ys y, e = .returned (.agg cs) ∧ Tab cs (firstOf zs) (manyOf zs) (startOf zs) y (firstOf zs 15 + manyOf zs 15) ∧ ys.length = startOf zs 16 ∧ SymTo zs ys zs.length ∧ OwnI w' w.heap.size w'.heap.size y ys ∧ Upd 0 0 w w' := by
  obtain ⟨i0, hi, hi0, hi1, hi2⟩ := info_parts infoI
  obtain ⟨z, hz0, hz⟩ := zeroCT
  obtain ⟨z16, hz160, hz16⟩ := zeroA16
  obtain ⟨ad, cap, rfl, hA⟩ := hv
  have hn := hg.1
  replace hA := hide hA
  replace hg := hide hg
  replace hz16 := hide hz16
  replace hz160 := hide hz160
  replace hz0 := hide hz0
  go_enter Try.func67, Try.ntmps67
  go_wp2
  go_loopw [14] (fun i wr => ∃ k : Nat, ∃ cs, k ≤ zs.length ∧ i = .int .i64 k ∧ Hid (Tab cs (fun _ => 0) (fun l => cnt1 zs l k) (fun _ => 0) (.slice none 0 0) 0) ∧ wr.heap[w.heap.size + 1]? = some (.cells cs 81 (0, 0)) ∧ wr.heap[w.heap.size]? = some (.cells z 81 (0, 0)) ∧ wr.heap.size = w.heap.size + 2 ∧ Below w.heap.size w wr) (fun i _ => zs.length - (intOf i).toNat)
  case atStart =>
    refine ⟨0, z, by omega, rfl, (unhide hz0).congr (fun _ _ => rfl) (fun j _ => cnt1_zero zs j) (fun _ _ => rfl), ?_, ?_, by simp, ((Below.refl _ _).alloc (Nat.le_refl _) _).alloc (by simp) _⟩
    · have := heap_alloc_new (w.alloc (.cells z 81)) (.cells z 81); simpa using this
    · rw [Below.heap_alloc _ _ _ (by simp)]; exact heap_alloc_new _ _
  case round =>
    obtain ⟨k, cs, hk, rfl, hT, hrow, hrow0, hsz, hbel⟩ := hrel
    by_cases hlt : k < zs.length
    · obtain ⟨b, off, rfl, hbl, hc⟩ := (unhide hA) (ne_of_lt_length hlt)
      have hck : wr.cell? ⟨b, off + k, none⟩ = some (Value.int .i64 (zs.getD k 0)) := (hbel.cell (by simpa using hbl)).trans (hc k hlt)
      have hok := (unhide hg).2 k hlt
      obtain ⟨x, hx⟩ := Int.eq_ofNat_of_zero_le hok.1
      have hx15 : x ≤ 15 := by have := hok.2; omega
      rw [hx] at hck
      clear hc hok
      by_cases h0 : 0 < x
      · have hcell : wr.cell? ⟨w.heap.size + 1, 16 + x, none⟩ = some (.int .i64 (cnt1 zs x k : Nat)) := by
          rw [cell_of_row _ _ _ _ _ _ hrow]; exact (unhide hT).m x (by omega)
        have hfree : wr.frozen? ⟨w.heap.size + 1, 16 + x, none⟩ = false := by simp [World.frozen?, hrow]
        have hT' := hide ((unhide hT).setM x (cnt1 zs x (k + 1)) (by omega) (fun l => cnt1 zs l (k + 1)) rfl (fun j hj => cnt1_miss zs k j (by rw [hx]; omega)))
        have hcb := cnt1_le zs x k
        rw [cnt1_hit zs k x h0 hx] at hT'
        have hnr := heap_setCell_same wr (w.heap.size + 1) (16 + x) cs 81 (.int .i64 ((cnt1 zs x k + 1 : Nat) : Int)) hrow
        have hg0 : (wr.setCell ⟨w.heap.size + 1, 16 + x, none⟩ (.int .i64 ((cnt1 zs x k + 1 : Nat) : Int))).heap[w.heap.size]? = some (.cells z 81 (0, 0)) := by
          rw [Below.heap_setCell _ _ _ _ (by simp)]; exact hrow0
        have hbel' := hbel.setCell (p := ⟨w.heap.size + 1, 16 + x, none⟩) (by simp) (.int .i64 ((cnt1 zs x k + 1 : Nat) : Int))
        have hsz' : (wr.setCell ⟨w.heap.size + 1, 16 + x, none⟩ (.int .i64 ((cnt1 zs x k + 1 : Nat) : Int))).heap.size = w.heap.size + 2 := by simpa using hsz
        replace hnr := hide hnr
        replace hg0 := hide hg0
        replace hsz' := hide hsz'
        replace hx := hide hx
        clear hz hrow hrow0 hsz hT
        generalize cnt1 zs x k = c at hcell hcb hT' hnr hg0 hbel' hsz'
        go_wp2
        go_roundw
        case rel => exact ⟨k + 1, _, by omega, by go_num, hT', unhide hnr, unhide hg0, unhide hsz', hbel'⟩
        case measure => simp [intOf]; omega
      · have hx0 : x = 0 := by omega
        subst hx0
        have hT' := hide ((unhide hT).congr (m' := fun l => cnt1 zs l (k + 1)) (fun _ _ => rfl) (fun j _ => by
          by_cases hj : j = 0
          · subst hj; rfl
          · exact cnt1_miss zs k j (by rw [hx]; omega)) (fun _ _ => rfl))
        replace hx := hide hx
        replace hrow := hide hrow
        replace hrow0 := hide hrow0
        replace hsz := hide hsz
        clear hz hT
        go_wp2
        go_roundw
        case rel => exact ⟨k + 1, _, by omega, by go_num, hT', unhide hrow, unhide hrow0, unhide hsz, hbel⟩
        case measure => simp [intOf]; omega
    · have hkl : k = zs.length := by omega
      subst hkl
      have hT1 := hide ((unhide hT).congr (f' := upto 1 (firstOf zs)) (m' := manyOf zs) (s' := upto 1 (startOf zs)) (fun j _ => upto_one _ rfl j) (fun _ _ => rfl) (fun j _ => upto_one _ rfl j))
      replace hrow := hide hrow
      replace hrow0 := hide hrow0
      replace hsz := hide hsz
      clear hT
      go_wp2
      go_loopw [6, 7, 8] (fun a b c wx => ∃ m : Nat, ∃ cs, m ≤ 15 ∧ a = .int .i64 ((firstOf zs m + manyOf zs m : Nat) : Int) ∧ b = .int .i64 (startOf zs (m + 1) : Nat) ∧ c = .int .i64 ((m + 1 : Nat) : Int) ∧ Hid (Tab cs (upto (m + 1) (firstOf zs)) (manyOf zs) (upto (m + 1) (startOf zs)) (.slice none 0 0) 0) ∧ wx.heap[w.heap.size + 1]? = some (.cells cs 81 (0, 0)) ∧ wx.heap[w.heap.size]? = some (.cells z 81 (0, 0)) ∧ wx.heap.size = w.heap.size + 2 ∧ Below w.heap.size w wx) (fun _ _ c _ => 17 - (intOf c).toNat)
      case atStart => exact ⟨0, cs, by omega, rfl, rfl, rfl, hT1, unhide hrow, unhide hrow0, unhide hsz, hbel⟩
      case round =>
        clear hrow hrow0 hsz hbel hT1
        obtain ⟨m, cs, hm, rfl, rfl, rfl, hT, hrow, hrow0, hsz, hbel⟩ := hrel
        by_cases hlt : m < 15
        · have hF := firstOf_lt zs m hn (by omega)
          have hF2 := firstOf_lt zs (m + 1) hn (by omega)
          have hS := startOf_lt zs (m + 1) hn (by omega)
          have hS2 := startOf_lt zs (m + 2) hn (by omega)
          have hM : wr.cell? ⟨w.heap.size + 1, 16 + (m + 1), none⟩ = some (.int .i64 (manyOf zs (m + 1) : Nat)) := by
            rw [cell_of_row _ _ _ _ _ _ hrow]; exact (unhide hT).m (m + 1) (by omega)
          have hfree : ∀ o, wr.frozen? ⟨w.heap.size + 1, o, none⟩ = false := fun o => by simp [World.frozen?, hrow]
          have hf1 := hfree (m + 1)
          have hf2 := hfree (32 + (m + 1))
          have hc1 : wr.cell? ⟨w.heap.size + 1, m + 1, none⟩ = some (.int .i64 ((upto (m + 1) (firstOf zs) (m + 1) : Nat) : Int)) := by
            rw [cell_of_row _ _ _ _ _ _ hrow]; simpa using (unhide hT).f (m + 1) (by omega)
          have hc2 : wr.cell? ⟨w.heap.size + 1, 32 + (m + 1), none⟩ = some (.int .i64 ((upto (m + 1) (startOf zs) (m + 1) : Nat) : Int)) := by
            rw [cell_of_row _ _ _ _ _ _ hrow]; exact (unhide hT).s (m + 1) (by omega)
          have hT' := hide (((unhide hT).setF (m + 1) (firstOf zs (m + 1)) (by omega) (upto (m + 2) (firstOf zs)) (upto_at _ _) (fun j hj => upto_ne _ _ j hj)).setS (m + 1) (startOf zs (m + 1)) (by omega) (upto (m + 2) (startOf zs)) (upto_at _ _) (fun j hj => upto_ne _ _ j hj))
          have hnr := heap_setCell_same _ (w.heap.size + 1) (32 + (m + 1)) _ 81 (.int .i64 (startOf zs (m + 1) : Nat)) (heap_setCell_same wr (w.heap.size + 1) (m + 1) cs 81 (.int .i64 (firstOf zs (m + 1) : Nat)) hrow)
          have hM2 := hide ((unhide hT').m (m + 1) (by omega))
          have hF1 : ((firstOf zs (m + 1) : Nat) : Int) = ((firstOf zs m + manyOf zs m : Nat) : Int) * 2 := by show ((2 * _ : Nat) : Int) = _; omega
          have hP1 : ((startOf zs (m + 1 + 1) : Nat) : Int) = ((startOf zs (m + 1) : Nat) : Int) + ((manyOf zs (m + 1) : Nat) : Int) := by show ((_ + _ : Nat) : Int) = _; omega
          have hW1 : ((firstOf zs (m + 1) + manyOf zs (m + 1) : Nat) : Int) = ((firstOf zs m + manyOf zs m : Nat) : Int) * 2 + ((manyOf zs (m + 1) : Nat) : Int) := by rw [← hF1]; omega
          rw [hF1] at hnr hT' hM2
          have hg0 := (Below.heap_setCell (wr.setCell ⟨w.heap.size + 1, m + 1, none⟩ (.int .i64 (((firstOf zs m + manyOf zs m : Nat) : Int) * 2))) ⟨w.heap.size + 1, 32 + (m + 1), none⟩ (.int .i64 (startOf zs (m + 1) : Nat)) w.heap.size (by simp)).trans ((Below.heap_setCell wr ⟨w.heap.size + 1, m + 1, none⟩ (.int .i64 (((firstOf zs m + manyOf zs m : Nat) : Int) * 2)) w.heap.size (by simp)).trans hrow0)
          have hbel' := (hbel.setCell (p := ⟨w.heap.size + 1, m + 1, none⟩) (by simp) (.int .i64 (((firstOf zs m + manyOf zs m : Nat) : Int) * 2))).setCell (p := ⟨w.heap.size + 1, 32 + (m + 1), none⟩) (by simp) (.int .i64 (startOf zs (m + 1) : Nat))
          have hsz' : ((wr.setCell ⟨w.heap.size + 1, m + 1, none⟩ (.int .i64 (((firstOf zs m + manyOf zs m : Nat) : Int) * 2))).setCell ⟨w.heap.size + 1, 32 + (m + 1), none⟩ (.int .i64 (startOf zs (m + 1) : Nat))).heap.size = w.heap.size + 2 := by simpa using hsz
          replace hP1 := hide hP1
          replace hW1 := hide hW1
          have hM3 := (cell_of_row _ _ (16 + (m + 1)) _ _ _ hnr).trans (unhide hM2)
          replace hnr := hide hnr
          replace hg0 := hide hg0
          replace hsz' := hide hsz'
          clear hF1 hrow hrow0 hsz hT hM2 hfree hM
          generalize firstOf zs m + manyOf zs m = A at *
          generalize startOf zs (m + 1) = S at *
          generalize hMe : manyOf zs (m + 1) = M at *
          go_wp2
          go_roundw
          case rel => exact ⟨m + 1, _, by omega, by rw [hMe, unhide hW1], by rw [unhide hP1], by go_num, hT', unhide hnr, unhide hg0, unhide hsz', hbel'⟩
          case measure => simp [intOf]; omega
        · have hm15 : m = 15 := by omega
          subst hm15
          have hF := firstOf_lt zs 15 hn (by omega)
          have hS := startOf_lt zs 16 hn (by omega)
          have hT1 := hide (((unhide hT).congr (upto_all (firstOf zs)) (fun _ _ => rfl) (upto_all (startOf zs))).setH (firstOf zs 15 + manyOf zs 15))
          have hfree : ∀ o, wr.frozen? ⟨w.heap.size + 1, o, none⟩ = false := fun o => by simp [World.frozen?, hrow]
          have hf1 := hfree 49
          have hc1 : wr.cell? ⟨w.heap.size + 1, 49, none⟩ = some (.int .i64 ((0 : Nat) : Int)) := by
            rw [cell_of_row _ _ _ _ _ _ hrow]; exact (unhide hT).h
          have hnr := heap_setCell_same wr (w.heap.size + 1) 49 cs 81 (.int .i64 (firstOf zs 15 + manyOf zs 15 : Nat)) hrow
          have hg0 := (Below.heap_setCell wr ⟨w.heap.size + 1, 49, none⟩ (.int .i64 (firstOf zs 15 + manyOf zs 15 : Nat)) w.heap.size (by simp)).trans hrow0
          have hbel' := hbel.setCell (p := ⟨w.heap.size + 1, 49, none⟩) (by simp) (.int .i64 (firstOf zs 15 + manyOf zs 15 : Nat))
          have hsz' : (wr.setCell ⟨w.heap.size + 1, 49, none⟩ (.int .i64 (firstOf zs 15 + manyOf zs 15 : Nat))).heap.size = w.heap.size + 2 := by simpa using hsz
          clear hrow hrow0 hsz hT hfree hbel
          obtain ⟨A, hAe⟩ : ∃ A, A = firstOf zs 15 + manyOf zs 15 := ⟨_, rfl⟩
          obtain ⟨S, hSe⟩ : ∃ S, S = startOf zs 16 := ⟨_, rfl⟩
          rw [← hAe] at hT1 hnr hg0 hbel' hsz' ⊢
          rw [show (15 : Nat) + 1 = 16 from rfl, ← hSe]
          rw [← hSe] at hS
          have hS0 : 0 ≤ (S : Int) := by omega
          replace hAe := hide hAe
          replace hSe := hide hSe
          go_upto_region 17 with fail
          have hy48 : cs[48]? = some (.slice none 0 0) := by have := (unhide hT1).y; rwa [Array.getElem?_setIfInBounds, if_neg (by omega)] at this
          replace hy48 := getElem?_set_other (i := 49) (u := .int .i64 (A : Nat)) hy48 (by omega)
          clear hf1 hc1
          generalize cs.setIfInBounds 49 (.int .i64 (A : Nat)) = cs1 at hT1 hnr hy48
          generalize wr.setCell ⟨w.heap.size + 1, 49, none⟩ (.int .i64 (A : Nat)) = W1 at hnr hg0 hbel' hsz' ⊢
          replace hnr := hide hnr
          replace hg0 := hide hg0
          replace hy48 := hide hy48
          replace hsz' := hide hsz'
          clear hz
          go_upto_region 18 with (at_make; refine wpList_make_full _ rfl _ _ 35 rfl w.heap.size 3 i0 (.int .i64 0) 1 Try.underlying35 hi hi0 hi1 .i64 .i64 _ _ S rfl rfl (by omega) (by omega) (by rw [hi2]; omega) (by unfold maxLen; omega) (by have := unhide hsz'; omega) ?_; intro w1 hown hgrow; have hrow1 := hide ((hgrow.block (w.heap.size + 1) (by have := unhide hsz'; omega) (by simp)).trans (unhide hnr)); have hfY : w1.frozen? ⟨w.heap.size + 1, 48, none⟩ = false := (by simp [World.frozen?, unhide hrow1]); have hcY : w1.cell? ⟨w.heap.size + 1, 48, none⟩ = some (.slice none 0 0) := (cell_of_row _ _ 48 _ _ _ (unhide hrow1)).trans (unhide hy48); replace hown := hide hown; replace hgrow := hide hgrow)
          have hy := unhide hsz'
          have hownI : w1.ownsRow w.heap.size 3 1 (.slice (some ⟨W1.heap.size, 0, none⟩) S S) S (ints (List.replicate S 0)) := by
            rw [← zeros_ints]; simpa [toList_madeCells_one, Value.cells] using unhide hown
          replace hown := hide hownI
          clear hownI
          have hT2 := hide ((unhide hT1).setY (.slice (some ⟨W1.heap.size, 0, none⟩) S S) rfl)
          have hrow2 := hide (heap_setCell_same w1 (w.heap.size + 1) 48 cs1 81 (.slice (some ⟨W1.heap.size, 0, none⟩) S S) (unhide hrow1))
          have hown2 := hide (ownsRow_setCell_other (a := ⟨w.heap.size + 1, 48, none⟩) (unhide hown) (by simp [Value.ownBlock]; omega) (.slice (some ⟨W1.heap.size, 0, none⟩) S S))
          have hg2 := hide ((Below.heap_setCell w1 ⟨w.heap.size + 1, 48, none⟩ (.slice (some ⟨W1.heap.size, 0, none⟩) S S) w.heap.size (by simp)).trans (((unhide hgrow).block w.heap.size (by omega) (by simp)).trans (unhide hg0)))
          have hbel2 := (hbel'.grown (unhide hgrow) (by omega) (by simp)).setCell (p := ⟨w.heap.size + 1, 48, none⟩) (by simp) (.slice (some ⟨W1.heap.size, 0, none⟩) S S)
          have hsz2 : W1.heap.size < (w1.setCell ⟨w.heap.size + 1, 48, none⟩ (.slice (some ⟨W1.heap.size, 0, none⟩) S S)).heap.size := by have := (unhide hown).lt W1.heap.size rfl; simpa using this.2
          clear hrow1 hfY hcY hown hgrow hg0 hnr hy48 hT1 hbel'
          generalize w1.setCell ⟨w.heap.size + 1, 48, none⟩ (.slice (some ⟨W1.heap.size, 0, none⟩) S S) = W2 at hrow2 hown2 hg2 hbel2 hsz2 ⊢
          obtain ⟨gs, hgs⟩ : ∃ g, g = W1.heap.size := ⟨_, rfl⟩
          rw [← hgs] at hy hT2 hrow2 hown2 hsz2 ⊢
          clear hsz' hgs
          replace hsz2 := hide hsz2
          have hz16' := unhide hz16
          have hl16 : (Try.prog.info? 79).map (·.size) = some ((List.range 16).map fun j => Value.int .i64 (startOf zs j : Nat)).length := by rw [sizeA16]; simp
          have hl16' : (Try.prog.info? 79).map (·.size) = some ((List.range 16).map fun j => Value.int .i64 (startOf zs j : Nat)).toArray.size := by rw [sizeA16]; simp
          have hl16'' : z16.size = ((List.range 16).map fun j => Value.int .i64 (startOf zs j : Nat)).toArray.size := by rw [(unhide hz160).1]; simp
          have hll := hide (list_of_nums (unhide hT2).s (unhide hrow2))
          obtain ⟨L, hLe⟩ : ∃ L, L = (List.range 16).map fun j => Value.int .i64 (startOf zs j : Nat) := ⟨_, rfl⟩
          rw [← hLe] at hl16 hl16' hl16'' hll
          have hone : OneCells L.toArray := by rw [hLe]; exact oneCells_list 16 _
          have hnum : NumsAt L.toArray 0 16 (startOf zs) := by rw [hLe]; exact numsAt_list 16 _
          replace hLe := hide hLe
          replace hl16 := hide hl16
          replace hl16' := hide hl16'
          replace hl16'' := hide hl16''
          replace hone := hide hone
          replace hnum := hide hnum
          replace hbel2 := hide hbel2
          go_upto_region 19 with (first | (refine wpList_load_list rfl 79 (.tmp 59) rfl ⟨w.heap.size + 1, 32, none⟩ rfl L (unhide hll) _ Try.underlying79 rfl (unhide hl16) ?_) | (refine wpList_store_row rfl 79 (.tmp 9) (.tmp 60) rfl W2.heap.size L.toArray rfl rfl 79 z16 (heap_alloc_new W2 _) (unhide hl16') (unhide hl16'') (unhide hone) ?_))
          have hb3 : Below W2.heap.size W2 ((W2.alloc (.cells z16 79)).setRow W2.heap.size L.toArray) := below_setRow ((Below.refl W2.heap.size W2).alloc (Nat.le_refl _) _) (Nat.le_refl _) _
          have hnx := hide (setRow_heap (W2.alloc (.cells z16 79)) W2.heap.size z16 L.toArray 79 (0, 0) (heap_alloc_new W2 _))
          have hrow3 := hide ((hb3.block (w.heap.size + 1) (by have := unhide hsz2; omega)).trans (unhide hrow2))
          have hg3 := hide ((hb3.block w.heap.size (by have := unhide hsz2; omega)).trans (unhide hg2))
          have hown3 := hide (owns_below_of (unhide hown2) hb3)
          have hbel3 := hide ((unhide hbel2).trans (hb3.mono (by have := unhide hsz2; omega)))
          generalize (W2.alloc (.cells z16 79)).setRow W2.heap.size L.toArray = W3 at hnx hrow3 hg3 hown3 hbel3 ⊢
          clear hb3 hrow2 hg2 hown2 hbel2 hll hl16 hl16' hl16'' hz16' hLe
          have hgn := unhide hsz2
          obtain ⟨gn, hgne⟩ : ∃ g, g = W2.heap.size := ⟨_, rfl⟩
          rw [← hgne] at hnx hgn ⊢
          clear hgne hsz2
          replace hy := hide hy
          have hys0 := hide (SymTo.zero zs (List.replicate S 0))
          have hnum0 : Hid (NumsAt L.toArray 0 16 (fun l => startOf zs l + cnt1 zs l 0)) := hide (fun j hj => by
            show L.toArray[0 + j]? = some (.int .i64 ((startOf zs j + cnt1 zs j 0 : Nat) : Int))
            rw [cnt1_zero]; exact (unhide hnum) j hj)
          generalize cs1.setIfInBounds 48 (.slice (some ⟨gs, 0, none⟩) S S) = cs2 at hT2 hrow3
          have hysl : (List.replicate S (0 : Int)).length = S := by simp
          generalize List.replicate S (0 : Int) = ys0 at hys0 hysl hown3
          replace hysl := hide hysl
          generalize L.toArray = L0 at hnx hnum0 hone ⊢
          clear hnum
          go_wp2
          go_loopw [63] (fun a wx => ∃ k : Nat, ∃ ys cs3, k ≤ zs.length ∧ a = .int .i64 k ∧ Hid (ys.length = S) ∧ Hid (SymTo zs ys k) ∧ Hid (wx.ownsRow w.heap.size 3 1 (.slice (some ⟨gs, 0, none⟩) S S) S (ints ys)) ∧ Hid (NumsAt cs3 0 16 (fun l => startOf zs l + cnt1 zs l k)) ∧ Hid (wx.heap[gn]? = some (.cells cs3 79 (0, 0))) ∧ Hid (wx.heap[w.heap.size + 1]? = some (.cells cs2 81 (0, 0))) ∧ Hid (wx.heap[w.heap.size]? = some (.cells z 81 (0, 0))) ∧ Hid (Below w.heap.size w wx)) (fun a _ => zs.length - (intOf a).toNat)
          case atStart => exact ⟨0, ys0, L0, by omega, rfl, hysl, hys0, hown3, hnum0, hnx, hrow3, hg3, hbel3⟩
          case round =>
            clear hysl hys0 hown3 hnum0 hnx hrow3 hg3 hbel3 hone
            obtain ⟨k, ys, cs3, hk, rfl, hysl, hys, hown, hnum, hnx, hrow, hg0, hbel⟩ := hrel
            by_cases hlt : k < zs.length
            · obtain ⟨b, off, rfl, hbl, hc⟩ := (unhide hA) (ne_of_lt_length hlt)
              have hck : wr.cell? ⟨b, off + k, none⟩ = some (Value.int .i64 (zs.getD k 0)) := ((unhide hbel).cell (by simpa using hbl)).trans (hc k hlt)
              have hok := (unhide hg).2 k hlt
              obtain ⟨x, hx⟩ := Int.eq_ofNat_of_zero_le hok.1
              have hx15 : x ≤ 15 := by have := hok.2; omega
              rw [hx] at hck
              clear hc hok
              by_cases h0 : 0 < x
              · have hxp : lenAt zs k = x := by unfold lenAt; rw [hx]; simp
                have hpl := pos_lt_all zs k hlt (by omega) (by omega)
                have hpe : posOf zs k = startOf zs x + cnt1 zs x k := by unfold posOf; rw [hxp]
                have hys' := hide ((unhide hys).hit hlt (by omega) (by rw [unhide hysl, unhide hSe]; exact hpl))
                have hysl' : Hid ((ys.set (posOf zs k) (k : Int)).length = S) := hide (by simpa using unhide hysl)
                have hnum' := hide ((unhide hnum).set x (startOf zs x + cnt1 zs x k + 1) (by omega) (fun l => startOf zs l + cnt1 zs l (k + 1)) (by rw [cnt1_hit zs k x h0 hx]; rfl) (fun j hj => by rw [cnt1_miss zs k j (by rw [hx]; omega)]))
                rw [hpe] at hpl hys' hysl'
                rw [← unhide hSe] at hpl
                have hcx : wr.cell? ⟨gn, x, none⟩ = some (.int .i64 (startOf zs x + cnt1 zs x k : Nat)) := by
                  rw [cell_of_row _ _ _ _ _ _ (unhide hnx)]; simpa using (unhide hnum) x (by omega)
                have hcy : wr.cell? ⟨w.heap.size + 1, 48, none⟩ = some (.slice (some ⟨gs, 0, none⟩) S S) := by
                  rw [cell_of_row _ _ _ _ _ _ (unhide hrow)]; exact (unhide hT2).y
                have hst := hide ((unhide hown).stored (startOf zs x + cnt1 zs x k) (.int .i64 (k : Nat))).1
                have hfz := (unhide hown).frozenAt (startOf zs x + cnt1 zs x k)
                have hcs : wr.cell? ⟨gs, startOf zs x + cnt1 zs x k, none⟩ = some (.int .i64 (ys.getD (startOf zs x + cnt1 zs x k) 0)) := by
                  rw [(unhide hown).cellAt _ (by omega)]; exact ints_at (by rw [unhide hysl]; omega)
                replace hx := hide hx
                clear hxp hpe
                generalize hpq : startOf zs x + cnt1 zs x k = p at *
                replace hpq := hide hpq
                generalize ys.getD p 0 = u at hcs
                have hxi : (x : Int) < 16 := by omega
                go_upto_region 23 with fail
                go_region
                have hgsn : gs ≠ gn := by omega
                have hgs2 : gs = w.heap.size + 2 := unhide hy
                rw [ints_set] at hst
                have hst2 := hide (ownsRow_setCell_other (a := ⟨gn, x, none⟩) (unhide hst) (by simpa [Value.ownBlock] using hgsn) (.int .i64 ((p + 1 : Nat) : Int)))
                have hnx1 := (Below.heap_setCell wr ⟨gs, p, none⟩ (.int .i64 (k : Nat)) gn (fun h => hgsn h.symm)).trans (unhide hnx)
                have hnx2 := hide (heap_setCell_same _ gn x cs3 79 (.int .i64 ((p + 1 : Nat) : Int)) hnx1)
                have hrow2 := hide ((Below.heap_setCell (wr.setCell ⟨gs, p, none⟩ (.int .i64 (k : Nat))) ⟨gn, x, none⟩ (.int .i64 ((p + 1 : Nat) : Int)) (w.heap.size + 1) (by simp; omega)).trans ((Below.heap_setCell wr ⟨gs, p, none⟩ (.int .i64 (k : Nat)) (w.heap.size + 1) (by simp; omega)).trans (unhide hrow)))
                have hg2 := hide ((Below.heap_setCell (wr.setCell ⟨gs, p, none⟩ (.int .i64 (k : Nat))) ⟨gn, x, none⟩ (.int .i64 ((p + 1 : Nat) : Int)) w.heap.size (by simp; omega)).trans ((Below.heap_setCell wr ⟨gs, p, none⟩ (.int .i64 (k : Nat)) w.heap.size (by simp; omega)).trans (unhide hg0)))
                have hbel2 := hide ((((unhide hbel).setCell (p := ⟨gs, p, none⟩) (by simp; omega) (.int .i64 (k : Nat))).setCell (p := ⟨gn, x, none⟩) (by simp; omega) (.int .i64 ((p + 1 : Nat) : Int))).drew)
                have hcx2 : (wr.setCell ⟨gs, p, none⟩ (.int .i64 (k : Nat))).cell? ⟨gn, x, none⟩ = some (.int .i64 (p : Nat)) := by
                  rw [World.cell?_setCell_other _ _ _ _ (by first | (simp; omega) | simp)]; exact hcx
                have hfx2 : (wr.setCell ⟨gs, p, none⟩ (.int .i64 (k : Nat))).frozen? ⟨gn, x, none⟩ = false := by simp [World.frozen?, hnx1]
                rw [show ((p + 1 : Nat) : Int) = (p : Int) + 1 by omega] at hst2 hnx2 hrow2 hg2 hbel2 hnum'
                rw [show 0 + x = x by omega] at hnum'
                clear hck hcx hcy hfz hcs hst hnx hrow hg0 hbel hown hnum hys hysl hnx1 hgs2
                go_wp2
                go_roundw
                case rel => exact ⟨k + 1, _, _, by omega, by go_num, hysl', hys', hst2, hnum', hnx2, hrow2, hg2, hbel2⟩
                case measure => simp [intOf]; omega
              · have hx0 : x = 0 := by omega
                subst hx0
                have hys' := hide ((unhide hys).miss (by rw [hx]; omega))
                have hnum' : Hid (NumsAt cs3 0 16 (fun l => startOf zs l + cnt1 zs l (k + 1))) := hide (fun j hj => by
                  show cs3[0 + j]? = some (.int .i64 ((startOf zs j + cnt1 zs j (k + 1) : Nat) : Int))
                  have e : cnt1 zs j (k + 1) = cnt1 zs j k := by
                    by_cases hj : j = 0
                    · subst hj; rfl
                    · exact cnt1_miss zs k j (by rw [hx]; omega)
                  rw [e]; exact (unhide hnum) j hj)
                replace hx := hide hx
                clear hnum hys
                go_wp2
                go_roundw
                case rel => exact ⟨k + 1, _, _, by omega, by go_num, hysl, hys', hown, hnum', hnx, hrow, hg0, hbel⟩
                case measure => simp [intOf]; omega
            · have hkl : k = zs.length := by omega
              subst hkl
              have hs1 : (Try.prog.info? 81).map (·.size) = some cs2.size := by rw [(unhide hT2).size]; exact sizeCT
              have hs2 : z.size = cs2.size := by rw [(unhide hT2).size, (unhide hz0).size]
              replace hs1 := hide hs1
              replace hs2 := hide hs2
              go_upto_region 26 with fail
              go_wp2_with (first | (refine wpList_load_row rfl 81 (.tmp 3) rfl (w.heap.size + 1) rfl 81 cs2 (0, 0) _ (unhide hrow) Try.underlying81 rfl (unhide hs1) ?_) | (refine wpList_store_row rfl 81 (.tmp 2) (.tmp 83) rfl w.heap.size cs2 rfl rfl 81 z (unhide hg0) (unhide hs1) (unhide hs2) (unhide hT2).one ?_))
              have hres : (wr.setRow w.heap.size cs2).heap[w.heap.size]? = some (.cells cs2 81 (0, 0)) := setRow_heap wr _ z cs2 _ _ (unhide hg0)
              replace hres := hide hres
              have hb2 : Below w.heap.size w (wr.setRow w.heap.size cs2) := below_setRow (unhide hbel) (Nat.le_refl _) cs2
              have hu : Upd w.heap.size (w.heap.size + 1) wr (wr.setRow w.heap.size cs2) := ⟨rfl, rfl, rfl, by simp, fun i hi hn => setRow_other wr w.heap.size i cs2 (by omega)⟩
              have hle := unhide hysl
              refine bodyPost_ret (v := .agg cs2) (results_cell_row rfl _ _ w.heap.size 81 cs2 (0, 0) _ rfl (unhide hres) Try.underlying81 rfl (by rw [(unhide hT2).size]; exact sizeCT)) rfl ⟨cs2, ys, .slice (some ⟨gs, 0, none⟩) S S, rfl, ?_, ?_, unhide hys, ?_, Upd.of_below hb2 0 0⟩
              · rw [← unhide hAe]; exact unhide hT2
              · rw [← unhide hSe]; exact hle
              · have hgs2 : gs = w.heap.size + 2 := unhide hy
                have ho := ownsRow_of_block (unhide hown) (w' := wr.setRow w.heap.size cs2) (setRow_other wr w.heap.size gs cs2 (by omega))
                have hO := Own.of ho
                rw [← hle] at hO ⊢
                exact hO
end Go.Proofs.Ytcoegccnkdhpjaa
