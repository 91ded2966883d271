/- Lists of IntSs, each with a list of its own; the walks of the laws' own helpers on them. -/
import Derived.Test.YtocoeodoihdkgaaWInts
import Derived.Test.YtocoeodoihdkgaaWSzI
import Derived.Test.YtocoeodoihdkgaaWHeld
import Derived.Test.YtocoeodoihdkgaaWOwn2
import Derived.Deep.RegionWith
namespace Go.Proofs.Ytocoeodoihdkgaa
open Go.RowKit

abbrev Ln := List Int
abbrev Ll := List Ln
abbrev Ln0 : Ln := []
abbrev Lls (d : Ln) : List Int := d
def RowLl (ys : List Value) (_ds : Ll) (vs : Nat → Value) (k : Nat) : Prop := ∀ j, j < k → ys[j]? = some ((vs j))
/-- No two of the lists lie in one block. -/
def DistLl (vs : Nat → Value) (k : Nat) : Prop := ∀ i j, i < k → j < k → i ≠ j → ∀ g, (vs i).ownBlock = some g → (vs j).ownBlock ≠ some g
def OwnLl (w : World) (a b : Nat) (v : Value) (ds : Ll) : Prop := ∃ (ys : List Value) (vs : Nat → Value), Own 23 1 w a b v ds.length ys ∧ RowLl ys ds vs ds.length ∧
  (∀ j, j < ds.length → OwnI w a b (vs j) (Lls (ds.getD j Ln0))) ∧ DistLl vs ds.length ∧ ∀ j, j < ds.length → ∀ g, (vs j).ownBlock = some g → v.ownBlock ≠ some g
def AtLl (w : World) (b off : Nat) (ds : Ll) (vs : Nat → Value) : Prop := ∀ j, j < ds.length → w.cell? ⟨b, off + j, none⟩ = some ((vs j))
def ArgLl (w : World) (ad : Option Addr) (ds : Ll) : Prop := ds ≠ [] → ∃ b off vs, ad = some ⟨b, off, none⟩ ∧ b < w.heap.size ∧ AtLl w b off ds vs ∧ ∀ j, j < ds.length → RdI w (vs j) (Lls (ds.getD j Ln0))
def RdLl (w : World) (v : Value) (ds : Ll) : Prop := ∃ ad cap, v = .slice ad ds.length cap ∧ ArgLl w ad ds
theorem ArgLl.below {w w' : World} {ad : Option Addr} {ds : Ll} (h : ArgLl w ad ds) (hb : Below w.heap.size w w') : ArgLl w' ad ds := by
  intro hne
  obtain ⟨b, off, vs, e, hl, hc, hr⟩ := h hne
  exact ⟨b, off, vs, e, Nat.lt_of_lt_of_le hl hb.size, fun j hj => (hb.cell (by simpa using hl)).trans (hc j hj), fun j hj => (hr j hj).below hb⟩
theorem RdLl.below {w w' : World} {v : Value} {ds : Ll} (h : RdLl w v ds) (hb : Below w.heap.size w w') : RdLl w' v ds := by
  obtain ⟨ad, cap, e, h⟩ := h
  exact ⟨ad, cap, e, h.below hb⟩
theorem OwnLl.rd {w : World} {a b : Nat} {v : Value} {ds : Ll} (h : OwnLl w a b v ds) : RdLl w v ds := by
  obtain ⟨ys, vs, ho, hr, he, _, _⟩ := h
  rcases ho.1.2 with ⟨rfl, hn⟩ | ⟨g, cap, cur, rfl, h1, h2, h3⟩
  · exact ⟨none, 0, by rw [hn], fun hne => absurd (List.length_eq_zero_iff.1 hn) hne⟩
  · refine ⟨some ⟨g, 0, none⟩, cap, rfl, fun _ => ⟨g, 0, vs, rfl, (ho.1.lt g rfl).2, fun j hj => ?_, fun j hj => OwnI.rd (he j hj)⟩⟩
    have := hr j hj
    rw [Nat.zero_add, ho.1.cellAt _ (by omega)]
    exact this
theorem OwnLl.upd {w w' : World} {a b c e : Nat} {v : Value} {ds : Ll} (h : OwnLl w a b v ds) (u : Upd c e w w') (hd : b ≤ c ∨ e ≤ a) : OwnLl w' a b v ds := by
  obtain ⟨ys, vs, ho, hr, he, h4, h5⟩ := h
  exact ⟨ys, vs, ho.upd u hd, hr, fun j hj => (he j hj).upd u hd, h4, h5⟩
theorem OwnLl.keep {w w' : World} {a b : Nat} {v : Value} {ds : Ll} (h : OwnLl w a b v ds) (u : Upd 0 0 w w') : OwnLl w' a b v ds := h.upd u (.inr (Nat.zero_le _))
theorem OwnLl.mono {w : World} {a b a' b' : Nat} {v : Value} {ds : Ll} (h : OwnLl w a b v ds) (ha : a' ≤ a) (hb : b ≤ b') : OwnLl w a' b' v ds := by
  obtain ⟨ys, vs, ho, hr, he, h4, h5⟩ := h
  exact ⟨ys, vs, own_mono ho ha hb, hr, fun j hj => own_mono (he j hj) ha hb, h4, h5⟩
theorem OwnLl.set' {w : World} {a b : Nat} {v : Value} {ds : Ll} (h : OwnLl w a b v ds) {c : Nat} (hc : c < a) (o : Nat) (u : Value) : OwnLl (w.setCell ⟨c, o, none⟩ u) a b v ds := by
  obtain ⟨ys, vs, ho, hr, he, h4, h5⟩ := h
  exact ⟨ys, vs, ho.set' hc o u, hr, fun j hj => (he j hj).set' hc o u, h4, h5⟩
/-- All numbers fit, and no list is longer than a list can be. -/
def InLl (ds : Ll) : Prop := (∀ j, InI (ds.getD j Ln0)) ∧ ∀ j, (Lls (ds.getD j Ln0)).length ≤ 9223372036854775807
theorem infoLl : (Try.prog.info? 23).map (fun i => (i.zero, i.size, i.bytes)) = some (some (.slice none 0 0), 1, 24) := by kernel_rfl
/-- How much a list of IntSs holds. -/
def size1Ll (d : Ln) : Nat := (Lls d).length
def szToLl (ds : Ll) (k : Nat) : Nat := ((ds.take k).map size1Ll).sum
def sizeLl (ds : Ll) : Nat := ds.length + szToLl ds ds.length
theorem szToLl_succ (ds : Ll) (k : Nat) (h : k < ds.length) : szToLl ds (k + 1) = szToLl ds k + size1Ll (ds.getD k Ln0) := by
  unfold szToLl; rw [take_snoc_getD ds Ln0 k h]; simp
theorem szToLl_le (ds : Ll) (k : Nat) : szToLl ds k ≤ szToLl ds ds.length := by
  have e : szToLl ds ds.length = szToLl ds k + ((ds.drop k).map size1Ll).sum := by
    unfold szToLl; rw [List.take_length, ← List.sum_append, ← List.map_append, List.take_append_drop]
  omega
theorem size1Ll_le (ds : Ll) (k : Nat) (h : k < ds.length) : size1Ll (ds.getD k Ln0) ≤ szToLl ds ds.length := by
  have := szToLl_succ ds k h
  have := szToLl_le ds (k + 1)
  omega

theorem Own.setsLl {e : TypeId} {s : Nat} {w : World} {a b : Nat} {v : Value} {n : Nat} {xs : List Value} (h : Own e s w a b v n xs) {c : Nat} (hc : c < a) (o : Nat) (u0 : Value) :
    Own e s (w.setCell ⟨c, o, none⟩ u0) a b v n xs := (Own.set' h hc (o) u0)
theorem sizesLl (w : World) (c o : Nat) (u0 : Value) : (w.setCell ⟨c, o, none⟩ u0).heap.size = w.heap.size := by simp

set_option maxHeartbeats 8000000 in
set_option maxRecDepth 100000 in
theorem toIntSS_own (ad : Option Addr) (cap : Nat) (ds : Ll) (w : World) (hsz : sizeLl ds ≤ 1048576) (hA : ArgLl w ad ds) :
    Calls Try.prog 78 #[.slice ad ds.length cap] w fun e w' => ∃ v, e = .returned v ∧ OwnLl w' w.heap.size w'.heap.size v ds ∧ Upd 0 0 w w' := by
  have hn : ds.length ≤ 1048576 := by unfold sizeLl at hsz; omega
  have hEach : Hid (∀ k, k < ds.length → (Lls (ds.getD k Ln0)).length ≤ 1048576) := hide (fun k hk => by have := size1Ll_le ds k hk; unfold sizeLl at hsz; unfold size1Ll at this; omega)
  obtain ⟨i0, hi, hz0, hz1, hz2⟩ := info_parts infoLl
  replace hA := hide hA
  go_enter Try.func78, Try.ntmps78
  go_wp2_with (at_make; refine wpList_make_full _ rfl _ _ 46 rfl w.heap.size 23 i0 (.slice none 0 0) 1 Try.underlying46 hi hz0 hz1 .i64 .i64 _ _ ds.length rfl rfl (by omega) (by omega) (by rw [hz2]; omega) (by unfold maxLen; omega) (Nat.le_refl _) ?_; intro w1 hown hgrow)
  have hbel := (Below.refl w.heap.size w).grown hgrow (Nat.le_refl _) (by simp)
  generalize (madeCells (Value.cells (.slice none 0 0)) (ds.length * 1)).toList = ys0 at hown
  clear hgrow
  go_loopw [4] (fun i wr => ∃ (k : Nat) (ys : List Value) (vs : Nat → Value), k ≤ ds.length ∧ i = .int .i64 k ∧ wr.ownsRow w.heap.size 23 1 (.slice (some ⟨w.heap.size, 0, none⟩) ds.length ds.length) ds.length ys ∧ Hid (RowLl ys ds vs k) ∧ Hid (∀ j, j < k → OwnI wr (w.heap.size + 1) wr.heap.size (vs j) (Lls (ds.getD j Ln0))) ∧ Hid (DistLl vs k) ∧ Below w.heap.size w wr) (fun i _ => ds.length - (intOf i).toNat)
  case atStart => exact ⟨0, ys0, fun _ => undef, Nat.zero_le _, rfl, hown, fun j hj => by omega, fun j hj => by omega, fun i j hi => by omega, hbel⟩
  case round =>
    clear hown hbel
    obtain ⟨k, ys, vs, hk, rfl, hown, hrow, hel, hdi, hbel⟩ := hrel
    by_cases hlt : k < ds.length
    · obtain ⟨b, off, us, rfl, hbl, hc, hru⟩ := ((unhide hA).below hbel) (ne_of_lt_length hlt)
      have hl : ys.length = ds.length * 1 := hown.1
      have hnk := unhide hEach k hlt
      have d0 := hc k hlt
      have hru2 := hru k hlt
      clear hc hru
      generalize hf : ds.getD k Ln0 = zs at d0 hru2 hnk
      replace hf := hide hf
      obtain ⟨uk, huk⟩ : ∃ uk, us k = uk := ⟨_, rfl⟩
      rw [huk] at d0 hru2
      clear huk
      obtain ⟨adk, capk, rfl, hAk⟩ := hru2
      simp only [Lls] at d0 hnk hAk
      have hsz1 : w.heap.size + 1 ≤ wr.heap.size := (hown.lt w.heap.size rfl).2
      have hTo := hide (toIntS_own adk capk zs wr hnk hAk)
      replace hown := hide (Own.of hown)
      replace hbel := hide hbel
      clear hAk
      go_wp2_with fail
      refine (unhide hTo).mono ?_
      rintro e w2 ⟨u2, rfl, ho2, hu2⟩
      obtain ⟨ad2, cap2, rfl, _⟩ := OwnI.rd ho2
      replace ho2 : OwnI w2 wr.heap.size w2.heap.size (.slice ad2 zs.length cap2) zs := ho2
      have hwz : wr.heap.size ≤ w2.heap.size := hu2.size
      have hel2 := hide (fun j (hj : j < k) => own_mono ((unhide hel j hj).keep hu2) (Nat.le_refl _) hwz)
      have helb := hide (fun j (hj : j < k) => (unhide hel j hj).2)
      have hown2 := ((unhide hown).keep hu2).1
      have hbel2 := below_upd (unhide hbel) hu2 (Nat.le_refl _) (.inr (Nat.le_refl _))
      clear hown hbel hel hu2 d0
      have e0 : ∃ a, w2.cell? ⟨w.heap.size, k, none⟩ = some a := by rw [hown2.cellAt _ (by omega)]; exact ⟨_, List.getElem?_eq_getElem (by omega)⟩
      obtain ⟨a0, e0⟩ := e0
      have f0 := hown2.frozenAt (k)
      have hst := hide ((hown2.stored (k) (.slice ad2 zs.length cap2)).1)
      have hB2 := hide ((hbel2.setCell (p := ⟨w.heap.size, k, none⟩) (Nat.le_refl _) (.slice ad2 zs.length cap2)))
      have ho3 : OwnI w2 (w.heap.size + 1) w2.heap.size (.slice ad2 zs.length cap2) zs := own_mono ho2 hsz1 (Nat.le_refl _)
      have hrow2 : Hid (RowLl (ys.set (k) (.slice ad2 zs.length cap2)) ds (fun j => if j = k then .slice ad2 zs.length cap2 else vs j) (k + 1)) := by
        intro j hj
        by_cases e : j = k
        · subst e
          refine ?_
          · refine Eq.trans ?_ (congrArg some (if_pos rfl).symm); rw [List.getElem?_set_self (by first | omega | (simp; omega))]
        · have := unhide hrow j (by omega)
          refine ?_
          · refine Eq.trans ?_ (congrArg some (if_neg e).symm); rw [List.getElem?_set_ne (by omega)]; exact this
      have hel3 : Hid (∀ j, j < k + 1 → OwnI (w2.setCell ⟨w.heap.size, k, none⟩ (.slice ad2 zs.length cap2)) (w.heap.size + 1) (w2.setCell ⟨w.heap.size, k, none⟩ (.slice ad2 zs.length cap2)).heap.size (if j = k then .slice ad2 zs.length cap2 else vs j) (Lls (ds.getD j Ln0))) := by
        intro j hj
        rw [sizesLl]
        by_cases e : j = k
        · subst e
          rw [if_pos rfl, unhide hf]
          exact Own.setsLl ho3 (Nat.lt_succ_self _) _ (.slice ad2 zs.length cap2)
        · rw [if_neg e]
          exact Own.setsLl (unhide hel2 j (by omega)) (Nat.lt_succ_self _) _ (.slice ad2 zs.length cap2)
      have hdi2 : Hid (DistLl (fun j => if j = k then .slice ad2 zs.length cap2 else vs j) (k + 1)) := by
        intro i j hi hj hne g hg hg'
        simp only at hg hg'
        by_cases e : i = k
        · rw [if_pos e] at hg
          rw [if_neg (by omega)] at hg'
          have h1 := (ho2.1.lt g hg).1
          have h2 := unhide helb j (by omega) g hg'
          omega
        · rw [if_neg e] at hg
          by_cases e' : j = k
          · rw [if_pos e'] at hg'
            have h1 := (ho2.1.lt g hg').1
            have h2 := unhide helb i (by omega) g hg
            omega
          · rw [if_neg e'] at hg'
            exact unhide hdi i j (by omega) (by omega) hne g hg hg'
      clear hown2 hbel2 hrow hf hel2 helb ho2 ho3 hdi hTo hEach
      go_wp2
      go_roundw
      case rel => exact ⟨k + 1, _, _, by omega, by go_num, unhide hst, hrow2, hel3, hdi2, unhide hB2⟩
      case measure => simp [intOf]; omega
    · have hkl : k = ds.length := by omega
      subst hkl
      replace hown := hide hown
      replace hbel := hide hbel
      go_wp2
      go_ret
      refine ⟨_, rfl, ⟨ys, vs, Own.of (unhide hown), unhide hrow, fun j hj => own_mono (unhide hel j hj) (by omega) (Nat.le_refl _), unhide hdi, fun j hj g hg => ?_⟩, Upd.of_below (unhide hbel) 0 0⟩
      have := ((unhide hel j hj).1.lt g hg).1
      simp [Value.ownBlock]
      omega

set_option maxHeartbeats 8000000 in
set_option maxRecDepth 100000 in
theorem eqIntSS_rd (u v : Value) (ds : Ll) (w : World) (hsz : sizeLl ds ≤ 1048576) (hu : RdLl w u ds) (hv : RdLl w v ds) :
    Calls Try.prog 81 #[u, v] w fun e w' => e = .returned (.bool true) ∧ Upd 0 0 w w' := by
  have hn : ds.length ≤ 1048576 := by unfold sizeLl at hsz; omega
  have hEach : Hid (∀ k, k < ds.length → (Lls (ds.getD k Ln0)).length ≤ 1048576) := hide (fun k hk => by have := size1Ll_le ds k hk; unfold sizeLl at hsz; unfold size1Ll at this; omega)
  obtain ⟨ad, cap, rfl, hA⟩ := hu
  obtain ⟨ad', cap', rfl, hA'⟩ := hv
  replace hA := hide hA
  replace hA' := hide hA'
  go_enter Try.func81, Try.ntmps81
  go_wp2
  go_loopw [5] (fun i wr => ∃ k : Nat, k ≤ ds.length ∧ i = .int .i64 k ∧ Below w.heap.size w wr) (fun i _ => ds.length - (intOf i).toNat)
  case atStart => exact ⟨0, Nat.zero_le _, rfl, Below.refl _ _⟩
  case round =>
    obtain ⟨k, hk, rfl, hbel⟩ := hrel
    by_cases hlt : k < ds.length
    · obtain ⟨b, off, us, rfl, hbl, hc, hr⟩ := ((unhide hA).below hbel) (ne_of_lt_length hlt)
      obtain ⟨b', off', us', rfl, hbl', hc', hr'⟩ := ((unhide hA').below hbel) (ne_of_lt_length hlt)
      have d0 := hc k hlt
      have g0 := hc' k hlt
      have hr2 := hr k hlt
      have hr2' := hr' k hlt
      have hnk := unhide hEach k hlt
      clear hc hc' hbl hbl' hr hr'
      generalize ds.getD k Ln0 = zs at d0 g0 hr2 hr2' hnk
      obtain ⟨uk, huk⟩ : ∃ uk, us k = uk := ⟨_, rfl⟩
      obtain ⟨uk', huk'⟩ : ∃ uk', us' k = uk' := ⟨_, rfl⟩
      rw [huk] at d0 hr2
      rw [huk'] at g0 hr2'
      clear huk huk'
      simp only [Lls] at d0 g0 hr2 hr2' hnk
      have hEq := hide (fun (W : World) (hW : Below wr.heap.size wr W) => eqIntS_rd _ _ zs W hnk (hr2.below hW) (hr2'.below hW))
      clear hr2 hr2' hnk
      have hk0 : (0 : Int) ≤ (k : Int) := by omega
      have hk1 : (k : Int) < (ds.length : Int) := by omega
      go_wp2_with fail
      go_region_with (go_at_call 33; refine (unhide hEq _ (Below.refl _ _).drew).mono ?_; rintro e w2 ⟨rfl, hb2⟩)
      all_goals
        have hb3 := hbel.drew.trans (hb2.below (B := w.heap.size) (by simpa using hbel.size) (.inr (Nat.zero_le _)))
        clear hb2
        go_wp2
        go_roundw
        case rel => exact ⟨k + 1, by omega, by go_num, hb3⟩
        case measure => simp [intOf]; omega
    · have hkl : k = ds.length := by omega
      subst hkl
      go_wp2
      go_ret
      exact ⟨rfl, Upd.of_below hbel 0 0⟩

set_option maxHeartbeats 8000000 in
set_option maxRecDepth 100000 in
theorem szIntSS_any (ad : Option Addr) (ds : Ll) (cap : Nat) (left : Int) (w : World) (h0 : 0 ≤ left) (h1 : left ≤ 1099511627776) (hn : ds.length ≤ 9223372036854775807) (hI : ∀ j, (Lls (ds.getD j Ln0)).length ≤ 9223372036854775807) (hA : ArgLl w ad ds) :
    Calls Try.prog 75 #[.slice ad ds.length cap, .int .i64 left] w fun e w' => e = .returned (.int .i64 (if left < ((sizeLl ds : Nat) : Int) then -1 else left - ((sizeLl ds : Nat) : Int))) ∧ Upd 0 0 w w' := by
  by_cases hlt : left < ds.length
  · have hc : left < ((sizeLl ds : Nat) : Int) := by unfold sizeLl; omega
    rw [if_pos hc]
    clear hA hI
    go_enter Try.func75, Try.ntmps75
    go_wp2
    go_ret
    exact ⟨rfl, Upd.refl _ _ _⟩
  · replace hA := hide hA
    replace hI := hide hI
    have q : decide (left - (ds.length : Int) < 0) = false := by simp; omega
    obtain ⟨R, hR⟩ : ∃ R : Int, R = if left < ((sizeLl ds : Nat) : Int) then -1 else left - ((sizeLl ds : Nat) : Int) := ⟨_, rfl⟩
    rw [← hR]
    replace hR := hide hR
    go_enter Try.func75, Try.ntmps75
    go_wp2
    go_loopw [1, 5] (fun l i wr => ∃ k : Nat, k ≤ ds.length ∧ i = .int .i64 k ∧ l = .int .i64 (left - (ds.length : Int) - ((szToLl ds k : Nat) : Int)) ∧ Hid (0 ≤ left - (ds.length : Int) - ((szToLl ds k : Nat) : Int)) ∧ Below w.heap.size w wr) (fun _ i _ => ds.length - (intOf i).toNat)
    case atStart => exact ⟨0, Nat.zero_le _, rfl, by simp [szToLl], hide (by simp [szToLl]; omega), Below.refl _ _⟩
    case round =>
      obtain ⟨k, hk, rfl, rfl, hp, hbel⟩ := hrel
      by_cases hk' : k < ds.length
      · obtain ⟨b, off, us, rfl, hbl, hc, hru⟩ := ((unhide hA).below hbel) (ne_of_lt_length hk')
        have d0 := hc k hk'
        have hru2 := hru k hk'
        have hnk := unhide hI k
        have hs := hide (szToLl_succ ds k hk')
        have hle := hide (szToLl_le ds (k + 1))
        have hp' := unhide hp
        clear hc hbl hru
        generalize ds.getD k Ln0 = zs at d0 hru2 hnk hs
        obtain ⟨uk, huk⟩ : ∃ uk, us k = uk := ⟨_, rfl⟩
        rw [huk] at d0 hru2
        clear huk
        obtain ⟨adk, capk, rfl, _⟩ := hru2
        simp only [Lls] at d0 hnk
        change Hid (szToLl ds (k + 1) = szToLl ds k + (zs.length)) at hs
        obtain ⟨l0, hl0⟩ : ∃ l0 : Int, l0 = left - (ds.length : Int) - ((szToLl ds k : Nat) : Int) := ⟨_, rfl⟩
        rw [← hl0] at hp' ⊢
        have hSz := hide (szIntS_any adk zs.length capk l0 wr hp' (by omega) hnk)
        replace hl0 := hide hl0
        replace hp' := hide hp'
        clear hp hnk hlt q h0 h1
        by_cases hx : l0 < ((zs.length : Nat) : Int)
        · rw [if_pos hx] at hSz
          go_wp2_with fail
          refine (unhide hSz).mono ?_
          rintro e w2 ⟨rfl, hu⟩
          have hb2 := hide (below_upd hbel (show Upd 0 0 wr w2 by rw [hu]; exact Upd.refl _ _ _) (Nat.le_refl _) (.inr (Nat.zero_le _)))
          have hE : R = -1 := by
            rw [unhide hR, if_pos]
            have := unhide hl0; have := unhide hs; have := unhide hle
            unfold sizeLl; omega
          subst hE
          clear hu hSz
          go_wp2
          go_ret
          exact ⟨rfl, Upd.of_below (unhide hb2) 0 0⟩
        · rw [if_neg hx] at hSz
          have q2 : decide (l0 - ((zs.length : Nat) : Int) < 0) = false := by simp; omega
          have hnx : Hid (0 ≤ l0 - ((zs.length : Nat) : Int)) := hide (by omega)
          have he : Hid (l0 - ((zs.length : Nat) : Int) = left - (ds.length : Int) - ((szToLl ds (k + 1) : Nat) : Int)) := hide (by have := unhide hl0; have := unhide hs; omega)
          obtain ⟨l1, hl1⟩ : ∃ l1 : Int, l1 = l0 - ((zs.length : Nat) : Int) := ⟨_, rfl⟩
          rw [← hl1] at hSz q2 hnx he
          clear hl1 hx
          go_wp2_with fail
          refine (unhide hSz).mono ?_
          rintro e w2 ⟨rfl, hu⟩
          have hb2 := hide (below_upd hbel (show Upd 0 0 wr w2 by rw [hu]; exact Upd.refl _ _ _) (Nat.le_refl _) (.inr (Nat.zero_le _)))
          clear hu hSz
          go_wp2
          go_roundw
          case rel => exact ⟨k + 1, by omega, by go_num, by rw [← unhide he], by rw [← unhide he]; exact hnx, unhide hb2⟩
          case measure => simp [intOf]; omega
      · have hkl : k = ds.length := by omega
        subst hkl
        have hE : R = left - (ds.length : Int) - ((szToLl ds ds.length : Nat) : Int) := by
          rw [unhide hR, if_neg]
          · unfold sizeLl; omega
          · have := unhide hp; unfold sizeLl; omega
        replace hbel := hide hbel
        rw [← hE] at hp ⊢
        clear hE hR hlt q
        go_wp2
        go_ret
        exact ⟨rfl, Upd.of_below (unhide hbel) 0 0⟩
theorem szIntSS_in (ad : Option Addr) (ds : Ll) (cap : Nat) (left : Int) (w : World) (h0 : 0 ≤ left) (h1 : left ≤ 1099511627776) (hn : ds.length ≤ 9223372036854775807) (hI : InLl ds) (hA : ArgLl w ad ds) :
    Calls Try.prog 75 #[.slice ad ds.length cap, .int .i64 left] w fun e w' => e = .returned (.int .i64 (if left < ((sizeLl ds : Nat) : Int) then -1 else left - ((sizeLl ds : Nat) : Int))) ∧ Upd 0 0 w w' := szIntSS_any ad ds cap left w h0 h1 hn hI.2 hA
end Go.Proofs.Ytocoeodoihdkgaa
