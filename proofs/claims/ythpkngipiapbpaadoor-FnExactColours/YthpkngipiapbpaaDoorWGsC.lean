/- How many bytes a still's rows have, as the specification counts them. -/
import Derived.Test.YthpkngipiapbpaaDoorWGsA
import Derived.Test.YthpkngipiapbpaaDoorWPaA
import Derived.Maps.AppendAt
import Derived.Deep.RegionWith
import Derived.Test.YthpkngipiapbpaaDoorWUpd
namespace Go.Proofs.YthpkngipiapbpaaDoor
open Go.RowKit

abbrev sz5 (x : Int × Int) (p d : Int) : List Value := [.int .i64 x.1, .int .i64 x.2, .int .i64 p, .int .i64 d, .slice none 0 0]
def cellsSz (l : List (Int × Int)) (p d : Int) : List Value := l.flatMap fun x => sz5 x p d
theorem cellsSz_length (l : List (Int × Int)) (p d : Int) : (cellsSz l p d).length = l.length * 5 := by
  induction l with
  | nil => rfl
  | cons x l ih => unfold cellsSz at ih ⊢; rw [List.flatMap_cons, List.length_append, ih]; simp; omega
theorem cellsSz_snoc (l : List (Int × Int)) (p d : Int) (x : Int × Int) : cellsSz (l ++ [x]) p d = cellsSz l p d ++ sz5 x p d := by unfold cellsSz; simp
theorem cellsSz_at (l : List (Int × Int)) (p d : Int) : ∀ j, j < l.length → (cellsSz l p d)[j * 5]? = some (.int .i64 (l.getD j (0, 0)).1) ∧ (cellsSz l p d)[j * 5 + 1]? = some (.int .i64 (l.getD j (0, 0)).2) ∧ (cellsSz l p d)[j * 5 + 2]? = some (.int .i64 p) ∧ (cellsSz l p d)[j * 5 + 3]? = some (.int .i64 d) ∧ (cellsSz l p d)[j * 5 + 4]? = some (.slice none 0 0) := by
  induction l with
  | nil => intro j hj; simp at hj
  | cons x l ih =>
    intro j hj
    have e : cellsSz (x :: l) p d = sz5 x p d ++ cellsSz l p d := by unfold cellsSz; simp
    rw [e]
    cases j with
    | zero => exact ⟨rfl, rfl, rfl, rfl, rfl⟩
    | succ j =>
      have h := ih j (by simpa using hj)
      rw [List.getElem?_append_right (by simp; omega), List.getElem?_append_right (by simp; omega), List.getElem?_append_right (by simp; omega), List.getElem?_append_right (by simp; omega), List.getElem?_append_right (by simp; omega)]
      simp only [List.length_cons, List.length_nil, List.getD_cons_succ]
      rw [show (j + 1) * 5 - (0 + 1 + 1 + 1 + 1 + 1) = j * 5 by omega, show (j + 1) * 5 + 1 - (0 + 1 + 1 + 1 + 1 + 1) = j * 5 + 1 by omega, show (j + 1) * 5 + 2 - (0 + 1 + 1 + 1 + 1 + 1) = j * 5 + 2 by omega, show (j + 1) * 5 + 3 - (0 + 1 + 1 + 1 + 1 + 1) = j * 5 + 3 by omega, show (j + 1) * 5 + 4 - (0 + 1 + 1 + 1 + 1 + 1) = j * 5 + 4 by omega]
      exact h
abbrev OwnSz (w : World) (a b : Nat) (v : Value) (l : List (Int × Int)) (p d : Int) : Prop := Own 30 5 w a b v l.length (cellsSz l p d)
theorem infoIm : (Tryd.prog.info? 30).map (fun i => (i.zero, i.size, i.bytes)) = some (some (.agg #[.int .i64 0, .int .i64 0, .int .i64 0, .int .i64 0, .slice none 0 0]), 5, 56) := by kernel_rfl
theorem five_new (w : World) (x0 x1 x2 x3 x4 : Value) (t : TypeId) : ∀ j u, [x0, x1, x2, x3, x4][j]? = some u → (w.alloc (.cells #[x0, x1, x2, x3, x4] t)).cell? ((⟨w.heap.size, 0, none⟩ : Addr).add j) = some u := by
  intro j u h
  have ha : (⟨w.heap.size, 0, none⟩ : Addr).add j = ⟨w.heap.size, 0 + j, none⟩ := by unfold Addr.add; split <;> simp_all
  rw [ha, World.cell?_alloc_at _ _ _ _ rfl, Nat.zero_add]
  simpa using h
theorem upd_of_grownS {w w' : World} {a : Nat} {e : TypeId} {s : Nat} {v : Value} {n : Nat} {xs : List Value} (hg : w.grownBy w' v.ownBlock) (ho : w.ownsRow a e s v n xs) : Upd a w.heap.size w w' :=
  ⟨hg.os, hg.tape, hg.output, hg.size, fun k hk hn => hg.block k hk (fun e => by have := ho.lt k e.symm; omega)⟩
def pairOf (q : Ps) : Int × Int := (q.2.2.2.2.1, q.2.2.2.2.2)
theorem map_take_snoc (ps : List Ps) (k : Nat) (h : k < ps.length) : (ps.map pairOf).take (k + 1) = (ps.map pairOf).take k ++ [pairOf (ps.getD k Ps0)] := by
  rw [take_snoc_getD (ps.map pairOf) (pairOf Ps0) k (by simpa using h)]
  congr 2
  simp [List.getD_eq_getElem?_getD, List.getElem?_eq_getElem h]

set_option maxHeartbeats 8000000 in
set_option maxRecDepth 1000000 in
theorem specL5Sizes (a b p d : Int) (vl : Value) (ad : Option Addr) (n cap : Nat) (wv : Bool) (w : World) (hvl : vl = .slice ad n cap) (ha : 1 ≤ a ∧ a ≤ 512) (hb : 1 ≤ b ∧ b ≤ 512) :
    Calls Tryd.prog 58 #[.agg #[.int .i64 a, .int .i64 b, .int .i64 p, .int .i64 d, vl], .bool wv] w fun e w' => ∃ v, e = .returned v ∧ OwnSz w' w.heap.size w'.heap.size v (sidesOf a b wv) p d ∧ Upd 0 0 w w' := by
  subst hvl
  have hB0 := (Below.refl w.heap.size w).alloc (Nat.le_refl _) (.cells #[.int .i64 a, .int .i64 b, .int .i64 p, .int .i64 d, .slice ad n cap] 30)
  cases wv with
  | false =>
    have hB1 := hB0.alloc (by simp) (.cells (cellsSz [(a, b)] p d).toArray 30)
    have hown : (((w.alloc (.cells #[.int .i64 a, .int .i64 b, .int .i64 p, .int .i64 d, .slice ad n cap] 30)).alloc (.cells (cellsSz [(a, b)] p d).toArray 30))).ownsRow w.heap.size 30 5 (.slice (some ⟨w.heap.size + 1, 0, none⟩) 1 1) 1 (cellsSz [(a, b)] p d) := by
      refine ⟨rfl, .inr ⟨w.heap.size + 1, 1, (cellsSz [(a, b)] p d).toArray, rfl, by omega, ?_, Nat.le_refl _, by unfold maxLen; omega, rfl, rfl⟩⟩
      have := heap_alloc_new (w.alloc (.cells #[.int .i64 a, .int .i64 b, .int .i64 p, .int .i64 d, .slice ad n cap] 30)) (.cells (cellsSz [(a, b)] p d).toArray 30)
      simpa using this
    replace hown := hide (Own.of hown)
    replace hB1 := hide hB1
    clear hB0
    go_enter Tryd.func58, Tryd.ntmps58
    go_wp2
    go_ret
    exact ⟨_, rfl, unhide hown, Upd.of_below (unhide hB1) 0 0⟩
  | true =>
    obtain ⟨i0, hi, hz0, hz1, hz2⟩ := info_parts infoIm
    have hh := hide (held_new w [.int .i64 a, .int .i64 b, .int .i64 p, .int .i64 d, .slice ad n cap] 30)
    have hlen := passTo_len a b 7
    have hP := hide (fun W => specL4Passes a b W ha hb)
    replace hB0 := hide hB0
    go_enter Tryd.func58, Tryd.ntmps58
    go_wp2_with fail
    change Hid (Held (w.alloc (.cells #[.int .i64 a, .int .i64 b, .int .i64 p, .int .i64 d, .slice ad n cap] 30)) _ _) at hh
    have hsz0 : (w.alloc (.cells #[.int .i64 a, .int .i64 b, .int .i64 p, .int .i64 d, .slice ad n cap] 30)).heap.size = w.heap.size + 1 := by simp
    generalize w.alloc (.cells #[.int .i64 a, .int .i64 b, .int .i64 p, .int .i64 d, .slice ad n cap] 30) = w0 at hh hB0 hsz0 ⊢
    refine (unhide hP w0).mono ?_
    rintro e w1 ⟨v1, rfl, ho1, hu1⟩
    clear hP
    have hB1 := hide (below_upd (unhide hB0) hu1 (Nat.le_refl _) (.inr (Nat.le_refl _)))
    replace hh := hide ((unhide hh).keep hu1)
    have hs1 : w.heap.size + 1 ≤ w1.heap.size := by have := hu1.size; omega
    clear hB0 hu1 hsz0
    obtain ⟨ps, hps⟩ : ∃ ps, passTo a b 7 = ps := ⟨_, rfl⟩
    have hE : Hid (sidesOf a b true = ps.map pairOf) := hide (by rw [← hps]; rfl)
    rw [hps] at ho1 hlen
    clear hps
    obtain ⟨ad1, cap1, rfl, hA1⟩ := ho1.rd
    have hO1 := hide ho1
    replace hA1 := hide hA1
    clear ho1
    go_wp2_with fail
    go_loopw [5, 26] (fun out i wr => ∃ k : Nat, k ≤ ps.length ∧ i = .int .i64 k ∧ wr.ownsRow w1.heap.size 30 5 out ((ps.map pairOf).take k).length (cellsSz ((ps.map pairOf).take k) p d) ∧ Below w1.heap.size w1 wr) (fun _ i _ => ps.length - (intOf i).toNat)
    case atStart => exact ⟨0, Nat.zero_le _, rfl, World.ownsRow_nil _ _ _ _, Below.refl _ _⟩
    case round =>
      obtain ⟨k, hk, rfl, hown, hbel⟩ := hrel
      by_cases hlt : k < ps.length
      · obtain ⟨b', off', rfl, hbl, hc⟩ := ((unhide hA1).below hbel) (ne_of_lt_length hlt)
        obtain ⟨d0, d1, d2, d3, d4, d5⟩ := hc k hlt
        have hs := hide (map_take_snoc ps k hlt)
        have hh2 := (unhide hh).upd (Upd.of_below hbel 0 0) (.inr (Nat.zero_le _))
        have hlk : ((ps.map pairOf).take k).length = k := by simp; omega
        rw [hlk] at hown
        clear hc hbl
        generalize ps.getD k Ps0 = f at d0 d1 d2 d3 d4 d5 hs
        obtain ⟨x0, x1, x2, x3, x4, x5⟩ := f
        simp only at d0 d1 d2 d3 d4 d5
        have c0 := hh2.2 0 _ rfl
        have c1 := hh2.2 1 _ rfl
        have c2 := hh2.2 2 _ rfl
        have c3 := hh2.2 3 _ rfl
        have cl := hh2.1
        have hszw := hbel.size
        obtain ⟨zk, hzk⟩ : ∃ zk, cellsSz ((ps.map pairOf).take k) p d = zk := ⟨_, rfl⟩
        rw [hzk] at hown
        have hsn : Hid (zk ++ sz5 (x4, x5) p d = cellsSz ((ps.map pairOf).take (k + 1)) p d) := hide (by rw [unhide hs, cellsSz_snoc, hzk]; rfl)
        clear hs hzk hlk hh2
        have hal : ((wr.alloc (.cells #[.int .i64 x0, .int .i64 x1, .int .i64 x2, .int .i64 x3, .int .i64 x4, .int .i64 x5] 101)).heap.size) = wr.heap.size + 1 := by simp
        have hnew := hide (five_new (wr.alloc (.cells #[.int .i64 x0, .int .i64 x1, .int .i64 x2, .int .i64 x3, .int .i64 x4, .int .i64 x5] 101)) (.int .i64 x4) (.int .i64 x5) (.int .i64 p) (.int .i64 d) (.slice none 0 0) 30)
        rw [hal] at hnew
        have hown2 := hide ((hown.alloc (.cells #[.int .i64 x0, .int .i64 x1, .int .i64 x2, .int .i64 x3, .int .i64 x4, .int .i64 x5] 101)).alloc (.cells #[.int .i64 x4, .int .i64 x5, .int .i64 p, .int .i64 d, .slice none 0 0] 30))
        have hbel2 := hide ((hbel.alloc hszw (.cells #[.int .i64 x0, .int .i64 x1, .int .i64 x2, .int .i64 x3, .int .i64 x4, .int .i64 x5] 101)).alloc (by rw [hal]; omega) (.cells #[.int .i64 x4, .int .i64 x5, .int .i64 p, .int .i64 d, .slice none 0 0] 30))
        clear hown hbel hal
        go_wp2_with (at_builtin; go_loud (refine wpList_append_own_at _ rfl (.tmp 30) (.tmp 40) 93 rfl w1.heap.size 30 i0 (.agg #[.int .i64 0, .int .i64 0, .int .i64 0, .int .i64 0, .slice none 0 0]) 5 56 Tryd.underlying93 hi hz0 hz1 hz2 rfl (by decide) _ _ _ rfl (unhide hown2) ⟨wr.heap.size + 1, 0, none⟩ 1 1 [.int .i64 x4, .int .i64 x5, .int .i64 p, .int .i64 d, .slice none 0 0] rfl rfl (unhide hnew) (by intro u hu; simp at hu; rcases hu with rfl | rfl | rfl | rfl | rfl <;> rfl) (by unfold maxLen; omega) (by omega) (by simp; omega) ?_))
        intro v2 w2 ho2 hg2 _ _
        have hb2 := hide (below_upd (unhide hbel2) (upd_of_grownS hg2 (unhide hown2)) (Nat.le_refl _) (.inl (Nat.le_refl _)))
        rw [unhide hsn] at ho2
        have hlk1 : ((ps.map pairOf).take (k + 1)).length = k + 1 := by simp; omega
        have ho3 : w2.ownsRow w1.heap.size 30 5 v2 ((ps.map pairOf).take (k + 1)).length (cellsSz ((ps.map pairOf).take (k + 1)) p d) := by rw [hlk1]; exact ho2
        replace ho2 := hide ho3
        clear ho3
        clear hg2 hlk1
        go_wp2
        go_roundw
        case rel => exact ⟨k + 1, by omega, by go_num, unhide ho2, unhide hb2⟩
        case measure => simp [intOf]; omega
      · have hkl : k = ps.length := by omega
        subst hkl
        have htk : (ps.map pairOf).take ps.length = ps.map pairOf := by rw [← List.length_map (f := pairOf), List.take_length]
        rw [htk] at hown
        rw [← unhide hE] at hown
        replace hown := hide (own_mono (Own.of hown) (by omega : w.heap.size ≤ w1.heap.size) (Nat.le_refl _))
        replace hbel := hide (below_upd (unhide hB1) (Upd.of_below hbel 0 0) (Nat.le_refl _) (.inr (Nat.le_refl _)))
        go_wp2
        go_ret
        exact ⟨_, rfl, unhide hown, Upd.of_below (unhide hbel) 0 0⟩

set_option maxHeartbeats 8000000 in
set_option maxRecDepth 1000000 in
theorem specL5Total (a b p d : Int) (vl : Value) (ad : Option Addr) (n cap : Nat) (wv : Bool) (w : World) (hvl : vl = .slice ad n cap) (ha : 1 ≤ a ∧ a ≤ 512) (hb : 1 ≤ b ∧ b ≤ 512) (hp : 1 ≤ p ∧ p ≤ 4) (hd : 1 ≤ d ∧ d ≤ 16) (T : Int) (hT : totTo (sidesOf a b wv) p d (sidesOf a b wv).length = T) :
    Calls Tryd.prog 31 #[.agg #[.int .i64 a, .int .i64 b, .int .i64 p, .int .i64 d, vl], .bool wv] w fun e w' => e = .returned (.int .i64 T) ∧ Upd 0 0 w w' := by
  have hB0 := hide ((Below.refl w.heap.size w).alloc (Nat.le_refl _) (.cells #[.int .i64 a, .int .i64 b, .int .i64 p, .int .i64 d, vl] 30))
  have hS := hide (fun W => specL5Sizes a b p d vl ad n cap wv W hvl ha hb)
  subst hvl
  have hin := hide (sidesOf_in wv ha hb)
  have hlen := sidesOf_len a b wv
  generalize sidesOf a b wv = l at hS hin hlen hT
  replace hT := hide hT
  have hpb := hide hp
  have hdb := hide hd
  clear ha hb hp hd
  go_enter Tryd.func31, Tryd.ntmps31
  go_wp2_with fail
  generalize w.alloc (.cells #[.int .i64 a, .int .i64 b, .int .i64 p, .int .i64 d, .slice ad n cap] 30) = w0 at hB0 ⊢
  refine (unhide hS w0).mono ?_
  rintro e w1 ⟨v1, rfl, ho1, hu1⟩
  clear hS
  have hB1 := hide (below_upd (unhide hB0) hu1 (Nat.le_refl _) (.inr (Nat.le_refl _)))
  have hs1 := hu1.size
  clear hB0 hu1
  have hcl := hide (cellsSz_at l p d)
  have hform : ∃ ad1 cap1, v1 = .slice ad1 l.length cap1 ∧ (l ≠ [] → ∃ g, ad1 = some ⟨g, 0, none⟩ ∧ g < w1.heap.size ∧ ∀ j, j < l.length * 5 → w1.cell? ⟨g, j, none⟩ = (cellsSz l p d)[j]?) := by
    rcases ho1.1.2 with ⟨rfl, hn⟩ | ⟨g, cp, cur, rfl, h1, h2, h3⟩
    · exact ⟨none, 0, by rw [hn], fun hne => absurd (List.length_eq_zero_iff.1 hn) hne⟩
    · refine ⟨some ⟨g, 0, none⟩, cp, rfl, fun _ => ⟨g, rfl, (ho1.1.lt g rfl).2, fun j hj => ?_⟩⟩
      exact ho1.1.cellAt j hj
  obtain ⟨ad1, cap1, rfl, hA1⟩ := hform
  replace hA1 := hide hA1
  clear ho1
  go_wp2_with fail
  go_loopw [5, 12] (fun s i wr => ∃ k : Nat, k ≤ l.length ∧ i = .int .i64 k ∧ s = .int .i64 (totTo l p d k) ∧ Below w1.heap.size w1 wr) (fun _ i _ => l.length - (intOf i).toNat)
  case atStart => exact ⟨0, Nat.zero_le _, rfl, by simp [totTo], Below.refl _ _⟩
  case round =>
    obtain ⟨k, hk, rfl, rfl, hbel⟩ := hrel
    by_cases hlt : k < l.length
    · obtain ⟨g, rfl, hg, hc⟩ := (unhide hA1) (ne_of_lt_length hlt)
      obtain ⟨m0, m1, m2, m3, m4⟩ := unhide hcl k hlt
      have c0 := ((hbel.cell (p := ⟨g, k * 5, none⟩) (by simpa using hg)).trans (hc _ (by omega))).trans m0
      have c1 := ((hbel.cell (p := ⟨g, k * 5 + 1, none⟩) (by simpa using hg)).trans (hc _ (by omega))).trans m1
      have c2 := ((hbel.cell (p := ⟨g, k * 5 + 2, none⟩) (by simpa using hg)).trans (hc _ (by omega))).trans m2
      have c3 := ((hbel.cell (p := ⟨g, k * 5 + 3, none⟩) (by simpa using hg)).trans (hc _ (by omega))).trans m3
      have c4 := ((hbel.cell (p := ⟨g, k * 5 + 4, none⟩) (by simpa using hg)).trans (hc _ (by omega))).trans m4
      have hsu := hide (totTo_succ l p d k hlt)
      have hbd := totTo_bd (unhide hin) (unhide hpb) (unhide hdb) k hk
      obtain ⟨h1, h2⟩ := unhide hin k hlt
      have hR := hide (fun W => specL5RowBytes (l.getD k (0, 0)).1 (l.getD k (0, 0)).2 p d none 0 0 W h1 (unhide hpb) (unhide hdb))
      obtain ⟨x, y, _, _, _, y1, y2, hr⟩ := rowOf_bd h1 (unhide hpb) (unhide hdb)
      obtain ⟨z, hz, z1, z2⟩ := part_bd h2 (r := rowOf (l.getD k (0, 0)).1 p d) (by omega)
      rw [hz] at hsu
      replace hz := hide hz
      have hr1 : 1 ≤ rowOf (l.getD k (0, 0)).1 p d ∧ rowOf (l.getD k (0, 0)).1 p d ≤ 4097 := by omega
      clear hr m0 m1 m2 m3 m4 hc
      generalize rowOf (l.getD k (0, 0)).1 p d = R at hR hz hr1
      generalize l.getD k (0, 0) = f at c0 c1 h1 h2 hR hz
      obtain ⟨f1, f2⟩ := f
      simp only at c0 c1 h1 h2
      change Hid (f2 * (1 + R) = z) at hz
      have hbel2 := hide (hbel.alloc hbel.size (.cells #[.int .i64 f1, .int .i64 f2, .int .i64 p, .int .i64 d, .slice none 0 0] 30))
      have hk6 : k ≤ 6 := by omega
      have hz' := unhide hz
      obtain ⟨r1, r2⟩ := hr1
      obtain ⟨bd1, bd2⟩ := hbd
      have hHb := hide (held_new wr [.int .i64 f1, .int .i64 f2, .int .i64 p, .int .i64 d, .slice none 0 0] 30)
      go_wp2_with fail
      change Hid (Held (wr.alloc (.cells #[.int .i64 f1, .int .i64 f2, .int .i64 p, .int .i64 d, .slice none 0 0] 30)) _ _) at hHb
      generalize wr.alloc (.cells #[.int .i64 f1, .int .i64 f2, .int .i64 p, .int .i64 d, .slice none 0 0] 30) = W at hHb hbel2 ⊢
      clear c0 c1 c2 c3 c4
      have c0 := fun x : UpdT W => ((unhide hHb).updT x).2 0 _ rfl
      have c1 := fun x : UpdT W => ((unhide hHb).updT x).2 1 _ rfl
      have c2 := fun x : UpdT W => ((unhide hHb).updT x).2 2 _ rfl
      have c3 := fun x : UpdT W => ((unhide hHb).updT x).2 3 _ rfl
      have c4 := fun x : UpdT W => ((unhide hHb).updT x).2 4 _ rfl
      have wr1 : IntKind.i64.wrap (1 + R) = 1 + R := by simp [IntKind.wrap, IntKind.bits, IntKind.signed]; omega
      have wr2 : IntKind.i64.wrap (f2 * (1 + R)) = z := by rw [hz']; simp [IntKind.wrap, IntKind.bits, IntKind.signed]; omega
      have wr3 : IntKind.i64.wrap (totTo l p d k + z) = totTo l p d k + z := by simp [IntKind.wrap, IntKind.bits, IntKind.signed]; omega
      rw [← unhide hsu] at wr3
      clear hz'
      refine wp_region_upd (by kernel_rfl) (by kernel_rfl) ?_
      repeat (quiet_step ((go_at_call 59; exact Calls.updT _ (unhide hR _))))
      refine wpQuiet_nil ?_
      rintro _ ⟨x, rfl⟩
      have hx := hide (below_upd (unhide hbel2) x.upd (Nat.le_refl _) (.inr (Nat.le_refl _)))
      generalize x.to = W2 at hx ⊢
      go_wp2_with fail
      refine ⟨⟨k + 1, by omega, by go_num, ?_, unhide hx⟩, by simp [intOf]; omega⟩
      rw [← unhide hsu, wr3]
    · have hkl : k = l.length := by omega
      subst hkl
      rw [unhide hT]
      replace hbel := hide (below_upd (unhide hB1) (Upd.of_below hbel 0 0) (Nat.le_refl _) (.inr (Nat.le_refl _)))
      go_wp2
      go_ret
      exact ⟨rfl, Upd.of_below (unhide hbel) 0 0⟩
end Go.Proofs.YthpkngipiapbpaaDoor
