/- How many bytes a still's rows have, as the program counts them. -/
import Derived.Test.YthpkngipiapbpaaDoorPlainSt
import Derived.Test.YthpkngipiapbpaaDoorWPaB
import Derived.Test.YthpkngipiapbpaaDoorWUpd
import Derived.Deep.RegionWith
namespace Go.Proofs.YthpkngipiapbpaaDoor
open Go.RowKit

abbrev stc (a b p dp : Int) (vl v1 v2 : Value) (wv : Bool) : List Value := [.int .i64 a, .int .i64 b, .int .i64 p, .int .i64 dp, vl, v1, v2, .bool wv]
def psOf (a b : Int) (wv : Bool) : List Ps := if wv then passTo a b 7 else [(0, 0, 1, 1, a, b)]
def pairP (q : Ps) : Int × Int := (q.2.2.2.2.1, q.2.2.2.2.2)
theorem psOf_sides (a b : Int) (wv : Bool) : (psOf a b wv).map pairP = sidesOf a b wv := by cases wv <;> rfl
theorem psOf_len (a b : Int) (wv : Bool) : (psOf a b wv).length ≤ 7 := by
  cases wv with
  | false => simp [psOf]
  | true => simp [psOf]; exact passTo_len a b 7
theorem pairP_getD (ps : List Ps) (k : Nat) (h : k < ps.length) : (ps.map pairP).getD k (0, 0) = pairP (ps.getD k Ps0) := by
  simp [List.getD_eq_getElem?_getD, List.getElem?_eq_getElem h]

set_option maxHeartbeats 2000000 in
set_option maxRecDepth 100000 in
theorem implStPasses (a b p dp : Int) (ad ad1 ad2 : Option Addr) (n n1 n2 cap cap1 cap2 : Nat) (wv : Bool) (w : World) (hT : Held w 1 passCells) (ha : 1 ≤ a ∧ a ≤ 512) (hb : 1 ≤ b ∧ b ≤ 512) :
    Calls Tryd.prog 68 #[.agg #[.int .i64 a, .int .i64 b, .int .i64 p, .int .i64 dp, .slice ad n cap, .slice ad1 n1 cap1, .slice ad2 n2 cap2, .bool wv]] w fun e w' => ∃ v, e = .returned v ∧ OwnPs w' w.heap.size w'.heap.size v (psOf a b wv) ∧ Upd 0 0 w w' := by
  have hB0 := (Below.refl w.heap.size w).alloc (Nat.le_refl _) (.cells #[.int .i64 a, .int .i64 b, .int .i64 p, .int .i64 dp, .slice ad n cap, .slice ad1 n1 cap1, .slice ad2 n2 cap2, .bool wv] 33)
  cases wv with
  | false =>
    have hB1 := hide (hB0.alloc (by simp) (.cells (cellsPs [(0, 0, 1, 1, a, b)]).toArray 101))
    have hown : ((w.alloc (.cells #[.int .i64 a, .int .i64 b, .int .i64 p, .int .i64 dp, .slice ad n cap, .slice ad1 n1 cap1, .slice ad2 n2 cap2, .bool false] 33)).alloc (.cells (cellsPs [(0, 0, 1, 1, a, b)]).toArray 101)).ownsRow w.heap.size 101 6 (.slice (some ⟨w.heap.size + 1, 0, none⟩) 1 1) 1 (cellsPs [(0, 0, 1, 1, a, b)]) := by
      refine ⟨rfl, .inr ⟨w.heap.size + 1, 1, (cellsPs [(0, 0, 1, 1, a, b)]).toArray, rfl, by omega, ?_, Nat.le_refl _, by unfold maxLen; omega, rfl, rfl⟩⟩
      have := heap_alloc_new (w.alloc (.cells #[.int .i64 a, .int .i64 b, .int .i64 p, .int .i64 dp, .slice ad n cap, .slice ad1 n1 cap1, .slice ad2 n2 cap2, .bool false] 33)) (.cells (cellsPs [(0, 0, 1, 1, a, b)]).toArray 101)
      simpa using this
    replace hown := hide (Own.of hown)
    clear hB0 hT
    go_enter Tryd.func68, Tryd.ntmps68
    go_wp2
    go_ret
    exact ⟨_, rfl, unhide hown, Upd.of_below (unhide hB1) 0 0⟩
  | true =>
    have hP := hide (implPasses a b _ (hT.keep (Upd.of_below hB0 0 0)) (by omega) (by omega) (by omega) (by omega))
    have hE : passesF a b = psOf a b true := by unfold passesF; rw [if_pos ⟨ha, hb⟩]; rfl
    rw [hE] at hP
    replace hB0 := hide (Upd.of_below hB0 0 0)
    clear hT hE
    go_enter Tryd.func68, Tryd.ntmps68
    go_wp2_with fail
    refine (unhide hP).mono ?_
    rintro e w1 ⟨v, rfl, ho, hu⟩
    have hu2 := hide ((unhide hB0).trans hu)
    have ho2 := hide (own_mono ho (by simp : w.heap.size ≤ _) (Nat.le_refl _))
    clear hP ho hu
    go_wp2
    go_ret
    exact ⟨v, rfl, unhide ho2, unhide hu2⟩

set_option maxHeartbeats 2000000 in
theorem implStRowBytes (a b p dp : Int) (vl v1 v2 : Value) (ad ad1 ad2 : Option Addr) (n n1 n2 cap cap1 cap2 : Nat) (wv : Bool) (q : Ps) (w : World) (e0 : vl = .slice ad n cap) (e1 : v1 = .slice ad1 n1 cap1) (e2 : v2 = .slice ad2 n2 cap2) (hq : 1 ≤ q.2.2.2.2.1 ∧ q.2.2.2.2.1 ≤ 512) (hp : 1 ≤ p ∧ p ≤ 4) (hd : 1 ≤ dp ∧ dp ≤ 16) :
    Calls Tryd.prog 69 #[.agg #[.int .i64 a, .int .i64 b, .int .i64 p, .int .i64 dp, vl, v1, v2, .bool wv], .agg #[.int .i64 q.1, .int .i64 q.2.1, .int .i64 q.2.2.1, .int .i64 q.2.2.2.1, .int .i64 q.2.2.2.2.1, .int .i64 q.2.2.2.2.2]] w fun e w' => e = .returned (.int .i64 (rowOf q.2.2.2.2.1 p dp)) ∧ Upd 0 0 w w' := by
  subst e0 e1 e2
  obtain ⟨q0, q1, q2, q3, q4, q5⟩ := q
  simp only at hq ⊢
  obtain ⟨x, y, hx, hy, hx1, hy1, hy2, hr⟩ := rowOf_bd hq hp hd
  have hB := hide (Upd.of_below (((Below.refl w.heap.size w).alloc (Nat.le_refl _) (.cells #[.int .i64 a, .int .i64 b, .int .i64 p, .int .i64 dp, .slice ad n cap, .slice ad1 n1 cap1, .slice ad2 n2 cap2, .bool wv] 33)).alloc (by simp) (.cells #[.int .i64 q0, .int .i64 q1, .int .i64 q2, .int .i64 q3, .int .i64 q4, .int .i64 q5] 101)) 0 0)
  obtain ⟨x1, x2⟩ := hx1
  rw [hr]
  clear hr
  go_enter Tryd.func69, Tryd.ntmps69
  go_wp2
  go_ret
  exact ⟨by simp, unhide hB⟩

set_option maxHeartbeats 8000000 in
set_option maxRecDepth 1000000 in
theorem implCountRows (a b p d : Int) (ad ad1 ad2 : Option Addr) (n n1 n2 cap cap1 cap2 : Nat) (wv : Bool) (w : World) (hT : Held w 1 passCells) (ha : 1 ≤ a ∧ a ≤ 512) (hb : 1 ≤ b ∧ b ≤ 512) (hp : 1 ≤ p ∧ p ≤ 4) (hd : 1 ≤ d ∧ d ≤ 16) (T : Int) (hTT : totTo (sidesOf a b wv) p d (sidesOf a b wv).length = T) :
    Calls Tryd.prog 38 #[.agg #[.int .i64 a, .int .i64 b, .int .i64 p, .int .i64 d, .slice ad n cap, .slice ad1 n1 cap1, .slice ad2 n2 cap2, .bool wv]] w fun e w' => e = .returned (.int .i64 T) ∧ Upd 0 0 w w' := by
  have hB0 := (Below.refl w.heap.size w).alloc (Nat.le_refl _) (.cells #[.int .i64 a, .int .i64 b, .int .i64 p, .int .i64 d, .slice ad n cap, .slice ad1 n1 cap1, .slice ad2 n2 cap2, .bool wv] 33)
  have hS := hide (implStPasses a b p d ad ad1 ad2 n n1 n2 cap cap1 cap2 wv _ (hT.keep (Upd.of_below hB0 0 0)) ha hb)
  have hbx := hide (held_new w (stc a b p d (.slice ad n cap) (.slice ad1 n1 cap1) (.slice ad2 n2 cap2) wv) 33)
  replace hB0 := hide hB0
  have hin := hide (sidesOf_in wv ha hb)
  have hlen := psOf_len a b wv
  rw [← psOf_sides] at hin hTT
  generalize psOf a b wv = ps at hS hin hlen hTT
  rw [List.length_map] at hTT
  replace hTT := hide hTT
  have hpb := hide hp
  have hdb := hide hd
  clear ha hb hp hd hT
  go_enter Tryd.func38, Tryd.ntmps38
  go_wp2_with fail
  change Hid (Held (w.alloc (.cells #[.int .i64 a, .int .i64 b, .int .i64 p, .int .i64 d, .slice ad n cap, .slice ad1 n1 cap1, .slice ad2 n2 cap2, .bool wv] 33)) _ _) at hbx
  generalize w.alloc (.cells #[.int .i64 a, .int .i64 b, .int .i64 p, .int .i64 d, .slice ad n cap, .slice ad1 n1 cap1, .slice ad2 n2 cap2, .bool wv] 33) = w0 at hB0 hS hbx ⊢
  refine (unhide hS).mono ?_
  rintro e w1 ⟨v1, rfl, ho1, hu1⟩
  clear hS
  have hB1 := hide (below_upd (unhide hB0) hu1 (Nat.le_refl _) (.inr (Nat.le_refl _)))
  replace hbx := hide ((unhide hbx).keep hu1)
  have hs1 := hu1.size
  clear hB0 hu1
  obtain ⟨adp, capp, rfl, hA1⟩ := ho1.rd
  replace hA1 := hide hA1
  clear ho1
  go_wp2_with fail
  go_loopw [3, 9] (fun s i wr => ∃ k : Nat, k ≤ ps.length ∧ i = .int .i64 k ∧ s = .int .i64 (totTo (ps.map pairP) p d k) ∧ Below w1.heap.size w1 wr) (fun _ i _ => ps.length - (intOf i).toNat)
  case atStart => exact ⟨0, Nat.zero_le _, rfl, by simp [totTo], Below.refl _ _⟩
  case round =>
    obtain ⟨k, hk, rfl, rfl, hbel⟩ := hrel
    by_cases hlt : k < ps.length
    · obtain ⟨b', off', rfl, hbl, hc⟩ := ((unhide hA1).below hbel) (ne_of_lt_length hlt)
      obtain ⟨m0, m1, m2, m3, m4, m5⟩ := hc k hlt
      have hsu := totTo_succ (ps.map pairP) p d k (by simpa using hlt)
      have hbd := totTo_bd (unhide hin) (unhide hpb) (unhide hdb) k (by simpa using hk)
      have hij := unhide hin k (by simpa using hlt)
      rw [pairP_getD ps k hlt] at hsu hij
      obtain ⟨h1, h2⟩ := hij
      have hR := hide (fun W => implStRowBytes a b p d _ _ _ ad ad1 ad2 n n1 n2 cap cap1 cap2 wv (ps.getD k Ps0) W rfl rfl rfl h1 (unhide hpb) (unhide hdb))
      obtain ⟨x, y, _, _, _, y1, y2, hr⟩ := rowOf_bd h1 (unhide hpb) (unhide hdb)
      obtain ⟨z, hz, z1, z2⟩ := part_bd h2 (r := rowOf (pairP (ps.getD k Ps0)).1 p d) (by omega)
      rw [hz] at hsu
      replace hsu := hide hsu
      replace hz := hide hz
      have hr1 : 1 ≤ rowOf (pairP (ps.getD k Ps0)).1 p d ∧ rowOf (pairP (ps.getD k Ps0)).1 p d ≤ 4097 := by omega
      have hbx2 := (unhide hbx).upd (Upd.of_below hbel 0 0) (.inr (Nat.zero_le _))
      clear hr hc hbl
      generalize ps.getD k Ps0 = f at m0 m1 m2 m3 m4 m5 h1 h2 hR hz hr1
      obtain ⟨f0, f1, f2, f3, f4, f5⟩ := f
      simp only at m0 m1 m2 m3 m4 m5
      simp only [pairP] at h1 h2 hr1
      change Hid (f5 * (1 + rowOf f4 p d) = z) at hz
      change Hid (∀ W, Calls Tryd.prog 69 #[.agg #[.int .i64 a, .int .i64 b, .int .i64 p, .int .i64 d, .slice ad n cap, .slice ad1 n1 cap1, .slice ad2 n2 cap2, .bool wv], .agg #[.int .i64 f0, .int .i64 f1, .int .i64 f2, .int .i64 f3, .int .i64 f4, .int .i64 f5]] W fun e w' => e = .returned (.int .i64 (rowOf f4 p d)) ∧ Upd 0 0 W w') at hR
      generalize rowOf f4 p d = R at hR hz hr1
      have hbel2 := hide (hbel.alloc hbel.size (.cells #[.int .i64 f0, .int .i64 f1, .int .i64 f2, .int .i64 f3, .int .i64 f4, .int .i64 f5] 101))
      have hbx3 := hide (hbx2.upd (Upd.of_below ((Below.refl wr.heap.size wr).alloc (Nat.le_refl _) (.cells #[.int .i64 f0, .int .i64 f1, .int .i64 f2, .int .i64 f3, .int .i64 f4, .int .i64 f5] 101)) 0 0) (.inr (Nat.zero_le _)))
      have hk6 : k ≤ 6 := by omega
      have hz' := unhide hz
      obtain ⟨r1, r2⟩ := hr1
      obtain ⟨bd1, bd2⟩ := hbd
      have hHb := hide (held_new wr [.int .i64 f0, .int .i64 f1, .int .i64 f2, .int .i64 f3, .int .i64 f4, .int .i64 f5] 101)
      clear hbx2
      go_wp2_with fail
      change Hid (Held (wr.alloc (.cells #[.int .i64 f0, .int .i64 f1, .int .i64 f2, .int .i64 f3, .int .i64 f4, .int .i64 f5] 101)) _ _) at hHb
      generalize wr.alloc (.cells #[.int .i64 f0, .int .i64 f1, .int .i64 f2, .int .i64 f3, .int .i64 f4, .int .i64 f5] 101) = W at hHb hbel2 hbx3 ⊢
      clear m0 m1 m2 m3 m4 m5
      have c0 := fun x : UpdT W => ((unhide hHb).updT x).2 0 _ rfl
      have c1 := fun x : UpdT W => ((unhide hHb).updT x).2 1 _ rfl
      have c2 := fun x : UpdT W => ((unhide hHb).updT x).2 2 _ rfl
      have c3 := fun x : UpdT W => ((unhide hHb).updT x).2 3 _ rfl
      have c4 := fun x : UpdT W => ((unhide hHb).updT x).2 4 _ rfl
      have c5 := fun x : UpdT W => ((unhide hHb).updT x).2 5 _ rfl
      have e0 := fun x : UpdT W => ((unhide hbx3).updT x).2 0 _ rfl
      have e1 := fun x : UpdT W => ((unhide hbx3).updT x).2 1 _ rfl
      have e2 := fun x : UpdT W => ((unhide hbx3).updT x).2 2 _ rfl
      have e3 := fun x : UpdT W => ((unhide hbx3).updT x).2 3 _ rfl
      have e4 := fun x : UpdT W => ((unhide hbx3).updT x).2 4 _ rfl
      have e5 := fun x : UpdT W => ((unhide hbx3).updT x).2 5 _ rfl
      have e6 := fun x : UpdT W => ((unhide hbx3).updT x).2 6 _ rfl
      have e7 := fun x : UpdT W => ((unhide hbx3).updT x).2 7 _ rfl
      have wr1 : IntKind.i64.wrap (1 + R) = 1 + R := by simp [IntKind.wrap, IntKind.bits, IntKind.signed]; omega
      have wr2 : IntKind.i64.wrap (f5 * (1 + R)) = z := by rw [hz']; simp [IntKind.wrap, IntKind.bits, IntKind.signed]; omega
      have wr3 : IntKind.i64.wrap (totTo (ps.map pairP) p d k + z) = totTo (ps.map pairP) p d k + z := by simp [IntKind.wrap, IntKind.bits, IntKind.signed]; omega
      rw [← unhide hsu] at wr3
      clear hz'
      refine wp_region_upd (by kernel_rfl) (by kernel_rfl) ?_
      repeat (quiet_step ((go_at_call 69; exact Calls.updT _ (unhide hR _))))
      refine wpQuiet_nil ?_
      rintro _ ⟨x, rfl⟩
      have hx := hide (below_upd (unhide hbel2) x.upd (Nat.le_refl _) (.inr (Nat.le_refl _)))
      generalize x.to = W2 at hx ⊢
      go_wp2_with fail
      refine ⟨⟨k + 1, by omega, by go_num, ?_, unhide hx⟩, by simp [intOf]; omega⟩
      rw [← unhide hsu, wr3]
    · have hkl : k = ps.length := by omega
      subst hkl
      rw [unhide hTT]
      replace hbel := hide (below_upd (unhide hB1) (Upd.of_below hbel 0 0) (Nat.le_refl _) (.inr (Nat.le_refl _)))
      go_wp2
      go_ret
      exact ⟨rfl, Upd.of_below (unhide hbel) 0 0⟩
end Go.Proofs.YthpkngipiapbpaaDoor
