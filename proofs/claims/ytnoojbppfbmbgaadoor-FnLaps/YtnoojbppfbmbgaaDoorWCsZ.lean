/- Laps: the specification's walk. -/
import Derived.Test.YtnoojbppfbmbgaaDoorWCsY
import Derived.Test.YtnoojbppfbmbgaaDoorWCsV
namespace Go.Proofs.YtnoojbppfbmbgaaDoor
open Go.RowKit

def RowK (w : World) (g n cap : Nat) (xs : List Value) : Prop := w.ownsRow g 3 1 (.slice (some ⟨g, 0, none⟩) n cap) n xs
theorem RowK.own {w : World} {g n cap : Nat} {xs : List Value} (h : RowK w g n cap xs) : Own 3 1 w g (g + 1) (.slice (some ⟨g, 0, none⟩) n cap) n xs :=
  ⟨h, fun k hk => by simp [Value.ownBlock] at hk; omega⟩
theorem RowK.upd {w w' : World} {g n cap c e : Nat} {xs : List Value} (h : RowK w g n cap xs) (u : Upd c e w w') (hd : g + 1 ≤ c ∨ e ≤ g) : RowK w' g n cap xs := (h.own.upd u hd).1
theorem RowK.keep {w w' : World} {g n cap : Nat} {xs : List Value} (h : RowK w g n cap xs) (u : Upd 0 0 w w') : RowK w' g n cap xs := h.upd u (.inr (Nat.zero_le _))
theorem RowK.other {w : World} {g n cap c : Nat} {xs : List Value} (h : RowK w g n cap xs) (hne : c ≠ g) (o : Nat) (u : Value) : RowK (w.setCell ⟨c, o, none⟩ u) g n cap xs :=
  h.upd ((Upd.refl c (c + 1) w).setCell ⟨Nat.le_refl _, Nat.lt_succ_self _⟩ o u) (by omega)
theorem RowK.set {w : World} {g n cap : Nat} {xs : List Value} (h : RowK w g n cap xs) (k : Nat) (u : Value) : RowK (w.setCell ⟨g, k, none⟩ u) g n cap (xs.set k u) := (World.ownsRow.stored h k u).1
theorem RowK.len {w : World} {g n cap : Nat} {xs : List Value} (h : RowK w g n cap xs) : xs.length = n := by have h' : w.ownsRow g 3 1 (.slice (some ⟨g, 0, none⟩) n cap) n xs := h; have := h'.1; omega
theorem RowK.cell {w : World} {g n cap : Nat} {xs : List Value} (h : RowK w g n cap xs) (k : Nat) (hk : k < n) : w.cell? ⟨g, k, none⟩ = xs[k]? := World.ownsRow.cellAt h k (by omega)
theorem RowK.frozen {w : World} {g n cap : Nat} {xs : List Value} (h : RowK w g n cap xs) (k : Nat) : w.frozen? ⟨g, k, none⟩ = false := World.ownsRow.frozenAt h k
theorem RowK.drew {w : World} {g n cap : Nat} {xs : List Value} (h : RowK w g n cap xs) : RowK (w.drewN 1) g n cap xs := h.keep ((Upd.refl 0 0 w).drewN 1)
theorem RowK.lt {w : World} {g n cap : Nat} {xs : List Value} (h : RowK w g n cap xs) : g < w.heap.size := by
  have h' : w.ownsRow g 3 1 (.slice (some ⟨g, 0, none⟩) n cap) n xs := h
  exact (h'.lt g rfl).2
theorem rowK_of {w : World} {base n : Nat} {v : Value} {xs : List Value} (h : w.ownsRow base 3 1 v n xs) (hn : 0 < n) : ∃ g cap, v = .slice (some ⟨g, 0, none⟩) n cap ∧ base ≤ g ∧ RowK w g n cap xs := by
  obtain ⟨h0, h⟩ := h
  rcases h with ⟨rfl, h1⟩ | ⟨g, cap, cur, rfl, h1, h2, h3⟩
  · omega
  · exact ⟨g, cap, rfl, h1, h0, .inr ⟨g, cap, cur, rfl, Nat.le_refl _, h2, h3⟩⟩
/-- Numbers of which the first are windowed. -/
def winTo (L : List Int) (k : Nat) : List Int := tabN 32 (fun i => if i < k then winN (fI L i) i else fI L i)
theorem winTo_len (L : List Int) (k : Nat) : (winTo L k).length = 32 := by unfold winTo; simp
theorem winTo_at (L : List Int) (k : Nat) (hk : k < 32) : (winTo L k).getD k 0 = fI L k := by unfold winTo; rw [tabN_getD _ _ _ hk, if_neg (by omega)]
theorem winTo_all (L : List Int) (i : Nat) (hi : i < 32) : (winTo L 32).getD i 0 = winN (fI L i) i := by unfold winTo; rw [tabN_getD _ _ _ hi, if_pos hi]
theorem list_ext0 {a b : List Int} (hl : a.length = b.length) (h : ∀ i, i < a.length → a.getD i 0 = b.getD i 0) : a = b := by
  refine List.ext_getElem hl (fun i h1 h2 => ?_)
  have := h i h1
  rwa [List.getD_eq_getElem?_getD, List.getD_eq_getElem?_getD, List.getElem?_eq_getElem h1, List.getElem?_eq_getElem h2] at this
theorem winTo_zero (L : List Int) (hl : L.length = 32) : winTo L 0 = L := by
  refine list_ext0 (by rw [winTo_len, hl]) (fun i hi => ?_)
  rw [winTo_len] at hi
  unfold winTo
  rw [tabN_getD _ _ _ hi, if_neg (by omega)]
  rfl
theorem winTo_set (L : List Int) (k : Nat) (hk : k < 32) : (ints (winTo L k)).set k (.int .i64 (winN (fI L k) k)) = ints (winTo L (k + 1)) := by
  unfold ints
  rw [← List.map_set]
  congr 1
  refine list_ext0 (by rw [List.length_set, winTo_len, winTo_len]) (fun i hi => ?_)
  rw [List.length_set, winTo_len] at hi
  rw [List.getD_eq_getElem?_getD, List.getElem?_set, winTo_len]
  by_cases h : k = i
  · subst h
    rw [if_pos rfl, if_pos hk]
    unfold winTo
    rw [tabN_getD _ _ _ hk, if_pos (by omega)]
    rfl
  · rw [if_neg h, ← List.getD_eq_getElem?_getD]
    unfold winTo
    rw [tabN_getD _ _ _ hi, tabN_getD _ _ _ hi]
    by_cases h2 : i < k
    · rw [if_pos h2, if_pos (by omega)]
    · rw [if_neg h2, if_neg (by omega)]
theorem ints_at (zs : List Int) (k : Nat) (hk : k < zs.length) : (ints zs)[k]? = some (.int .i64 (zs.getD k 0)) := getD_map_int zs .i64 k hk

set_option maxHeartbeats 16000000 in
set_option maxRecDepth 100000 in
theorem specLapW (v : Value) (xs : List Int) (v1 : Value) (ys : List Int) (w : World) (hx : hopB xs = true) (hy : hopB ys = true) (hv : RdX w v xs) (hv1 : RdX w v1 ys) :
    Calls Tryd.prog 55 #[v, v1] w fun e w' => ∃ u, e = .returned u ∧ OwnI w' w.heap.size w'.heap.size u (lapL (xs ++ ys)) ∧ Upd 0 0 w w' := by
  obtain ⟨o, hmk⟩ := mkRowI 16 (by omega)
  have hrun : ∀ X : World, (Instr.makeSlice 23 (.int .i64 16) (.int .i64 16)).run Tryd.prog X = .ok (.slice (some ⟨X.heap.size, 0, none⟩) 16 16) (X.alloc o) := fun X => (hmk X).1
  have hrowX := hide (fun X => (hmk X).2)
  have hzX : Hid (∀ X : World, (X.alloc o).heap.size = X.heap.size + 1) := hide (fun X => by simp)
  have hl32 : (xs ++ ys).length = 32 := by rw [List.length_append, (hopB_iff.1 hx).1, (hopB_iff.1 hy).1]
  have hlx : xs.length = 16 := (hopB_iff.1 hx).1
  have hly : ys.length = 16 := (hopB_iff.1 hy).1
  have hxs := hide (fun i hi => two_in hx hy i hi)
  have hL : Hid (∀ k, k < 16 → (lapL (xs ++ ys)).getD k 0 = (sumN (fun i => winN (fI (xs ++ ys) i) i * lapT i k) 32 + 8192) / 16384) := hide (fun k hk => by unfold lapL; rw [tabN_getD _ _ _ hk]; rfl)
  have hLl : Hid ((lapL (xs ++ ys)).length = 16) := hide (by unfold lapL; simp)
  obtain ⟨L, hLe⟩ : ∃ L, xs ++ ys = L := ⟨_, rfl⟩
  rw [hLe] at hl32 hxs hL hLl ⊢
  replace hLe := hide hLe
  generalize lapL L = A at hL hLl ⊢
  replace hv := hide hv
  replace hv1 := hide hv1
  replace hl32 := hide hl32
  replace hlx := hide hlx
  replace hly := hide hly
  clear hmk hx hy
  go_enter Tryd.func55, Tryd.ntmps55
  go_wp2_with fail
  refine (specTable w).mono ?_
  rintro e w1 ⟨v, rfl, hown, hu1⟩
  have hs1 : w.heap.size ≤ w1.heap.size := hu1.size
  obtain ⟨ad, capt, rfl, hA⟩ := hown.rd
  obtain ⟨bt, ot, rfl, hbt0, hclt⟩ := hA (show cosQ ≠ [] by decide)
  have hbt : bt < w1.heap.size := hbt0
  have hcT : Hid (∀ j, j < 33 → w1.cell? ⟨bt, ot + j, none⟩ = some (.int .i64 (cosQ.getD j 0))) := hide (fun j hj => hclt j hj)
  have hl : cosQ.length = 33 := rfl
  rw [hl]
  clear hA hclt hl hown hbt0
  replace hu1 := hide hu1
  go_wp2_with fail
  refine (specWindow w1).mono ?_
  rintro e w2 ⟨v, rfl, hown, hu2⟩
  have hs2 : w1.heap.size ≤ w2.heap.size := hu2.size
  obtain ⟨ad, capw, rfl, hA⟩ := hown.rd
  obtain ⟨bw, ow, rfl, hbw0, hclw⟩ := hA (show winT ≠ [] by decide)
  have hbw : bw < w2.heap.size := hbw0
  have hcW : Hid (∀ j, j < 32 → w2.cell? ⟨bw, ow + j, none⟩ = some (.int .i64 (winA j))) := hide (fun j hj => hclw j hj)
  have hl : winT.length = 32 := rfl
  rw [hl]
  clear hA hclw hl hown hbw0
  have hcT2 : Hid (∀ j, j < 33 → w2.cell? ⟨bt, ot + j, none⟩ = some (.int .i64 (cosQ.getD j 0))) := hide (fun j hj => (hu2.none.cell (p := ⟨bt, ot + j, none⟩) hbt).trans (unhide hcT j hj))
  have hU2 := hide ((unhide hu1).trans hu2)
  have hbt2 : bt < w2.heap.size := by omega
  have hs3 : w.heap.size ≤ w2.heap.size := by omega
  clear hcT hu1 hu2 hbt hs1 hs2
  have hj1 := hide ((unhide hv).below (unhide hU2).none).rj
  have hj2 := hide ((unhide hv1).below (unhide hU2).none).rj
  have hnil := hide (show w2.ownsRow w2.heap.size 3 1 (.slice none 0 0) ([] : List Int).length (ints []) from World.ownsRow_nil _ _ _ _)
  go_wp2_with (at_builtin; go_loud (refine wpList_appI rfl (.tmp 15) (.tmp 16) rfl w2.heap.size (.slice none 0 0) [] rfl (unhide hnil) _ xs rfl (unhide hj1) (by have := unhide hlx; simp; omega) (Nat.le_refl _) ?_))
  intro v2 w3 ho2 hg2 _
  have hup3 := hide (upd_of_grownI hg2 (unhide hnil))
  have hb3 := hide (below_upd (Below.refl w2.heap.size w2) (unhide hup3) (Nat.le_refl _) (.inl (Nat.le_refl _)))
  replace ho2 := hide ho2
  have hj3 := hide ((unhide hv1).below ((unhide hU2).none.trans ((unhide hb3).mono hs3))).rj
  have hs4 := (unhide hb3).size
  clear hg2 hup3 hnil hj1 hj2
  go_wp2_with (at_builtin; go_loud (refine wpList_appI rfl (.tmp 18) (.tmp 19) rfl w2.heap.size _ xs rfl (unhide ho2) _ ys rfl (unhide hj3) (by have := unhide hlx; have := unhide hly; omega) hs4 ?_))
  intro v3 w4 ho3 hg3 _
  have hb4 := hide (below_upd (unhide hb3) (upd_of_grownI hg3 (unhide ho2)) (Nat.le_refl _) (.inl (Nat.le_refl _)))
  replace ho3 : w4.ownsRow w2.heap.size 3 1 v3 32 (ints L) := by
    have h := ho3
    rw [unhide hLe, unhide hlx, unhide hly] at h
    exact h
  obtain ⟨g, cpx, rfl, hg, hK⟩ := rowK_of ho3 (by omega)
  have hK0 : Hid (RowK w4 g 32 cpx (ints (winTo L 0))) := hide (by rw [winTo_zero L (unhide hl32)]; exact hK)
  clear ho3 hg3 hK hb3 ho2 hj3 hv hv1 hs4 hlx hly
  go_upto_region 7 with fail
  go_loopw [8, 23] (fun _ i wr => ∃ k : Nat, k ≤ 32 ∧ i = .int .i64 k ∧ Hid (RowK wr g 32 cpx (ints (winTo L k))) ∧ Hid (Below w2.heap.size w2 wr)) (fun _ i _ => 32 - (intOf i).toNat)
  case atStart => exact ⟨0, Nat.zero_le _, rfl, hK0, hb4⟩
  case round =>
    clear hK0 hb4
    obtain ⟨k, hk, rfl, hK, hB⟩ := hrel
    by_cases hlt : k < 32
    · obtain ⟨W1, hW1⟩ : ∃ W1 : World, W1 = wr := ⟨_, rfl⟩
      subst hW1
      have hb0 := unhide hxs k hlt
      have hPb := win_mul (fI L k) k hlt (by omega) (by omega)
      have hck : W1.cell? ⟨g, k, none⟩ = some (.int .i64 (fI L k)) := by
        rw [(unhide hK).cell k hlt, ints_at _ _ (by rw [winTo_len]; exact hlt), winTo_at L k hlt]
      have hcw := ((unhide hB).cell (p := ⟨bw, ow + k, none⟩) hbw).trans (unhide hcW k hlt)
      have hwd : winN (fI L k) k = (fI L k * winA k + 8192) / 16384 := rfl
      have hps := hide (winTo_set L k hlt)
      have hfz := (unhide hK).frozen k
      have hst : Hid (RowK (W1.setCell ⟨g, k, none⟩ (.int .i64 (winN (fI L k) k))) g 32 cpx (ints (winTo L (k + 1)))) := hide (by rw [← unhide hps]; exact (unhide hK).set k _)
      have hB2 : Hid (Below w2.heap.size w2 (W1.setCell ⟨g, k, none⟩ (.int .i64 (winN (fI L k) k)))) := hide ((unhide hB).setCell (p := ⟨g, k, none⟩) hg _)
      have hbx := winN_bdS (fI L k) k hlt hb0.1 hb0.2
      clear hps hK hB
      generalize winA k = a at hcw hwd hPb
      generalize winN (fI L k) k = x at hst hB2 hwd hbx
      generalize fI L k = z at hck hwd hPb hb0
      obtain ⟨P, hP⟩ : ∃ P, z * a = P := ⟨_, rfl⟩
      rw [hP] at hwd hPb
      obtain ⟨p1, p2⟩ := hPb
      obtain ⟨z1, z2⟩ := hb0
      obtain ⟨y1, y2⟩ := hbx
      have kI : (0 : Int) ≤ (k : Int) := by omega
      have kL : (k : Int) < 32 := by omega
      have x1 : IntKind.i64.wrap (z * a) = P := by rw [hP]; exact wrapV (by omega)
      have x2 : IntKind.i64.wrap (P + 8192) = P + 8192 := wrapV (by omega)
      have x3 : (P + 8192) / 16384 = x := hwd.symm
      have x4 : IntKind.i64.wrap x = x := wrapV (by omega)
      clear hP hwd
      go_upto_region 9 with fail
      refine wp_region_still_tail 14 (by kernel_rfl) (by kernel_rfl) ?_
      simp only [List.take_succ_cons, List.take_zero, List.drop_succ_cons, List.drop_zero]
      iterate 14 still_step
      refine wpStill_nil ?_
      go_wp2
      go_roundw
      case rel => exact ⟨k + 1, by omega, by go_num, (unhide hst).drew, below_drewN (unhide hB2) 1⟩
      case measure => simp [intOf]; omega
    · have hk32 : k = 32 := by omega
      subst hk32
      rw [show ((32 : Nat) : Int) = 32 from rfl]
      have hrow := hide (unhide hrowX wr)
      have hz0 := hide (unhide hzX wr)
      have hglt := (unhide hK).lt
      have hK1 := hide ((unhide hK).keep (Upd.of_below ((Below.refl wr.heap.size wr).alloc (Nat.le_refl _) o) 0 0))
      have hBo := hide ((unhide hB).alloc (unhide hB).size o)
      obtain ⟨r, hr⟩ : ∃ r, wr.heap.size = r := ⟨_, rfl⟩
      have hsr : w2.heap.size ≤ r := by rw [← hr]; exact (unhide hB).size
      rw [hr] at hglt
      clear hrowX hzX hK hB
      have hrun2 : (Instr.makeSlice 23 (.int .i64 16) (.int .i64 16)).run Tryd.prog wr = .ok (.slice (some ⟨r, 0, none⟩) 16 16) (wr.alloc o) := by rw [← hr]; exact hrun wr
      rw [hr] at hrow hz0
      replace hr := hide hr
      clear hrun
      go_upto_region 13 with fail
      generalize wr.alloc o = w0 at hrow hBo hz0 hK1 ⊢
      have hp0 : Hid (RowI w0 r 16 (partI A 0)) := hide (by rw [partI_zero, unhide hLl]; exact unhide hrow)
      clear hrow
      go_loopw [10, 11, 12, 44] (fun _ _ _ i wy => ∃ k : Nat, k ≤ 16 ∧ i = .int .i64 k ∧ Hid (RowI wy r 16 (partI A k)) ∧ Hid (RowK wy g 32 cpx (ints (winTo L 32))) ∧ Hid (Below w2.heap.size w2 wy) ∧ Hid (wy.heap.size = r + 1)) (fun _ _ _ i _ => 16 - (intOf i).toNat)
      case atStart => exact ⟨0, Nat.zero_le _, rfl, hp0, hK1, hBo, hz0⟩
      case round =>
        clear hp0 hK1 hBo hz0
        obtain ⟨k, hk, rfl, hp, hK, hB, hz⟩ := hrel
        by_cases hlt : k < 16
        · have kI : (0 : Int) ≤ (k : Int) := by omega
          have kD : decide ((k : Int) < 16) = true := decide_eq_true (by omega)
          obtain ⟨f, hf⟩ : ∃ f : Nat → Int, f = fun i => winN (fI L i) i * lapT i k := ⟨_, rfl⟩
          have hfi : Hid (∀ i, f i = winN (fI L i) i * lapT i k) := hide (fun i => by rw [hf])
          have hfb : Hid (∀ i, i < 32 → -(536870912 : Int) ≤ f i ∧ f i ≤ 536870912) := hide (fun i hi => by
            rw [hf]
            have hb0 := unhide hxs i hi
            have hb1 := winN_bdS (fI L i) i hi hb0.1 hb0.2
            exact lap_mulK 32768 _ i k hi hlt (by omega) hb1.1 hb1.2)
          have hAk : Hid (A.getD k 0 = (sumN f 32 + 8192) / 16384) := hide (by rw [unhide hL k hlt, hf])
          have hs0 : Hid (sumN f 0 = 0) := hide rfl
          clear hf
          go_upto_region 17 with fail
          go_loopw [11, 12, 49] (fun s _ i wz => ∃ j : Nat, j ≤ 32 ∧ i = .int .i64 j ∧ s = .int .i64 (8192 + sumN f j) ∧ Hid (RowI wz r 16 (partI A k)) ∧ Hid (RowK wz g 32 cpx (ints (winTo L 32))) ∧ Hid (Below w2.heap.size w2 wz) ∧ Hid (wz.heap.size = r + 1)) (fun _ _ i _ => 32 - (intOf i).toNat)
          case atStart => exact ⟨0, Nat.zero_le _, rfl, by rw [unhide hs0]; rfl, hp, hK, hB, hz⟩
          case round =>
            clear hp hK hB hz
            obtain ⟨j, hj, rfl, rfl, hp, hK, hB, hz⟩ := hrel
            have hSb := sumN_within (f := f) (K := 536870912) (n := j) (fun i hi => unhide hfb i (by omega))
            by_cases hlt2 : j < 32
            · obtain ⟨W1, hW1⟩ : ∃ W1 : World, W1 = wr := ⟨_, rfl⟩
              subst hW1
              have hck : W1.cell? ⟨g, j, none⟩ = some (.int .i64 (winN (fI L j) j)) := by
                rw [(unhide hK).cell j hlt2, ints_at _ _ (by rw [winTo_len]; exact hlt2), winTo_all L j hlt2]
              have hstep : Hid (sumN f (j + 1) = sumN f j + winN (fI L j) j * lapT j k) := hide (by rw [← unhide hfi j]; rfl)
              have hPb := unhide hfb j hlt2
              rw [unhide hfi j] at hPb
              have hm : ((2 * j + 17) * (2 * k + 1) : Nat) ≤ 79 * 31 := Nat.mul_le_mul (by omega) (by omega)
              obtain ⟨M, hM⟩ : ∃ M : Nat, (2 * j + 17) * (2 * k + 1) = M := ⟨_, rfl⟩
              have e1 : (2 * (j : Int) + 17) * (2 * (k : Int) + 1) = (M : Int) := by rw [← hM]; push_cast; rfl
              rw [hM] at hm
              have hTt : Hid (∀ j, j < 33 → W1.cell? ⟨bt, ot + j, none⟩ = some (.int .i64 (cosQ.getD j 0))) := hide (fun j hj => ((unhide hB).cell (p := ⟨bt, ot + j, none⟩) hbt2).trans (unhide hcT2 j hj))
              have hC : Hid (∀ X : World, (∀ j, j < 33 → X.cell? ⟨bt, ot + j, none⟩ = some (.int .i64 (cosQ.getD j 0))) → Calls Tryd.prog 70 #[.slice (some ⟨bt, ot, none⟩) 33 capt, .int .i64 ((2 * (j : Int) + 17) * (2 * (k : Int) + 1))] X fun e w' => e = .returned (.int .i64 (lapT j k)) ∧ w' = X) := hide (fun X h => by
                rw [lapT_eq j hlt2 k hlt]
                exact specCosine _ bt ot capt X h)
              generalize sumN f j = S at hSb hstep ⊢
              generalize lapT j k = c at hstep hC hPb
              generalize winN (fI L j) j = a at hck hstep hPb
              obtain ⟨P, hP⟩ : ∃ P, a * c = P := ⟨_, rfl⟩
              rw [hP] at hstep hPb
              obtain ⟨s1, s2⟩ := hSb
              obtain ⟨p1, p2⟩ := hPb
              have jI : (0 : Int) ≤ (j : Int) := by omega
              have jL : (j : Int) < 32 := by omega
              have x1 : IntKind.i64.wrap (2 * (j : Int)) = 2 * (j : Int) := wrapV (by omega)
              have x2 : IntKind.i64.wrap (2 * (j : Int) + 17) = 2 * (j : Int) + 17 := wrapV (by omega)
              have x3 : IntKind.i64.wrap (2 * (k : Int)) = 2 * (k : Int) := wrapV (by omega)
              have x4 : IntKind.i64.wrap (2 * (k : Int) + 1) = 2 * (k : Int) + 1 := wrapV (by omega)
              have x5 : IntKind.i64.wrap ((2 * (j : Int) + 17) * (2 * (k : Int) + 1)) = (2 * (j : Int) + 17) * (2 * (k : Int) + 1) := wrapV (by rw [e1]; omega)
              have x6 : IntKind.i64.wrap (a * c) = P := by rw [hP]; exact wrapV (by omega)
              have x7 : IntKind.i64.wrap (8192 + S + P) = 8192 + S + P := wrapV (by omega)
              clear hP e1 hM hm
              go_upto_region 19 with fail
              refine wp_region_still_lit (by kernel_rfl) (by kernel_rfl) ?_
              iterate 13 still_step
              still_call (unhide hC _ (unhide hTt))
              iterate 3 still_step
              refine wpStill_nil ?_
              go_wp2
              go_roundw
              case rel => exact ⟨j + 1, by omega, by go_num, by rw [unhide hstep, Int.add_assoc], (unhide hp).drew, (unhide hK).drew, below_drewN (unhide hB) 1, hz⟩
              case measure => simp [intOf]; omega
            · have hj32 : j = 32 := by omega
              subst hj32
              generalize sumN f 32 = S at hSb hAk ⊢
              obtain ⟨s1, s2⟩ := hSb
              rw [Int.add_comm S 8192] at hAk
              obtain ⟨W1, hW1⟩ : ∃ W1 : World, W1 = wr := ⟨_, rfl⟩
              subst hW1
              obtain ⟨x, hx⟩ : ∃ x, (8192 + S) / 16384 = x := ⟨_, rfl⟩
              rw [hx] at hAk
              have hps : Hid ((partI A k).set k (.int .i64 x) = partI A (k + 1)) := hide (by rw [← unhide hAk]; exact partI_set A k (by rw [unhide hLl]; exact hlt))
              obtain ⟨y, hdst⟩ := (unhide hp).has k hlt
              have hfz := (unhide hp).frozen k
              have hst : Hid (RowI (W1.setCell ⟨r, k, none⟩ (.int .i64 x)) r 16 (partI A (k + 1))) := hide (by rw [← unhide hps]; exact (unhide hp).set k _)
              have hK2 : Hid (RowK (W1.setCell ⟨r, k, none⟩ (.int .i64 x)) g 32 cpx (ints (winTo L 32))) := hide ((unhide hK).other (by omega) k _)
              have hB2 : Hid (Below w2.heap.size w2 (W1.setCell ⟨r, k, none⟩ (.int .i64 x))) := hide ((unhide hB).setCell (p := ⟨r, k, none⟩) hsr _)
              have hz2 : Hid ((W1.setCell ⟨r, k, none⟩ (.int .i64 x)).heap.size = r + 1) := hide (by simpa using unhide hz)
              clear hps hp hK hB hz hAk
              have kL : (k : Int) < 16 := by omega
              go_wp2
              go_roundw
              case rel => exact ⟨k + 1, by omega, by go_num, hst, hK2, hB2, hz2⟩
              case measure => simp [intOf]; omega
        · have hkl : k = 16 := by omega
          subst hkl
          have hown : Hid (OwnI wr w.heap.size wr.heap.size (.slice (some ⟨r, 0, none⟩) 16 16) A) := hide (by
            have h := unhide hp
            rw [show partI A 16 = ints A from by rw [← unhide hLl]; exact partI_all A] at h
            rw [unhide hz]
            have h2 := own_mono h.own (Nat.le_trans hs3 hsr) (Nat.le_refl _)
            have e := unhide hLl
            exact (show OwnI wr w.heap.size (r + 1) (.slice (some ⟨r, 0, none⟩) 16 16) A from by unfold OwnI; rw [e]; exact h2))
          have hU := hide ((unhide hU2).trans (Upd.of_below (unhide hB) 0 0))
          clear hp hB hz hK
          go_wp2
          go_ret
          exact ⟨_, rfl, unhide hown, unhide hU⟩
end Go.Proofs.YtnoojbppfbmbgaaDoor
