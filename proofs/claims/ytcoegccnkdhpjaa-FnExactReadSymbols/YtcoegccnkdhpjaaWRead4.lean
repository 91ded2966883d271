/- The walk of ReadSymbols: the specification's, where its arguments are good. -/
import Derived.Test.YtcoegccnkdhpjaaWRead3
namespace Go.Proofs.Ytcoegccnkdhpjaa
open Go.RowKit

set_option maxHeartbeats 8000000 in
set_option maxRecDepth 1000000 in
theorem specReadGood (v : Value) (zs : List Int) (u : Value) (d : List Int) (P M : Nat) (w : World) (hn : zs.length ≤ 1048576) (hR : InI zs) (hv : RdI w v zs) (hd : d.length ≤ 1048576) (hD : InB d) (hud : RdY w u d)
    (hk : ¬ kindF zs = 0) (hM : M ≤ 20000) (hP : P ≤ 9223372036854775807) :
    Calls Try.prog 42 #[v, u, .int .i64 P, .int .i64 M] w fun e w' => ∃ x, e = .returned x ∧ OwnSy w' w.heap.size w'.heap.size x (rdTo zs d P M) ∧ Upd 0 0 w w' := by
  obtain ⟨i0, hi, hi0, hi1, hi2⟩ := info_parts infoI
  have hB := (Below.refl w.heap.size w).alloc (Nat.le_refl _) (.cells #[.int .i64 0, .slice none 0 0, .int .i64 0] 46)
  have hT := three_new w (.int .i64 0) (.slice none 0 0) (.int .i64 0) 46
  have hv1 := hv.below hB
  replace hud := hide (hud.below hB)
  have hK := hide (specCodeKind v zs _ hn hR hv1)
  have hg := hide (kindF_ne hk).1
  have q0 : (kindF zs == 0) = false := by simpa using hk
  replace hv1 := hide hv1
  replace hB := hide hB
  replace hT := hide hT
  replace hk := hide hk
  obtain ⟨ad, cap, rfl, hA⟩ := hv
  clear hA
  go_enter Try.func42, Try.ntmps42
  go_wp2_with fail
  refine (unhide hK).mono ?_
  rintro e w1 ⟨rfl, hu⟩
  replace hv1 := hide ((unhide hv1).below hu.none)
  replace hud := hide ((unhide hud).below hu.none)
  replace hT := hide ((unhide hT).below hu.none (unhide hT).1)
  replace hB := hide ((unhide hB).trans (hu.none.mono (unhide hB).size))
  clear hu hK
  go_wp2_with fail
  refine (specL2Words _ zs w1 (unhide hg) (unhide hv1)).mono ?_
  rintro e w2 ⟨vw, rfl, ho, hu⟩
  replace hv1 := hide ((unhide hv1).below hu.none)
  replace hud := hide ((unhide hud).below hu.none)
  replace hT := hide ((unhide hT).below hu.none (unhide hT).1)
  replace hB := hide ((unhide hB).trans (hu.none.mono (unhide hB).size))
  have hvw := ho.rd
  obtain ⟨adw, capw, rfl, hAw⟩ := ho.rd
  rw [wordsL_length] at hvw ⊢
  replace hvw := hide hvw
  clear hu ho hAw
  go_wp2
  have hB3 := ((Below.refl w2.heap.size w2).alloc (Nat.le_refl _) (.cells #[.slice ad zs.length cap, .slice adw zs.length capw] 87)).alloc (by simp) (.cells #[.int .i64 0, .slice none 0 0, .int .i64 0] 46)
  have kc0 : ((w2.alloc (.cells #[.slice ad zs.length cap, .slice adw zs.length capw] 87)).alloc (.cells #[.int .i64 0, .slice none 0 0, .int .i64 0] 46)).cell? ⟨w2.heap.size, 0, none⟩ = some (.slice ad zs.length cap) := by
    rw [World.cell?_alloc_old _ _ _ (by simp), World.cell?_alloc_at _ _ _ _ rfl]; rfl
  have kc1 : ((w2.alloc (.cells #[.slice ad zs.length cap, .slice adw zs.length capw] 87)).alloc (.cells #[.int .i64 0, .slice none 0 0, .int .i64 0] 46)).cell? ⟨w2.heap.size, 1, none⟩ = some (.slice adw zs.length capw) := by
    rw [World.cell?_alloc_old _ _ _ (by simp), World.cell?_alloc_at _ _ _ _ rfl]; rfl
  have hT3 := three_new (w2.alloc (.cells #[.slice ad zs.length cap, .slice adw zs.length capw] 87)) (.int .i64 0) (.slice none 0 0) (.int .i64 0) 46
  have hs2 : (w2.alloc (.cells #[.slice ad zs.length cap, .slice adw zs.length capw] 87)).heap.size = w2.heap.size + 1 := by simp
  rw [hs2] at hT3
  clear hs2
  generalize (w2.alloc (.cells #[.slice ad zs.length cap, .slice adw zs.length capw] 87)).alloc (.cells #[.int .i64 0, .slice none 0 0, .int .i64 0] 46) = w3 at hB3 kc0 kc1 hT3 ⊢
  obtain ⟨hc3, ⟨t0, t1, t2⟩, f0, f1, f2⟩ := hT3
  have hS3 : Hid (SinkAt w3 (w2.heap.size + 1) (.int .i64 0) (.slice none 0 0) 0) := ⟨hc3, t0, t1, t2, f1, f2⟩
  clear t0 t1 t2 f0 f1 f2
  have hr0 : w.heap.size < w2.heap.size := (unhide hT).1
  replace hT := hide ((unhide hT).below hB3 hr0)
  replace hB := hide ((unhide hB).trans (hB3.mono (by omega)))
  replace kc0 := hide kc0
  replace kc1 := hide kc1
  have hM1 := hM
  replace hB3 := hide hB3
  go_loopw [2, 11] (fun a i wr => ∃ k : Nat, ∃ l q vl, k ≤ M ∧ a = .int .i64 ((q : Nat) : Int) ∧ i = .int .i64 k ∧ Hid (rdTo zs d P k = (0, l, q)) ∧ Hid (q ≤ 9223372036854775807) ∧ SinkAt wr (w2.heap.size + 1) (.int .i64 0) vl 0 ∧ wr.ownsRow (w2.heap.size + 1 + 1) 3 1 vl l.length (ints l) ∧ Below (w2.heap.size + 1) w3 wr) (fun _ i _ => M - (intOf i).toNat)
  case atStart => exact ⟨0, [], P, .slice none 0 0, Nat.zero_le _, rfl, rfl, rfl, hP, unhide hS3, World.ownsRow_nil _ _ _ _, Below.refl _ _⟩
  case round =>
    clear hS3
    obtain ⟨k, l, q, vl, hkM, rfl, rfl, hr, hq, hS, hown, hbel⟩ := hrel
    by_cases hlt : k < M
    · have k0 : wr.cell? ⟨w2.heap.size, 0, none⟩ = some (.slice ad zs.length cap) := (hbel.cell (by simp)).trans (unhide kc0)
      have k1 : wr.cell? ⟨w2.heap.size, 1, none⟩ = some (.slice adw zs.length capw) := (hbel.cell (by simp)).trans (unhide kc1)
      have hb2 := (unhide hB3).trans (hbel.mono (show w2.heap.size ≤ w2.heap.size + 1 by omega))
      have hcall := hide (specL2Symbol _ _ zs u d (q : Int) wr (unhide hg) ((unhide hv1).below hb2) ((unhide hvw).below hb2) hd hD ((unhide hud).below hb2) (by omega) (by have := unhide hq; omega))
      have hT1 := hide ((unhide hT).below hbel (by omega))
      have hpos := readOne_pos zs d q
      have hbd := rdF_bd (unhide hg).1 d q 15 0
      have hsh := hide (rdTo_short hlt (unhide hr))
      have hco := hide (rdTo_code hlt (unhide hr))
      have hnx := hide (rdTo_next (unhide hr))
      have hll := hide (rdTo_len (unhide hr))
      change (-2 : Int) ≤ (readOne zs d q).1 ∧ (readOne zs d q).1 < 300 at hbd
      rw [Int.toNat_natCast] at hcall
      have hq2 : Hid ((readOne zs d q).2 ≤ 9223372036854775807) := hide (by have := unhide hq; omega)
      have hB4 := hide ((unhide hB).trans (hbel.mono (show w.heap.size ≤ w2.heap.size + 1 by omega)))
      have hs4 := (unhide hB4).size
      have hwr := hbel.size
      generalize readOne zs d q = o at hcall hsh hco hnx hq2 hbd
      obtain ⟨s, q'⟩ := o
      simp only at hcall hsh hco hnx hq2 hbd
      clear hpos hb2 hq hr
      go_wp2_with fail
      refine (unhide hcall).mono ?_
      rintro e wy ⟨rfl, hby⟩
      by_cases h2 : s = -2
      · have hE := hide (unhide hsh h2)
        subst h2
        have hT2 := (unhide hT1).below hby (unhide hT1).1
        obtain ⟨t0, ⟨t1, t2, t3⟩, t4, t5, t6⟩ := hT2
        have hB5 := hide ((unhide hB4).trans (hby.mono hs4))
        clear hcall hsh hco hnx hT1 hby hown hS hbel hB4
        go_wp2
        refine bodyPost_ret (v := .agg #[.int .i64 2, .slice none 0 0, .int .i64 0]) (by simp [results, Try.results42, go_sem, t1, t2, t3]) rfl ?_
        rw [unhide hE]
        refine ⟨_, rfl, ⟨_, rfl, own_nilI _ _ _⟩, Upd.of_below ?_ 0 0⟩
        repeat (first | exact unhide hB5 | refine Below.setCell ?_ (by simp) _)
      · by_cases h1 : s = -1
        · have hE := hide (unhide hco h1)
          subst h1
          have hT2 := (unhide hT1).below hby (unhide hT1).1
          obtain ⟨t0, ⟨t1, t2, t3⟩, t4, t5, t6⟩ := hT2
          have hB5 := hide ((unhide hB4).trans (hby.mono hs4))
          clear hcall hsh hco hnx hT1 hby hown hS hbel hB4 h2
          go_wp2
          refine bodyPost_ret (v := .agg #[.int .i64 4, .slice none 0 0, .int .i64 0]) (by simp [results, Try.results42, go_sem, t1, t2, t3]) rfl ?_
          rw [unhide hE]
          refine ⟨_, rfl, ⟨_, rfl, own_nilI _ _ _⟩, Upd.of_below ?_ 0 0⟩
          repeat (first | exact unhide hB5 | refine Below.setCell ?_ (by simp) _)
        · have hN := hide (unhide hnx h2 h1)
          have e2 : (s == -2) = false := by simpa using h2
          have e1 : (s == -1) = false := by simpa using h1
          have hl20 : l.length ≤ 20000 := by have := unhide hll; omega
          have hown1 := ownsB hown hby
          have hS1 := hS.below hby hS.1
          have hby2 := hide (hbel.trans (hby.mono (show w2.heap.size + 1 ≤ wr.heap.size by omega)))
          obtain ⟨adl, capl, rfl, hAl⟩ := OwnI.rd (Own.of hown1)
          clear hcall hsh hco hnx hT1 hby hown hS hbel hB4 h1 h2 hAl
          obtain ⟨s0, s1, s2, s3, s4, s5⟩ := hS1
          have hSh : Hid (SinkAt wy (w2.heap.size + 1) (.int .i64 0) (.slice adl l.length capl) 0) := ⟨s0, s1, s2, s3, s4, s5⟩
          go_wp2_with (at_builtin; refine wpList_append_own _ rfl (.tmp 54) (.tmp 56) 35 rfl (w2.heap.size + 1 + 1) 3 i0 (.int .i64 0) 1 8 Try.underlying35 hi hi0 hi1 hi2 rfl (by decide) _ _ _ rfl (hown1.alloc _) ⟨wy.heap.size, 0, none⟩ 1 1 [.int .i64 s] rfl rfl (one_newI wy _) (one_oneI s) (by unfold maxLen; omega) (by omega) (by simp; omega) ?_)
          intro v' w5 hown5 hgrow _
          have hal := (unhide hSh).grown (World.grownBy_alloc wy (.cells #[.int .i64 s] 3) none) (by simp)
          have hgt : ∀ g, (Value.slice adl l.length capl).ownBlock = some g → w2.heap.size + 1 + 1 ≤ g := fun g hg => (hown1.lt g hg).1
          have hS5 := hal.grown hgrow (fun e => by have := hgt _ e.symm; omega)
          have hb5 := ((unhide hby2).alloc (by omega) (.cells #[.int .i64 s] 3)).grown hgrow (by simp; omega) (fun g hg => by have := hgt g hg; omega)
          rw [ints_snoc, show l.length + 1 = (l ++ [s]).length by simp] at hown5
          obtain ⟨ad5, cap5, rfl, hA5⟩ := OwnI.rd (Own.of hown5)
          have hO2 := hide (ownsRow_setCell_below hown5 (a := ⟨w2.heap.size + 1, 1, none⟩) (by simp) (.slice ad5 (l ++ [s]).length cap5))
          have hS6 := hide (hS5.data (.slice ad5 (l ++ [s]).length cap5))
          have hB6 := hide (hb5.setCell (p := ⟨w2.heap.size + 1, 1, none⟩) (by simp) (.slice ad5 (l ++ [s]).length cap5))
          have el : (l ++ [s]).length = l.length + 1 := by simp
          obtain ⟨z0, z1, z2, z3, z4, z5⟩ := hS5
          clear hown5 hgrow hal hgt hb5 hA5 hown1 hSh hby2 s0 s1 s2 s3 s4 s5 hll
          go_wp2
          go_roundw
          case rel => rw [← el]; exact ⟨k + 1, _, _, _, by omega, rfl, by go_num, hN, hq2, unhide hS6, unhide hO2, unhide hB6⟩
          case measure => simp [intOf]; omega
    · have hkl : k = M := by omega
      subst hkl
      obtain ⟨s0, s1, s2, s3, s4, s5⟩ := hS
      have hT1 := (unhide hT).below hbel (by omega)
      obtain ⟨t0, ⟨t1, t2, t3⟩, t4, t5, t6⟩ := hT1
      obtain ⟨adl, capl, rfl, hAl⟩ := OwnI.rd (Own.of hown)
      have hO := hide (ownsRow_base (ownsRow_setCell_below (ownsRow_setCell_below (ownsRow_setCell_below (ownsRow_setCell_below hown (a := ⟨w2.heap.size + 1, 2, none⟩) (by simp) (.int .i64 (q : Nat))) (a := ⟨w.heap.size, 0, none⟩) (by simp; omega) (.int .i64 0)) (a := ⟨w.heap.size, 1, none⟩) (by simp; omega) (.slice adl l.length capl)) (a := ⟨w.heap.size, 2, none⟩) (by simp; omega) (.int .i64 (q : Nat))) (show w.heap.size ≤ w2.heap.size + 1 + 1 by omega))
      have hB4 := hide ((unhide hB).trans (hbel.mono (show w.heap.size ≤ w2.heap.size + 1 by omega)))
      clear hown hbel hAl
      go_wp2
      refine bodyPost_ret (v := .agg #[.int .i64 0, .slice adl l.length capl, .int .i64 (q : Nat)]) (by simp [results, Try.results42, go_sem, t1, t2, t3]) rfl ?_
      rw [unhide hr]
      refine ⟨_, rfl, ⟨_, rfl, ?_⟩, Upd.of_below ?_ 0 0⟩
      · exact Own.of (unhide hO)
      · repeat (first | exact unhide hB4 | refine Below.setCell ?_ (by first | (simp; done) | (simp; omega)) _)
end Go.Proofs.Ytcoegccnkdhpjaa
