/- The law on packed fields: what is packed is taken again. -/
import Derived.Test.YtcmabocmcgkmdaaWDrawG
import Derived.Test.YtcmabocmcgkmdaaWBack
import Derived.Test.YtcmabocmcgkmdaaWPackW
import Derived.Test.YtcmabocmcgkmdaaWPutC
import Derived.Test.YtcmabocmcgkmdaaWPutD
import Derived.Test.YtcmabocmcgkmdaaWTake6
namespace Go.Proofs.Ytcmabocmcgkmdaa
open Go.RowKit

set_option maxHeartbeats 1000000 in
theorem wBytes_eqB (b off cap b' off' cap' len : Nat) (zs : List Int) (w : World) (hlen : zs.length = len) (hn : len ≤ 1048576) (hc : BytesAt w b off zs) (hc' : BytesAt w b' off' zs) :
    Calls Try.prog 19 #[.slice (some ⟨b, off, none⟩) len cap, .slice (some ⟨b', off', none⟩) len cap'] w fun e w' => e = .returned (.bool true) ∧ ∃ nq, w' = w.drewN nq := by
  subst hlen
  replace hc := hide hc
  replace hc' := hide hc'
  go_enter Try.func19, Try.ntmps19
  go_wp2
  go_loopw [13] (fun i wr => ∃ k : Nat, k ≤ zs.length ∧ i = .int .i64 k ∧ ∃ nq, wr = w.drewN nq) (fun i _ => zs.length - (intOf i).toNat)
  case atStart => exact ⟨0, Nat.zero_le _, rfl, 0, rfl⟩
  case round =>
    obtain ⟨k, hk, rfl, nq, rfl⟩ := hrel
    by_cases hlt : k < zs.length
    · have hck := unhide hc k hlt
      have hck' := unhide hc' k hlt
      generalize zs.getD k 0 = x at hck hck'
      go_wp2
      go_quiet (fail)
      go_wp2
      go_roundw
      case rel => exact ⟨k + 1, by omega, by go_num, _, rfl⟩
      case measure => simp [intOf]; omega
    · have hkl : k = zs.length := by omega
      subst hkl
      go_wp2
      go_ret
      exact ⟨rfl, _, rfl⟩

set_option maxHeartbeats 1000000 in
theorem wBytes_empty (ad ad' : Option Addr) (cap cap' : Nat) (w : World) :
    Calls Try.prog 19 #[.slice ad 0 cap, .slice ad' 0 cap'] w fun e w' => e = .returned (.bool true) ∧ w' = w := by
  go_enter Try.func19, Try.ntmps19
  go_wp2
  go_loop [13] (fun i => i = .int .i64 0) (fun _ => 0)
  case atStart => rfl
  case round =>
    subst hrel
    go_wp2
    go_ret
    exact ⟨rfl, rfl⟩
theorem wBytes_res (base base' : Nat) (v v' : Value) (zs : List Nat) (w : World) (hn : zs.length ≤ 1048576) (h : w.ownsRow base 5 1 v zs.length (vals zs)) (h' : w.ownsRow base' 5 1 v' zs.length (vals zs)) :
    Calls Try.prog 19 #[v, v'] w fun e w' => e = .returned (.bool true) ∧ Below w.heap.size w w' := by
  rcases res_cases h with ⟨g, cap, rfl, _, ho⟩ | ⟨e, rfl⟩
  · rcases res_cases h' with ⟨g', cap', rfl, _, ho'⟩ | ⟨e', rfl⟩
    · refine (wBytes_eqB g 0 cap g' 0 cap' zs.length (toI zs) w (toI_len zs) hn ho.2 ho'.2).mono ?_
      rintro e w' ⟨rfl, nq, rfl⟩
      exact ⟨rfl, below_drewN (Below.refl _ _) nq⟩
    · subst e'
      exact (wBytes_empty _ _ _ _ w).mono fun e w' ⟨he, hw⟩ => ⟨he, by subst hw; exact Below.refl _ _⟩
  · subst e
    rcases res_cases h' with ⟨g', cap', rfl, _, ho'⟩ | ⟨e', rfl⟩
    · exact (wBytes_empty _ _ _ _ w).mono fun e w' ⟨he, hw⟩ => ⟨he, by subst hw; exact Below.refl _ _⟩
    · exact (wBytes_empty _ _ _ _ w).mono fun e w' ⟨he, hw⟩ => ⟨he, by subst hw; exact Below.refl _ _⟩

set_option maxHeartbeats 1000000 in
theorem drawPackLow (ad : Option Addr) (cap : Nat) (zs : List Int) (w : World) (h : ArgB w ad zs) (hl : zs.length ≤ 1048576) :
    Calls Try.prog 16 #[.slice ad zs.length cap] w fun e w' => ∃ g cp fs, e = .returned (.slice (some ⟨g, 0, none⟩) fs.length cp) ∧ InF fs ∧ OwnF w' g fs ∧ fs.length ≤ 20001 ∧ w.heap.size ≤ g ∧ Below w.heap.size w w' := by
  have hC := hide (l1FieldsFew ad cap zs w h hl)
  clear h
  go_enter Try.func16, Try.ntmps16
  go_wp2_with fail
  refine (unhide hC).mono ?_
  rintro e w1 ⟨g, cp, fs, rfl, hI, hO, hn, hg, hb⟩
  replace hI := hide hI
  replace hO := hide hO
  clear hC
  go_wp2
  go_ret
  exact ⟨g, cp, fs, rfl, unhide hI, unhide hO, hn, hg, hb⟩

set_option maxHeartbeats 1000000 in
theorem lawBits_long (ad : Option Addr) (n cap : Nat) (w : World) (hn : 1048576 < n) :
    Calls Try.prog 3 #[.slice ad n cap] w fun e w' => e = .returned (.bool true) ∧ Below w.heap.size w w' := by
  go_enter Try.func3, Try.ntmps3
  go_wp2
  go_ret
  exact ⟨rfl, Below.refl _ _⟩

theorem inB_ints {h : Bool} {zs : List Nat} {L : Nat} (hi : Inv h zs L) : InB (ints zs) := by
  intro j
  unfold ints
  rw [List.getD_eq_getElem?_getD, List.getElem?_map]
  have := hi.2.1 j
  rw [List.getD_eq_getElem?_getD] at this
  cases hz : zs[j]? with
  | none => simp
  | some x => rw [hz] at this; simp at this ⊢; omega
theorem packF_inv (h : Bool) (fs : List (Int × Int)) (h1 : fs.length ≤ 20000) (hok : ∀ m, m < fs.length → okF (fs.getD m (0, 0))) : Inv h (packF h fs) (packTo h fs fs.length).2 := by
  rw [packF_good h fs h1 hok]; exact (packTo_inv h fs fs.length (Nat.le_refl _) hok).1
theorem packF_nil_or (fs : List (Int × Int)) : (packF false fs = [] ∧ packF true fs = []) ∨ (fs.length ≤ 20000 ∧ ∀ m, m < fs.length → okF (fs.getD m (0, 0))) := by
  by_cases h1 : fs.length ≤ 20000
  · by_cases h2 : ∀ m, m < fs.length → okF (fs.getD m (0, 0))
    · exact .inr ⟨h1, h2⟩
    · left
      have : ∃ j, j < fs.length ∧ ¬ okF (fs.getD j (0, 0)) := by
        apply Classical.byContradiction
        intro hh
        exact h2 fun m hm => Classical.byContradiction fun hb => hh ⟨m, hm, hb⟩
      obtain ⟨j, hj, hb⟩ := this
      exact ⟨packF_bad false fs j hj hb, packF_bad true fs j hj hb⟩
  · exact .inl ⟨packF_many false fs (by omega), packF_many true fs (by omega)⟩
theorem packF_same (fs : List (Int × Int)) : (packF false fs).length = (packF true fs).length := by
  rcases packF_nil_or fs with ⟨h, h'⟩ | ⟨h, h'⟩
  · rw [h, h']
  · rw [packF_bytes false fs h h', packF_bytes true fs h h', packTo_place false true fs _ (Nat.le_refl _)]

set_option maxHeartbeats 8000000 in
set_option maxRecDepth 1000000 in
theorem lawBits_short (ad : Option Addr) (cap : Nat) (zs : List Int) (w : World) (h : ArgB w ad zs) (hl : zs.length ≤ 1048576) :
    Calls Try.prog 3 #[.slice ad zs.length cap] w fun e w' => e = .returned (.bool true) ∧ Below w.heap.size w w' := by
  have hC := hide (drawPackLow ad cap zs w h hl)
  clear h
  go_enter Try.func3, Try.ntmps3
  go_wp2_with fail
  refine (unhide hC).mono ?_
  rintro e w1 ⟨g, cp, fs, rfl, hI, hO, hn, hg, hb⟩
  have hL1 := hide (packF_len false fs)
  have hL2 := hide (packF_len true fs)
  have hgl := hO.1
  replace hO := hide hO
  replace hI := hide hI
  replace hb := hide hb
  clear hC
  go_wp2_with fail
  refine (implPackLow (fun zs L v n c w hi hv hn hL hs => implPutF zs L v n c w hi hv hn hL hs) g cp fs w1 (unhide hI) (unhide hO)).mono ?_
  rintro e w2 ⟨v1, rfl, ho, hb2⟩
  have r1 := hide (Res.of ho)
  have hgl2 := Nat.lt_of_lt_of_le hgl hb2.size
  replace hO := hide ((unhide hO).below hb2)
  have hs2 := hb2.size
  replace hb := hide ((unhide hb).trans (hb2.mono (unhide hb).size))
  clear ho hb2
  go_wp2_with fail
  refine (implPackHigh (fun zs L v n c w hi hv hn hL hs => implPutT zs L v n c w hi hv hn hL hs) g cp fs w2 (unhide hI) (unhide hO)).mono ?_
  rintro e w3 ⟨v2, rfl, ho, hb2⟩
  have r2 := hide (Res.of ho)
  replace r1 := hide ((unhide r1).below hb2 (Nat.le_refl _))
  have hgl3 := Nat.lt_of_lt_of_le hgl2 hb2.size
  replace hO := hide ((unhide hO).below hb2)
  have hs3 := hb2.size
  replace hb := hide ((unhide hb).trans (hb2.mono (unhide hb).size))
  clear ho hb2
  go_wp2_with fail
  refine (specPackLow g cp fs w3 (unhide hI) (unhide hO)).mono ?_
  rintro e w4 ⟨v3, rfl, ho, hb2⟩
  replace r1 := hide ((unhide r1).below hb2 hs3)
  replace r2 := hide ((unhide r2).below hb2 (Nat.le_refl _))
  replace hO := hide ((unhide hO).below hb2)
  have hs4 := hb2.size
  replace hb := hide ((unhide hb).trans (hb2.mono (unhide hb).size))
  replace ho := hide ho
  clear hb2
  go_wp2_with fail
  refine (wBytes_res _ _ v1 v3 (packF false fs) w4 (unhide hL1) (unhide r1).1 (unhide ho)).mono ?_
  rintro e w5 ⟨rfl, hb2⟩
  replace r1 := hide ((unhide r1).below hb2 (by omega))
  replace r2 := hide ((unhide r2).below hb2 hs4)
  replace hO := hide ((unhide hO).below hb2)
  have hs5 := hb2.size
  replace hb := hide ((unhide hb).trans (hb2.mono (unhide hb).size))
  clear ho hb2
  go_wp2_with fail
  refine (specPackHigh g cp fs w5 (unhide hI) (unhide hO)).mono ?_
  rintro e w6 ⟨v4, rfl, ho, hb2⟩
  replace r1 := hide ((unhide r1).below hb2 (by omega))
  replace r2 := hide ((unhide r2).below hb2 (by omega))
  replace hO := hide ((unhide hO).below hb2)
  have hs6 := hb2.size
  replace hb := hide ((unhide hb).trans (hb2.mono (unhide hb).size))
  replace ho := hide ho
  clear hb2
  go_wp2_with fail
  refine (wBytes_res _ _ v2 v4 (packF true fs) w6 (unhide hL2) (unhide r2).1 (unhide ho)).mono ?_
  rintro e w7 ⟨rfl, hb2⟩
  replace r1 := hide ((unhide r1).below hb2 (by omega))
  replace r2 := hide ((unhide r2).below hb2 (by omega))
  replace hO := hide ((unhide hO).below hb2)
  have hs7 := hb2.size
  replace hb := hide ((unhide hb).trans (hb2.mono (unhide hb).size))
  clear ho hb2
  have hsame := packF_same fs
  by_cases h0 : (packF false fs).length = 0
  · obtain ⟨a1, c1, rfl⟩ : ∃ a c, v1 = .slice a (packF false fs).length c := by
      rcases res_cases (unhide r1).1 with ⟨g1, c1, e, _⟩ | ⟨e1, e⟩
      · exact ⟨_, _, e⟩
      · exact ⟨none, 0, by rw [h0]; exact e⟩
    obtain ⟨a2, c2, rfl⟩ : ∃ a c, v2 = .slice a (packF true fs).length c := by
      rcases res_cases (unhide r2).1 with ⟨g1, c1, e, _⟩ | ⟨e1, e⟩
      · exact ⟨_, _, e⟩
      · exact ⟨none, 0, by rw [← hsame, h0]; exact e⟩
    have q1 : (((packF false fs).length : Int) == 0) = true := by simp; exact List.length_eq_zero_iff.1 h0
    have q2 : (((packF true fs).length : Int) == 0) = true := by simp; exact List.length_eq_zero_iff.1 (by omega)
    replace hsame := hide hsame
    replace h0 := hide h0
    clear r1 r2
    go_wp2
    go_ret
    exact ⟨rfl, unhide hb⟩
  · have hgood : fs.length ≤ 20000 ∧ ∀ m, m < fs.length → okF (fs.getD m (0, 0)) := by
      rcases packF_nil_or fs with ⟨h, _⟩ | h
      · rw [h] at h0; exact absurd rfl h0
      · exact h
    obtain ⟨g1, c1, rfl, hO1⟩ : ∃ g1 c1, v1 = .slice (some ⟨g1, 0, none⟩) (packF false fs).length c1 ∧ OwnB w7 g1 (ints (packF false fs)) := by
      rcases res_cases (unhide r1).1 with ⟨g1, c1, e, _, ho⟩ | ⟨e1, e⟩
      · exact ⟨g1, c1, e, ho⟩
      · rw [e1] at h0; exact absurd rfl h0
    obtain ⟨g2, c2, rfl, hO2⟩ : ∃ g2 c2, v2 = .slice (some ⟨g2, 0, none⟩) (packF true fs).length c2 ∧ OwnB w7 g2 (ints (packF true fs)) := by
      rcases res_cases (unhide r2).1 with ⟨g1, c1, e, _, ho⟩ | ⟨e1, e⟩
      · exact ⟨g1, c1, e, ho⟩
      · rw [e1] at hsame; exact absurd hsame h0
    have q1 : (((packF false fs).length : Int) == 0) = false := by
      rw [beq_eq_false_iff_ne]; omega
    have hi1 := hide (inB_ints (packF_inv false fs hgood.1 hgood.2))
    have hi2 := hide (inB_ints (packF_inv true fs hgood.1 hgood.2))
    have hby := hide (packF_bytes false fs hgood.1 hgood.2)
    have hpl := hide (packTo_inv false fs fs.length (Nat.le_refl _) hgood.2).2
    have hbl := hide (back_low fs)
    have hbh := hide (back_high fs)
    replace hgood := hide hgood
    replace hO1 := hide hO1
    replace hO2 := hide hO2
    replace hsame := hide hsame
    replace h0 := hide h0
    clear r1 r2
    go_wp2
    go_loopw [6, 41] (fun a i wr => ∃ k : Nat, k ≤ fs.length ∧ a = .int .i64 ((packTo false fs k).2 : Nat) ∧ i = .int .i64 k ∧ Hid (Below w7.heap.size w7 wr)) (fun _ i _ => fs.length - (intOf i).toNat)
    case atStart => exact ⟨0, Nat.zero_le _, rfl, rfl, Below.refl _ _⟩
    case round =>
      obtain ⟨k, hk, rfl, rfl, hbel⟩ := hrel
      by_cases hlt : k < fs.length
      · have hOf := (unhide hO).below (unhide hbel)
        obtain ⟨d0, d1⟩ := hOf.2 k hlt
        rw [Nat.zero_add] at d0 d1
        have hIk := unhide hI k
        have hok := (unhide hgood).2 k hlt
        have hB1 := unhide hbl k hlt (unhide hgood).1 (unhide hgood).2
        have hB2 := unhide hbh k hlt (unhide hgood).1 (unhide hgood).2
        have hbit := (packTo_bit false fs k fs.length hlt (Nat.le_refl _) (unhide hgood).2).1
        have hnext : (packTo false fs (k + 1)).2 = (packTo false fs k).2 + (fs.getD k (0, 0)).1.toNat := by rw [packTo_succ false fs k hlt]; rfl
        rw [packTo_place true false fs k hk] at hB2
        generalize fs.getD k (0, 0) = f at d0 d1 hIk hok hB1 hB2 hbit hnext
        obtain ⟨n, u⟩ := f
        simp only at d0 d1 hIk hB1 hB2 hbit hnext
        obtain ⟨N, rfl⟩ := Int.eq_ofNat_of_zero_le hok.1
        obtain ⟨V, rfl⟩ := Int.eq_ofNat_of_zero_le hIk.2.1
        have hN : N ≤ 64 := by have := hok.2; simp only at this; omega
        have hV : V < 18446744073709551616 := by omega
        simp only [Int.toNat_natCast] at hB1 hB2 hbit hnext
        have hP := unhide hpl
        have hby' := unhide hby
        have hsm := unhide hsame
        generalize (packTo false fs k).2 = P at hB1 hB2 hbit hnext ⊢
        have hP2 : P + N ≤ 8 * (packF false fs).length := by omega
        have hP3 : P + N ≤ 8388608 := by have := unhide hL1; omega
        have hal := (Below.refl wr.heap.size wr).alloc (Nat.le_refl _) (.cells #[.int .i64 N, .int .u64 V] 29)
        have c0 : (wr.alloc (.cells #[.int .i64 N, .int .u64 V] 29)).cell? ⟨wr.heap.size, 0, none⟩ = some (.int .i64 N) := by rw [World.cell?_alloc_at _ _ _ _ rfl]; rfl
        have hsz : wr.heap.size < (wr.alloc (.cells #[.int .i64 N, .int .u64 V] 29)).heap.size := by simp
        have ho1 := ((unhide hO1).below (unhide hbel)).below hal
        have ho2 := ((unhide hO2).below (unhide hbel)).below hal
        have hT1 := implTakeLow g1 c1 (ints (packF false fs)) (P : Nat) (N : Nat) _ (unhide hi1) ho1 (by rw [ints_len]; exact unhide hL1)
        rw [tk_good lowTo _ P N hN (by rw [ints_len]; exact hP2), hB1, ints_len] at hT1
        have hT2 := hide (fun W (ho : OwnB W g2 (ints (packF true fs))) => implTakeHigh g2 c2 (ints (packF true fs)) (P : Nat) (N : Nat) W (unhide hi2) ho (by rw [ints_len]; exact unhide hL2))
        rw [tk_good highTo _ P N hN (by rw [ints_len]; omega), hB2, ints_len] at hT2
        have hmask : N ≤ 63 → bits .and .u64 (V : Int) (IntKind.u64.wrap (IntKind.u64.wrap (2 ^ N) - 1)) = ((V % 2 ^ N : Nat) : Int) := fun h => mask_bits V N hV h
        have hfull : N = 64 → V % 2 ^ N = V := fun h => by subst h; exact Nat.mod_eq_of_lt hV
        have hbel1 := hide ((unhide hbel).trans (hal.mono (unhide hbel).size))
        simp only [numV, Int.natCast_add] at hT1 hT2
        replace hP2 := hide hP2
        replace hT1 := hide hT1
        replace ho2 := hide ho2
        clear hok hIk hB1 hB2 hbit hOf hP hby' hsm ho1 hal hbel
        generalize hMe : V % 2 ^ N = M at hT1 hT2 hmask hfull
        replace hMe := hide hMe
        by_cases hN63 : N < 64
        · have q3 : decide ((N : Int) < 64) = true := by simp; omega
          have hmk := hide (hmask (by omega))
          clear hmask hfull
          go_wp2_with fail
          rw [unhide hmk]
          refine (unhide hT1).mono ?_
          rintro e w8 ⟨rfl, hb8⟩
          have e0 := (hb8.cell (p := ⟨wr.heap.size, 0, none⟩) (by simp)).trans c0
          have hs8 := Nat.lt_of_lt_of_le hsz hb8.size
          have hal2 := (Below.refl w8.heap.size w8).alloc (Nat.le_refl _) (.cells #[.bool true, .int .u64 M, .int .i64 ((P : Int) + (N : Int))] 32)
          have ho3 := ((unhide ho2).below hb8).below hal2
          have a0 : (w8.alloc (.cells #[.bool true, .int .u64 M, .int .i64 ((P : Int) + (N : Int))] 32)).cell? ⟨w8.heap.size, 0, none⟩ = some (.bool true) := by rw [World.cell?_alloc_at _ _ _ _ rfl]; rfl
          have a1 : (w8.alloc (.cells #[.bool true, .int .u64 M, .int .i64 ((P : Int) + (N : Int))] 32)).cell? ⟨w8.heap.size, 1, none⟩ = some (.int .u64 M) := by rw [World.cell?_alloc_at _ _ _ _ rfl]; rfl
          have a2 : (w8.alloc (.cells #[.bool true, .int .u64 M, .int .i64 ((P : Int) + (N : Int))] 32)).cell? ⟨w8.heap.size, 2, none⟩ = some (.int .i64 ((P : Int) + (N : Int))) := by rw [World.cell?_alloc_at _ _ _ _ rfl]; rfl
          have e1 := (hal2.cell (p := ⟨wr.heap.size, 0, none⟩) (by simpa using hs8)).trans e0
          have hs9 : wr.heap.size < (w8.alloc (.cells #[.bool true, .int .u64 M, .int .i64 ((P : Int) + (N : Int))] 32)).heap.size := by simp; omega
          have hs9' : w8.heap.size < (w8.alloc (.cells #[.bool true, .int .u64 M, .int .i64 ((P : Int) + (N : Int))] 32)).heap.size := by simp
          have hbel2 := hide ((unhide hbel1).trans ((hb8.trans (hal2.mono hb8.size)).mono (Nat.le_trans (unhide hbel1).size (Nat.le_refl _))))
          have hcall := hide (unhide hT2 _ ho3)
          clear hT1 hT2 ho2 ho3 hb8 hal2 hbel1 c0
          go_wp2_with fail
          generalize w8.alloc (.cells #[.bool true, .int .u64 M, .int .i64 ((P : Int) + (N : Int))] 32) = w9 at a0 a1 a2 e1 hs9 hs9' hbel2 hcall ⊢
          refine (unhide hcall).mono ?_
          rintro e w10 ⟨rfl, hb10⟩
          have b0 := (hb10.cell (p := ⟨w8.heap.size, 0, none⟩) (by simpa using hs9')).trans a0
          have b1 := (hb10.cell (p := ⟨w8.heap.size, 1, none⟩) (by simpa using hs9')).trans a1
          have b2 := (hb10.cell (p := ⟨w8.heap.size, 2, none⟩) (by simpa using hs9')).trans a2
          have b3 := (hb10.cell (p := ⟨wr.heap.size, 0, none⟩) (by simpa using hs9)).trans e1
          have hs10 := Nat.lt_of_lt_of_le hs9 hb10.size
          have hs10' := Nat.lt_of_lt_of_le hs9' hb10.size
          have hbel3 := hide (((unhide hbel2).trans (hb10.mono (unhide hbel2).size)).alloc (Nat.le_trans (unhide hbel2).size hb10.size) (.cells #[.bool true, .int .u64 M, .int .i64 ((P : Int) + (N : Int))] 32))
          clear a0 a1 a2 e0 e1 hb10 hcall hbel2
          go_wp2
          go_roundw
          case rel => exact ⟨k + 1, by omega, by rw [hnext]; go_num, by go_num, hbel3⟩
          case measure => simp [intOf]; omega
        · have q3 : decide ((N : Int) < 64) = false := by simp; omega
          have hmk := hide (hfull (by omega))
          clear hmask hfull
          go_wp2_with fail
          obtain rfl := unhide hmk
          refine (unhide hT1).mono ?_
          rintro e w8 ⟨rfl, hb8⟩
          have e0 := (hb8.cell (p := ⟨wr.heap.size, 0, none⟩) (by simp)).trans c0
          have hs8 := Nat.lt_of_lt_of_le hsz hb8.size
          have hal2 := (Below.refl w8.heap.size w8).alloc (Nat.le_refl _) (.cells #[.bool true, .int .u64 M, .int .i64 ((P : Int) + (N : Int))] 32)
          have ho3 := ((unhide ho2).below hb8).below hal2
          have a0 : (w8.alloc (.cells #[.bool true, .int .u64 M, .int .i64 ((P : Int) + (N : Int))] 32)).cell? ⟨w8.heap.size, 0, none⟩ = some (.bool true) := by rw [World.cell?_alloc_at _ _ _ _ rfl]; rfl
          have a1 : (w8.alloc (.cells #[.bool true, .int .u64 M, .int .i64 ((P : Int) + (N : Int))] 32)).cell? ⟨w8.heap.size, 1, none⟩ = some (.int .u64 M) := by rw [World.cell?_alloc_at _ _ _ _ rfl]; rfl
          have a2 : (w8.alloc (.cells #[.bool true, .int .u64 M, .int .i64 ((P : Int) + (N : Int))] 32)).cell? ⟨w8.heap.size, 2, none⟩ = some (.int .i64 ((P : Int) + (N : Int))) := by rw [World.cell?_alloc_at _ _ _ _ rfl]; rfl
          have e1 := (hal2.cell (p := ⟨wr.heap.size, 0, none⟩) (by simpa using hs8)).trans e0
          have hs9 : wr.heap.size < (w8.alloc (.cells #[.bool true, .int .u64 M, .int .i64 ((P : Int) + (N : Int))] 32)).heap.size := by simp; omega
          have hs9' : w8.heap.size < (w8.alloc (.cells #[.bool true, .int .u64 M, .int .i64 ((P : Int) + (N : Int))] 32)).heap.size := by simp
          have hbel2 := hide ((unhide hbel1).trans ((hb8.trans (hal2.mono hb8.size)).mono (Nat.le_trans (unhide hbel1).size (Nat.le_refl _))))
          have hcall := hide (unhide hT2 _ ho3)
          clear hT1 hT2 ho2 ho3 hb8 hal2 hbel1 c0
          go_wp2_with fail
          generalize w8.alloc (.cells #[.bool true, .int .u64 M, .int .i64 ((P : Int) + (N : Int))] 32) = w9 at a0 a1 a2 e1 hs9 hs9' hbel2 hcall ⊢
          refine (unhide hcall).mono ?_
          rintro e w10 ⟨rfl, hb10⟩
          have b0 := (hb10.cell (p := ⟨w8.heap.size, 0, none⟩) (by simpa using hs9')).trans a0
          have b1 := (hb10.cell (p := ⟨w8.heap.size, 1, none⟩) (by simpa using hs9')).trans a1
          have b2 := (hb10.cell (p := ⟨w8.heap.size, 2, none⟩) (by simpa using hs9')).trans a2
          have b3 := (hb10.cell (p := ⟨wr.heap.size, 0, none⟩) (by simpa using hs9)).trans e1
          have hs10 := Nat.lt_of_lt_of_le hs9 hb10.size
          have hs10' := Nat.lt_of_lt_of_le hs9' hb10.size
          have hbel3 := hide (((unhide hbel2).trans (hb10.mono (unhide hbel2).size)).alloc (Nat.le_trans (unhide hbel2).size hb10.size) (.cells #[.bool true, .int .u64 M, .int .i64 ((P : Int) + (N : Int))] 32))
          clear a0 a1 a2 e0 e1 hb10 hcall hbel2
          go_wp2
          go_roundw
          case rel => exact ⟨k + 1, by omega, by rw [hnext]; go_num, by go_num, hbel3⟩
          case measure => simp [intOf]; omega
      · have hkl : k = fs.length := by omega
        subst hkl
        have hpl' := unhide hpl
        have hby' := unhide hby
        have hg2 := (unhide hgood).1
        generalize (packTo false fs fs.length).2 = P at hpl' hby' ⊢
        have hP3 : P ≤ 1280000 := by omega
        have hD2 : (P + 7) / 8 ≤ 1280000 := by omega
        have hT : Int.tdiv ((P : Int) + 7) 8 = (((P + 7) / 8 : Nat) : Int) := by rw [Int.tdiv_eq_ediv_of_nonneg (by omega)]; omega
        have q9 : (((packF false fs).length : Int) == (((P + 7) / 8 : Nat) : Int)) = true := by rw [beq_iff_eq, hby']
        generalize (P + 7) / 8 = D at hD2 hT q9
        clear hby' hpl'
        clear hbl hbh
        go_wp2
        go_ret
        exact ⟨rfl, (unhide hb).trans ((unhide hbel).mono (unhide hb).size)⟩

theorem lawBits (ad : Option Addr) (cap : Nat) (zs : List Int) (w : World) (h : ArgB w ad zs) :
    Calls Try.prog 3 #[.slice ad zs.length cap] w fun e w' => e = .returned (.bool true) ∧ Below w.heap.size w w' := by
  by_cases hl : 1048576 < zs.length
  · exact lawBits_long ad zs.length cap w hl
  · exact lawBits_short ad cap zs w h (by omega)
end Go.Proofs.Ytcmabocmcgkmdaa
