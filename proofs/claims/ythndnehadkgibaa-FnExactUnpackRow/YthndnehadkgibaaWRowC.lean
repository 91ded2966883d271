/- The walks of UnpackRow: the specification's. -/
import Derived.Test.YthndnehadkgibaaPlainI2
import Derived.Test.YthndnehadkgibaaWRowA
import Derived.Test.YthndnehadkgibaaWTake2
import Derived.Test.YthndnehadkgibaaWOwn2
import Derived.Deep.RegionWith
namespace Go.Proofs.Ythndnehadkgibaa
open Go.RowKit

theorem field_num (w : World) (b : Bool) (x p : Int) : (Instr.field 92 (.agg #[.bool b, .int .u64 x, .int .i64 p]) 1).run Try.prog w = .ok (.int .u64 x) w := by kernel_rfl
theorem own_nilIR (w : World) (a b : Nat) : OwnI w a b (.slice none 0 0) [] := ⟨World.ownsRow_nil _ _ _ _, fun k hk => by simp [Value.ownBlock] at hk⟩

set_option maxHeartbeats 4000000 in
set_option maxRecDepth 1000000 in
theorem specL4Unpack (v : Value) (zs : List Int) (M D : Nat) (w : World) (hD : D ≤ 16) (hM : M ≤ 4096) (hi : M * D ≤ 8 * zs.length) (hD1 : 1 ≤ D) (hn : zs.length ≤ 1048576) (hR : InB zs) (hv : RdY w v zs) :
    Calls Try.prog 58 #[v, .int .i64 M, .int .i64 D] w fun e w' => ∃ u, e = .returned u ∧ OwnI w' w.heap.size w'.heap.size u (upL zs D M) ∧ Upd 0 0 w w' := by
  obtain ⟨ad, cap, rfl, hA⟩ := hv
  obtain ⟨i0, hi0, hz0, hz1, hz2⟩ := info_parts infoI
  replace hA := hide hA
  replace hR := hide hR
  go_enter Try.func58, Try.ntmps58
  go_wp2_with (at_make; refine wpList_make_full _ rfl _ _ 29 rfl w.heap.size 3 i0 (.int .i64 0) 1 Try.underlying29 hi0 hz0 hz1 .i64 .i64 _ _ M rfl rfl (by omega) (by omega) (by rw [hz2]; omega) (by unfold maxLen; omega) (Nat.le_refl _) ?_; intro w1 hown hgrow)
  have hbel := (Below.refl w.heap.size w).grown hgrow (Nat.le_refl _) (by simp)
  have hown0 : w1.ownsRow w.heap.size 3 1 (.slice (some ⟨w.heap.size, 0, none⟩) M M) M (partI (upL zs D M) 0) := by
    rw [partI_zero, upL_length]; simpa [toList_madeCells_one, Value.cells] using hown
  clear hown hgrow
  go_loopw [13] (fun i wr => ∃ k : Nat, k ≤ M ∧ i = .int .i64 k ∧ wr.ownsRow w.heap.size 3 1 (.slice (some ⟨w.heap.size, 0, none⟩) M M) M (partI (upL zs D M) k) ∧ Below w.heap.size w wr) (fun i _ => M - (intOf i).toNat)
  case atStart => exact ⟨0, Nat.zero_le _, rfl, hown0, hbel⟩
  case round =>
    clear hown0 hbel
    obtain ⟨k, hk, rfl, hown, hbel⟩ := hrel
    by_cases hlt : k < M
    · have hm1 : k * D + D ≤ M * D := by
        have := Nat.mul_le_mul_right D (show k + 1 ≤ M by omega); rw [Nat.succ_mul] at this; exact this
      have hne : zs ≠ [] := by rintro rfl; simp at hi; omega
      obtain ⟨b, off, rfl, hbl, hc⟩ := (unhide hA) hne
      have hps := partI_set (upL zs D M) k (by simpa using hlt)
      rw [upL_at zs D M k hlt] at hps
      have h16 := high16 zs (k * D) D hD
      have hkd : ((k : Int) * (D : Int)) = ((k * D : Nat) : Int) := by simp
      have hkb : k * D ≤ 8388608 := by omega
      have hT := hide (specTakeHighIn b off zs.length cap zs (k * D) D wr rfl (unhide hR) (fun j hj => (hbel.cell (by simpa using hbl)).trans (hc j hj)) hn (Nat.lt_of_lt_of_le hbl hbel.size) (by omega) (by omega))
      generalize highTo zs (k * D) D = x at hps h16 hT
      generalize k * D = p at hkd hkb hT
      clear hm1 hc
      replace hps := hide hps
      replace hown := hide hown
      go_wp2_with fail
      refine (unhide hT).mono ?_
      rintro e w2 ⟨rfl, hb2⟩
      have hown2 := ownsP_below (unhide hown) hb2
      have hbel2 := hbel.trans (hb2.mono hbel.size)
      clear hT hb2 hown hbel
      have hdst : ∃ u, w2.cell? ⟨w.heap.size, k, none⟩ = some u := by
        rw [hown2.cellAt k (by omega)]; exact ⟨_, List.getElem?_eq_getElem (by have := hown2.1; omega)⟩
      obtain ⟨u, hdst⟩ := hdst
      have hfz := hown2.frozenAt k
      have hst := (hown2.stored k (.int .i64 x)).1
      rw [unhide hps] at hst
      have hb3 := hide (hbel2.setCell (p := ⟨w.heap.size, k, none⟩) (Nat.le_refl _) (.int .i64 x))
      replace hst := hide hst
      clear hown2 hbel2 hkd
      have hfl := field_num w2
      go_wp2
      go_roundw
      case rel => exact ⟨k + 1, by omega, by go_num, unhide hst, unhide hb3⟩
      case measure => simp [intOf]; omega
    · have hkl : k = M := by omega
      subst hkl
      have hpa := partI_all (upL zs D k)
      rw [upL_length] at hpa
      rw [hpa] at hown
      have ho : OwnI wr w.heap.size wr.heap.size (.slice (some ⟨w.heap.size, 0, none⟩) k k) (upL zs D k) := by
        unfold OwnI; rw [upL_length]; exact Own.of hown
      replace ho := hide ho
      clear hown hpa
      go_wp2
      go_ret
      exact ⟨_, rfl, unhide ho, Upd.of_below hbel 0 0⟩

set_option maxHeartbeats 4000000 in
set_option maxRecDepth 1000000 in
theorem specUnpackRow (v : Value) (zs : List Int) (m d : Int) (w : World) (hn : zs.length ≤ 1048576) (hR : InB zs) (hv : RdY w v zs) (_hl : -9223372036854775808 ≤ m) (_hh : m ≤ 9223372036854775807) (_hl2 : -9223372036854775808 ≤ d) (_hh2 : d ≤ 9223372036854775807) :
    Calls Try.prog 34 #[v, .int .i64 m, .int .i64 d] w fun e w' => ∃ u, e = .returned u ∧ OwnI w' w.heap.size w'.heap.size u (upF zs m d) ∧ Upd 0 0 w w' := by
  have hK := hide (specL4Depth d w)
  have hv0 := hide hv
  obtain ⟨ad, cap, rfl, hA⟩ := hv
  clear hA
  replace hR := hide hR
  by_cases hk : depthOk d = true
  · rw [hk] at hK
    by_cases hm : 0 ≤ m ∧ m ≤ 4096
    · obtain ⟨D, rfl, hD1, hD⟩ := depthOk_nat hk
      obtain ⟨M, rfl⟩ := Int.eq_ofNat_of_zero_le hm.1
      have hM : M ≤ 4096 := by omega
      have hMD : M * D ≤ 65536 := Nat.le_trans (Nat.mul_le_mul hM hD) (by omega)
      have hkd : ((M : Int) * (D : Int)) = ((M * D : Nat) : Int) := by simp
      by_cases hi : M * D ≤ 8 * zs.length
      · have hU := hide (specL4Unpack _ zs M D w hD hM hi hD1 hn (unhide hR) (unhide hv0))
        have hE := hide (upF_yes (zs := zs) (M := M) (D := D) ⟨hk, by omega, by omega, by omega⟩)
        generalize M * D = p at hkd hMD hi
        replace hk := hide hk
        clear hm
        go_enter Try.func34, Try.ntmps34
        go_wp2_with fail
        refine (unhide hK).mono ?_
        rintro e w1 ⟨rfl, rfl⟩
        clear hK
        go_wp2_with fail
        refine (unhide hU).mono ?_
        rintro e w2 ⟨u, rfl, ho, hu⟩
        rw [← unhide hE] at ho
        replace ho := hide ho
        clear hU hE
        go_wp2
        go_ret
        exact ⟨_, rfl, unhide ho, hu⟩
      · have hE := hide (upF_no (zs := zs) (m := M) (d := D) (fun h => by have := h.2.2.2; omega))
        generalize M * D = p at hkd hMD hi
        replace hk := hide hk
        clear hm
        go_enter Try.func34, Try.ntmps34
        go_wp2_with fail
        refine (unhide hK).mono ?_
        rintro e w1 ⟨rfl, rfl⟩
        clear hK
        go_wp2
        go_ret
        refine ⟨_, rfl, ?_, Upd.refl _ _ _⟩
        rw [unhide hE]; exact own_nilIR _ _ _
    · have hE := hide (upF_no (zs := zs) (m := m) (d := d) (fun h => hm ⟨h.2.1, h.2.2.1⟩))
      replace hk := hide hk
      by_cases h0 : m < 0
      · clear hm
        go_enter Try.func34, Try.ntmps34
        go_wp2_with fail
        refine (unhide hK).mono ?_
        rintro e w1 ⟨rfl, rfl⟩
        clear hK
        go_wp2
        go_ret
        refine ⟨_, rfl, ?_, Upd.refl _ _ _⟩
        rw [unhide hE]; exact own_nilIR _ _ _
      · have h1 : 4096 < m := by omega
        clear hm
        go_enter Try.func34, Try.ntmps34
        go_wp2_with fail
        refine (unhide hK).mono ?_
        rintro e w1 ⟨rfl, rfl⟩
        clear hK
        go_wp2
        go_ret
        refine ⟨_, rfl, ?_, Upd.refl _ _ _⟩
        rw [unhide hE]; exact own_nilIR _ _ _
  · have hk' : depthOk d = false := by simpa using hk
    rw [hk'] at hK
    have hE := hide (upF_no (zs := zs) (m := m) (d := d) (fun h => hk h.1))
    replace hk := hide hk
    replace hk' := hide hk'
    go_enter Try.func34, Try.ntmps34
    go_wp2_with fail
    refine (unhide hK).mono ?_
    rintro e w1 ⟨rfl, rfl⟩
    clear hK
    go_wp2
    go_ret
    refine ⟨_, rfl, ?_, Upd.refl _ _ _⟩
    rw [unhide hE]; exact own_nilIR _ _ _
end Go.Proofs.Ythndnehadkgibaa
