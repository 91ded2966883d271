/- MakeChunk, as the program has it. -/
import Derived.Test.YthpkngipiapbpaaWChA
import Derived.Test.YthpkngipiapbpaaWConc2
import Derived.Test.YthpkngipiapbpaaWPackW
import Derived.Test.YthpkngipiapbpaaWPutD
import Derived.Test.YthpkngipiapbpaaWSums2
namespace Go.Proofs.Ythpkngipiapbpaa
open Go.RowKit

set_option maxHeartbeats 2000000 in
theorem implBytesOf (n : Nat) (w : World) (hn : n < 4294967296) :
    Calls Try.prog 20 #[.int .i64 n, .int .i64 4] w fun e w' => ∃ v, e = .returned v ∧ w'.ownsRow w.heap.size 5 1 v 4 (vals (four n)) ∧ Below w.heap.size w w' := by
  have hpk := packF_four n
  have hI : InF [(32, (n : Int))] := by
    intro j
    cases j with
    | zero => simp; omega
    | succ j => simp
  have hO : OwnF (w.alloc (.cells #[.int .i64 32, .int .u64 (n : Int)] 48)) w.heap.size [(32, (n : Int))] := by
    refine ⟨by simp, fun j hj => ?_⟩
    have : j = 0 := by simpa using hj
    subst this
    constructor
    · rw [World.cell?_alloc_at _ _ _ _ rfl]; rfl
    · rw [World.cell?_alloc_at _ _ _ _ rfl]; rfl
  have hP := hide (implPackHigh (fun zs L v n c w => implPutT zs L v n c w) w.heap.size 1 [(32, (n : Int))] _ hI hO)
  rw [hpk] at hP
  have hb := hide ((Below.refl w.heap.size w).alloc (Nat.le_refl _) (.cells #[.int .i64 32, .int .u64 (n : Int)] 48))
  clear hpk hI hO
  go_enter Try.func20, Try.ntmps20
  go_wp2_with fail
  refine (unhide hP).mono ?_
  rintro e w1 ⟨v, rfl, ho, hb1⟩
  replace ho := hide (ownsRow_base ho (show w.heap.size ≤ _ by simp))
  replace hb := hide ((unhide hb).trans (hb1.mono (by simp)))
  clear hP hb1
  go_wp2
  go_ret
  exact ⟨_, rfl, unhide ho, unhide hb⟩

set_option maxHeartbeats 4000000 in
theorem implMakeChunk (s : ByteArray) (u : Value) (zs : List Int) (w : World) (hs : s.size ≤ 1048576) (hn : zs.length ≤ 1048576) (hB : InB zs) (hr : RdN w u zs) :
    Calls Try.prog 7 #[.agg #[.string s, u]] w fun e w' => ∃ v, e = .returned v ∧ OwnY w' w.heap.size w'.heap.size v (chunkF s zs) ∧ Upd 0 0 w w' := by
  have hN := hide (fun W => implGoodName s W hs)
  obtain ⟨ad, cap, rfl⟩ := hr.form
  have hb1 := (Below.refl w.heap.size w).alloc (Nat.le_refl _) (.cells #[.string s, .slice ad zs.length cap] 27)
  have hh1 := hide (held_new w [.string s, .slice ad zs.length cap] 27)
  by_cases hok : nameOk s
  · by_cases h6 : zs.length ≤ 60000
    · rw [nameB_yes hok] at hN
      have h4 : s.size = 4 := hok.1
      replace hr := hide hr
      replace hB := hide hB
      replace hok := hide hok
      go_enter Try.func7, Try.ntmps7
      go_wp2_with fail
      refine (unhide hN _).mono ?_
      rintro e w1 ⟨rfl, rfl⟩
      clear hN
      have hsz : (w.alloc (.cells #[.string s, .slice ad zs.length cap] 27)).heap.size = w.heap.size + 1 := by simp
      change Hid (Held (w.alloc (.cells #[.string s, .slice ad zs.length cap] 27)) _ _) at hh1
      generalize w.alloc (.cells #[.string s, .slice ad zs.length cap] 27) = w1 at hb1 hh1 hsz ⊢
      have c0 := (unhide hh1).2 0 _ rfl
      have c1 := (unhide hh1).2 1 _ rfl
      obtain ⟨cp2, w2, hrun, hr2, hu2, hlt2⟩ := bytesOfStr s w1
      have hb2 := hide (below_upd hb1 hu2 (Nat.le_refl _) (.inr (Nat.le_refl _)))
      replace hh1 := hide ((unhide hh1).keep hu2)
      have hs2 : w.heap.size + 2 ≤ w2.heap.size := by omega
      replace hr2 := hide hr2
      have d0 := (unhide hh1).2 0 _ rfl
      have d1 := (unhide hh1).2 1 _ rfl
      have hls : Hid ((strB s).length = 4) := hide (by rw [strB_length, h4])
      clear hb1 hu2
      rw [hsz] at hr2
      rw [h4] at hr2
      have hrz := hide ((unhide hr).below (unhide hb2))
      go_wp2_with fail
      refine (concat2 _ _ (strB s) zs w2 _ (by have := unhide hls; omega) (unhide hr2) (unhide hrz)).mono ?_
      rintro e w3 ⟨v3, rfl, ho3, hu3⟩
      have hb3 := hide (below_upd (unhide hb2) hu3 (Nat.le_refl _) (.inr (Nat.le_refl _)))
      replace hh1 := hide ((unhide hh1).keep hu3)
      have hs3 : w2.heap.size ≤ w3.heap.size := hu3.size
      obtain ⟨bz, hbz⟩ : ∃ bz, strB s ++ zs = bz := ⟨_, rfl⟩
      rw [hbz] at ho3
      have hlen3 : Hid (bz.length = 4 + zs.length) := hide (by rw [← hbz, List.length_append, strB_length, h4])
      have hBz : Hid (InB bz) := hide (by rw [← hbz]; exact inB_append (inB_strB s) (unhide hB))
      replace hbz := hide hbz
      obtain ⟨ad3, cap3, rfl⟩ := (rdN_of_own ho3).form
      have hO3 := hide ho3
      clear ho3 hrun c0 c1 d0 d1 hr2 hrz hb2 hu3 hlt2
      have d0 := (unhide hh1).2 0 _ rfl
      have d1 := (unhide hh1).2 1 _ rfl
      go_wp2_with fail
      refine (implBytesOf zs.length w3 (by omega)).mono ?_
      rintro e w4 ⟨v4, rfl, ho4, hbl4⟩
      have hu4 := Upd.of_below hbl4 0 0
      have hb4 := hide (below_upd (unhide hb3) hu4 (Nat.le_refl _) (.inr (Nat.le_refl _)))
      replace hO3 := hide ((unhide hO3).keep hu4)
      replace hh1 := hide ((unhide hh1).keep hu4)
      have hs4 : w3.heap.size ≤ w4.heap.size := hu4.size
      obtain ⟨fz, hfz⟩ : ∃ fz, (four zs.length).map (fun n : Nat => (n : Int)) = fz := ⟨_, rfl⟩
      have hlf : Hid (fz.length = 4) := hide (by rw [← hfz]; rfl)
      have ho4' : w4.ownsRow w3.heap.size 5 1 v4 fz.length (byts fz) := by rw [← hfz, byts_nats]; exact ho4
      obtain ⟨ad4, cap4, rfl⟩ := (rdN_of_owns ho4').form
      replace hfz := hide hfz
      replace ho4 := hide (Own.of ho4')
      clear hu4 hbl4 ho4' d0 d1 hb3 hh1 hr
      obtain ⟨cn, hcn, hcl⟩ := crcF_nat bz
      go_wp2_with fail
      refine (implCrcArg ad3 cap3 bz w4 ((rdN_of_own (unhide hO3)).argB (unhide hBz)) (by have := unhide hlen3; omega)).mono ?_
      rintro e w6 ⟨rfl, hbl6⟩
      rw [hcn]
      have hu6 := Upd.of_below hbl6 0 0
      have hb6 := hide (below_upd (unhide hb4) hu6 (Nat.le_refl _) (.inr (Nat.le_refl _)))
      have hs6 : w4.heap.size ≤ w6.heap.size := hu6.size
      replace ho4 := hide ((unhide ho4).keep hu6)
      replace hO3 := hide ((unhide hO3).keep hu6)
      replace hcn := hide hcn
      clear hu6 hbl6 hb4
      go_wp2_with fail
      refine (implBytesOf cn w6 hcl).mono ?_
      rintro e w7 ⟨v7, rfl, ho7, hbl7⟩
      have hu7 := Upd.of_below hbl7 0 0
      have hb7 := hide (below_upd (unhide hb6) hu7 (Nat.le_refl _) (.inr (Nat.le_refl _)))
      have hs7 : w6.heap.size ≤ w7.heap.size := hu7.size
      replace ho4 := hide ((unhide ho4).keep hu7)
      replace hO3 := hide ((unhide hO3).keep hu7)
      obtain ⟨kz, hkz⟩ : ∃ kz, (four cn).map (fun n : Nat => (n : Int)) = kz := ⟨_, rfl⟩
      have hlk : Hid (kz.length = 4) := hide (by rw [← hkz]; rfl)
      have ho7' : w7.ownsRow w6.heap.size 5 1 v7 kz.length (byts kz) := by rw [← hkz, byts_nats]; exact ho7
      obtain ⟨ad7, cap7, rfl⟩ := (rdN_of_owns ho7').form
      replace hkz := hide hkz
      replace ho7 := hide ho7'
      clear hu7 hbl7 ho7' hb6
      go_wp2_with fail
      refine (concat3 _ _ _ fz bz kz w7 _ (by have := unhide hlf; have := unhide hlk; have := unhide hlen3; omega) (rdN_of_own (unhide ho4)) (rdN_of_own (unhide hO3)) (rdN_of_owns (unhide ho7))).mono ?_
      rintro e w8 ⟨v8, rfl, ho8, hu8⟩
      have hb8 := hide (below_upd (unhide hb7) hu8 (Nat.le_refl _) (.inr (Nat.le_refl _)))
      have hE : chunkF s zs = fz ++ bz ++ kz := by rw [chunkF_yes (unhide hok) h6 cn (by rw [unhide hbz]; exact unhide hcn), unhide hfz, unhide hbz, unhide hkz]
      rw [← hE] at ho8
      have ho9 := hide (own_mono ho8 (by omega : w.heap.size ≤ w7.heap.size) (Nat.le_refl _))
      clear ho8 hE hu8
      go_wp2_with fail
      go_ret
      exact ⟨_, rfl, unhide ho9, Upd.of_below (unhide hb8) 0 0⟩
    · have hE := hide (chunkF_long (s := s) h6)
      rw [nameB_yes hok] at hN
      have h7 : 60000 < zs.length := by omega
      replace hok := hide hok
      clear hh1 hr hB
      replace hb1 := hide hb1
      go_enter Try.func7, Try.ntmps7
      go_wp2_with fail
      refine (unhide hN _).mono ?_
      rintro e w1 ⟨rfl, rfl⟩
      clear hN
      go_wp2
      go_ret
      exact ⟨_, rfl, by rw [unhide hE]; exact own_nilY _ _ _, Upd.of_below (unhide hb1) 0 0⟩
  · have hE := hide (chunkF_name (zs := zs) hok)
    rw [nameB_no hok] at hN
    replace hok := hide hok
    clear hh1 hr hB
    replace hb1 := hide hb1
    go_enter Try.func7, Try.ntmps7
    go_wp2_with fail
    refine (unhide hN _).mono ?_
    rintro e w1 ⟨rfl, rfl⟩
    clear hN
    go_wp2
    go_ret
    exact ⟨_, rfl, by rw [unhide hE]; exact own_nilY _ _ _, Upd.of_below (unhide hb1) 0 0⟩
end Go.Proofs.Ythpkngipiapbpaa
