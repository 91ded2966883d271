/- MakeChunk, as the specification has it. -/
import Derived.Test.YthpkngipiapbpaaWChB
import Derived.Test.YthpkngipiapbpaaWApp
import Derived.Test.YthpkngipiapbpaaWSums2
import Derived.Deep.RegionWith
namespace Go.Proofs.Ythpkngipiapbpaa
open Go.RowKit

set_option maxHeartbeats 4000000 in
theorem specMakeChunk (s : ByteArray) (u : Value) (zs : List Int) (w : World) (hs : s.size ≤ 1048576) (hn : zs.length ≤ 1048576) (hB : InB zs) (hr : RdN w u zs) :
    Calls Try.prog 5 #[.agg #[.string s, u]] w fun e w' => ∃ v, e = .returned v ∧ OwnY w' w.heap.size w'.heap.size v (chunkF s zs) ∧ Upd 0 0 w w' := by
  have hN := hide (fun W => specL5Name s W hs)
  obtain ⟨ad, cap, rfl⟩ := hr.form
  have hb1 := (Below.refl w.heap.size w).alloc (Nat.le_refl _) (.cells #[.string s, .slice ad zs.length cap] 27)
  have hh1 := hide (held_new w [.string s, .slice ad zs.length cap] 27)
  by_cases hok : nameOk s
  · by_cases h6 : zs.length ≤ 60000
    · rw [nameB_yes hok] at hN
      obtain ⟨i0, hi0, hz0, hz1, hz2⟩ := info_parts infoB
      have h4 : s.size = 4 := hok.1
      replace hr := hide hr
      replace hB := hide hB
      replace hok := hide hok
      go_enter Try.func5, Try.ntmps5
      go_wp2_with fail
      refine (unhide hN _).mono ?_
      rintro e w1 ⟨rfl, rfl⟩
      clear hN
      have hsz : (w.alloc (.cells #[.string s, .slice ad zs.length cap] 27)).heap.size = w.heap.size + 1 := by simp
      change Hid (Held (w.alloc (.cells #[.string s, .slice ad zs.length cap] 27)) _ _) at hh1
      generalize w.alloc (.cells #[.string s, .slice ad zs.length cap] 27) = w1 at hb1 hh1 hsz ⊢
      have c0 := (unhide hh1).2 0 _ rfl
      have c1 := (unhide hh1).2 1 _ rfl
      go_wp2_with (at_builtin; go_loud (refine wpList_appS rfl (.tmp 15) (.tmp 17) rfl (w.heap.size + 1) (.slice none 0 0) [] rfl (World.ownsRow_nil _ _ _ _) s rfl (by simp; omega) (by omega) ?_))
      intro v2 w2 ho2 hg2
      have hu2 := upd_of_grown hg2 (World.ownsRow_nil w1 (w.heap.size + 1) 5 1)
      have hb2 := hide (below_upd hb1 hu2 (Nat.le_refl _) (.inl (by omega)))
      replace hh1 := hide ((unhide hh1).upd hu2 (.inl (Nat.le_refl _)))
      have hs2 : w.heap.size + 1 ≤ w2.heap.size := by have := hu2.size; omega
      clear hg2 hu2 hb1 c0 c1 hsz
      have c0 := (unhide hh1).2 0 _ rfl
      have c1 := (unhide hh1).2 1 _ rfl
      have hrz := hide ((unhide hr).below (unhide hb2))
      replace ho2 := hide ho2
      go_wp2_with (at_builtin; go_loud (refine wpList_appY rfl (.tmp 19) (.tmp 21) rfl (w.heap.size + 1) _ (strB s) rfl (unhide ho2) _ zs rfl (unhide hrz) (by rw [strB_length]; omega) (by omega) ?_))
      intro v3 w3 ho3 hg3 _
      have hu3 := upd_of_grown hg3 (unhide ho2)
      have hb3 := hide (below_upd (unhide hb2) hu3 (Nat.le_refl _) (.inl (by omega)))
      replace hh1 := hide ((unhide hh1).upd hu3 (.inl (Nat.le_refl _)))
      have hs3 : w.heap.size + 1 ≤ w3.heap.size := by have := hu3.size; omega
      clear hg3 hu3 hb2 c0 c1 hs2 hrz ho2
      have c0 := (unhide hh1).2 0 _ rfl
      have c1 := (unhide hh1).2 1 _ rfl
      have ho3' : w3.ownsRow (w.heap.size + 1) 5 1 v3 (strB s ++ zs).length (byts (strB s ++ zs)) := by rw [List.length_append]; exact ho3
      obtain ⟨bz, hbz⟩ : ∃ bz, strB s ++ zs = bz := ⟨_, rfl⟩
      rw [hbz] at ho3'
      have hlen3 : Hid (bz.length = 4 + zs.length) := hide (by rw [← hbz, List.length_append, strB_length, h4])
      have hBz : Hid (InB bz) := hide (by rw [← hbz]; exact inB_append (inB_strB s) (unhide hB))
      replace hbz := hide hbz
      obtain ⟨ad3, cap3, rfl⟩ := (rdN_of_owns ho3').form
      have hO3 := hide (Own.of ho3')
      clear ho3 ho3'
      go_wp2_with fail
      refine (specL3Four zs.length w3 (by omega)).mono ?_
      rintro e w4 ⟨v4, rfl, ho4, hbl4⟩
      have hu4 := Upd.of_below hbl4 0 0
      have hb4 := hide (below_upd (unhide hb3) hu4 (Nat.le_refl _) (.inr (Nat.le_refl _)))
      replace hO3 := hide ((unhide hO3).keep hu4)
      have hs4 : w3.heap.size ≤ w4.heap.size := hu4.size
      obtain ⟨fz, hfz⟩ : ∃ fz, (four zs.length).map (fun n : Nat => (n : Int)) = fz := ⟨_, rfl⟩
      have hlf : Hid (fz.length = 4) := hide (by rw [← hfz]; rfl)
      have ho4' : w4.ownsRow w3.heap.size 5 1 v4 fz.length (byts fz) := by rw [← hfz, byts_nats]; exact ho4
      replace hfz := hide hfz
      replace ho4 := hide ho4'
      clear hu4 hbl4 ho4' c0 c1 hb3 hh1 hr
      go_wp2_with (at_builtin; go_loud (refine wpList_appY rfl (.tmp 28) (.tmp 29) rfl w3.heap.size _ _ rfl (unhide ho4) _ _ rfl (rdN_of_own (unhide hO3)) (by have := unhide hlen3; have := unhide hlf; omega) (by omega) ?_))
      intro v5 w5 ho5 hg5 _
      have hu5 := upd_of_grown hg5 (unhide ho4)
      have hb5 := hide (below_upd (unhide hb4) hu5 (Nat.le_refl _) (.inl (by omega)))
      replace hO3 := hide ((unhide hO3).upd hu5 (.inl (Nat.le_refl _)))
      have hs5 : w4.heap.size ≤ w5.heap.size := hu5.size
      replace ho5 := hide ho5
      clear hg5 hu5 hb4 ho4
      have ho5' : w5.ownsRow w3.heap.size 5 1 v5 (fz ++ bz).length (byts (fz ++ bz)) := by rw [List.length_append]; exact unhide ho5
      obtain ⟨gz, hgz⟩ : ∃ gz, fz ++ bz = gz := ⟨_, rfl⟩
      rw [hgz] at ho5'
      have hlg : Hid (gz.length = 8 + zs.length) := hide (by rw [← hgz, List.length_append]; have := unhide hlf; have := unhide hlen3; omega)
      replace hgz := hide hgz
      replace ho5 := hide ho5'
      clear ho5'
      obtain ⟨cn, hcn, hcl⟩ := crcF_nat bz
      go_wp2_with fail
      refine (specCrcArg ad3 cap3 bz w5 ((rdN_of_own (unhide hO3)).argB (unhide hBz)) (by have := unhide hlen3; omega)).mono ?_
      rintro e w6 ⟨rfl, hbl6⟩
      rw [hcn]
      have hu6 := Upd.of_below hbl6 0 0
      have hb6 := hide (below_upd (unhide hb5) hu6 (Nat.le_refl _) (.inr (Nat.le_refl _)))
      have hs6 : w5.heap.size ≤ w6.heap.size := hu6.size
      replace ho5 := hide ((Own.of (unhide ho5)).keep hu6)
      replace hcn := hide hcn
      clear hu6 hbl6 hb5 hO3
      go_wp2_with fail
      refine (specL3Four cn w6 hcl).mono ?_
      rintro e w7 ⟨v7, rfl, ho7, hbl7⟩
      have hu7 := Upd.of_below hbl7 0 0
      have hb7 := hide (below_upd (unhide hb6) hu7 (Nat.le_refl _) (.inr (Nat.le_refl _)))
      have hs7 : w6.heap.size ≤ w7.heap.size := hu7.size
      replace ho5 := hide ((unhide ho5).keep hu7)
      obtain ⟨kz, hkz⟩ : ∃ kz, (four cn).map (fun n : Nat => (n : Int)) = kz := ⟨_, rfl⟩
      have hlk : Hid (kz.length = 4) := hide (by rw [← hkz]; rfl)
      have ho7' : w7.ownsRow w6.heap.size 5 1 v7 kz.length (byts kz) := by rw [← hkz, byts_nats]; exact ho7
      replace hkz := hide hkz
      replace ho7 := hide ho7'
      clear hu7 hbl7 ho7' hb6
      go_wp2_with (at_builtin; go_loud (refine wpList_appY rfl (.tmp 31) (.tmp 34) rfl w3.heap.size _ _ rfl (unhide ho5).1 _ _ rfl (rdN_of_owns (unhide ho7)) (by have := unhide hlg; have := unhide hlk; omega) (by omega) ?_))
      intro v8 w8 ho8 hg8 _
      have hu8 := upd_of_grown hg8 (unhide ho5).1
      have hb8 := hide (below_upd (unhide hb7) hu8 (Nat.le_refl _) (.inl (by omega)))
      have ho8' : w8.ownsRow w3.heap.size 5 1 v8 (gz ++ kz).length (byts (gz ++ kz)) := by rw [List.length_append]; exact ho8
      have hE : chunkF s zs = gz ++ kz := by rw [chunkF_yes (unhide hok) h6 cn (by rw [unhide hbz]; exact unhide hcn), unhide hfz, unhide hbz, unhide hgz, unhide hkz]
      rw [← hE] at ho8'
      have ho9 := hide (own_mono (Own.of ho8') (by omega : w.heap.size ≤ w3.heap.size) (Nat.le_refl _))
      clear ho8 ho8' hE hg8 hu8
      go_wp2_with fail
      go_ret
      exact ⟨_, rfl, unhide ho9, Upd.of_below (unhide hb8) 0 0⟩
    · have hE := hide (chunkF_long (s := s) h6)
      rw [nameB_yes hok] at hN
      have h7 : 60000 < zs.length := by omega
      replace hok := hide hok
      clear hh1 hr hB
      replace hb1 := hide hb1
      go_enter Try.func5, Try.ntmps5
      go_wp2_with fail
      refine (unhide hN _).mono ?_
      rintro e w1 ⟨rfl, rfl⟩
      clear hN
      go_wp2
      go_ret
      exact ⟨_, rfl, by rw [unhide hE]; exact own_nilY _ _ _, Upd.of_below (unhide hb1) 0 0⟩
  · have hE := hide (chunkF_name (zs := zs) hok)
    rw [nameB_no hok] at hN
    replace hok := hide hok
    clear hh1 hr hB
    replace hb1 := hide hb1
    go_enter Try.func5, Try.ntmps5
    go_wp2_with fail
    refine (unhide hN _).mono ?_
    rintro e w1 ⟨rfl, rfl⟩
    clear hN
    go_wp2
    go_ret
    exact ⟨_, rfl, by rw [unhide hE]; exact own_nilY _ _ _, Upd.of_below (unhide hb1) 0 0⟩
end Go.Proofs.Ythpkngipiapbpaa
