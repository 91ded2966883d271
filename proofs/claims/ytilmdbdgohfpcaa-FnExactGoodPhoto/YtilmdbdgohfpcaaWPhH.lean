/- The specification's GoodPhoto. -/
import Derived.Test.YtilmdbdgohfpcaaWPhD
import Derived.Test.YtilmdbdgohfpcaaWPhG
namespace Go.Proofs.Ytilmdbdgohfpcaa
open Go.RowKit

set_option maxHeartbeats 8000000 in
set_option maxRecDepth 100000 in
theorem specGoodPhoto (v : Value) (d : Ph) (w : World) (hn : PhSize d ≤ 1048576) (hR : InPh d) (hv : RdPh w v d) :
    Calls Try.prog 24 #[v] w fun e w' => e = .returned (.bool (photoB d)) ∧ Upd 0 0 w w' := by
  obtain ⟨vl, rfl, ad, cap, rfl, hA⟩ := hv
  obtain ⟨a, b, q, hf, st, ev, ds⟩ := d
  simp only [Phv, PhSize] at hn hA ⊢
  have hnl : ds.length ≤ 1048576 := by unfold sizeLl at hn; omega
  have hEach : Hid (∀ k, k < ds.length → (Lls (ds.getD k Ln0)).length ≤ 1048576) := hide (fun k hk => by have := size1Ll_le ds k hk; unfold sizeLl at hn; unfold size1Ll at this; omega)
  have hI := hide hR
  have hbx := hide (heldF_new w (phc a b q hf st ev (.slice ad ds.length cap)) 46)
  have hU := hide (Upd.of_below ((Below.refl w.heap.size w).alloc (Nat.le_refl _) (.cells #[.int .i64 a, .int .i64 b, .int .i64 q, .bool hf, .bool st, .int .i64 ev, .slice ad ds.length cap] 46)) 0 0)
  have hS := hide (fun X => specL9Head a b q hf st ev ad ds.length cap ds.length X hnl)
  replace hA := hide hA
  by_cases hh : HeadOk a b q hf st ev ds.length
  case neg =>
    rw [photoB_no (fun h => hh h.1)]
    rw [decide_eq_false hh] at hS
    clear hh
    go_enter Try.func24, Try.ntmps24
    go_wp2_with fail
    change Hid (HeldF (w.alloc (.cells #[.int .i64 a, .int .i64 b, .int .i64 q, .bool hf, .bool st, .int .i64 ev, .slice ad ds.length cap] 46)) w.heap.size (phc a b q hf st ev (.slice ad ds.length cap))) at hbx
    refine (unhide hS _).mono ?_
    rintro e w1 ⟨rfl, hu1⟩
    replace hU := hide ((unhide hU).trans hu1)
    clear hu1
    go_wp2
    go_ret
    exact ⟨rfl, unhide hU⟩
  rw [decide_eq_true hh] at hS
  have hY : Hid ((∀ k, k < ds.length → GoodPl (a, b, ds.getD k Ln0)) → photoB (a, b, q, hf, st, ev, ds) = true) := hide (fun h => photoB_yes ⟨hh, h⟩)
  have hN : Hid (∀ k, k < ds.length → ¬ GoodPl (a, b, ds.getD k Ln0) → photoB (a, b, q, hf, st, ev, ds) = false) := hide (fun k hk h => photoB_no (fun h' => h (h'.2 k hk)))
  clear hh
  generalize photoB (a, b, q, hf, st, ev, ds) = R at hY hN ⊢
  go_enter Try.func24, Try.ntmps24
  go_wp2_with fail
  change Hid (HeldF (w.alloc (.cells #[.int .i64 a, .int .i64 b, .int .i64 q, .bool hf, .bool st, .int .i64 ev, .slice ad ds.length cap] 46)) w.heap.size (phc a b q hf st ev (.slice ad ds.length cap))) at hbx
  generalize w.alloc (.cells #[.int .i64 a, .int .i64 b, .int .i64 q, .bool hf, .bool st, .int .i64 ev, .slice ad ds.length cap] 46) = w0 at hbx hU ⊢
  refine (unhide hS _).mono ?_
  rintro e w1 ⟨rfl, hu1⟩
  replace hU := hide ((unhide hU).trans hu1)
  replace hbx := hide ((unhide hbx).keep hu1)
  clear hu1 hS
  have p6 := (unhide hbx).1.2 6 _ rfl
  go_wp2
  go_loopw [4, 14] (fun _ i wr => ∃ k : Nat, k ≤ ds.length ∧ i = .int .i64 k ∧ Hid (∀ j, j < k → GoodPl (a, b, ds.getD j Ln0)) ∧ Hid (Upd 0 0 w wr) ∧ Hid (HeldF wr w.heap.size (phc a b q hf st ev (.slice ad ds.length cap)))) (fun _ i _ => ds.length - (intOf i).toNat)
  case atStart => exact ⟨0, Nat.zero_le _, rfl, hide (fun j hj => by omega), hU, hbx⟩
  case round =>
    clear hU hbx p6
    obtain ⟨k, hk, rfl, hgd, hU, hbx⟩ := hrel
    by_cases hlt : k < ds.length
    · obtain ⟨bb, off, us, rfl, hbl, hc, hru⟩ := ((unhide hA).below (unhide hU).none) (ne_of_lt_length hlt)
      have hck := hc k hlt
      have hrk := hru k hlt
      generalize us k = uk at hck hrk
      obtain ⟨adk, capk, rfl, hAk⟩ := hrk
      have hnk := unhide hEach k hlt
      obtain ⟨ia, ib, _, _, il⟩ := unhide hI
      have hP := hide (specGoodPlane (Plv (a, b, ds.getD k Ln0) (.slice adk (Lls (ds.getD k Ln0)).length capk)) (a, b, ds.getD k Ln0) wr hnk ⟨ia, ib, by first | exact (il.1 k) | exact ⟨il.1 k, il.2 k⟩⟩ ⟨_, rfl, adk, capk, rfl, hAk⟩)
      have p0 := (unhide hbx).1.2 0 _ rfl
      have p1 := (unhide hbx).1.2 1 _ rfl
      clear hc hru hAk hnk ia ib il
      have kI : (0 : Int) ≤ (k : Int) := by omega
      have kL : (k : Int) < (ds.length : Int) := by omega
      by_cases hg : GoodPl (a, b, ds.getD k Ln0)
      · rw [goodPlB_yes hg] at hP
        have hgd2 : Hid (∀ j, j < k + 1 → GoodPl (a, b, ds.getD j Ln0)) := hide (fun j hj => by
          by_cases e : j = k
          · rw [e]; exact hg
          · exact unhide hgd j (by omega))
        clear hg hgd
        generalize ds.getD k Ln0 = zk at hck hP
        go_wp2_with fail
        refine (unhide hP).mono ?_
        rintro e w2 ⟨rfl, hu2⟩
        have hU2 := hide ((unhide hU).trans hu2)
        have hbx2 := hide ((unhide hbx).keep hu2)
        clear hu2 hU hbx p0 p1 hP
        go_wp2
        go_roundw
        case rel => exact ⟨k + 1, by omega, by go_num, hgd2, hU2, hbx2⟩
        case measure => simp [intOf]; omega
      · rw [goodPlB_no hg] at hP
        have hF : Hid (R = false) := hide (unhide hN k hlt hg)
        clear hg hgd
        generalize ds.getD k Ln0 = zk at hck hP
        go_wp2_with fail
        refine (unhide hP).mono ?_
        rintro e w2 ⟨rfl, hu2⟩
        have hU2 := hide ((unhide hU).trans hu2)
        clear hu2 hU hbx p0 p1 hP
        go_wp2
        go_ret
        exact ⟨by rw [unhide hF]; rfl, unhide hU2⟩
    · have hkl : k = ds.length := by omega
      subst hkl
      have hT : Hid (R = true) := hide (unhide hY (unhide hgd))
      clear hgd hbx
      go_wp2
      go_ret
      exact ⟨by rw [unhide hT]; rfl, unhide hU⟩
end Go.Proofs.Ytilmdbdgohfpcaa
