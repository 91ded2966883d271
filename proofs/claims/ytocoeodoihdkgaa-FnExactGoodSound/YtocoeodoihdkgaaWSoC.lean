/- What sound is good: both sides. -/
import Derived.Test.YtocoeodoihdkgaaWSoB
namespace Go.Proofs.Ytocoeodoihdkgaa
open Go.RowKit

def ChOk (d : So) (j : Nat) : Prop := (d.2.2.2.getD j Ln0).length = (d.2.2.2.getD 0 Ln0).length ∧ InR (loB d.2.1.toNat) (hiB d.2.1.toNat) (d.2.2.2.getD j Ln0)
def SoundOk (d : So) : Prop := HeadSo d.1 d.2.1 d.2.2.1 ∧ (1 ≤ d.2.2.2.length ∧ d.2.2.2.length ≤ 2) ∧ (d.2.2.2.getD 0 Ln0).length ≤ 4000 ∧ ∀ j, j < d.2.2.2.length → ChOk d j
noncomputable def soundB (d : So) : Bool := open Classical in decide (SoundOk d)
theorem soundB_yes {d : So} (h : SoundOk d) : soundB d = true := by unfold soundB; simpa using h
theorem soundB_no {d : So} (h : ¬ SoundOk d) : soundB d = false := by unfold soundB; simpa using h
abbrev soc (r b f : Int) (v : Value) : List Value := [.int .i64 r, .int .i64 b, .int .i64 f, v]

set_option maxHeartbeats 8000000 in
set_option maxRecDepth 100000 in
theorem implGoodSound (v : Value) (d : So) (w : World) (hn : SoSize d ≤ 1048576) (_hR : InSo d) (hv : RdSo w v d) :
    Calls Try.prog 28 #[v] w fun e w' => e = .returned (.bool (soundB d)) ∧ Upd 0 0 w w' := by
  obtain ⟨vl, rfl, ad, cap, rfl, hA⟩ := hv
  obtain ⟨r, b, f, ds⟩ := d
  simp only [Sov, SoSize] at hn hA ⊢
  have hnl : ds.length ≤ 1048576 := by unfold sizeLl at hn; omega
  have hEach : Hid (∀ k, k < ds.length → (Lls (ds.getD k Ln0)).length ≤ 1048576) := hide (fun k hk => by have := size1Ll_le ds k hk; unfold sizeLl at hn; unfold size1Ll at this; omega)
  have hbx := hide (heldF_new w (soc r b f (.slice ad ds.length cap)) 51)
  have hU := hide (Upd.of_below ((Below.refl w.heap.size w).alloc (Nat.le_refl _) (.cells #[.int .i64 r, .int .i64 b, .int .i64 f, .slice ad ds.length cap] 51)) 0 0)
  have hS := hide (fun X => implGoodHead r b f (.slice ad ds.length cap) X ⟨_, _, _, rfl⟩)
  replace hA := hide hA
  by_cases hh : HeadSo r b f
  case neg =>
    rw [soundB_no (fun h => hh h.1)]
    rw [decide_eq_false hh] at hS
    clear hh
    go_enter Try.func28, Try.ntmps28
    go_wp2_with fail
    refine (unhide hS _).mono ?_
    rintro e w1 ⟨rfl, hu1⟩
    replace hU := hide ((unhide hU).trans hu1)
    clear hu1
    go_wp2
    go_ret
    exact ⟨rfl, unhide hU⟩
  rw [decide_eq_true hh] at hS
  by_cases hl : 1 ≤ ds.length ∧ ds.length ≤ 2
  case neg =>
    rw [soundB_no (fun h => hl h.2.1)]
    clear hh
    go_enter Try.func28, Try.ntmps28
    go_wp2_with fail
    change Hid (HeldF (w.alloc (.cells #[.int .i64 r, .int .i64 b, .int .i64 f, .slice ad ds.length cap] 51)) w.heap.size (soc r b f (.slice ad ds.length cap))) at hbx
    generalize w.alloc (.cells #[.int .i64 r, .int .i64 b, .int .i64 f, .slice ad ds.length cap] 51) = w0 at hbx hU ⊢
    refine (unhide hS _).mono ?_
    rintro e w1 ⟨rfl, hu1⟩
    replace hU := hide ((unhide hU).trans hu1)
    replace hbx := hide ((unhide hbx).keep hu1)
    clear hu1 hS
    have p3 := (unhide hbx).1.2 3 _ rfl
    by_cases hl1 : ds.length < 1
    · have q : decide ((ds.length : Int) < 1) = true := decide_eq_true (by omega)
      clear hl
      go_wp2
      go_ret
      exact ⟨rfl, unhide hU⟩
    · have q : decide ((ds.length : Int) < 1) = false := decide_eq_false (by omega)
      have q2 : decide ((2 : Int) < (ds.length : Int)) = true := decide_eq_true (by omega)
      clear hl
      go_wp2
      go_ret
      exact ⟨rfl, unhide hU⟩
  obtain ⟨l1, l2⟩ := hl
  obtain ⟨B, rfl⟩ := Int.eq_ofNat_of_zero_le (show 0 ≤ b by have := hh.2.1.1; omega)
  have hB1 : 1 ≤ B := by have := hh.2.1.1; omega
  have hB2 : B ≤ 62 := by have := hh.2.1.2; omega
  have hY : Hid ((∀ k, k < ds.length → (ds.getD k Ln0).length = (ds.getD 0 Ln0).length ∧ LsOk (loB B) (hiB B) (ds.getD k Ln0)) → soundB (r, (B : Int), f, ds) = true) := hide (fun h => soundB_yes ⟨hh, ⟨l1, l2⟩, (h 0 (by omega)).2.1, fun j hj => ⟨(h j hj).1, by rw [Int.toNat_natCast]; exact (h j hj).2.2⟩⟩)
  have hN : Hid (∀ k, k < ds.length → ¬ ((ds.getD k Ln0).length = (ds.getD 0 Ln0).length ∧ LsOk (loB B) (hiB B) (ds.getD k Ln0)) → soundB (r, (B : Int), f, ds) = false) := hide (fun k hk h => soundB_no (fun h' => h ⟨(h'.2.2.2 k hk).1, by rw [(h'.2.2.2 k hk).1]; exact h'.2.2.1, by have := (h'.2.2.2 k hk).2; rwa [Int.toNat_natCast] at this⟩))
  clear hh
  generalize soundB (r, (B : Int), f, ds) = R at hY hN ⊢
  have q0 : decide ((ds.length : Int) < 1) = false := decide_eq_false (by omega)
  have q2 : decide ((2 : Int) < (ds.length : Int)) = false := decide_eq_false (by omega)
  go_enter Try.func28, Try.ntmps28
  go_wp2_with fail
  change Hid (HeldF (w.alloc (.cells #[.int .i64 r, .int .i64 (B : Int), .int .i64 f, .slice ad ds.length cap] 51)) w.heap.size (soc r (B : Int) f (.slice ad ds.length cap))) at hbx
  generalize w.alloc (.cells #[.int .i64 r, .int .i64 (B : Int), .int .i64 f, .slice ad ds.length cap] 51) = w0 at hbx hU ⊢
  refine (unhide hS _).mono ?_
  rintro e w1 ⟨rfl, hu1⟩
  replace hU := hide ((unhide hU).trans hu1)
  replace hbx := hide ((unhide hbx).keep hu1)
  clear hu1 hS
  have p3 := (unhide hbx).1.2 3 _ rfl
  go_wp2
  go_loopw [4, 23] (fun _ i wr => ∃ k : Nat, k ≤ ds.length ∧ i = .int .i64 k ∧ Hid (∀ j, j < k → (ds.getD j Ln0).length = (ds.getD 0 Ln0).length ∧ LsOk (loB B) (hiB B) (ds.getD j Ln0)) ∧ Hid (Upd 0 0 w wr) ∧ Hid (HeldF wr w.heap.size (soc r (B : Int) f (.slice ad ds.length cap)))) (fun _ i _ => ds.length - (intOf i).toNat)
  case atStart => exact ⟨0, Nat.zero_le _, rfl, hide (fun j hj => by omega), hU, hbx⟩
  case round =>
    clear hU hbx p3
    obtain ⟨k, hk, rfl, hgd, hU, hbx⟩ := hrel
    by_cases hlt : k < ds.length
    · obtain ⟨bb, off, us, rfl, hbl, hc, hru⟩ := ((unhide hA).below (unhide hU).none) (ne_of_lt_length hlt)
      have hck := hc k hlt
      have hrk := hru k hlt
      have hc0 := hc 0 (by omega)
      have hr0 := hru 0 (by omega)
      have hG1 : Hid ((ds.getD k Ln0).length = (ds.getD 0 Ln0).length → lsB (loB B) (hiB B) (ds.getD k Ln0) = true → ∀ j, j < k + 1 → (ds.getD j Ln0).length = (ds.getD 0 Ln0).length ∧ LsOk (loB B) (hiB B) (ds.getD j Ln0)) := hide (fun h1 h2 j hj => by
        rcases Nat.lt_or_eq_of_le (Nat.le_of_lt_succ hj) with h' | h'
        · exact unhide hgd j h'
        · subst h'; exact ⟨h1, lsB_iff.1 h2⟩)
      have hN1 : Hid ((ds.getD k Ln0).length ≠ (ds.getD 0 Ln0).length → R = false) := hide (fun h => unhide hN k hlt (fun h' => h h'.1))
      have hN2 : Hid (lsB (loB B) (hiB B) (ds.getD k Ln0) = false → R = false) := hide (fun h => unhide hN k hlt (fun h' => by rw [lsB_yes h'.2] at h; cases h))
      generalize us k = uk at hck hrk
      generalize us 0 = u0 at hc0 hr0
      obtain ⟨adk, capk, rfl, hAk⟩ := hrk
      obtain ⟨ad0, cap0, rfl, _⟩ := hr0
      have hnk := unhide hEach k hlt
      have hP := hide (implGoodNumbers adk capk (Lls (ds.getD k Ln0)) B wr hB1 hB2 hnk hAk)
      have p1 := (unhide hbx).1.2 1 _ rfl
      have p3 := (unhide hbx).1.2 3 _ rfl
      rw [Nat.add_zero] at hc0
      clear hc hru hAk
      have kI : (0 : Int) ≤ (k : Int) := by omega
      have kL : (k : Int) < (ds.length : Int) := by omega
      have zL : (0 : Int) < (ds.length : Int) := by omega
      change wr.cell? ⟨bb, off + k, none⟩ = some (.slice adk (ds.getD k Ln0).length capk) at hck
      change wr.cell? ⟨bb, off, none⟩ = some (.slice ad0 (ds.getD 0 Ln0).length cap0) at hc0
      change Hid (Calls Try.prog _ #[.slice adk (ds.getD k Ln0).length capk, .int .i64 (B : Int)] wr fun e w' => e = .returned (.bool (lsB (loB B) (hiB B) (ds.getD k Ln0))) ∧ Upd 0 0 wr w') at hP
      generalize (ds.getD 0 Ln0).length = m0 at hc0 hG1 hN1
      generalize (ds.getD k Ln0).length = mk at hck hP hG1 hN1 hnk
      generalize lsB (loB B) (hiB B) (ds.getD k Ln0) = q at hP hG1 hN2
      by_cases hm : mk = m0
      case neg =>
        have hF := hide (unhide hN1 hm)
        have qm : ((mk : Int) != (m0 : Int)) = true := by rw [bne_iff_ne]; omega
        clear hG1 hN1 hN2 hP hm hgd
        go_wp2
        go_ret
        exact ⟨by rw [unhide hF]; rfl, unhide hU⟩
      have qm : ((mk : Int) != (m0 : Int)) = false := by rw [bne_eq_false_iff_eq]; omega
      replace hG1 := hide (unhide hG1 hm)
      clear hm hN1
      cases q
      · have hF := hide (unhide hN2 rfl)
        clear hG1 hN2 hgd
        go_wp2_with fail
        refine (unhide hP).mono ?_
        rintro e w2 ⟨rfl, hu2⟩
        have hU2 := hide ((unhide hU).trans hu2)
        clear hu2 hU hbx p1 p3 hP
        go_wp2
        go_ret
        exact ⟨by rw [unhide hF]; rfl, unhide hU2⟩
      · have hgd2 := hide (unhide hG1 rfl)
        clear hG1 hN2 hgd
        go_wp2_with fail
        refine (unhide hP).mono ?_
        rintro e w2 ⟨rfl, hu2⟩
        have hU2 := hide ((unhide hU).trans hu2)
        have hbx2 := hide ((unhide hbx).keep hu2)
        clear hu2 hU hbx p1 p3 hP hck hc0
        go_wp2
        go_roundw
        case rel => exact ⟨k + 1, by omega, by go_num, hgd2, hU2, hbx2⟩
        case measure => simp [intOf]; omega
    · have hkl : k = ds.length := by omega
      subst hkl
      have hT : Hid (R = true) := hide (unhide hY (unhide hgd))
      clear hgd hbx
      go_wp2
      go_ret
      exact ⟨by rw [unhide hT]; rfl, unhide hU⟩
end Go.Proofs.Ytocoeodoihdkgaa
