/- Two lists changed pair by pair: the program's walk. -/
import Derived.Test.YtailhdfmfmlniaaWLiB
import Derived.Test.YtailhdfmfmlniaaWQT
import Derived.Test.YtailhdfmfmlniaaWRowI
import Derived.Test.YtailhdfmfmlniaaWSzI
import Derived.Deep.RegionWith
import Derived.Deep.DeepCutAuto
namespace Go.Proofs.Ytailhdfmfmlniaa
open Go.RowKit

theorem cell_updL {w : World} {p : Addr} {v : Value} (h : w.cell? p = some v) (hp : p.block < w.heap.size) (X : UpdT w) : X.to.cell? p = some v := (X.upd.none.cell hp).trans h
/-- Two lists of a call's own, in memory apart. -/
def TwoI (w w' : World) (va vb : Value) (A B : List Int) : Prop := ∃ a1 b1 a2 b2, w.heap.size ≤ a1 ∧ b1 ≤ w'.heap.size ∧ w.heap.size ≤ a2 ∧ b2 ≤ w'.heap.size ∧ (b1 ≤ a2 ∨ b2 ≤ a1) ∧ OwnI w' a1 b1 va A ∧ OwnI w' a2 b2 vb B
theorem twoI_nil (w w' : World) (h : w.heap.size ≤ w'.heap.size) : TwoI w w' (.slice none 0 0) (.slice none 0 0) [] [] :=
  ⟨w.heap.size, w.heap.size, w.heap.size, w.heap.size, Nat.le_refl _, h, Nat.le_refl _, h, .inl (Nat.le_refl _), own_nilI _ _ _, own_nilI _ _ _⟩

set_option maxHeartbeats 8000000 in
set_option maxRecDepth 100000 in
theorem implEachTurned (way : Int) (ad : Option Addr) (cap : Nat) (xs : List Int) (ad' : Option Addr) (cap' : Nat) (ys : List Int) (w : World) (hw : 0 ≤ way ∧ way ≤ 2) (hn : xs.length ≤ 4000) (hl : ys.length = xs.length)
    (hx : InR (-268435456) 268435455 xs) (hy : InR (-268435456) 268435455 ys) (hA : ArgI w ad xs) (hA' : ArgI w ad' ys) :
    Calls Try.prog 84 #[.int .i64 way, .slice ad xs.length cap, .slice ad' ys.length cap', .func (.func 85) #[] #[]] w fun e w' => ∃ va vb, e = .returned (.tuple #[va, vb]) ∧ TwoI w w' va vb (two turA way xs ys) (two turB way xs ys) ∧ Upd 0 0 w w' := by
  obtain ⟨n, hnn⟩ : ∃ n, xs.length = n := ⟨_, rfl⟩
  rw [hl, hnn]
  rw [hnn] at hn hl
  obtain ⟨o, hmk⟩ := mkRowI n (by omega)
  have hmk1 := fun X => (hmk X).1
  have hmk2 := hide (fun X => (hmk X).2)
  clear hmk
  have hC := hide (fun a b W ha hb => implTurned way a b W hw ha hb)
  have eA := hide (rfl : two turA way xs ys = two turA way xs ys)
  obtain ⟨A, hAe⟩ : ∃ A, two turA way xs ys = A := ⟨_, rfl⟩
  obtain ⟨B, hBe⟩ : ∃ B, two turB way xs ys = B := ⟨_, rfl⟩
  have hAl : A.length = n := by rw [← hAe, two_length, hnn]
  have hBl : B.length = n := by rw [← hBe, two_length, hnn]
  have hAg : Hid (∀ k, k < n → A.getD k 0 = turA way (xs.getD k 0) (ys.getD k 0)) := hide (fun k hk => by rw [← hAe]; exact two_getD _ _ _ _ _ (by omega))
  have hBg : Hid (∀ k, k < n → B.getD k 0 = turB way (xs.getD k 0) (ys.getD k 0)) := hide (fun k hk => by rw [← hBe]; exact two_getD _ _ _ _ _ (by omega))
  rw [hAe, hBe]
  clear hAe hBe eA
  have hz0 : partI A 0 = List.replicate n (.int .i64 0) := by rw [partI_zero, hAl]
  have hz1 : partI B 0 = List.replicate n (.int .i64 0) := by rw [partI_zero, hBl]
  replace hz0 := hide hz0
  replace hz1 := hide hz1
  replace hA := hide hA
  replace hA' := hide hA'
  replace hx := hide hx
  replace hy := hide hy
  replace hl := hide hl
  replace hnn := hide hnn
  replace hAl := hide hAl
  replace hBl := hide hBl
  clear hw
  go_enter Try.func84, Try.ntmps84
  go_wp2_with fail
  go_cut [10, 11] (fun s10 s11 wx => ∃ g h, s10 = .slice (some ⟨g, 0, none⟩) n n ∧ s11 = .slice (some ⟨h, 0, none⟩) n n ∧ g ≠ h ∧ w.heap.size ≤ g ∧ w.heap.size ≤ h ∧ Hid (RowI wx g n (partI A 0)) ∧ Hid (RowI wx h n (partI B 0)) ∧ Hid (Below w.heap.size w wx))
  case first =>
    go_region
    · have h1 := unhide hmk2 w
      have h2 := unhide hmk2 (w.alloc o)
      have hs : (w.alloc o).heap.size = w.heap.size + 1 := by simp
      rw [hs] at h2
      have r1 := hide ((h1.alloc o).keep (Upd.drew1 _))
      have r2 := hide (h2.keep (Upd.drew1 _))
      rw [← unhide hz0] at r1
      rw [← unhide hz1] at r2
      have r3 : Hid (Below w.heap.size w ((w.alloc o).alloc o).drew) := hide ((((Below.refl w.heap.size w).alloc (Nat.le_refl _) o).alloc (by simp) o).trans ⟨rfl, rfl, rfl, Nat.le_refl _, fun _ _ => rfl⟩)
      clear h1 h2 hs hmk1 hmk2
      go_wp2_with fail
      go_meet
      exact ⟨_, _, rfl, rfl, by omega, by omega, by omega, r1, r2, r3⟩
    · have h1 := unhide hmk2 w
      have h2 := unhide hmk2 (w.alloc o)
      have hs : (w.alloc o).heap.size = w.heap.size + 1 := by simp
      rw [hs] at h2
      have r1 := hide ((h1.alloc o).keep (Upd.drew1 _))
      have r2 := hide (h2.keep (Upd.drew1 _))
      rw [← unhide hz1] at r1
      rw [← unhide hz0] at r2
      have r3 : Hid (Below w.heap.size w ((w.alloc o).alloc o).drew) := hide ((((Below.refl w.heap.size w).alloc (Nat.le_refl _) o).alloc (by simp) o).trans ⟨rfl, rfl, rfl, Nat.le_refl _, fun _ _ => rfl⟩)
      clear h1 h2 hs hmk1 hmk2
      go_wp2_with fail
      go_meet
      exact ⟨_, _, rfl, rfl, by omega, by omega, by omega, r2, r1, r3⟩
  case rest =>
    obtain ⟨g, h, rfl, rfl, hne, hgw, hhw, hrA, hrB, hbel⟩ := hcut
    clear hmk1 hmk2 hz0 hz1
    go_wp2
    go_loopw [12, 21] (fun _ i wr => ∃ k : Nat, k ≤ n ∧ i = .int .i64 k ∧ Hid (RowI wr g n (partI A k)) ∧ Hid (RowI wr h n (partI B k)) ∧ Hid (Below w.heap.size w wr)) (fun _ i _ => n - (intOf i).toNat)
    case atStart => exact ⟨0, Nat.zero_le _, rfl, hrA, hrB, hbel⟩
    case round =>
      clear hrA hrB hbel
      obtain ⟨k, hk, rfl, hrA, hrB, hbel⟩ := hrel
      by_cases hlt : k < n
      · obtain ⟨b, off, rfl, hbl, hc⟩ := (unhide hA) (ne_of_lt_length (k := k) (by rw [unhide hnn]; exact hlt))
        obtain ⟨b', off', rfl, hbl', hc'⟩ := (unhide hA') (ne_of_lt_length (k := k) (by rw [unhide hl]; exact hlt))
        have hck := ((unhide hbel).cell (p := ⟨b, off + k, none⟩) (by simpa using hbl)).trans (hc k (by rw [unhide hnn]; exact hlt))
        have hck' := ((unhide hbel).cell (p := ⟨b', off' + k, none⟩) (by simpa using hbl')).trans (hc' k (by rw [unhide hl]; exact hlt))
        have hbx := (unhide hx) k (by rw [unhide hnn]; exact hlt)
        have hby := (unhide hy) k (by rw [unhide hl]; exact hlt)
        have gA := partI_set A k (by rw [unhide hAl]; exact hlt)
        have gB := partI_set B k (by rw [unhide hBl]; exact hlt)
        rw [unhide hAg k hlt] at gA
        rw [unhide hBg k hlt] at gB
        have hs1 := (unhide hbel).size
        have fb : b < wr.heap.size := by omega
        have fb' : b' < wr.heap.size := by omega
        have fx0 := cell_updL hck (by simpa using fb)
        have fy0 := cell_updL hck' (by simpa using fb')
        clear hc hc' hbl hbl' hck hck' fb fb' hs1
        generalize xs.getD k 0 = x at fx0 hbx gA gB
        generalize ys.getD k 0 = y at fy0 hby gA gB
        have hCx := hide (fun W => unhide hC x y W hbx hby)
        generalize turA way x y = p at hCx gA
        generalize turB way x y = q at hCx gB
        clear hbx hby
        have kI : (0 : Int) ≤ (k : Int) := by omega
        have kL : (k : Int) < (n : Int) := by omega
        go_upto_region 5 with fail
        have hnA := (unhide hrA).frozen k
        have hnB := (unhide hrB).frozen k
        have hck := fx0 ⟨wr, Upd.refl 0 0 wr⟩
        have hck' := fy0 ⟨wr, Upd.refl 0 0 wr⟩
        change wr.cell? ⟨b, off + k, none⟩ = some (.int .i64 x) at hck
        change wr.cell? ⟨b', off' + k, none⟩ = some (.int .i64 y) at hck'
        clear fx0 fy0
        obtain ⟨uA, hdA⟩ := (unhide hrA).has k hlt
        obtain ⟨uB, hdB⟩ := (unhide hrB).has k hlt
        have rA2 : Hid (RowI ((wr.setCell ⟨g, k, none⟩ (.int .i64 p)).setCell ⟨h, k, none⟩ (.int .i64 q)).drew g n (partI A (k + 1))) := hide (by
          have := (((unhide hrA).set k (.int .i64 p)).other (c := h) (Ne.symm hne) k (.int .i64 q)).keep (Upd.drew1 _)
          rw [gA] at this
          exact this)
        have rB2 : Hid (RowI ((wr.setCell ⟨g, k, none⟩ (.int .i64 p)).setCell ⟨h, k, none⟩ (.int .i64 q)).drew h n (partI B (k + 1))) := hide (by
          have := (((unhide hrB).other (c := g) hne k (.int .i64 p)).set k (.int .i64 q)).keep (Upd.drew1 _)
          rw [gB] at this
          exact this)
        have hb2 : Hid (Below w.heap.size w ((wr.setCell ⟨g, k, none⟩ (.int .i64 p)).setCell ⟨h, k, none⟩ (.int .i64 q)).drew) := hide (below_upd (((unhide hbel).setCell (p := ⟨g, k, none⟩) hgw (.int .i64 p)).setCell (p := ⟨h, k, none⟩) hhw (.int .i64 q)) (Upd.drew1 _) (Nat.le_refl _) (.inr (Nat.le_refl _)))
        clear hrA hrB hbel gA gB
        go_region_with (go_at_call 85; refine (unhide hCx _).mono ?_; rintro e w2 ⟨rfl, rfl⟩)
        all_goals
          go_wp2
          go_roundw
          case rel => exact ⟨k + 1, by omega, by go_num, rA2, rB2, hb2⟩
          case measure => simp [intOf]; omega
      · have hkn : k = n := by omega
        subst hkn
        have oA := unhide hrA
        have oB := unhide hrB
        have aA := partI_all A
        have aB := partI_all B
        rw [unhide hAl] at aA
        rw [unhide hBl] at aB
        rw [aA] at oA
        rw [aB] at oB
        have hlg := oA.lt
        have hlh := oB.lt
        have hT : Hid (TwoI w wr (.slice (some ⟨g, 0, none⟩) k k) (.slice (some ⟨h, 0, none⟩) k k) A B) := hide ⟨g, g + 1, h, h + 1, hgw, by omega, hhw, by omega, by omega, by
          have := oA.own; unfold OwnI; rw [unhide hAl]; exact this, by
          have := oB.own; unfold OwnI; rw [unhide hBl]; exact this⟩
        clear hrA hrB oA oB aA aB hlg hlh
        go_wp2
        go_ret2
        exact ⟨_, _, rfl, unhide hT, Upd.of_below (unhide hbel) 0 0⟩

set_option maxHeartbeats 8000000 in
set_option maxRecDepth 100000 in
theorem implEachUnturned (way : Int) (ad : Option Addr) (cap : Nat) (xs : List Int) (ad' : Option Addr) (cap' : Nat) (ys : List Int) (w : World) (hw : 0 ≤ way ∧ way ≤ 2) (hn : xs.length ≤ 4000) (hl : ys.length = xs.length)
    (hx : InR (-268435456) 268435455 xs) (hy : InR (-268435456) 268435455 ys) (hA : ArgI w ad xs) (hA' : ArgI w ad' ys) :
    Calls Try.prog 84 #[.int .i64 way, .slice ad xs.length cap, .slice ad' ys.length cap', .func (.func 86) #[] #[]] w fun e w' => ∃ va vb, e = .returned (.tuple #[va, vb]) ∧ TwoI w w' va vb (two untA way xs ys) (two untB way xs ys) ∧ Upd 0 0 w w' := by
  obtain ⟨n, hnn⟩ : ∃ n, xs.length = n := ⟨_, rfl⟩
  rw [hl, hnn]
  rw [hnn] at hn hl
  obtain ⟨o, hmk⟩ := mkRowI n (by omega)
  have hmk1 := fun X => (hmk X).1
  have hmk2 := hide (fun X => (hmk X).2)
  clear hmk
  have hC := hide (fun a b W ha hb => implUnturned way a b W hw ha hb)
  have eA := hide (rfl : two untA way xs ys = two untA way xs ys)
  obtain ⟨A, hAe⟩ : ∃ A, two untA way xs ys = A := ⟨_, rfl⟩
  obtain ⟨B, hBe⟩ : ∃ B, two untB way xs ys = B := ⟨_, rfl⟩
  have hAl : A.length = n := by rw [← hAe, two_length, hnn]
  have hBl : B.length = n := by rw [← hBe, two_length, hnn]
  have hAg : Hid (∀ k, k < n → A.getD k 0 = untA way (xs.getD k 0) (ys.getD k 0)) := hide (fun k hk => by rw [← hAe]; exact two_getD _ _ _ _ _ (by omega))
  have hBg : Hid (∀ k, k < n → B.getD k 0 = untB way (xs.getD k 0) (ys.getD k 0)) := hide (fun k hk => by rw [← hBe]; exact two_getD _ _ _ _ _ (by omega))
  rw [hAe, hBe]
  clear hAe hBe eA
  have hz0 : partI A 0 = List.replicate n (.int .i64 0) := by rw [partI_zero, hAl]
  have hz1 : partI B 0 = List.replicate n (.int .i64 0) := by rw [partI_zero, hBl]
  replace hz0 := hide hz0
  replace hz1 := hide hz1
  replace hA := hide hA
  replace hA' := hide hA'
  replace hx := hide hx
  replace hy := hide hy
  replace hl := hide hl
  replace hnn := hide hnn
  replace hAl := hide hAl
  replace hBl := hide hBl
  clear hw
  go_enter Try.func84, Try.ntmps84
  go_wp2_with fail
  go_cut [10, 11] (fun s10 s11 wx => ∃ g h, s10 = .slice (some ⟨g, 0, none⟩) n n ∧ s11 = .slice (some ⟨h, 0, none⟩) n n ∧ g ≠ h ∧ w.heap.size ≤ g ∧ w.heap.size ≤ h ∧ Hid (RowI wx g n (partI A 0)) ∧ Hid (RowI wx h n (partI B 0)) ∧ Hid (Below w.heap.size w wx))
  case first =>
    go_region
    · have h1 := unhide hmk2 w
      have h2 := unhide hmk2 (w.alloc o)
      have hs : (w.alloc o).heap.size = w.heap.size + 1 := by simp
      rw [hs] at h2
      have r1 := hide ((h1.alloc o).keep (Upd.drew1 _))
      have r2 := hide (h2.keep (Upd.drew1 _))
      rw [← unhide hz0] at r1
      rw [← unhide hz1] at r2
      have r3 : Hid (Below w.heap.size w ((w.alloc o).alloc o).drew) := hide ((((Below.refl w.heap.size w).alloc (Nat.le_refl _) o).alloc (by simp) o).trans ⟨rfl, rfl, rfl, Nat.le_refl _, fun _ _ => rfl⟩)
      clear h1 h2 hs hmk1 hmk2
      go_wp2_with fail
      go_meet
      exact ⟨_, _, rfl, rfl, by omega, by omega, by omega, r1, r2, r3⟩
    · have h1 := unhide hmk2 w
      have h2 := unhide hmk2 (w.alloc o)
      have hs : (w.alloc o).heap.size = w.heap.size + 1 := by simp
      rw [hs] at h2
      have r1 := hide ((h1.alloc o).keep (Upd.drew1 _))
      have r2 := hide (h2.keep (Upd.drew1 _))
      rw [← unhide hz1] at r1
      rw [← unhide hz0] at r2
      have r3 : Hid (Below w.heap.size w ((w.alloc o).alloc o).drew) := hide ((((Below.refl w.heap.size w).alloc (Nat.le_refl _) o).alloc (by simp) o).trans ⟨rfl, rfl, rfl, Nat.le_refl _, fun _ _ => rfl⟩)
      clear h1 h2 hs hmk1 hmk2
      go_wp2_with fail
      go_meet
      exact ⟨_, _, rfl, rfl, by omega, by omega, by omega, r2, r1, r3⟩
  case rest =>
    obtain ⟨g, h, rfl, rfl, hne, hgw, hhw, hrA, hrB, hbel⟩ := hcut
    clear hmk1 hmk2 hz0 hz1
    go_wp2
    go_loopw [12, 21] (fun _ i wr => ∃ k : Nat, k ≤ n ∧ i = .int .i64 k ∧ Hid (RowI wr g n (partI A k)) ∧ Hid (RowI wr h n (partI B k)) ∧ Hid (Below w.heap.size w wr)) (fun _ i _ => n - (intOf i).toNat)
    case atStart => exact ⟨0, Nat.zero_le _, rfl, hrA, hrB, hbel⟩
    case round =>
      clear hrA hrB hbel
      obtain ⟨k, hk, rfl, hrA, hrB, hbel⟩ := hrel
      by_cases hlt : k < n
      · obtain ⟨b, off, rfl, hbl, hc⟩ := (unhide hA) (ne_of_lt_length (k := k) (by rw [unhide hnn]; exact hlt))
        obtain ⟨b', off', rfl, hbl', hc'⟩ := (unhide hA') (ne_of_lt_length (k := k) (by rw [unhide hl]; exact hlt))
        have hck := ((unhide hbel).cell (p := ⟨b, off + k, none⟩) (by simpa using hbl)).trans (hc k (by rw [unhide hnn]; exact hlt))
        have hck' := ((unhide hbel).cell (p := ⟨b', off' + k, none⟩) (by simpa using hbl')).trans (hc' k (by rw [unhide hl]; exact hlt))
        have hbx := (unhide hx) k (by rw [unhide hnn]; exact hlt)
        have hby := (unhide hy) k (by rw [unhide hl]; exact hlt)
        have gA := partI_set A k (by rw [unhide hAl]; exact hlt)
        have gB := partI_set B k (by rw [unhide hBl]; exact hlt)
        rw [unhide hAg k hlt] at gA
        rw [unhide hBg k hlt] at gB
        have hs1 := (unhide hbel).size
        have fb : b < wr.heap.size := by omega
        have fb' : b' < wr.heap.size := by omega
        have fx0 := cell_updL hck (by simpa using fb)
        have fy0 := cell_updL hck' (by simpa using fb')
        clear hc hc' hbl hbl' hck hck' fb fb' hs1
        generalize xs.getD k 0 = x at fx0 hbx gA gB
        generalize ys.getD k 0 = y at fy0 hby gA gB
        have hCx := hide (fun W => unhide hC x y W hbx hby)
        generalize untA way x y = p at hCx gA
        generalize untB way x y = q at hCx gB
        clear hbx hby
        have kI : (0 : Int) ≤ (k : Int) := by omega
        have kL : (k : Int) < (n : Int) := by omega
        go_upto_region 5 with fail
        have hnA := (unhide hrA).frozen k
        have hnB := (unhide hrB).frozen k
        have hck := fx0 ⟨wr, Upd.refl 0 0 wr⟩
        have hck' := fy0 ⟨wr, Upd.refl 0 0 wr⟩
        change wr.cell? ⟨b, off + k, none⟩ = some (.int .i64 x) at hck
        change wr.cell? ⟨b', off' + k, none⟩ = some (.int .i64 y) at hck'
        clear fx0 fy0
        obtain ⟨uA, hdA⟩ := (unhide hrA).has k hlt
        obtain ⟨uB, hdB⟩ := (unhide hrB).has k hlt
        have rA2 : Hid (RowI ((wr.setCell ⟨g, k, none⟩ (.int .i64 p)).setCell ⟨h, k, none⟩ (.int .i64 q)).drew g n (partI A (k + 1))) := hide (by
          have := (((unhide hrA).set k (.int .i64 p)).other (c := h) (Ne.symm hne) k (.int .i64 q)).keep (Upd.drew1 _)
          rw [gA] at this
          exact this)
        have rB2 : Hid (RowI ((wr.setCell ⟨g, k, none⟩ (.int .i64 p)).setCell ⟨h, k, none⟩ (.int .i64 q)).drew h n (partI B (k + 1))) := hide (by
          have := (((unhide hrB).other (c := g) hne k (.int .i64 p)).set k (.int .i64 q)).keep (Upd.drew1 _)
          rw [gB] at this
          exact this)
        have hb2 : Hid (Below w.heap.size w ((wr.setCell ⟨g, k, none⟩ (.int .i64 p)).setCell ⟨h, k, none⟩ (.int .i64 q)).drew) := hide (below_upd (((unhide hbel).setCell (p := ⟨g, k, none⟩) hgw (.int .i64 p)).setCell (p := ⟨h, k, none⟩) hhw (.int .i64 q)) (Upd.drew1 _) (Nat.le_refl _) (.inr (Nat.le_refl _)))
        clear hrA hrB hbel gA gB
        go_region_with (go_at_call 86; refine (unhide hCx _).mono ?_; rintro e w2 ⟨rfl, rfl⟩)
        all_goals
          go_wp2
          go_roundw
          case rel => exact ⟨k + 1, by omega, by go_num, rA2, rB2, hb2⟩
          case measure => simp [intOf]; omega
      · have hkn : k = n := by omega
        subst hkn
        have oA := unhide hrA
        have oB := unhide hrB
        have aA := partI_all A
        have aB := partI_all B
        rw [unhide hAl] at aA
        rw [unhide hBl] at aB
        rw [aA] at oA
        rw [aB] at oB
        have hlg := oA.lt
        have hlh := oB.lt
        have hT : Hid (TwoI w wr (.slice (some ⟨g, 0, none⟩) k k) (.slice (some ⟨h, 0, none⟩) k k) A B) := hide ⟨g, g + 1, h, h + 1, hgw, by omega, hhw, by omega, by omega, by
          have := oA.own; unfold OwnI; rw [unhide hAl]; exact this, by
          have := oB.own; unfold OwnI; rw [unhide hBl]; exact this⟩
        clear hrA hrB oA oB aA aB hlg hlh
        go_wp2
        go_ret2
        exact ⟨_, _, rfl, unhide hT, Upd.of_below (unhide hbel) 0 0⟩
end Go.Proofs.Ytailhdfmfmlniaa
