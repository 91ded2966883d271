/- The law on laps of drawn samples, walked. -/
import Derived.Test.YtnoojbppfbmbgaaDoorWCsM
import Derived.Test.YtnoojbppfbmbgaaDoorWDwW
import Derived.Test.YtnoojbppfbmbgaaDoorWSmW
import Derived.Test.YtnoojbppfbmbgaaDoorWByts
namespace Go.Proofs.YtnoojbppfbmbgaaDoor
open Go.RowKit

theorem argB_ofYL {w : World} {ad : Option Addr} {zs : List Int} (h : ArgY w ad zs) (hR : InB zs) : ArgB w ad zs :=
  ⟨hR, fun hne => by
    obtain ⟨b, off, e, hl, hc⟩ := h hne
    exact ⟨b, off, e, hl, hc⟩⟩
theorem tmod_small {x M : Int} (h : 0 < M) : -(M - 1) ≤ x.tmod M ∧ x.tmod M ≤ M - 1 := by
  have h1 := Int.natAbs_tmod x M
  have h2 := Nat.mod_lt x.natAbs (show 0 < M.natAbs by omega)
  rw [← h1] at h2
  omega
theorem smallWA_len (xs : List Int) : (smallWA xs).length = xs.length := by unfold smallWA; simp
theorem smallWA_in (xs : List Int) : InR (-8191) 8191 (smallWA xs) := fun j hj => by
  rw [smallWA_len] at hj
  unfold smallWA
  rw [List.getD_eq_getElem?_getD, List.getElem?_map, List.getElem?_eq_getElem hj]
  exact tmod_small (M := 8192) (by omega)
theorem smallWA_inI (xs : List Int) : InI (smallWA xs) := InR.int (smallWA_in xs) (by omega) (by omega)
theorem lapF_no {xs ys : List Int} (h : ¬ (xs.length = 16 ∧ ys.length = 16)) : lapF xs ys = [] := by
  unfold lapF
  rw [if_neg]
  rw [Bool.and_eq_true]
  exact fun h' => h ⟨(hopB_iff.1 h'.1).1, (hopB_iff.1 h'.2).1⟩
theorem lapF_yes {xs ys : List Int} (hx : LenS xs) (hy : LenS ys) : lapF xs ys = lapL (xs ++ ys) := by
  unfold lapF
  rw [hx.hop, hy.hop]; rfl
theorem unlapF_yes {zs : List Int} (h : slotB zs = true) : unlapF zs = unlapL zs := by unfold unlapF; rw [h]; rfl
theorem unlapL_len (zs : List Int) : (unlapL zs).length = 32 := by unfold unlapL; simp
theorem lapL_inI {xs ys : List Int} (hx : LenS xs) (hy : LenS ys) : InI (lapL (xs ++ ys)) := InR.int (slotB_iff.1 (lapL_slot hx hy)).2 (by omega) (by omega)
/-- Numbers in cells of a block. -/
def CellsL (w : World) (b off : Nat) (xs : List Int) : Prop := b < w.heap.size ∧ ∀ j, j < xs.length → w.cell? ⟨b, off + j, none⟩ = some (.int .i64 (fI xs j))
theorem CellsL.below {w w' : World} {b off : Nat} {xs : List Int} (h : CellsL w b off xs) (hb : Below w.heap.size w w') : CellsL w' b off xs :=
  ⟨Nat.lt_of_lt_of_le h.1 hb.size, fun j hj => (hb.cell (p := ⟨b, off + j, none⟩) h.1).trans (h.2 j hj)⟩
theorem cellsL_of {w : World} {a b : Nat} {v : Value} {xs : List Int} (h : OwnI w a b v xs) (hne : xs ≠ []) : ∃ g off cap, v = .slice (some ⟨g, off, none⟩) xs.length cap ∧ CellsL w g off xs := by
  obtain ⟨ad, cap, rfl, hA⟩ := h.rd
  obtain ⟨g, off, rfl, hl, hc⟩ := hA hne
  exact ⟨g, off, cap, rfl, hl, fun j hj => hc j hj⟩
set_option maxHeartbeats 32000000 in
set_option maxRecDepth 100000 in
theorem lawFnLapsB (ad : Option Addr) (cap : Nat) (zs : List Int) (ad1 : Option Addr) (cap1 : Nat) (zs1 : List Int) (w : World) (hT : Held w 0 cosCells) (hA : ArgB w ad zs) (hA1 : ArgB w ad1 zs1) :
    Calls Tryd.prog 3 #[.slice ad zs.length cap, .slice ad1 zs1.length cap1] w fun e w' => e = .returned (.bool true) ∧ Below w.heap.size w w' := by
  by_cases hl : 1048576 < zs.length
  · clear hA hA1 hT
    go_enter Tryd.func3, Tryd.ntmps3
    go_wp2
    go_ret
    exact ⟨rfl, Below.refl _ _⟩
  by_cases hl1 : 1048576 < zs1.length
  · clear hA hA1 hT
    go_enter Tryd.func3, Tryd.ntmps3
    go_wp2
    go_ret
    exact ⟨rfl, Below.refl _ _⟩
  have hd0 := hide (specDrawWaves ad cap zs w hA (by omega))
  have hd1 := hide (fun W (b : Below w.heap.size w W) => specDrawWaves ad1 cap1 zs1 W ⟨hA1.1, fun hne => by
    obtain ⟨b', off, e, h1, h2⟩ := hA1.2 hne
    exact ⟨b', off, e, Nat.lt_of_lt_of_le h1 b.size, fun j hj => (b.cell (by simpa using h1)).trans (h2 j hj)⟩⟩ (by omega))
  have hT0 := hide (fun W (b : Below w.heap.size w W) => hT.keep (Upd.of_below b 0 0))
  clear hA hA1 hT
  go_enter Tryd.func3, Tryd.ntmps3
  go_wp2_with fail
  refine (unhide hd0).mono ?_
  rintro e w1 ⟨v0, xs0, rfl, hl0, hR0, hv0, hB1⟩
  replace hB1 := hide hB1
  go_wp2_with fail
  refine (specSmallWA v0 xs0 w1 (by omega) hR0 hv0.rd).mono ?_
  rintro e w2 ⟨a, rfl, hOa, hu⟩
  have hB2 := hide (below_upd (unhide hB1) hu (Nat.le_refl _) (.inr (Nat.zero_le _)))
  have hXa := hide (rdX_of_own hOa)
  have hla : Hid ((smallWA xs0).length = 16 ∨ (smallWA xs0).length = 15) := hide (by rw [smallWA_len]; exact hl0)
  have hia := hide (smallWA_in xs0)
  have hja := hide (smallWA_inI xs0)
  clear hu hB1 hOa hl0 hR0 hv0 hd0
  generalize smallWA xs0 = A at hXa hla hia hja
  go_wp2_with fail
  refine (unhide hd1 _ (unhide hB2)).mono ?_
  rintro e w3 ⟨v1, xs1, rfl, hl1', hR1, hv1, hB3⟩
  have hXa3 := hide ((unhide hXa).below hB3)
  replace hB3 := hide ((unhide hB2).trans (hB3.mono (unhide hB2).size))
  clear hB2 hXa hd1
  go_wp2_with fail
  refine (specSmallWA v1 xs1 w3 (by omega) hR1 hv1.rd).mono ?_
  rintro e w4 ⟨b, rfl, hOb, hu⟩
  have hB4 := hide (below_upd (unhide hB3) hu (Nat.le_refl _) (.inr (Nat.zero_le _)))
  have hXa4 := hide ((unhide hXa3).below hu.none)
  have hXb := hide (rdX_of_own hOb)
  have hlb : Hid ((smallWA xs1).length = 16 ∨ (smallWA xs1).length = 15) := hide (by rw [smallWA_len]; exact hl1')
  have hib := hide (smallWA_in xs1)
  have hjb := hide (smallWA_inI xs1)
  clear hu hB3 hXa3 hOb hl1' hR1 hv1
  generalize smallWA xs1 = B at hXb hlb hib hjb
  obtain ⟨ada, capa, rfl, _⟩ := (unhide hXa4).rd
  obtain ⟨adb, capb, rfl, _⟩ := (unhide hXb).rd
  have hna : A.length ≤ 1048576 := by rcases unhide hla with h | h <;> omega
  have hnb : B.length ≤ 1048576 := by rcases unhide hlb with h | h <;> omega
  by_cases h16 : A.length = 16 ∧ B.length = 16
  case neg =>
    have hLp := hide (implLap _ A _ B w4 (unhide hT0 _ (unhide hB4)) hna (unhide hja) (unhide hXa4) hnb (unhide hjb) (unhide hXb))
    rw [lapF_no h16] at hLp
    have hq : (((A.length : Int) != 16) || ((B.length : Int) != 16)) = true := by
      rw [Bool.or_eq_true, bne_iff_ne, bne_iff_ne]
      omega
    by_cases hA16 : A.length = 16
    · have z1 : ((A.length : Int) != 16) = false := by rw [bne_eq_false_iff_eq]; omega
      have z2 : ((B.length : Int) != 16) = true := by rw [bne_iff_ne]; omega
      clear hq h16 hA16
      go_wp2_with fail
      refine (unhide hLp).mono ?_
      rintro e w5 ⟨u, rfl, hO, hu⟩
      have hB5 := hide (below_upd (unhide hB4) hu (Nat.le_refl _) (.inr (Nat.zero_le _)))
      obtain ⟨ad5, cap5, rfl, _⟩ := hO.rd
      clear hu hO hLp
      go_wp2
      go_ret
      exact ⟨rfl, unhide hB5⟩
    · have z1 : ((A.length : Int) != 16) = true := by rw [bne_iff_ne]; omega
      clear hq h16 hA16
      go_wp2_with fail
      refine (unhide hLp).mono ?_
      rintro e w5 ⟨u, rfl, hO, hu⟩
      have hB5 := hide (below_upd (unhide hB4) hu (Nat.le_refl _) (.inr (Nat.zero_le _)))
      obtain ⟨ad5, cap5, rfl, _⟩ := hO.rd
      clear hu hO hLp
      go_wp2
      go_ret
      exact ⟨rfl, unhide hB5⟩
  obtain ⟨hA16, hB16⟩ := h16
  have hSA : LenS A := ⟨hA16, unhide hia⟩
  have hSB : LenS B := ⟨hB16, unhide hib⟩
  have z1 : ((A.length : Int) != 16) = false := by rw [bne_eq_false_iff_eq]; omega
  have z2 : ((B.length : Int) != 16) = false := by rw [bne_eq_false_iff_eq]; omega
  have hLp1 : Hid (∀ W, Below w.heap.size w W → RdX W (.slice ada A.length capa) A → RdX W (.slice adb B.length capb) B → Calls Tryd.prog 12 #[.slice ada A.length capa, .slice adb B.length capb] W fun e w' => ∃ u, e = .returned u ∧ OwnI w' W.heap.size w'.heap.size u (lapL (A ++ B)) ∧ Upd 0 0 W w') := hide (fun W b h1 h2 => by
    have h := implLap _ A _ B W (unhide hT0 _ b) hna (unhide hja) h1 hnb (unhide hjb) h2
    rwa [lapF_yes hSA hSB] at h)
  have hLp2 : Hid (∀ W, Below w.heap.size w W → RdX W (.slice ada A.length capa) A → RdX W (.slice adb B.length capb) B → Calls Tryd.prog 12 #[.slice adb B.length capb, .slice ada A.length capa] W fun e w' => ∃ u, e = .returned u ∧ OwnI w' W.heap.size w'.heap.size u (lapL (B ++ A)) ∧ Upd 0 0 W w') := hide (fun W b h1 h2 => by
    have h := implLap _ B _ A W (unhide hT0 _ b) hnb (unhide hjb) h2 hna (unhide hja) h1
    rwa [lapF_yes hSB hSA] at h)
  have hUn : Hid (∀ W v P Q, LenS P → LenS Q → Below w.heap.size w W → RdI W v (lapL (P ++ Q)) → Calls Tryd.prog 13 #[v] W fun e w' => ∃ u, e = .returned u ∧ OwnI w' W.heap.size w'.heap.size u (unlapL (lapL (P ++ Q))) ∧ Upd 0 0 W w') := hide (fun W v P Q hP hQ b h => by
    have h := implUnlap v (lapL (P ++ Q)) W (unhide hT0 _ b) (by unfold lapL; simp) (lapL_inI hP hQ) h
    rwa [unlapF_yes (lapL_slot hP hQ)] at h)
  have hNear : Hid (∀ i, i < 16 → -4 ≤ fI (unlapL (lapL (A ++ B))) (16 + i) + fI (unlapL (lapL (B ++ A))) i - fI B i ∧ fI (unlapL (lapL (A ++ B))) (16 + i) + fI (unlapL (lapL (B ++ A))) i - fI B i ≤ 4) := hide (fun i hi => laps_lists hSA hSB i hi)
  have hBx : Hid (∀ i, i < 32 → -17592186044416 ≤ fI (unlapL (lapL (A ++ B))) i ∧ fI (unlapL (lapL (A ++ B))) i ≤ 17592186044416) := hide (unlapL_bd (lapL_slot hSA hSB))
  have hBy : Hid (∀ i, i < 32 → -17592186044416 ≤ fI (unlapL (lapL (B ++ A))) i ∧ fI (unlapL (lapL (B ++ A))) i ≤ 17592186044416) := hide (unlapL_bd (lapL_slot hSB hSA))
  have hBb : Hid (∀ i, i < 16 → -8191 ≤ fI B i ∧ fI B i ≤ 8191) := hide (fun i hi => hSB.2 i (by rw [hB16]; exact hi))
  replace hA16 := hide hA16
  replace hB16 := hide hB16
  replace hSA := hide hSA
  replace hSB := hide hSB
  go_wp2_with fail
  refine (unhide hLp1 _ (unhide hB4) (unhide hXa4) (unhide hXb)).mono ?_
  rintro e w5 ⟨u5, rfl, hO5, hu5⟩
  have hB5 := hide (below_upd (unhide hB4) hu5 (Nat.le_refl _) (.inr (Nat.zero_le _)))
  have hXa5 := hide ((unhide hXa4).below hu5.none)
  have hXb5 := hide ((unhide hXb).below hu5.none)
  have hr5 := hide hO5.rd
  clear hu5 hO5 hB4 hXa4 hXb hLp1
  go_wp2_with fail
  refine (unhide hUn _ _ _ _ (unhide hSA) (unhide hSB) (unhide hB5) (unhide hr5)).mono ?_
  rintro e w6 ⟨u6, rfl, hO6, hu6⟩
  have hB6 := hide (below_upd (unhide hB5) hu6 (Nat.le_refl _) (.inr (Nat.zero_le _)))
  have hXa6 := hide ((unhide hXa5).below hu6.none)
  have hXb6 := hide ((unhide hXb5).below hu6.none)
  have hlX : (unlapL (lapL (A ++ B))).length = 32 := unlapL_len _
  have hlY : (unlapL (lapL (B ++ A))).length = 32 := unlapL_len _
  obtain ⟨gx, ox, cpx, rfl, hCx⟩ := cellsL_of hO6 (ne_of_lt_length (k := 0) (by rw [hlX]; omega))
  rw [hlX]
  replace hCx := hide hCx
  clear hu6 hO6 hB5 hXa5 hXb5 hr5
  generalize unlapL (lapL (A ++ B)) = X at hNear hBx hCx hlX
  go_wp2_with fail
  refine (unhide hLp2 _ (unhide hB6) (unhide hXa6) (unhide hXb6)).mono ?_
  rintro e w7 ⟨u7, rfl, hO7, hu7⟩
  have hB7 := hide (below_upd (unhide hB6) hu7 (Nat.le_refl _) (.inr (Nat.zero_le _)))
  have hXb7 := hide ((unhide hXb6).below hu7.none)
  have hCx7 := hide ((unhide hCx).below hu7.none)
  have hr7 := hide hO7.rd
  clear hu7 hO7 hB6 hXa6 hXb6 hLp2 hCx
  go_wp2_with fail
  refine (unhide hUn _ _ _ _ (unhide hSB) (unhide hSA) (unhide hB7) (unhide hr7)).mono ?_
  rintro e w8 ⟨u8, rfl, hO8, hu8⟩
  have hB8 := hide (below_upd (unhide hB7) hu8 (Nat.le_refl _) (.inr (Nat.zero_le _)))
  have hXb8 := (unhide hXb7).below hu8.none
  have hCx8 := hide ((unhide hCx7).below hu8.none)
  obtain ⟨gy, oy, cpy, rfl, hCy⟩ := cellsL_of hO8 (ne_of_lt_length (k := 0) (by rw [hlY]; omega))
  rw [hlY]
  replace hCy := hide hCy
  clear hu8 hO8 hB7 hXb7 hr7 hCx7 hUn
  generalize unlapL (lapL (B ++ A)) = Y at hNear hBy hCy hlY
  obtain ⟨gb, ob, rfl, hCb⟩ : ∃ gb ob, adb = some ⟨gb, ob, none⟩ ∧ CellsL w8 gb ob B := by
    rcases hXb8 with ⟨h, h0⟩ | ⟨b', off, cap', h, _, hbl, hc⟩
    · have := unhide hB16; rw [h0] at this; simp at this
    · simp only [Value.slice.injEq] at h
      exact ⟨b', off, h.1, hbl, fun j hj => hc j hj⟩
  replace hCb := hide hCb
  have hbl16 : (B.length : Int) = 16 := by have := unhide hB16; omega
  rw [unhide hB16]
  clear hXb8 hbl16
  replace hlX := hide hlX
  replace hlY := hide hlY
  go_wp2
  go_loopw [9, 10, 56] (fun _ _ i wr => ∃ k : Nat, k ≤ 16 ∧ i = .int .i64 k ∧ Hid (CellsL wr gx ox X) ∧ Hid (CellsL wr gy oy Y) ∧ Hid (CellsL wr gb ob B) ∧ Hid (Below w.heap.size w wr)) (fun _ _ i _ => 16 - (intOf i).toNat)
  case atStart => exact ⟨0, Nat.zero_le _, rfl, hCx8, hCy, hCb, hB8⟩
  case round =>
    clear hCx8 hCy hCb hB8
    obtain ⟨k, hk, rfl, hCx, hCy, hCb, hB⟩ := hrel
    by_cases hlt : k < 16
    · obtain ⟨W1, hW1⟩ : ∃ W1 : World, W1 = wr := ⟨_, rfl⟩
      subst hW1
      obtain ⟨m, hm⟩ : ∃ m, 16 + k = m := ⟨_, rfl⟩
      have hn := unhide hNear k hlt
      have hbx := unhide hBx m (by omega)
      have hby := unhide hBy k (by omega)
      have hbb := unhide hBb k hlt
      rw [hm] at hn
      have hcx := (unhide hCx).2 m (by rw [unhide hlX]; omega)
      have hcy := (unhide hCy).2 k (by rw [unhide hlY]; omega)
      have hcb := (unhide hCb).2 k (by rw [unhide hB16]; omega)
      generalize fI X m = x at hn hbx hcx
      generalize fI Y k = y at hn hby hcy
      generalize fI B k = z at hn hbb hcb
      have kI : (0 : Int) ≤ (k : Int) := by omega
      have kL : (k : Int) < 16 := by omega
      have kM : (k : Int) < 32 := by omega
      have mI : (0 : Int) ≤ (m : Int) := by omega
      have mL : (m : Int) < 32 := by omega
      have x1 : IntKind.i64.wrap (16 + (k : Int)) = (m : Int) := by rw [show 16 + (k : Int) = (m : Int) by omega]; exact wrapV (by omega)
      have x2 : IntKind.i64.wrap (x + y) = x + y := wrapV (by omega)
      have x3 : IntKind.i64.wrap (x + y - z) = x + y - z := wrapV (by omega)
      have q1 : decide (x + y - z < -4) = false := decide_eq_false (by omega)
      have q2 : decide (4 < x + y - z) = false := decide_eq_false (by omega)
      clear hn hbx hby hbb hm
      go_upto_region 14 with fail
      refine wp_region_still_lit (by kernel_rfl) (by kernel_rfl) ?_
      iterate 16 still_step
      refine wpStill_nil ?_
      go_wp2
      go_roundw
      case rel => exact ⟨k + 1, by omega, by go_num, hCx, hCy, hCb, below_drewN (unhide hB) 1⟩
      case measure => simp [intOf]; omega
    · have hkl : k = 16 := by omega
      subst hkl
      clear hCx hCy hCb
      go_wp2
      go_ret
      exact ⟨rfl, unhide hB⟩
theorem lawFnLaps (ad : Option Addr) (cap : Nat) (zs : List Int) (ad1 : Option Addr) (cap1 : Nat) (zs1 : List Int) (w : World) (hT : Held w 0 cosCells) (hA : ArgY w ad zs) (hR : InB zs) (hA1 : ArgY w ad1 zs1) (hR1 : InB zs1) :
    Calls Tryd.prog 3 #[.slice ad zs.length cap, .slice ad1 zs1.length cap1] w fun e w' => e = .returned (.bool true) ∧ Below w.heap.size w w' :=
  lawFnLapsB ad cap zs ad1 cap1 zs1 w hT (argB_ofYL hA hR) (argB_ofYL hA1 hR1)
end Go.Proofs.YtnoojbppfbmbgaaDoor
