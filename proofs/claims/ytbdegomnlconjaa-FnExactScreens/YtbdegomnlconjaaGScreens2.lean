/- The texts behind FnExactScreens, part 2: what each of them says stands at its head. -/
import Derived.Test.YtbdegomnlconjaaGScreens1
import Derived.StillTailTactics
import Derived.Deep.WholeRow
import Derived.Laws.ResultCell
import Derived.Laws.CopyOwn
import Derived.Deep.DeepCutAuto
import Derived.OwnWalk
import Derived.Deep.RegionHeld3
import Derived.ProofKit
import Derived.Deep.SlicePairs
import Derived.ChangeMaps5
/- What a moving picture shows: the specification's walk. -/
namespace Go.Proofs.Ytbdegomnlconjaa
open Go.RowKit

theorem repZ_get? (m : Value) (n k i : Nat) (hk : k ≤ n) : (repZ m n k)[i]? = if i < k then some m else if i < n then some (.int .i64 0) else none := by
  unfold repZ
  rw [List.getElem?_append, List.length_replicate]
  split
  · rw [List.getElem?_replicate, if_pos (by assumption)]
  · rw [List.getElem?_replicate]
    split
    · rw [if_pos (by omega)]
    · rw [if_neg (by omega)]
theorem repZ_set (m : Value) (n k : Nat) (hk : k < n) : (repZ m n k).set k m = repZ m n (k + 1) := by
  apply List.ext_getElem?
  intro i
  rw [List.getElem?_set, repZ_length m n k (by omega), repZ_get? m n k i (by omega), repZ_get? m n (k + 1) i (by omega)]
  by_cases e : k = i
  · subst e
    rw [if_pos rfl, if_pos (by omega), if_pos (by omega)]
  · rw [if_neg e]
    by_cases h : i < k
    · rw [if_pos h, if_pos (by omega)]
    · rw [if_neg h, if_neg (show ¬ i < k + 1 by omega)]
set_option maxHeartbeats 8000000 in
set_option maxRecDepth 100000 in
theorem specScreensR (a b l : Int) (zs : List Int) (fs : Fs) (adp adf : Option Addr) (cpp cpf : Nat) (w : World) (hn : MvSize (a, b, zs, l, fs) ≤ 1048576) (hR : InMv (a, b, zs, l, fs)) (hAp : ArgI w adp zs) (hAf : ArgFs w adf fs) :
    Calls Try.prog 20 #[.agg #[.int .i64 a, .int .i64 b, .slice adp zs.length cpp, .int .i64 l, .slice adf fs.length cpf]] w fun e w' => ∃ u, e = .returned u ∧ OwnLl w' w.heap.size w'.heap.size u (screensF (a, b, zs, l, fs)) ∧ Upd 0 0 w w' := by
  have hbx := hide (heldF_new w (mvc a b (.slice adp zs.length cpp) l (.slice adf fs.length cpf)) 49)
  have hbel := hide ((Below.refl w.heap.size w).alloc (Nat.le_refl _) (.cells #[.int .i64 a, .int .i64 b, .slice adp zs.length cpp, .int .i64 l, .slice adf fs.length cpf] 49))
  have hG := hide (fun W (hb : Below w.heap.size w W) => specGoodMoving (.agg #[.int .i64 a, .int .i64 b, .slice adp zs.length cpp, .int .i64 l, .slice adf fs.length cpf]) (a, b, zs, l, fs) W hn hR ⟨_, _, rfl, RdI.below ⟨adp, cpp, rfl, hAp⟩ hb, RdFs.below ⟨adf, cpf, rfl, hAf⟩ hb⟩)
  clear hAp hn hR
  replace hAf := hide hAf
  by_cases hg : GoodMv (a, b, zs, l, fs)
  case neg =>
    have hres : Hid (screensF (a, b, zs, l, fs) = []) := hide (by unfold screensF; rw [if_neg hg])
    rw [mB_no hg] at hG
    clear hg
    go_enter Try.func20, Try.ntmps20
    go_upto_region 1 with fail
    change Hid (HeldF (w.alloc (.cells #[.int .i64 a, .int .i64 b, .slice adp zs.length cpp, .int .i64 l, .slice adf fs.length cpf] 49)) w.heap.size (mvc a b (.slice adp zs.length cpp) l (.slice adf fs.length cpf))) at hbx
    generalize w.alloc (.cells #[.int .i64 a, .int .i64 b, .slice adp zs.length cpp, .int .i64 l, .slice adf fs.length cpf] 49) = w0 at hbx hbel ⊢
    have p0 := (unhide hbx).1.2 0 _ rfl
    have p1 := (unhide hbx).1.2 1 _ rfl
    have p2 := (unhide hbx).1.2 2 _ rfl
    have p3 := (unhide hbx).1.2 3 _ rfl
    have p4 := (unhide hbx).1.2 4 _ rfl
    have pl := (unhide hbx).1.1
    go_wp2_with fail
    refine (unhide hG w0 (unhide hbel)).mono ?_
    rintro e w1 ⟨rfl, hu⟩
    have hU := hide ((Upd.of_below (unhide hbel) 0 0).trans hu)
    clear p0 p1 p2 p3 p4 pl hbx hbel hu hG
    go_wp2
    go_ret
    exact ⟨_, rfl, by rw [unhide hres]; exact nil_ownLl _ _ _, unhide hU⟩
  rw [mB_yes hg] at hG
  have hres : Hid (screensF (a, b, zs, l, fs) = screensTo a.toNat fs (List.replicate (a * b).toNat (-1)) fs.length) := hide (by unfold screensF; rw [if_pos hg])
  obtain ⟨⟨⟨ha, hb, hab⟩, _, _, _⟩, ⟨hf1, hf2⟩, hfr, _⟩ := hg
  change 1 ≤ a ∧ a ≤ 512 at ha
  change 1 ≤ b ∧ b ≤ 512 at hb
  change a * b ≤ 4096 at hab
  change 1 ≤ fs.length at hf1
  change fs.length ≤ 40 at hf2
  change ∀ j, j < fs.length → FrAll a b zs.length (fs.getD j Fr0) at hfr
  obtain ⟨A, rfl⟩ := Int.eq_ofNat_of_zero_le (show 0 ≤ a by omega)
  obtain ⟨B, rfl⟩ := Int.eq_ofNat_of_zero_le (show 0 ≤ b by omega)
  obtain ⟨N, hN⟩ : ∃ N, A * B = N := ⟨_, rfl⟩
  have hNI : (A : Int) * (B : Int) = (N : Int) := by rw [← hN, Int.natCast_mul]
  rw [hNI] at hab hres
  rw [Int.toNat_natCast, Int.toNat_natCast] at hres
  have hN1 : 1 ≤ N := by rw [← hN]; exact Nat.mul_pos (by omega) (by omega)
  have hN4 : N ≤ 4096 := by omega
  replace hfr := hide hfr
  go_enter Try.func20, Try.ntmps20
  go_upto_region 1 with fail
  change Hid (HeldF (w.alloc (.cells #[.int .i64 (A : Int), .int .i64 (B : Int), .slice adp zs.length cpp, .int .i64 l, .slice adf fs.length cpf] 49)) w.heap.size (mvc (A : Int) (B : Int) (.slice adp zs.length cpp) l (.slice adf fs.length cpf))) at hbx
  generalize w.alloc (.cells #[.int .i64 (A : Int), .int .i64 (B : Int), .slice adp zs.length cpp, .int .i64 l, .slice adf fs.length cpf] 49) = w0 at hbx hbel ⊢
  have p0 := (unhide hbx).1.2 0 _ rfl
  have p1 := (unhide hbx).1.2 1 _ rfl
  have p2 := (unhide hbx).1.2 2 _ rfl
  have p3 := (unhide hbx).1.2 3 _ rfl
  have p4 := (unhide hbx).1.2 4 _ rfl
  have pl := (unhide hbx).1.1
  go_wp2_with fail
  refine (unhide hG w0 (unhide hbel)).mono ?_
  rintro e w1 ⟨rfl, hu⟩
  replace hbel := hide (below_upd (unhide hbel) hu (Nat.le_refl _) (.inr (Nat.zero_le _)))
  replace hbx := hide ((unhide hbx).keep hu)
  clear p0 p1 p2 p3 p4 pl hu hG
  have p0 := (unhide hbx).1.2 0 _ rfl
  have p1 := (unhide hbx).1.2 1 _ rfl
  obtain ⟨ob, hmk⟩ := mkRowI N (by omega)
  have hmk1 := fun X => (hmk X).1
  have hmk2 := (hmk w1).2
  have hA512 : A ≤ 512 := by omega
  clear hmk
  go_upto_region 4 with fail
  rw [← repZ_zero (.int .i64 (-1)) N] at hmk2
  have hbx1 := hide ((unhide hbx).keep (Upd.of_below ((Below.refl w1.heap.size w1).alloc (Nat.le_refl _) ob) 0 0))
  have hbel1 := hide ((unhide hbel).alloc (by exact (unhide hbel).size) ob)
  have hgw : w.heap.size < w1.heap.size := (unhide hbx).1.1
  have hR0 : Hid (RowC (w1.alloc ob) w1.heap.size N N (repZ (.int .i64 (-1)) N 0)) := hide hmk2
  clear hmk1 hmk2 p0 p1 hbx hbel
  generalize w1.alloc ob = W1 at hbx1 hbel1 hR0 ⊢
  obtain ⟨g0, hg0⟩ : ∃ g0, w1.heap.size = g0 := ⟨_, rfl⟩
  rw [hg0] at hR0 hgw ⊢
  clear hg0
  go_upto_region 5 with fail
  go_loopw [4, 24] (fun _ i wr => ∃ k : Nat, k ≤ N ∧ i = .int .i64 k ∧ Hid (RowC wr g0 N N (repZ (.int .i64 (-1)) N k)) ∧ Hid (HeldF wr w.heap.size (mvc (A : Int) (B : Int) (.slice adp zs.length cpp) l (.slice adf fs.length cpf))) ∧ Hid (Below w.heap.size w wr)) (fun _ i _ => N - (intOf i).toNat)
  case atStart => exact ⟨0, Nat.zero_le _, rfl, hR0, hbx1, hbel1⟩
  case round =>
    clear hR0 hbx1 hbel1
    obtain ⟨k, hk, rfl, hR, hbx, hbel⟩ := hrel
    by_cases hlt : k < N
    · have hR2 := hide ((unhide hR).set k (.int .i64 (-1)))
      rw [repZ_set _ _ _ hlt] at hR2
      have hnA := (unhide hR).frozen k
      obtain ⟨uA, hdA⟩ := (unhide hR).has k hlt
      have hbx2 := hide ((unhide hbx).other (show g0 ≠ w.heap.size by omega) k (.int .i64 (-1)))
      have hbel2 := hide ((unhide hbel).setCell (p := ⟨g0, k, none⟩) (Nat.le_of_lt hgw) (.int .i64 (-1)))
      have kI : (0 : Int) ≤ (k : Int) := by omega
      have kL : (k : Int) < (N : Int) := by omega
      clear hR hbx hbel
      go_wp2
      go_roundw
      case rel => exact ⟨k + 1, by omega, by go_num, hR2, hbx2, hbel2⟩
      case measure => simp [intOf]; omega
    · have hkN : k = N := by omega
      rw [hkN, repZ_all] at hR
      have hR0 : Hid (RowC wr g0 N N (ints (scrN A fs (List.replicate N (-1)) 0))) := hide (by
        show RowC wr g0 N N (ints (List.replicate N (-1)))
        unfold ints; rw [List.map_replicate]; exact unhide hR)
      have p4 := (unhide hbx).1.2 4 _ rfl
      have hsl : Hid (∀ k, (scrN A fs (List.replicate N (-1)) k).length = N) := hide (fun k => by rw [scrN_length, List.length_replicate])
      obtain ⟨S, hS⟩ : ∃ S, scrN A fs (List.replicate N (-1)) = S := ⟨_, rfl⟩
      obtain ⟨L, hL⟩ : ∃ L, screensTo A fs (List.replicate N (-1)) = L := ⟨_, rfl⟩
      have hSn : Hid (∀ k, S (k + 1) = nextF A (fs.getD k Fr0) (S k)) := hide (fun k => by rw [← hS]; rfl)
      have hLn : Hid (∀ k, L (k + 1) = L k ++ [seenF A (fs.getD k Fr0) (S k)]) := hide (fun k => by rw [← hS, ← hL]; exact screensTo_succ _ _ _ _)
      have hLl : Hid (∀ k, (L k).length = k) := hide (fun k => by rw [← hL]; exact screensTo_length _ _ _ _)
      have hL0 : Hid (OwnLl wr (w.heap.size + 1) wr.heap.size (.slice none 0 0) (L 0)) := hide (by rw [← hL]; exact nil_ownLl _ _ _)
      rw [hS] at hR0 hsl
      rw [hL] at hres
      go_upto_region 11 with fail
      clear hS hL hR p4 hkN hlt hk
      go_loopw [3, 5, 7, 8, 9, 10, 11, 12, 34] (fun sv lv _ _ _ _ _ _ i wr => ∃ (k gs cps : Nat), k ≤ fs.length ∧ i = .int .i64 k ∧ sv = .slice (some ⟨gs, 0, none⟩) N cps ∧ w.heap.size < gs ∧ Hid (RowC wr gs N cps (ints (S k))) ∧ Hid (OwnLl wr (w.heap.size + 1) wr.heap.size lv (L k)) ∧ Hid (∀ g, lv.ownBlock = some g → g ≠ gs) ∧ Hid (HeldF wr w.heap.size (mvc (A : Int) (B : Int) (.slice adp zs.length cpp) l (.slice adf fs.length cpf))) ∧ Hid (Below w.heap.size w wr)) (fun _ _ _ _ _ _ _ _ i _ => fs.length - (intOf i).toNat)
      case atStart => exact ⟨0, g0, N, Nat.zero_le _, rfl, rfl, hgw, hR0, hL0, hide (fun g h => by cases h), hbx, hbel⟩
      case round =>
        clear hR0 hL0 hbx hbel hgw
        obtain ⟨k, gs, cps, hk, rfl, rfl, hgw, hR, hL, hne, hbx, hbel⟩ := hrel
        by_cases hlt : k < fs.length
        · obtain ⟨bb, off, us, rfl, hbl, hc, hru⟩ := (unhide hAf) (ne_of_lt_length hlt)
          obtain ⟨d0, d1, d2, d3, d4, d5, d6, d7⟩ := hc k hlt
          obtain ⟨adx, cpx, huk, hAx⟩ := hru k hlt
          have hF := unhide hfr k hlt
          have hSk := unhide hSn k
          have hLk := unhide hLn k
          have hlk := unhide hsl k
          obtain ⟨uk, hukk⟩ : ∃ uk, us k = uk := ⟨_, rfl⟩
          rw [hukk] at d7 huk
          clear hc hru hukk
          replace hcl := hide (fun o v (h : w.cell? ⟨bb, o, none⟩ = some v) => ((unhide hbel).cell (p := ⟨bb, o, none⟩) (by simpa using hbl)).trans h)
          generalize fs.getD k Fr0 = f at d0 d1 d2 d3 d4 d5 d6 d7 hF hSk hLk hAx huk
          obtain ⟨x0, x1, x2, x3, x4, x5, x6, px⟩ := f
          simp only [Fss] at d0 d1 d2 d3 d4 d5 d6 d7 hAx huk
          subst huk
          obtain ⟨⟨f0, f1, f2, f3, f4, f5, f6, f7, f8⟩, hpl, _⟩ := hF
          simp only [Fss] at f0 f1 f2 f3 f4 f5 f6 f7 f8 hpl
          obtain ⟨X, rfl⟩ := Int.eq_ofNat_of_zero_le (show 0 ≤ x0 by omega)
          obtain ⟨Y, rfl⟩ := Int.eq_ofNat_of_zero_le (show 0 ≤ x1 by omega)
          obtain ⟨W, rfl⟩ := Int.eq_ofNat_of_zero_le (show 0 ≤ x2 by omega)
          obtain ⟨H, rfl⟩ := Int.eq_ofNat_of_zero_le (show 0 ≤ x3 by omega)
          obtain ⟨M, hM⟩ : ∃ M, px.length = M := ⟨_, rfl⟩
          rw [hM] at hpl
          have hWH : W * H = M := by have e : ((W * H : Nat) : Int) = (M : Int) := by rw [Int.natCast_mul, hpl]
                                     omega
          have hM1 : 1 ≤ M := by rw [← hWH]; exact Nat.mul_pos (by omega) (by omega)
          obtain ⟨bp, op, rfl, hbp, hpc⟩ := hAx (by intro e; rw [e] at hM; simp at hM; omega)
          rw [hM] at d7
          replace hpc := fun j (hj : j < M) => hpc j (by rw [hM]; exact hj)
          have hseen : seenF A ((X : Int), (Y : Int), (W : Int), (H : Int), x4, x5, x6, px) (S k) = putZ X Y W A x6 px (S k) M := by
            unfold seenF; simp only [Fss, Int.toNat_natCast, hM]
          have hnext : nextF A ((X : Int), (Y : Int), (W : Int), (H : Int), x4, x5, x6, px) (S k) = if x5 = 2 then S k else if x5 = 1 then wipZ X Y W A (putZ X Y W A x6 px (S k) M) M else putZ X Y W A x6 px (S k) M := by
            unfold nextF; rw [hseen]; simp only [Fss, Int.toNat_natCast, hM]
          rw [hseen] at hLk
          rw [hnext] at hSk
          clear hseen hnext
          have hHB : H ≤ 512 := by omega
          have hW1 : 1 ≤ W := by omega
          have hXA : X + W ≤ A := by omega
          have hYN : (Y + H) * A ≤ N := by rw [← hN, Nat.mul_comm A B]; exact Nat.mul_le_mul_right _ (by omega)
          replace d0 := unhide hcl _ _ d0
          replace d1 := unhide hcl _ _ d1
          replace d2 := unhide hcl _ _ d2
          replace d3 := unhide hcl _ _ d3
          replace d4 := unhide hcl _ _ d4
          replace d5 := unhide hcl _ _ d5
          replace d6 := unhide hcl _ _ d6
          replace d7 := unhide hcl _ _ d7
          clear hcl
          replace hbl := Nat.lt_of_lt_of_le hbl (unhide hbel).size
          have hfx := hide (heldF_new wr (fcs X Y W H x4 x5 x6 (.slice (some ⟨bp, op, none⟩) M cpx)) 27)
          have hu1 := Upd.of_below ((Below.refl wr.heap.size wr).alloc (Nat.le_refl _) (.cells #[.int .i64 (X : Int), .int .i64 (Y : Int), .int .i64 (W : Int), .int .i64 (H : Int), .int .i64 x4, .int .i64 x5, .int .i64 x6, .slice (some ⟨bp, op, none⟩) M cpx] 27)) 0 0
          have hgl := (unhide hR).lt
          have hR1 := hide ((unhide hR).keep hu1)
          have hL1 := hide ((unhide hL).keep hu1)
          have hbx1 := hide ((unhide hbx).keep hu1)
          have hbel1 := hide (below_upd (unhide hbel) hu1 (Nat.le_refl _) (.inr (Nat.zero_le _)))
          have hwr := (unhide hbel).size
          have hbz := (unhide hbx).1.1
          clear hu1 hR hL hbx hbel hpl
          replace hSk := hide hSk
          replace hLk := hide hLk
          replace hpc := hide hpc
          have hx5 := f7
          go_upto_region 14 with fail
          change Hid (HeldF (wr.alloc (.cells #[.int .i64 (X : Int), .int .i64 (Y : Int), .int .i64 (W : Int), .int .i64 (H : Int), .int .i64 x4, .int .i64 x5, .int .i64 x6, .slice (some ⟨bp, op, none⟩) M cpx] 27)) wr.heap.size (fcs X Y W H x4 x5 x6 (.slice (some ⟨bp, op, none⟩) M cpx))) at hfx
          generalize wr.alloc (.cells #[.int .i64 (X : Int), .int .i64 (Y : Int), .int .i64 (W : Int), .int .i64 (H : Int), .int .i64 x4, .int .i64 x5, .int .i64 x6, .slice (some ⟨bp, op, none⟩) M cpx] 27) = W1 at hfx hR1 hL1 hbx1 hbel1 ⊢
          obtain ⟨c, hc0⟩ : ∃ c, wr.heap.size = c := ⟨_, rfl⟩
          rw [hc0] at hfx hL1 hgl hwr hbz ⊢
          clear d0 d1 d2 d3 d4 d5 d6 d7 f0 f1 f2 f3 f4 f5 f6 f7 f8 hbl hc0
          have hcW := (unhide hfx).1.1
          have hrj := hide ((unhide hR1).rdJ hlk)
          have hrj2 : Hid (RdJ W1 (.slice (some ⟨gs, 0, none⟩) N cps) (S k)) := hrj
          have hnil : W1.ownsRow W1.heap.size 3 1 (.slice none 0 0) 0 [] := World.ownsRow_nil _ _ _ _
          go_upto_region 15 with (at_builtin; go_loud (refine wpList_appI rfl (.tmp 38) (.tmp 39) rfl W1.heap.size _ [] rfl hnil _ (S k) rfl (unhide hrj2) (by simp; omega) (by simp) ?_; intro v2 w2 ho2 hg2 _))
          replace hg2 : W1.grownBy w2 none := hg2
          simp only [List.nil_append] at ho2
          have hu2 : Upd 0 0 W1 w2 := ⟨hg2.os, hg2.tape, hg2.output, hg2.size, fun k hk _ => hg2.block k hk (by simp)⟩
          have hOs : OwnI w2 W1.heap.size w2.heap.size v2 (S k) := Own.of ho2
          obtain ⟨g2, cp2, rfl, hR2, hg2c, hg2b⟩ := ownI_rowC hOs (by omega)
          rw [hlk] at hR2 ⊢
          have hgs2 := hide ((unhide hR1).keep hu2)
          have hL2 := hide ((unhide hL1).keep hu2)
          have hbx2 := hide ((unhide hbx1).keep hu2)
          have hfx2 := hide ((unhide hfx).keep hu2)
          have hbel2 := hide (below_upd (unhide hbel1) hu2 (Nat.le_refl _) (.inr (Nat.zero_le _)))
          clear hu2 hOs hR1 hL1 hbx1 hfx hbel1 hg2b ho2 hg2 hrj hrj2 hnil
          have hcg : c < g2 := by omega
          have hM4 : M ≤ 262144 := by
            have h1 : W * H ≤ 512 * 512 := Nat.mul_le_mul (by omega) hHB
            omega
          obtain ⟨T, hT⟩ : ∃ T, putZ X Y W A x6 px (S k) = T := ⟨_, rfl⟩
          have hT0 : S k = T 0 := by rw [← hT]; rfl
          have hTs : Hid (∀ i, T (i + 1) = if px.getD i 0 = x6 then T i else (T i).set (plcS X Y W A i) (px.getD i 0)) := hide (fun i => by rw [← hT]; exact putZ_succ _ _ _ _ _ _ _ _)
          have hPl : Hid (∀ i, i < M → plcS X Y W A i < N) := hide (fun i hi => plcS_lt (by rw [hWH]; exact hi) hXA hYN)
          have hTl : (T M).length = N := by rw [← hT, putZ_length]; exact hlk
          rw [hT] at hSk hLk
          clear hT
          have q7 := (unhide hfx2).1.2 7 _ rfl
          have hR3 : Hid (RowC w2 g2 N cp2 (ints (T 0))) := hide (by rw [← hT0]; exact hR2)
          have hU0 := hide (Upd.refl g2 (g2 + 1) w2)
          clear hT0 hR2
          have hpx2 := hide (fun wr (u : Upd g2 (g2 + 1) w2 wr) j (hj : j < M) => (World.cell?_of_block (a := ⟨bp, op + j, none⟩) (u.block bp (by have := (unhide hbel2).size; show bp < _; omega) (.inl (show bp < g2 by omega)))).trans (((unhide hbel2).cell (p := ⟨bp, op + j, none⟩) (by simpa using hbp)).trans (unhide hpc j hj)))
          go_upto_region 16 with fail
          clear q7
          go_loopw [9, 10, 44] (fun _ _ i wr => ∃ x : Nat, x ≤ M ∧ i = .int .i64 x ∧ Hid (RowC wr g2 N cp2 (ints (T x))) ∧ Hid (Upd g2 (g2 + 1) w2 wr)) (fun _ _ i _ => M - (intOf i).toNat)
          case atStart => exact ⟨0, Nat.zero_le _, rfl, hR3, hU0⟩
          case round =>
            clear hR3 hU0
            obtain ⟨x, hx, rfl, hR3, hU⟩ := hrel
            by_cases hxl : x < M
            · have hcp := unhide hpx2 wr (unhide hU) x hxl
              have hTx := unhide hTs x
              have hPx := unhide hPl x hxl
              generalize px.getD x 0 = z at hcp hTx
              have hbx3 := (unhide hbx2).upd (unhide hU) (.inl (by omega))
              have hfx3 := (unhide hfx2).upd (unhide hU) (.inl (by omega))
              have q0 := hfx3.1.2 0 _ rfl
              have q1 := hfx3.1.2 1 _ rfl
              have q2 := hfx3.1.2 2 _ rfl
              have q6 := hfx3.1.2 6 _ rfl
              have p0 := hbx3.1.2 0 _ rfl
              clear hbx3 hfx3
              have xI : (0 : Int) ≤ (x : Int) := by omega
              have xL : (x : Int) < (M : Int) := by omega
              by_cases hz : z = x6
              · rw [if_pos hz] at hTx
                have hzb : (z != x6) = false := by rw [hz]; simp
                rw [← hTx] at hR3
                clear hz hTx hPx
                go_wp2
                go_roundw
                case rel => exact ⟨x + 1, by omega, by go_num, hR3, hU⟩
                case measure => simp [intOf]; omega
              · rw [if_neg hz] at hTx
                have hzb : (z != x6) = true := by simpa using hz
                have hdm : plcS X Y W A x = ((Y + x / W) * A + X) + x % W := rfl
                obtain ⟨Q, hQ⟩ : ∃ Q, x / W = Q := ⟨_, rfl⟩
                obtain ⟨R, hRr⟩ : ∃ R, x % W = R := ⟨_, rfl⟩
                obtain ⟨E, hE⟩ : ∃ E, (Y + Q) * A = E := ⟨_, rfl⟩
                obtain ⟨D, hD⟩ : ∃ D, plcS X Y W A x = D := ⟨_, rfl⟩
                rw [hD] at hTx hPx hdm
                rw [hQ, hRr, hE] at hdm
                have hQI : (x : Int) / (W : Int) = (Q : Int) := by rw [← hQ, Int.natCast_ediv]
                have hRI : (x : Int) % (W : Int) = (R : Int) := by rw [← hRr, Int.natCast_emod]
                have hEI : ((Y : Int) + (Q : Int)) * (A : Int) = (E : Int) := by rw [← hE, Int.natCast_mul, Int.natCast_add]
                have hDI : (E : Int) + (X : Int) + (R : Int) = (D : Int) := by omega
                have hD0 : (0 : Int) ≤ (D : Int) := by omega
                have hDN : (D : Int) < (N : Int) := by omega
                have hS2 := hide ((unhide hR3).set D (.int .i64 z))
                rw [← ints_setS, ← hTx] at hS2
                have hnA := (unhide hR3).frozen D
                obtain ⟨uA, hdA⟩ := (unhide hR3).has D hPx
                have hU2 := hide ((unhide hU).setCell (r := g2) ⟨Nat.le_refl _, Nat.lt_succ_self _⟩ D (.int .i64 z))
                have hWn : ¬ W = 0 := by omega
                have hYQ : Y + Q ≤ 4096 := by
                  have h1 : (Y + Q) * 1 ≤ (Y + Q) * A := Nat.mul_le_mul_left _ (by omega)
                  omega
                have hX4 : X ≤ 512 := by omega
                have hwQ : IntKind.i64.wrap (Q : Int) = (Q : Int) := by rw [IntKind.wrap_i64]; omega
                have hw1 : IntKind.i64.wrap ((Y : Int) + (Q : Int)) = (Y : Int) + (Q : Int) := by rw [IntKind.wrap_i64]; omega
                have hw2 : IntKind.i64.wrap (E : Int) = (E : Int) := by rw [IntKind.wrap_i64]; omega
                have hw3 : IntKind.i64.wrap ((E : Int) + (X : Int)) = (E : Int) + (X : Int) := by rw [IntKind.wrap_i64]; omega
                have hw4 : IntKind.i64.wrap ((E : Int) + (X : Int) + (R : Int)) = (D : Int) := by rw [IntKind.wrap_i64]; omega
                have hw5 : IntKind.i64.wrap (D : Int) = (D : Int) := by rw [IntKind.wrap_i64]; omega
                have hRT : (x : Int).tmod (W : Int) = (R : Int) := by rw [Int.tmod_eq_emod_of_nonneg (by omega)]; exact hRI
                replace hQ := hide hQ
                replace hRr := hide hRr
                replace hE := hide hE
                replace hD := hide hD
                replace hdm := hide hdm
                clear hz hTx
                go_upto_region 19 with fail
                refine wp_region_still_tail 21 (by kernel_rfl) (by kernel_rfl) ?_
                simp only [List.take_succ_cons, List.take_zero, List.drop_succ_cons, List.drop_zero]
                iterate 21 still_step
                refine wpStill_nil ?_
                go_wp2
                go_roundw
                case rel => exact ⟨x + 1, by omega, by go_num, (unhide hS2).keep ⟨rfl, rfl, rfl, Nat.le_refl _, fun _ _ _ => rfl⟩, (unhide hU2).trans ⟨rfl, rfl, rfl, Nat.le_refl _, fun _ _ _ => rfl⟩⟩
                case measure => simp [intOf]; omega
            · have hxM : x = M := by omega
              rw [hxM] at hR3
              go_upto_region 21 with fail
              obtain ⟨P, hP⟩ : ∃ P, T M = P := ⟨_, rfl⟩
              rw [hP] at hR3 hLk hSk hTl
              have hPl2 := hTl
              have hgs3 := hide ((unhide hgs2).upd (unhide hU) (.inl (by omega)))
              have hL3 := hide ((unhide hL2).upd (unhide hU) (.inl (by omega)))
              have hbx3 := hide ((unhide hbx2).upd (unhide hU) (.inl (by omega)))
              have hfx3 := hide ((unhide hfx2).upd (unhide hU) (.inl (by omega)))
              have hbel3 := hide (below_upd (unhide hbel2) (unhide hU) (Nat.le_refl _) (.inl (by omega)))
              replace hR3 := unhide hR3
              replace hPl := hPl2
              clear hP hTs hU hxl hx hgs2 hL2 hbx2 hfx2 hbel2 hpx2 hTl hPl2
              obtain ⟨ys, us2, hO3, hrow, hel, hdi, hxx⟩ := unhide hL3
              rw [unhide hLl k] at hO3
              obtain ⟨i0, hi, hz0, hz1, hz2⟩ := info_parts infoLl
              have hsz3 := hR3.lt
              have hvb : Hid (∀ g, u5.ownBlock = some g → w.heap.size + 1 ≤ g ∧ g < c) := hide (fun g h => ⟨(hO3.1.lt g h).1, hO3.2 g h⟩)
              have hus := Upd.of_below ((Below.refl wr.heap.size wr).alloc (Nat.le_refl _) (.cells #[.slice (some ⟨g2, 0, none⟩) N cp2] 23)) 0 0
              have hnew := hide (oneNewS wr (some ⟨g2, 0, none⟩) N cp2 23)
              have hO4 := hide (hO3.keep hus)
              have hel4 := hide (fun j hj => own_mono ((hel j hj).keep hus) (Nat.le_refl _) (Nat.le_refl _))
              have hR4 := hide (hR3.keep hus)
              have hgs4 := hide ((unhide hgs3).keep hus)
              have hbx4 := hide ((unhide hbx3).keep hus)
              have hfx4 := hide ((unhide hfx3).keep hus)
              have hbel4 := hide (below_upd (unhide hbel3) hus (Nat.le_refl _) (.inr (Nat.zero_le _)))
              have hsz4 := hus.size
              have hbase : w.heap.size + 1 ≤ (wr.alloc (.cells #[.slice (some ⟨g2, 0, none⟩) N cp2] 23)).heap.size := by omega
              replace hrow := hide hrow
              replace hdi := hide hdi
              replace hxx := hide hxx
              replace hel := ()
              clear hel hO3 hL3 hR3 hgs3 hbx3 hfx3 hbel3 hus
              go_upto_region 22 with (at_builtin; go_loud (refine wpList_append_own_at _ rfl (.tmp 75) (.tmp 77) 31 rfl (w.heap.size + 1) 23 i0 (.slice none 0 0) 1 24 Try.underlying31 hi hz0 hz1 hz2 rfl (by decide) _ k ys rfl (unhide hO4).1 ⟨wr.heap.size, 0, none⟩ 1 1 [.slice (some ⟨g2, 0, none⟩) N cp2] rfl rfl (unhide hnew) (oneOneS _ _ _) (by unfold maxLen; omega) (by omega) hbase ?_; intro v4 w6 hown' hgrow _ hat))
              generalize wr.alloc (.cells #[.slice (some ⟨g2, 0, none⟩) N cp2] 23) = W4 at hO4 hel4 hR4 hgs4 hbx4 hfx4 hbel4 hsz4 hbase hgrow hat hnew
              have hfx6 := hide ((unhide hfx4).grown hgrow (fun e => by have := unhide hvb c e.symm; omega))
              have hbx6 := hide ((unhide hbx4).grown hgrow (fun e => by have := unhide hvb w.heap.size e.symm; omega))
              have hgs6 := hide ((unhide hgs4).grown hgrow (fun e => unhide hne gs e.symm rfl))
              have hR6 := hide ((unhide hR4).grown hgrow (fun e => by have := unhide hvb g2 e.symm; omega))
              have hbel6 := hide (below_upd (unhide hbel4) (upd_of_grownI hgrow (unhide hO4).1) (Nat.le_refl _) (.inl (Nat.le_succ _)))
              have hL6 : Hid (OwnLl w6 (w.heap.size + 1) w6.heap.size v4 (L (k + 1))) := hide (by
                rw [unhide hLk]
                refine OwnLl.snoc (c := c) (vs := us2) (ys := ys) (u := .slice (some ⟨g2, 0, none⟩) N cp2) (by rw [unhide hLl k]; exact unhide hO4) (unhide hrow) (unhide hel4) (unhide hdi) (unhide hxx) (by omega) ?_ (by rw [unhide hLl k]; exact hown') hgrow hat
                show Own 3 1 W4 c W4.heap.size (.slice (some ⟨g2, 0, none⟩) N cp2) P.length (ints P)
                rw [hPl]
                exact own_mono (unhide hR4).own (by omega) (by omega))
              have hv6 : Hid (∀ g, v4.ownBlock = some g → g < w6.heap.size ∧ ((w.heap.size + 1 ≤ g ∧ g < c ∧ g ≠ gs) ∨ g = W4.heap.size)) := hide (fun g h => by
                refine ⟨(hown'.lt g h).2, ?_⟩
                rcases hat with e | e
                · rw [e] at h; exact .inl ⟨(unhide hvb g h).1, (unhide hvb g h).2, unhide hne g h⟩
                · rw [e] at h; cases h; exact .inr rfl)
              have hsz6 := hgrow.size
              clear hown' hgrow hat hO4 hel4 hR4 hgs4 hbx4 hfx4 hbel4 hrow hdi hxx hvb hne hnew hLk
              have q5 := (unhide hfx6).1.2 5 _ rfl
              by_cases h2 : x5 = 2
              · subst h2
                rw [if_pos rfl] at hSk
                rw [← unhide hSk] at hgs6
                clear q5 hSk
                have q5 := (unhide hfx6).1.2 5 _ rfl
                go_wp2
                refine ⟨⟨k + 1, gs, cps, by omega, by go_num, rfl, hgw, hgs6, hL6, hide (fun g h => by rcases unhide hv6 g h with ⟨_, h' | h'⟩ <;> omega), hbx6, hbel6⟩, by simp [intOf]; omega⟩
              · have hnil6 : w6.ownsRow w6.heap.size 3 1 (.slice none 0 0) 0 [] := World.ownsRow_nil _ _ _ _
                have hrj6 : Hid (RdJ w6 (.slice (some ⟨g2, 0, none⟩) N cp2) P) := hide ((unhide hR6).rdJ hPl)
                go_upto_region 25 with (at_builtin; go_loud (refine wpList_appI rfl (.tmp 82) (.tmp 83) rfl w6.heap.size _ [] rfl hnil6 _ P rfl (unhide hrj6) (by simp; omega) (by simp) ?_; intro v7 w7 ho7 hg7 _))
                replace hg7 : w6.grownBy w7 none := hg7
                simp only [List.nil_append] at ho7
                have hu7 : Upd 0 0 w6 w7 := ⟨hg7.os, hg7.tape, hg7.output, hg7.size, fun k hk _ => hg7.block k hk (by simp)⟩
                have hOs7 : OwnI w7 w6.heap.size w7.heap.size v7 P := Own.of ho7
                obtain ⟨g3, cp3, rfl, hR7, hg3, _⟩ := ownI_rowC hOs7 (by omega)
                rw [hPl] at hR7 ⊢
                have hL7 := hide (((unhide hL6).keep hu7).mono (Nat.le_refl _) hu7.size)
                have hL7b := hide ((unhide hL6).keep hu7)
                have hbx7 := hide ((unhide hbx6).keep hu7)
                have hfx7 := hide ((unhide hfx6).keep hu7)
                have hbel7 := hide (below_upd (unhide hbel6) hu7 (Nat.le_refl _) (.inr (Nat.zero_le _)))
                have hs7 := hu7.size
                clear hu7 hOs7 hR6 hL6 hbx6 hfx6 hbel6 q5 hgs6 ho7 hg7 hnil6 hrj6
                replace hR7 := hide hR7
                by_cases h0 : x5 = 0
                · subst h0
                  rw [if_neg (by decide), if_neg (by decide)] at hSk
                  rw [← unhide hSk] at hR7
                  have q5 := (unhide hfx7).1.2 5 _ rfl
                  clear hSk
                  go_wp2
                  refine ⟨⟨k + 1, g3, cp3, by omega, by go_num, rfl, by omega, hR7, hL7, hide (fun g h => by rcases unhide hv6 g h with ⟨_, h' | h'⟩ <;> omega), hbx7, hbel7⟩, by simp [intOf]; omega⟩
                · have h1 : x5 = 1 := by omega
                  subst h1
                  rw [if_neg (by decide), if_pos rfl] at hSk
                  have q5 := (unhide hfx7).1.2 5 _ rfl
                  have q7 := (unhide hfx7).1.2 7 _ rfl
                  obtain ⟨T, hT⟩ : ∃ T, wipZ X Y W A P = T := ⟨_, rfl⟩
                  have hT0 : P = T 0 := by rw [← hT]; rfl
                  have hTs : Hid (∀ i, T (i + 1) = (T i).set (plcS X Y W A i) (-1)) := hide (fun i => by rw [← hT]; exact wipZ_succ _ _ _ _ _ _)
                  have hPl : Hid (∀ i, i < M → plcS X Y W A i < N) := hide (fun i hi => plcS_lt (by rw [hWH]; exact hi) hXA hYN)
                  rw [hT] at hSk
                  have hR3 : Hid (RowC w7 g3 N cp3 (ints (T 0))) := hide (by rw [← hT0]; exact unhide hR7)
                  have hU0 := hide (Upd.refl g3 (g3 + 1) w7)
                  clear hT hT0 hR7
                  go_upto_region 27 with fail
                  clear q5 q7
                  go_loopw [12, 91] (fun _ i wr => ∃ x : Nat, x ≤ M ∧ i = .int .i64 x ∧ Hid (RowC wr g3 N cp3 (ints (T x))) ∧ Hid (Upd g3 (g3 + 1) w7 wr)) (fun _ i _ => M - (intOf i).toNat)
                  case atStart => exact ⟨0, Nat.zero_le _, rfl, hR3, hU0⟩
                  case round =>
                    clear hR3 hU0
                    obtain ⟨x, hx, rfl, hR3, hU⟩ := hrel
                    by_cases hxl : x < M
                    · have hTx := unhide hTs x
                      have hPx := unhide hPl x hxl
                      have hbx3 := (unhide hbx7).upd (unhide hU) (.inl (by omega))
                      have hfx3 := (unhide hfx7).upd (unhide hU) (.inl (by omega))
                      have q0 := hfx3.1.2 0 _ rfl
                      have q1 := hfx3.1.2 1 _ rfl
                      have q2 := hfx3.1.2 2 _ rfl
                      have p0 := hbx3.1.2 0 _ rfl
                      clear hbx3 hfx3
                      have xI : (0 : Int) ≤ (x : Int) := by omega
                      have xL : (x : Int) < (M : Int) := by omega
                      have hdm : plcS X Y W A x = ((Y + x / W) * A + X) + x % W := rfl
                      obtain ⟨Q, hQ⟩ : ∃ Q, x / W = Q := ⟨_, rfl⟩
                      obtain ⟨R, hRr⟩ : ∃ R, x % W = R := ⟨_, rfl⟩
                      obtain ⟨E, hE⟩ : ∃ E, (Y + Q) * A = E := ⟨_, rfl⟩
                      obtain ⟨D, hD⟩ : ∃ D, plcS X Y W A x = D := ⟨_, rfl⟩
                      rw [hD] at hTx hPx hdm
                      rw [hQ, hRr, hE] at hdm
                      have hQI : (x : Int) / (W : Int) = (Q : Int) := by rw [← hQ, Int.natCast_ediv]
                      have hRI : (x : Int) % (W : Int) = (R : Int) := by rw [← hRr, Int.natCast_emod]
                      have hEI : ((Y : Int) + (Q : Int)) * (A : Int) = (E : Int) := by rw [← hE, Int.natCast_mul, Int.natCast_add]
                      have hDI : (E : Int) + (X : Int) + (R : Int) = (D : Int) := by omega
                      have hD0 : (0 : Int) ≤ (D : Int) := by omega
                      have hDN : (D : Int) < (N : Int) := by omega
                      have hS2 := hide ((unhide hR3).set D (.int .i64 (-1)))
                      rw [← ints_setS, ← hTx] at hS2
                      have hnA := (unhide hR3).frozen D
                      obtain ⟨uA, hdA⟩ := (unhide hR3).has D hPx
                      have hU2 := hide ((unhide hU).setCell (r := g3) ⟨Nat.le_refl _, Nat.lt_succ_self _⟩ D (.int .i64 (-1)))
                      have hWn : ¬ W = 0 := by omega
                      have hYQ : Y + Q ≤ 4096 := by
                        have h1 : (Y + Q) * 1 ≤ (Y + Q) * A := Nat.mul_le_mul_left _ (by omega)
                        omega
                      have hX4 : X ≤ 512 := by omega
                      have hwQ : IntKind.i64.wrap (Q : Int) = (Q : Int) := by rw [IntKind.wrap_i64]; omega
                      have hw1 : IntKind.i64.wrap ((Y : Int) + (Q : Int)) = (Y : Int) + (Q : Int) := by rw [IntKind.wrap_i64]; omega
                      have hw2 : IntKind.i64.wrap (E : Int) = (E : Int) := by rw [IntKind.wrap_i64]; omega
                      have hw3 : IntKind.i64.wrap ((E : Int) + (X : Int)) = (E : Int) + (X : Int) := by rw [IntKind.wrap_i64]; omega
                      have hw4 : IntKind.i64.wrap ((E : Int) + (X : Int) + (R : Int)) = (D : Int) := by rw [IntKind.wrap_i64]; omega
                      have hw5 : IntKind.i64.wrap (D : Int) = (D : Int) := by rw [IntKind.wrap_i64]; omega
                      have hRT : (x : Int).tmod (W : Int) = (R : Int) := by rw [Int.tmod_eq_emod_of_nonneg (by omega)]; exact hRI
                      replace hQ := hide hQ
                      replace hRr := hide hRr
                      replace hE := hide hE
                      replace hD := hide hD
                      replace hdm := hide hdm
                      clear hTx
                      go_upto_region 29 with fail
                      refine wp_region_still_tail 20 (by kernel_rfl) (by kernel_rfl) ?_
                      simp only [List.take_succ_cons, List.take_zero, List.drop_succ_cons, List.drop_zero]
                      iterate 20 still_step
                      refine wpStill_nil ?_
                      go_wp2
                      go_roundw
                      case rel => exact ⟨x + 1, by omega, by go_num, (unhide hS2).keep ⟨rfl, rfl, rfl, Nat.le_refl _, fun _ _ _ => rfl⟩, (unhide hU2).trans ⟨rfl, rfl, rfl, Nat.le_refl _, fun _ _ _ => rfl⟩⟩
                      case measure => simp [intOf]; omega
                    · have hxM : x = M := by omega
                      rw [hxM, ← unhide hSk] at hR3
                      have hu8 := unhide hU
                      have hL8 := hide (((unhide hL7b).upd hu8 (.inl hg3)).mono (Nat.le_refl _) (Nat.le_trans hs7 hu8.size))
                      have hbx8 := hide ((unhide hbx7).upd hu8 (.inl (by omega)))
                      have hbel8 := hide (below_upd (unhide hbel7) hu8 (Nat.le_refl _) (.inl (by omega)))
                      clear hu8 hU hL7 hL7b hbx7 hfx7 hbel7 hSk
                      go_wp2
                      refine ⟨⟨k + 1, g3, cp3, by omega, by go_num, rfl, by omega, hR3, hL8, hide (fun g h => by rcases unhide hv6 g h with ⟨_, h' | h'⟩ <;> omega), hbx8, hbel8⟩, by simp [intOf]; omega⟩
        · have hkf : k = fs.length := by omega
          subst hkf
          rw [← unhide hres] at hL
          go_wp2
          go_ret
          exact ⟨_, rfl, (unhide hL).mono (Nat.le_succ _) (Nat.le_refl _), Upd.of_below (unhide hbel) 0 0⟩
end Go.Proofs.Ytbdegomnlconjaa

/- Plain: waves of a block, forward and back, and how far a block is from what it was. -/
namespace Go.Proofs.Ytbdegomnlconjaa
open Go.RowKit

def sumN (f : Nat → Int) : Nat → Int
  | 0 => 0
  | n + 1 => sumN f n + f n
theorem sumN_congr {f g : Nat → Int} {n : Nat} (h : ∀ i, i < n → f i = g i) : sumN f n = sumN g n := by
  induction n with
  | zero => rfl
  | succ n ih => unfold sumN; rw [ih (fun i hi => h i (by omega)), h n (by omega)]
theorem sumN_add (f g : Nat → Int) (n : Nat) : sumN (fun i => f i + g i) n = sumN f n + sumN g n := by
  induction n with
  | zero => rfl
  | succ n ih => unfold sumN; rw [ih]; omega
theorem sumN_mul (c : Int) (f : Nat → Int) (n : Nat) : c * sumN f n = sumN (fun i => c * f i) n := by
  induction n with
  | zero => simp [sumN]
  | succ n ih => unfold sumN; rw [Int.mul_add, ih]
theorem sumN_zero (n : Nat) : sumN (fun _ => 0) n = 0 := by
  induction n with
  | zero => rfl
  | succ n ih => unfold sumN; rw [ih]; rfl
theorem sumN_comm (f : Nat → Nat → Int) (n m : Nat) : sumN (fun i => sumN (fun j => f i j) m) n = sumN (fun j => sumN (fun i => f i j) n) m := by
  induction n with
  | zero => exact (sumN_zero m).symm
  | succ n ih =>
    show sumN (fun i => sumN (fun j => f i j) m) n + sumN (fun j => f n j) m = _
    rw [ih, ← sumN_add]; rfl
theorem sumN_bd {f g : Nat → Int} {n : Nat} (h : ∀ i, i < n → -(g i) ≤ f i ∧ f i ≤ g i) : -(sumN g n) ≤ sumN f n ∧ sumN f n ≤ sumN g n := by
  induction n with
  | zero => exact ⟨by show -(0 : Int) ≤ 0; omega, Int.le_refl _⟩
  | succ n ih =>
    have h1 := ih (fun i hi => h i (by omega))
    have h2 := h n (by omega)
    unfold sumN
    omega
theorem mul_bdW (m r C : Int) (h : -C ≤ r ∧ r ≤ C) : -(C * (m.natAbs : Int)) ≤ m * r ∧ m * r ≤ C * (m.natAbs : Int) := by
  rcases Int.le_total 0 m with hm | hm
  · rw [show ((m.natAbs : Nat) : Int) = m by omega]
    have h1 := Int.mul_le_mul_of_nonneg_left h.1 hm
    have h2 := Int.mul_le_mul_of_nonneg_left h.2 hm
    rw [Int.mul_comm C m, ← Int.mul_neg]; exact ⟨h1, h2⟩
  · rw [show ((m.natAbs : Nat) : Int) = -m by omega]
    have h1 := Int.mul_le_mul_of_nonneg_left h.1 (show 0 ≤ -m by omega)
    have h2 := Int.mul_le_mul_of_nonneg_left h.2 (show 0 ≤ -m by omega)
    rw [Int.neg_mul, Int.neg_mul] at h1 h2
    rw [Int.mul_neg] at h1
    rw [Int.mul_neg, Int.mul_comm C m]
    omega
theorem sum_mul_bd (m r : Nat → Int) (C S : Int) (n : Nat) (h : ∀ i, i < n → -C ≤ r i ∧ r i ≤ C) (hC : 0 ≤ C) (hS : sumN (fun i => ((m i).natAbs : Int)) n ≤ S) :
    -(C * S) ≤ sumN (fun i => m i * r i) n ∧ sumN (fun i => m i * r i) n ≤ C * S := by
  have h1 := sumN_bd (f := fun i => m i * r i) (g := fun i => C * ((m i).natAbs : Int)) (n := n) (fun i hi => mul_bdW _ _ _ (h i hi))
  rw [← sumN_mul] at h1
  have h2 := Int.mul_le_mul_of_nonneg_left hS hC
  omega

/-- The matrix of waves. -/
def mT : List Int := [2896, 2896, 2896, 2896, 2896, 2896, 2896, 2896, 4017, 3406, 2276, 799, -799, -2276, -3406, -4017, 3784, 1567, -1567, -3784, -3784, -1567, 1567, 3784, 3406, -799, -4017, -2276, 2276, 4017, 799, -3406, 2896, -2896, -2896, 2896, 2896, -2896, -2896, 2896, 2276, -4017, 799, 3406, -3406, -799, 4017, -2276, 1567, -3784, 3784, -1567, -1567, 3784, -3784, 1567, 799, -2276, 3406, -4017, 4017, -3406, 2276, -799]
def mZ (u x : Nat) : Int := mT.getD (8 * u + x) 0
def pZ (y z : Nat) : Int := sumN (fun v => mZ v y * mZ v z) 8
def eZ (y z : Nat) : Int := pZ y z - (if y = z then 67108864 else 0)
theorem m_col : ∀ y, y < 8 → sumN (fun v => ((mZ v y).natAbs : Int)) 8 ≤ 21641 := by decide
theorem m_row : ∀ u, u < 8 → sumN (fun x => ((mZ u x).natAbs : Int)) 8 ≤ 23168 := by decide
theorem e_row : ∀ y, y < 8 → sumN (fun z => ((eZ y z).natAbs : Int)) 8 ≤ 17168 := by decide
theorem mZ_bd (u x : Nat) (hu : u < 8) (hx : x < 8) : -4017 ≤ mZ u x ∧ mZ u x ≤ 4017 := by
  have h : ∀ u, u < 8 → ∀ x, x < 8 → -4017 ≤ mZ u x ∧ mZ u x ≤ 4017 := by decide
  exact h u hu x hx
theorem sum_delta (y : Nat) (a : Nat → Int) : ∀ n, sumN (fun z => (if y = z then 67108864 else 0) * a z) n = if y < n then 67108864 * a y else 0
  | 0 => by simp [sumN]
  | n + 1 => by
    unfold sumN
    rw [sum_delta y a n]
    by_cases h : y = n
    · subst h; simp
    · by_cases h2 : y < n
      · rw [if_pos h2, if_neg h, if_pos (by omega)]; simp
      · rw [if_neg h2, if_neg h, if_neg (by omega)]; simp
theorem sum_p (y : Nat) (hy : y < 8) (a : Nat → Int) : sumN (fun z => pZ y z * a z) 8 = 67108864 * a y + sumN (fun z => eZ y z * a z) 8 := by
  have h := sum_delta y a 8
  rw [if_pos hy] at h
  rw [← h, ← sumN_add]
  refine sumN_congr (fun z _ => ?_)
  unfold eZ
  rw [← Int.add_mul]
  congr 1
  omega
/-- Once by the matrix and back: nearly 2 ^ 26 times what it was. -/
theorem sum_mm (y : Nat) (hy : y < 8) (a : Nat → Int) : sumN (fun v => mZ v y * sumN (fun z => mZ v z * a z) 8) 8 = 67108864 * a y + sumN (fun z => eZ y z * a z) 8 := by
  rw [← sum_p y hy a]
  have h1 : sumN (fun v => mZ v y * sumN (fun z => mZ v z * a z) 8) 8 = sumN (fun v => sumN (fun z => mZ v y * mZ v z * a z) 8) 8 :=
    sumN_congr (fun v _ => by rw [sumN_mul]; exact sumN_congr (fun z _ => by rw [Int.mul_assoc]))
  rw [h1, sumN_comm]
  refine sumN_congr (fun z _ => ?_)
  unfold pZ
  rw [Int.mul_comm, sumN_mul]
  exact sumN_congr (fun v _ => by rw [Int.mul_comm])
theorem round_bd (s h d : Int) (hd : d = 2 * h) (h0 : 0 < h) : ∃ r, d * ((s + h) / d) = s + r ∧ -h ≤ r ∧ r ≤ h := by
  refine ⟨d * ((s + h) / d) - s, by omega, ?_⟩
  have h1 : (s + h) / d * d ≤ s + h := Int.ediv_mul_le _ (by omega)
  have h2 : s + h < ((s + h) / d + 1) * d := Int.lt_ediv_add_one_mul_self _ (by omega)
  rw [Int.add_mul] at h2
  rw [Int.mul_comm d]
  generalize (s + h) / d * d = q at h1 h2 ⊢
  omega

/-- One number of a product of two matrices, the sum shifted. -/
def rnd10 (s : Int) : Int := (s + 512) / 1024
def rnd16 (s : Int) : Int := (s + 32768) / 65536
theorem sumN_mono {m r : Nat → Int} (n : Nat) (h : ∀ i, i < n → m i = r i) : sumN m n = sumN r n := sumN_congr h

/-- The distance of a block that goes forward and back. -/
theorem turned_near (b : Nat → Nat → Int) (hb : ∀ y x, y < 8 → x < 8 → -255 ≤ b y x ∧ b y x ≤ 255) (y x : Nat) (hy : y < 8) (hx : x < 8) :
    let mid := fun y u => rnd10 (sumN (fun x => mZ u x * b y x) 8);
    let f := fun v u => rnd16 (sumN (fun y => mZ v y * mid y u) 8);
    let im := fun y u => rnd10 (sumN (fun v => mZ v y * f v u) 8);
    ((-5 : Int) ≤ rnd16 (sumN (fun u => mZ u x * im y u) 8) - b y x) ∧ (rnd16 (sumN (fun u => mZ u x * im y u) 8) - b y x ≤ 5) := by
  intro mid f im
  -- what the first step leaves
  have hmid : ∀ y' u, ∃ r, 1024 * mid y' u = sumN (fun x => mZ u x * b y' x) 8 + r ∧ -512 ≤ r ∧ r ≤ 512 := fun y' u => round_bd _ 512 1024 (by omega) (by omega)
  have hf : ∀ v u, ∃ r, 65536 * f v u = sumN (fun y => mZ v y * mid y u) 8 + r ∧ -32768 ≤ r ∧ r ≤ 32768 := fun v u => round_bd _ 32768 65536 (by omega) (by omega)
  have him : ∀ u, ∃ r, 1024 * im y u = sumN (fun v => mZ v y * f v u) 8 + r ∧ -512 ≤ r ∧ r ≤ 512 := fun u => round_bd _ 512 1024 (by omega) (by omega)
  obtain ⟨r4, h4, h4a, h4b⟩ := round_bd (sumN (fun u => mZ u x * im y u) 8) 32768 65536 (by omega) (by omega)
  -- the columns
  have hcol : ∀ u, u < 8 → ∃ R, 68719476736 * im y u = 67108864 * sumN (fun x => mZ u x * b y x) 8 + R ∧ -900000000000 ≤ R ∧ R ≤ 900000000000 := by
    intro u hu
    obtain ⟨r3, e3, e3a, e3b⟩ := him u
    -- 65536 of the sum
    have s1 : 65536 * sumN (fun v => mZ v y * f v u) 8 = sumN (fun v => mZ v y * sumN (fun y => mZ v y * mid y u) 8) 8 + sumN (fun v => mZ v y * (65536 * f v u - sumN (fun y => mZ v y * mid y u) 8)) 8 := by
      rw [← sumN_add, sumN_mul]
      exact sumN_congr (fun v _ => by rw [← Int.mul_add, Int.mul_left_comm]; exact congrArg _ (by omega))
    have b1 := sum_mul_bd (fun v => mZ v y) (fun v => 65536 * f v u - sumN (fun y => mZ v y * mid y u) 8) 32768 21641 8 (fun v _ => by
      obtain ⟨r, e, ha, hb⟩ := hf v u
      try simp only
      omega) (by omega) (m_col y hy)
    rw [sum_mm y hy] at s1
    -- 1024 of that
    have s2 : 1024 * mid y u = sumN (fun x => mZ u x * b y x) 8 + (1024 * mid y u - sumN (fun x => mZ u x * b y x) 8) := by omega
    have s3 : 1024 * sumN (fun z => eZ y z * mid z u) 8 = sumN (fun z => eZ y z * (1024 * mid z u)) 8 := by
      rw [sumN_mul]; exact sumN_congr (fun z _ => by rw [Int.mul_left_comm])
    have b2 := sum_mul_bd (fun z => eZ y z) (fun z => 1024 * mid z u) 5908352 17168 8 (fun z hz => by
      obtain ⟨r, e, ha, hb'⟩ := hmid z u
      have hs := sum_mul_bd (fun x => mZ u x) (fun x => b z x) 255 23168 8 (fun x hx => hb z x hz hx) (by omega) (m_row u hu)
      try simp only at hs ⊢
      omega) (by omega) (e_row y hy)
    rw [← s3] at b2
    obtain ⟨r, e, ha, hb'⟩ := hmid y u
    refine ⟨68719476736 * im y u - 67108864 * sumN (fun x => mZ u x * b y x) 8, by omega, ?_⟩
    try simp only at b1 b2 s1
    generalize sumN (fun x => mZ u x * b y x) 8 = A at *
    generalize sumN (fun z => eZ y z * mid z u) 8 = E at *
    generalize sumN (fun v => mZ v y * (65536 * f v u - sumN (fun y => mZ v y * mid y u) 8)) 8 = F at *
    generalize sumN (fun v => mZ v y * f v u) 8 = G at *
    generalize mid y u = m0 at *
    generalize im y u = i0 at *
    omega
  -- the rows
  have s5 : 68719476736 * sumN (fun u => mZ u x * im y u) 8 = 67108864 * sumN (fun u => mZ u x * sumN (fun z => mZ u z * b y z) 8) 8 + sumN (fun u => mZ u x * (68719476736 * im y u - 67108864 * sumN (fun z => mZ u z * b y z) 8)) 8 := by
    rw [sumN_mul, sumN_mul, ← sumN_add]
    exact sumN_congr (fun u _ => by rw [Int.mul_left_comm, Int.mul_left_comm 67108864, ← Int.mul_add]; exact congrArg _ (by omega))
  have b5 := sum_mul_bd (fun u => mZ u x) (fun u => 68719476736 * im y u - 67108864 * sumN (fun z => mZ u z * b y z) 8) 900000000000 21641 8 (fun u hu => by
    obtain ⟨R, e, ha, hb'⟩ := hcol u hu
    try simp only
    omega) (by omega) (m_col x hx)
  rw [sum_mm x hx] at s5
  have b6 := sum_mul_bd (fun z => eZ x z) (fun z => b y z) 255 17168 8 (fun z hz => hb y z hy hz) (by omega) (e_row x hx)
  unfold rnd16
  try simp only at b5 b6 s5
  generalize sumN (fun u => mZ u x * im y u) 8 = S at *
  generalize sumN (fun u => mZ u x * (68719476736 * im y u - 67108864 * sumN (fun z => mZ u z * b y z) 8)) 8 = T at *
  generalize sumN (fun z => eZ x z * b y z) 8 = E at *
  generalize b y x = b0 at *
  omega
end Go.Proofs.Ytbdegomnlconjaa

/- Plain: products of two blocks, waves by their table, tables that are filled place by place. -/
namespace Go.Proofs.Ytbdegomnlconjaa
open Go.RowKit

theorem sumN_within {f : Nat → Int} {K : Int} {n : Nat} (h : ∀ i, i < n → -K ≤ f i ∧ f i ≤ K) : -((n : Int) * K) ≤ sumN f n ∧ sumN f n ≤ (n : Int) * K := by
  induction n with
  | zero => simp [sumN]
  | succ n ih =>
    have h1 := ih (fun i hi => h i (by omega))
    have h2 := h n (by omega)
    have e : ((n + 1 : Nat) : Int) * K = (n : Int) * K + K := by push_cast; rw [Int.add_mul]; omega
    rw [e]
    unfold sumN
    omega
def tmulT (A B : List Int) (p i : Nat) : Int := A.getD (8 * (p / 8) + i) 0 * B.getD (8 * i + p % 8) 0
def tmulZ (A B : List Int) (h d : Int) (p : Nat) : Int := (sumN (tmulT A B p) 8 + h) / d
def tmul (A B : List Int) (h d : Int) : List Int := tab (tmulZ A B h d)
def flipZ (A : List Int) (p : Nat) : Int := A.getD (8 * (p % 8) + p / 8) 0
def flipL (A : List Int) : List Int := tab (flipZ A)
def fwdL (zs : List Int) : List Int := tmul mT (tmul zs (flipL mT) 512 1024) 32768 65536
def invL (zs : List Int) : List Int := tmul (tmul (flipL mT) zs 512 1024) mT 32768 65536
noncomputable def forwardF (zs : List Int) : List Int := if blB zs then fwdL zs else []
noncomputable def inverseF (zs : List Int) : List Int := if blB zs then invL zs else []
theorem forwardF_len (zs : List Int) : (forwardF zs).length ≤ 1048576 := by unfold forwardF; split <;> simp [fwdL, tmul]
theorem inverseF_len (zs : List Int) : (inverseF zs).length ≤ 1048576 := by unfold inverseF; split <;> simp [invL, tmul]
theorem flip_m (u x : Nat) (hu : u < 8) (hx : x < 8) : (flipL mT).getD (8 * x + u) 0 = mZ u x := by
  unfold flipL
  rw [tab_getD _ _ (by omega)]
  unfold flipZ mZ
  rw [show (8 * x + u) % 8 = u by omega, show (8 * x + u) / 8 = x by omega]
theorem m_getD (u x : Nat) : mT.getD (8 * u + x) 0 = mZ u x := rfl
theorem mT_length : mT.length = 64 := rfl
theorem mT_inR : InR (-4017) 4017 mT := by
  intro j hj
  have h : ∀ j, j < 64 → -4017 ≤ mT.getD j 0 ∧ mT.getD j 0 ≤ 4017 := by decide
  exact h j hj
theorem flipL_inR {lo hi : Int} {A : List Int} (hl : A.length = 64) (h : InR lo hi A) : InR lo hi (flipL A) :=
  tab_inR _ _ _ (fun k hk => h _ (by omega))

/-! ### A wave by its number -/
def mN (u x : Nat) : Nat := if (2 * x + 1) * u % 32 > 16 then 32 - (2 * x + 1) * u % 32 else (2 * x + 1) * u % 32
def cT : List Int := [0, 4017, 3784, 3406, 2896, 2276, 1567, 799]
def hT : List Int := [2896, 4017, 3784, 3406, 2896, 2276, 1567, 799]
theorem m_spec : ∀ u, u < 8 → ∀ x, x < 8 → u ≠ 0 → (mN u x < 8 ∧ mZ u x = cT.getD (mN u x) 0) ∨ (¬ mN u x < 8 ∧ 16 - mN u x < 8 ∧ mN u x ≤ 16 ∧ mZ u x = -(cT.getD (16 - mN u x) 0)) := by decide
theorem m_zero : ∀ x, x < 8 → mZ 0 x = 2896 := by decide
theorem m_impl : ∀ u, u < 8 → ∀ x, x < 8 → (mN u x < 8 ∧ mZ u x = hT.getD (mN u x) 0) ∨ (8 < mN u x ∧ 16 - mN u x < 8 ∧ mN u x ≤ 16 ∧ mZ u x = -(hT.getD (16 - mN u x) 0)) := by decide
theorem mN_lt (u x : Nat) : mN u x ≤ 16 := by unfold mN; split <;> omega

/-! ### Filling -/
structure Fil (f : Nat → Int) (P : Nat → Prop) (xs : List Int) : Prop where
  len : xs.length = 64
  val : ∀ p, p < 64 → P p → xs.getD p 0 = f p
theorem Fil.zero (f : Nat → Int) : Fil f (fun _ => False) (List.replicate 64 0) := ⟨by simp, fun _ _ h => h.elim⟩
theorem Fil.set {f : Nat → Int} {P Q : Nat → Prop} {xs : List Int} (h : Fil f P xs) {q : Nat} (hq : q < 64) {x : Int} (hx : x = f q) (hP : ∀ p, p < 64 → Q p → p = q ∨ P p) : Fil f Q (xs.set q x) := by
  refine ⟨by rw [List.length_set]; exact h.len, fun p hp hQ => ?_⟩
  rw [List.getD_eq_getElem?_getD]
  by_cases e : q = p
  · subst e; rw [List.getElem?_set_self (by rw [h.len]; exact hq)]; exact hx
  · rw [List.getElem?_set_ne e, ← List.getD_eq_getElem?_getD]
    rcases hP p hp hQ with h' | h'
    · exact absurd h'.symm e
    · exact h.val p hp h'
theorem Fil.weak {f : Nat → Int} {P Q : Nat → Prop} {xs : List Int} (h : Fil f P xs) (hP : ∀ p, p < 64 → Q p → P p) : Fil f Q xs := ⟨h.len, fun p hp hQ => h.val p hp (hP p hp hQ)⟩
theorem Fil.all {f : Nat → Int} {P : Nat → Prop} {xs : List Int} (h : Fil f P xs) (hP : ∀ p, p < 64 → P p) : xs = tab f := by
  refine List.ext_getElem (by rw [h.len]; simp) (fun k h1 h2 => ?_)
  have hk : k < 64 := by rw [h.len] at h1; exact h1
  have e := h.val k hk (hP k hk)
  rw [← tab_getD f k hk, List.getD_eq_getElem?_getD, List.getElem?_eq_getElem h1, List.getD_eq_getElem?_getD, List.getElem?_eq_getElem h2] at e
  exact e
theorem prod_within {m x K B : Int} (hm : -K ≤ m ∧ m ≤ K) (hx : -B ≤ x ∧ x ≤ B) (hB : 0 ≤ B) : -(K * B) ≤ m * x ∧ m * x ≤ K * B := by
  have h := mul_bdW m x B hx
  have h2 : B * (m.natAbs : Int) ≤ B * K := Int.mul_le_mul_of_nonneg_left (by omega) hB
  rw [Int.mul_comm K B]
  omega
/-- The product's bound. -/
theorem tmul_inR {A B : List Int} {K L : Int} {h d R : Int} (hA : A.length = 64) (hB : B.length = 64) (kA : InR (-K) K A) (kB : InR (-L) L B) (hL : 0 ≤ L) (hd : 0 < d) (hR1 : d * (-R) ≤ -(8 * (K * L)) + h) (hR2 : 8 * (K * L) + h ≤ d * R) : InR (-R) R (tmul A B h d) := by
  refine tab_inR _ _ _ (fun p hp => ?_)
  have hs := sumN_within (f := tmulT A B p) (K := K * L) (n := 8) (fun i hi => prod_within (kA _ (by omega)) (kB _ (by omega)) hL)
  unfold tmulZ
  generalize sumN (tmulT A B p) 8 = S at hs ⊢
  have e8 : ((8 : Nat) : Int) * (K * L) = 8 * (K * L) := rfl
  rw [e8] at hs
  constructor
  · exact (Int.le_ediv_iff_mul_le hd).2 (by rw [Int.mul_comm]; omega)
  · have h1 : (S + h) / d * d ≤ S + h := Int.ediv_mul_le _ (by omega)
    rcases Int.lt_or_le R ((S + h) / d) with h2 | h2
    · exfalso
      have h3 : d * (R + 1) ≤ d * ((S + h) / d) := Int.mul_le_mul_of_nonneg_left (by omega) (by omega)
      rw [Int.mul_comm] at h1
      rw [Int.mul_add] at h3
      omega
    · exact h2
end Go.Proofs.Ytbdegomnlconjaa

/- Squares as values: rows of 64 cells; the program's waves. -/
namespace Go.Proofs.Ytbdegomnlconjaa
open Go.RowKit

def sqc (xs : List Int) : Array Value := (ints xs).toArray
def zq : List Int := List.replicate 64 0
theorem zq_len : zq.length = 64 := by simp [zq]
theorem sqc_size {xs : List Int} : (sqc xs).size = xs.length := by simp [sqc, ints]
theorem sqc_one (xs : List Int) : (sqc xs).all (·.oneCell') = true := by
  rw [Array.all_eq_true_iff_forall_mem]
  intro v hv
  simp only [sqc, ints, List.mem_toArray, List.mem_map] at hv
  obtain ⟨x, _, rfl⟩ := hv
  rfl
theorem sqc_at {xs : List Int} {j : Nat} (h : j < xs.length) : (sqc xs)[j]? = some (.int .i64 (xs.getD j 0)) := by
  simp only [sqc, ints, List.getElem?_toArray, List.getElem?_map, List.getD_eq_getElem?_getD, List.getElem?_eq_getElem h]
  rfl
theorem sqc_set (xs : List Int) (j : Nat) (x : Int) : (sqc xs).setIfInBounds j (.int .i64 x) = sqc (xs.set j x) := by
  simp only [sqc, ints, List.setIfInBounds_toArray, List.map_set]
end Go.Proofs.Ytbdegomnlconjaa

/- The program's matrix of waves. -/
namespace Go.Proofs.Ytbdegomnlconjaa
open Go.RowKit

theorem wrapQ {n : Int} (h : -9223372036854775808 ≤ n ∧ n ≤ 9223372036854775807) : IntKind.i64.wrap n = n := by
  simp [IntKind.wrap, IntKind.bits, IntKind.signed]; omega
theorem held_below {W W' : World} {g : Nat} {cs : List Value} (h : Held W g cs) (hb : Below W.heap.size W W') : Held W' g cs := h.keep (Upd.of_below hb 0 0)
theorem mT_tab : mT = tab (fun p => mZ (p / 8) (p % 8)) := by decide

end Go.Proofs.Ytbdegomnlconjaa

/- The program's squares: turned over, multiplied. -/
namespace Go.Proofs.Ytbdegomnlconjaa
open Go.RowKit

end Go.Proofs.Ytbdegomnlconjaa

/- Laws of the walk that the guide's texts lack: a part of a row read as a whole; and rows of numbers told by a function. -/
namespace Go.Proofs.Ytbdegomnlconjaa
open Go.RowKit

theorem wpList_load_list {P : Program} {ops : Array Oper} {rest : List Oper} {o : Oper} {a : Act} {w : World} {Q : Exit → Act → World → Prop} (hgd : o.guard = none) (ty : TypeId) (x : Operand) (ho : o.op = .load ty x)
    (p : Addr) (hx : a.eval x = .pointer (some p)) (l : List Value) (hl : ∀ j v, l[j]? = some v → w.cell? (p.add j) = some v) (d : TypeDesc)
    (hu : P.underlying ty = some d) (hd : (match d with | .struct _ | .array _ _ => true | _ => false) = true) (hi : (P.info? ty).map (·.size) = some l.length)
    (h : wpList P ops Q rest (a.put o.dst (.agg l.toArray)) w) : wpList P ops Q (o :: rest) a w := by
  have hL : (loadVar ty p).run P w = .ok (.agg l.toArray) w := by
    cases hq : P.info? ty with
    | none => simp [hq] at hi
    | some i =>
      have hs : i.size = l.length := by simpa [hq] using hi
      have hagg : (isAgg ty).run P w = .ok true w := by
        unfold isAgg
        rw [Sem.run_bind, run_underlying hu w]
        cases d <;> simp_all
      have hll := run_loadCells_list (P := P) w p l hl
      simp [loadVar, Sem.run_bind, hagg, sizeOf, typeInfo, hq, hs, hll]
  refine wpList_plain hgd fun K hK => ?_
  unfold Oper.wp execOp
  simp only [ho, hx, Instr.loadAt, Instr.sureAddr, Sem.run_bind, Sem.run_pure, Result.andThen_ok, hL]
  exact hK _ _ h

/-- A row of numbers, told by a function, within an array of cells: n of them from o on. -/
def NumsAt (cs : Array Value) (o n : Nat) (f : Nat → Nat) : Prop := ∀ j, j < n → cs[o + j]? = some (.int .i64 (f j : Nat))
theorem NumsAt.set {cs : Array Value} {o n : Nat} {f : Nat → Nat} (h : NumsAt cs o n f) (i x : Nat) (hi : i < n) (f' : Nat → Nat) (hx : f' i = x) (hf : ∀ j, j ≠ i → f' j = f j) :
    NumsAt (cs.setIfInBounds (o + i) (.int .i64 (x : Nat))) o n f' := by
  intro j hj
  have hs : o + i < cs.size := by
    have := h i hi
    exact (Array.getElem?_eq_some_iff.1 this).1
  rw [Array.getElem?_setIfInBounds]
  by_cases e : i = j
  · subst e; rw [if_pos rfl, if_pos hs, hx]
  · rw [if_neg (by omega), hf j (by omega)]; exact h j hj
theorem NumsAt.other {cs : Array Value} {o n : Nat} {f : Nat → Nat} (h : NumsAt cs o n f) (i : Nat) (u : Value) (hi : i < o ∨ o + n ≤ i) : NumsAt (cs.setIfInBounds i u) o n f := by
  intro j hj
  rw [Array.getElem?_setIfInBounds, if_neg (by omega)]; exact h j hj
theorem getElem?_set_other {cs : Array Value} {i k : Nat} {u v : Value} (h : cs[k]? = some v) (hne : i ≠ k) : (cs.setIfInBounds i u)[k]? = some v := by
  rw [Array.getElem?_setIfInBounds, if_neg hne]; exact h
theorem getElem?_set_same {cs : Array Value} {i : Nat} {u : Value} (h : i < cs.size) : (cs.setIfInBounds i u)[i]? = some u := by
  rw [Array.getElem?_setIfInBounds, if_pos rfl, if_pos h]
def OneCells (cs : Array Value) : Prop := cs.all (·.oneCell') = true
theorem OneCells.set {cs : Array Value} (h : OneCells cs) (i : Nat) (u : Value) (hu : u.oneCell' = true) : OneCells (cs.setIfInBounds i u) := by
  unfold OneCells at *
  rw [Array.all_eq_true_iff_forall_mem] at h ⊢
  intro v hv
  rcases Array.mem_or_eq_of_mem_setIfInBounds hv with hv | rfl
  · exact h v hv
  · exact hu
theorem add_cell (g o j : Nat) : (⟨g, o, none⟩ : Addr).add j = ⟨g, o + j, none⟩ := by unfold Addr.add; split <;> simp_all
theorem list_of_nums {cs : Array Value} {o n : Nat} {f : Nat → Nat} (h : NumsAt cs o n f) {w : World} {g : Nat} {t : TypeId} {fr : Nat × Nat} (hg : w.heap[g]? = some (.cells cs t fr)) :
    ∀ j v, ((List.range n).map fun j => Value.int .i64 (f j : Nat))[j]? = some v → w.cell? ((⟨g, o, none⟩ : Addr).add j) = some v := by
  intro j v hv
  rw [add_cell, cell_of_row w g _ cs t fr hg]
  rw [List.getElem?_map] at hv
  by_cases hj : j < n
  · rw [List.getElem?_range hj] at hv
    simp at hv; rw [h j hj, ← hv]
  · rw [List.getElem?_eq_none (by simp; omega)] at hv; simp at hv
theorem numsAt_list (n : Nat) (f : Nat → Nat) : NumsAt ((List.range n).map fun j => Value.int .i64 (f j : Nat)).toArray 0 n f := by
  intro j hj
  simp [hj]
theorem oneCells_list (n : Nat) (f : Nat → Nat) : OneCells ((List.range n).map fun j => Value.int .i64 (f j : Nat)).toArray := by
  unfold OneCells
  rw [Array.all_eq_true_iff_forall_mem]
  intro v hv
  simp at hv
  obtain ⟨j, _, rfl⟩ := hv
  rfl
end Go.Proofs.Ytbdegomnlconjaa

/- The program's squares: as lists. -/
namespace Go.Proofs.Ytbdegomnlconjaa
open Go.RowKit

theorem take_rows (f : Nat → Int) (k : Nat) (hk : k < 8) : (tab f).take (8 * (k + 1)) = (tab f).take (8 * k) ++ [f (8 * k), f (8 * k + 1), f (8 * k + 2), f (8 * k + 3), f (8 * k + 4), f (8 * k + 5), f (8 * k + 6), f (8 * k + 7)] := by
  rcases (show k = 0 ∨ k = 1 ∨ k = 2 ∨ k = 3 ∨ k = 4 ∨ k = 5 ∨ k = 6 ∨ k = 7 by omega) with e | e | e | e | e | e | e | e <;> subst e <;> rfl
end Go.Proofs.Ytbdegomnlconjaa

/- Which lists are blocks, which are scales: the walks of both sides. -/
namespace Go.Proofs.Ytbdegomnlconjaa
open Go.RowKit

end Go.Proofs.Ytbdegomnlconjaa

/- The program's squares: of lists. -/
namespace Go.Proofs.Ytbdegomnlconjaa
open Go.RowKit

/-- A list that can be read, with the room behind it. -/
def RdC (w : World) (v : Value) (zs : List Int) : Prop := ∃ ad cap, v = .slice ad zs.length cap ∧ zs.length ≤ cap ∧ cap ≤ 9223372036854775807 ∧ ArgI w ad zs
theorem OwnI.rc {w : World} {a b : Nat} {v : Value} {zs : List Int} (h : OwnI w a b v zs) : RdC w v zs := by
  obtain ⟨ad, cap, rfl, hA⟩ := readK_of_own h
  refine ⟨ad, cap, rfl, ?_, ?_, hA⟩
  · rcases h.1.2 with ⟨e, hn⟩ | ⟨g, cp, cur, e, h1, h2, h3, h4, _⟩
    · simp only [Value.slice.injEq] at e; omega
    · simp only [Value.slice.injEq] at e; omega
  · rcases h.1.2 with ⟨e, hn⟩ | ⟨g, cp, cur, e, h1, h2, h3, h4, _⟩
    · simp only [Value.slice.injEq] at e; omega
    · simp only [Value.slice.injEq] at e; unfold maxLen at h4; omega
theorem RdC.rd {w : World} {v : Value} {zs : List Int} (h : RdC w v zs) : RdI w v zs := by
  obtain ⟨ad, cap, e, _, _, hA⟩ := h
  exact ⟨ad, cap, e, hA⟩
theorem splice_ints (xs ys : List Int) (o : Nat) : splice (ints xs) o (ints ys) = ints (splice xs o ys) := by
  unfold splice ints
  simp [List.map_take, List.map_drop]
theorem Fil.splice8 {zs xs : List Int} {k : Nat} (h : Fil (fun p => zs.getD p 0) (fun p => p < 8 * k) xs) (hk : k < 8) (hz : zs.length = 64) : Fil (fun p => zs.getD p 0) (fun p => p < 8 * (k + 1)) (splice xs (8 * k) ((zs.drop (8 * k)).take 8)) := by
  have hl : ((zs.drop (8 * k)).take 8).length = 8 := by simp; omega
  refine ⟨by rw [length_splice _ _ _ (by rw [hl, h.len]; omega)]; exact h.len, fun p hp hP => ?_⟩
  unfold splice
  rw [List.getD_eq_getElem?_getD]
  by_cases h1 : p < 8 * k
  · rw [List.getElem?_append_left (by simp; have := h.len; omega), List.getElem?_take_of_lt h1, ← List.getD_eq_getElem?_getD]
    exact h.val p hp h1
  · have ht : (xs.take (8 * k)).length = 8 * k := by simp; have := h.len; omega
    rw [List.getElem?_append_right (by omega), ht, List.getElem?_append_left (by omega), List.getElem?_take_of_lt (by omega), List.getElem?_drop, ← List.getD_eq_getElem?_getD]
    congr 1
    omega
end Go.Proofs.Ytbdegomnlconjaa

/- What a moving picture shows: both walks in the form that the law wants. -/
namespace Go.Proofs.Ytbdegomnlconjaa
open Go.RowKit

/-- Movings to be read, no frame's row longer than its capacity. -/
def RdMvC (w : World) (v : Value) (d : Mv) : Prop := ∃ v0 adf cpf, v = Mvv d v0 (.slice adf d.2.2.2.2.length cpf) ∧ RdI w v0 d.2.2.1 ∧ ArgFsC w adf d.2.2.2.2
theorem OwnFs.rc {w : World} {a b : Nat} {v : Value} {ds : Fs} (h : OwnFs w a b v ds) : ∃ ad cap, v = .slice ad ds.length cap ∧ ArgFsC w ad ds := by
  obtain ⟨ys, vs, ho, hr, he, _, _⟩ := h
  rcases ho.1.2 with ⟨rfl, hn⟩ | ⟨g, cap, cur, rfl, h1, h2, h3⟩
  · exact ⟨none, 0, by rw [hn], fun hne => absurd (List.length_eq_zero_iff.1 hn) hne⟩
  · refine ⟨some ⟨g, 0, none⟩, cap, rfl, fun _ => ⟨g, 0, vs, rfl, (ho.1.lt g rfl).2, fun j hj => ?_, fun j hj => ?_⟩⟩
    · have := hr j hj
      rw [Nat.zero_add, ho.1.cellAt _ (by omega), ho.1.cellAt _ (by omega), ho.1.cellAt _ (by omega), ho.1.cellAt _ (by omega), ho.1.cellAt _ (by omega), ho.1.cellAt _ (by omega), ho.1.cellAt _ (by omega), ho.1.cellAt _ (by omega)]
      exact this
    · obtain ⟨ad, cp, e, h1, _, hA⟩ := OwnI.rc (he j hj)
      exact ⟨ad, cp, e, hA, h1⟩
theorem OwnMv.rc {w : World} {a b : Nat} {v : Value} {d : Mv} (h : OwnMv w a b v d) : RdMvC w v d := by
  obtain ⟨v0, v1, a1, rfl, _, h0, h1⟩ := h
  obtain ⟨ad, cp, rfl, hA⟩ := h1.rc
  exact ⟨v0, ad, cp, rfl, h0.rd, hA⟩
theorem specScreens (v : Value) (d : Mv) (w : World) (hn : MvSize d ≤ 1048576) (hR : InMv d) (hv : RdMvC w v d) :
    Calls Try.prog 20 #[v] w fun e w' => ∃ u, e = .returned u ∧ OwnLl w' w.heap.size w'.heap.size u (screensF d) ∧ Upd 0 0 w w' := by
  obtain ⟨v0, adf, cpf, rfl, ⟨adp, cpp, rfl, hA⟩, hF⟩ := hv
  obtain ⟨a, b, zs, l, fs⟩ := d
  exact specScreensR a b l zs fs adp adf cpp cpf w hn hR hA hF.arg
theorem implScreens (v : Value) (d : Mv) (w : World) (hn : MvSize d ≤ 1048576) (hR : InMv d) (hv : RdMvC w v d) :
    Calls Try.prog 22 #[v] w fun e w' => ∃ u, e = .returned u ∧ OwnLl w' w.heap.size w'.heap.size u (screensF d) ∧ Upd 0 0 w w' := by
  obtain ⟨v0, adf, cpf, rfl, ⟨adp, cpp, rfl, hA⟩, hF⟩ := hv
  obtain ⟨a, b, zs, l, fs⟩ := d
  exact implScreensR a b l zs fs adp adf cpp cpf w hn hR hA hF
end Go.Proofs.Ytbdegomnlconjaa

/- Rows that lie in other blocks than those that a step writes. -/
namespace Go.Proofs.Ytbdegomnlconjaa
open Go.RowKit

theorem Own.re {e : TypeId} {s : Nat} {w : World} {a b c d : Nat} {v : Value} {n : Nat} {xs : List Value} (h : Own e s w a b v n xs) (hx : ∀ g, v.ownBlock = some g → c ≤ g ∧ g < d) : Own e s w c d v n xs := by
  refine ⟨⟨h.1.1, ?_⟩, fun k hk => (hx k hk).2⟩
  rcases h.1.2 with hn | ⟨g, cap, cur, rfl, h1, h2, h3⟩
  · exact .inl hn
  · exact .inr ⟨g, cap, cur, rfl, (hx g rfl).1, h2, h3⟩
theorem Own.off {e : TypeId} {s : Nat} {w w' : World} {a b c d : Nat} {v : Value} {n : Nat} {xs : List Value} (h : Own e s w a b v n xs) (u : Upd c d w w') (hx : ∀ g, v.ownBlock = some g → g < c ∨ d ≤ g) : Own e s w' a b v n xs := by
  refine ⟨⟨h.1.1, ?_⟩, h.2⟩
  rcases h.1.2 with hn | ⟨g, cap, cur, rfl, h1, h2, h3⟩
  · exact .inl hn
  · have hl := h.1.lt g rfl
    exact .inr ⟨g, cap, cur, rfl, h1, by rw [u.block g hl.2 (hx g rfl)]; exact h2, h3⟩
theorem Own.bnd {e : TypeId} {s : Nat} {w : World} {a b : Nat} {v : Value} {n : Nat} {xs : List Value} (h : Own e s w a b v n xs) : ∀ g, v.ownBlock = some g → a ≤ g ∧ g < b := fun g hg => ⟨(h.1.lt g hg).1, h.2 g hg⟩
theorem Upd.wide {w w' : World} {a b c d : Nat} (u : Upd c d w w') (h : ∀ g, c ≤ g → g < d → a ≤ g ∧ g < b) : Upd a b w w' :=
  ⟨u.os, u.tape, u.output, u.size, fun i hi hn => u.block i hi (by have := h i; omega)⟩

theorem markIntS_at (a b : Nat) (v : Value) (k : Nat) (zs : List Int) (w : World) (hn : zs.length ≤ 1048576) (hk : k ≤ 1099511627776) (h : OwnI w a b v zs) :
    Calls Try.prog 31 #[v, .int .i64 k] w fun e w' => e = .returned (.int .i64 ((k + zs.length : Nat) : Int)) ∧ OwnI w' a b v (marks k zs.length) ∧ ∃ c d, Upd c d w w' ∧ ∀ g, c ≤ g → g < d → v.ownBlock = some g := by
  by_cases hg : ∃ g, v.ownBlock = some g
  · obtain ⟨g, hg⟩ := hg
    have hx : ∀ x, v.ownBlock = some x → g ≤ x ∧ x < g + 1 := fun x hx => by rw [hg] at hx; cases hx; omega
    refine (markIntS_own g (g + 1) v k zs w hn hk (h.re hx)).mono ?_
    rintro e w' ⟨rfl, ho, hu⟩
    exact ⟨rfl, ho.re h.bnd, g, g + 1, hu, fun x h1 h2 => by rw [hg, show x = g by omega]⟩
  · have hx : ∀ x, v.ownBlock = some x → 0 ≤ x ∧ x < 0 := fun x hx => absurd ⟨x, hx⟩ hg
    refine (markIntS_own 0 0 v k zs w hn hk (h.re hx)).mono ?_
    rintro e w' ⟨rfl, ho, hu⟩
    exact ⟨rfl, ho.re h.bnd, 0, 0, hu, fun x _ h2 => by omega⟩
end Go.Proofs.Ytbdegomnlconjaa

/- Lists of Frames: the walks of the laws' own marking of them. -/
namespace Go.Proofs.Ytbdegomnlconjaa
open Go.RowKit

/-- Where the numbers of the t-th begin. -/
def posFs (k : Nat) (ds : Fs) (t : Nat) : Nat := k + 7 * t + szToFs ds t
def marked1Fs (p : Nat) (d : Fr) : Fr := (((p : Nat) : Int), ((p + 1 : Nat) : Int), ((p + 2 : Nat) : Int), ((p + 3 : Nat) : Int), ((p + 4 : Nat) : Int), ((p + 5 : Nat) : Int), ((p + 6 : Nat) : Int), marks (p + 7) (Fss d).length)
def marksFs (k : Nat) (ds : Fs) : Fs := (List.range ds.length).map fun t => marked1Fs (posFs k ds t) (ds.getD t Fr0)
@[simp] theorem marksFs_length (k : Nat) (ds : Fs) : (marksFs k ds).length = ds.length := by simp [marksFs]
theorem marksFs_at (k : Nat) (ds : Fs) (t : Nat) (h : t < ds.length) : (marksFs k ds).getD t Fr0 = marked1Fs (posFs k ds t) (ds.getD t Fr0) := by
  unfold marksFs; rw [List.getD_eq_getElem?_getD, List.getElem?_map, List.getElem?_range h]; rfl
theorem posFs_succ (k : Nat) (ds : Fs) (t : Nat) (h : t < ds.length) : posFs k ds (t + 1) = posFs k ds t + 7 + (Fss (ds.getD t Fr0)).length := by
  unfold posFs; rw [szToFs_succ ds t h]; unfold size1Fs; omega
theorem posFs_le (k : Nat) (ds : Fs) (t : Nat) (h : t ≤ ds.length) : posFs k ds t ≤ k + 7 * ds.length + szToFs ds ds.length := by
  unfold posFs; have := szToFs_le ds t; omega

set_option maxHeartbeats 1000000 in
theorem markFrameS_none (k : Nat) (w : World) : Calls Try.prog 67 #[.slice none 0 0, .int .i64 k] w fun e w' => e = .returned (.int .i64 (k : Int)) ∧ w' = w := by
  go_enter Try.func67, Try.ntmps67
  go_wp2
  go_loop [1, 5] (fun a i => a = .int .i64 k ∧ i = .int .i64 0) (fun _ _ => 0)
  case atStart => exact ⟨rfl, rfl⟩
  case round =>
    obtain ⟨rfl, rfl⟩ := hrel
    go_wp2
    go_ret
    exact ⟨rfl, rfl⟩

set_option maxHeartbeats 8000000 in
set_option maxRecDepth 100000 in
theorem markFrameS_some (a b g cap k : Nat) (ds : Fs) (xs : List Value) (vs : Nat → Value) (w : World) (hsz : sizeFs ds ≤ 1048576) (hk : k ≤ 1000000000000)
    (ho : Own 27 8 w a b (.slice (some ⟨g, 0, none⟩) ds.length cap) ds.length xs) (hr : RowFs xs ds vs ds.length) (he : ∀ j, j < ds.length → OwnI w a b (vs j) (Fss (ds.getD j Fr0))) (hd : DistFs vs ds.length) (hx : ∀ j, j < ds.length → (vs j).ownBlock ≠ some g) :
    Calls Try.prog 67 #[.slice (some ⟨g, 0, none⟩) ds.length cap, .int .i64 k] w fun e w' => e = .returned (.int .i64 ((posFs k ds ds.length : Nat) : Int)) ∧ OwnFs w' a b (.slice (some ⟨g, 0, none⟩) ds.length cap) (marksFs k ds) ∧ Upd a b w w' := by
  have hn : ds.length ≤ 1048576 := by unfold sizeFs at hsz; omega
  have hst : szToFs ds ds.length ≤ 1048576 := by unfold sizeFs at hsz; omega
  have hEach : Hid (∀ k, k < ds.length → (Fss (ds.getD k Fr0)).length ≤ 1048576) := hide (fun k hk => by have := size1Fs_le ds k hk; unfold size1Fs at this; omega)
  have hgb := ho.bnd g rfl
  replace hx := hide hx
  replace hd := hide hd
  go_enter Try.func67, Try.ntmps67
  go_wp2
  go_loopw [1, 5] (fun c i wr => ∃ t : Nat, ∃ ys, t ≤ ds.length ∧ c = .int .i64 ((posFs k ds t : Nat) : Int) ∧ i = .int .i64 t ∧ Own 27 8 wr a b (.slice (some ⟨g, 0, none⟩) ds.length cap) ds.length ys ∧ Hid (RowFs ys (marksFs k ds) vs t) ∧ Hid (∀ j, t ≤ j → j < ds.length → ys[j * 8 + 7]? = some (vs j)) ∧ Hid (∀ j, j < ds.length → OwnI wr a b (vs j) (Fss (if j < t then (marksFs k ds).getD j Fr0 else ds.getD j Fr0))) ∧ Upd a b w wr) (fun _ i _ => ds.length - (intOf i).toNat)
  case atStart => exact ⟨0, xs, Nat.zero_le _, by simp [posFs, szToFs], rfl, ho, hide (fun j hj => by omega), hide (fun j _ hj => (hr j hj).2.2.2.2.2.2.2), hide (fun j hj => by rw [if_neg (by omega)]; exact he j hj), Upd.refl _ _ _⟩
  case round =>
    clear ho hr he
    obtain ⟨t, ys, ht, rfl, rfl, ho, hrow, hrest, hel, hupd⟩ := hrel
    have hlen : ys.length = ds.length * 8 := ho.1.1
    have hpl := posFs_le k ds t ht
    by_cases hlt : t < ds.length
    · have hnk := unhide hEach t hlt
      have hps := posFs_succ k ds t hlt
      have hma := marksFs_at k ds t hlt
      have hvt := unhide hel t hlt
      rw [if_neg (by omega)] at hvt
      have hrs := unhide hrest t (Nat.le_refl _) hlt
      have hgt := unhide hx t hlt
      obtain ⟨adk, capk, hvs, _⟩ := OwnI.rd hvt
      obtain ⟨p, hp⟩ : ∃ p, p = posFs k ds t := ⟨_, rfl⟩
      obtain ⟨d, hdt⟩ : ∃ d, d = ds.getD t Fr0 := ⟨_, rfl⟩
      rw [← hp, ← hdt] at hma
      rw [← hp, ← hdt] at hps
      rw [← hp] at hpl ⊢
      rw [← hdt] at hvt hnk hvs
      have e0 : ∃ a, wr.cell? ⟨g, t * 8, none⟩ = some a := by rw [ho.1.cellAt _ (by omega)]; exact ⟨_, List.getElem?_eq_getElem (by omega)⟩
      have e1 : ∃ a, wr.cell? ⟨g, t * 8 + 1, none⟩ = some a := by rw [ho.1.cellAt _ (by omega)]; exact ⟨_, List.getElem?_eq_getElem (by omega)⟩
      have e2 : ∃ a, wr.cell? ⟨g, t * 8 + 2, none⟩ = some a := by rw [ho.1.cellAt _ (by omega)]; exact ⟨_, List.getElem?_eq_getElem (by omega)⟩
      have e3 : ∃ a, wr.cell? ⟨g, t * 8 + 3, none⟩ = some a := by rw [ho.1.cellAt _ (by omega)]; exact ⟨_, List.getElem?_eq_getElem (by omega)⟩
      have e4 : ∃ a, wr.cell? ⟨g, t * 8 + 4, none⟩ = some a := by rw [ho.1.cellAt _ (by omega)]; exact ⟨_, List.getElem?_eq_getElem (by omega)⟩
      have e5 : ∃ a, wr.cell? ⟨g, t * 8 + 5, none⟩ = some a := by rw [ho.1.cellAt _ (by omega)]; exact ⟨_, List.getElem?_eq_getElem (by omega)⟩
      have e6 : ∃ a, wr.cell? ⟨g, t * 8 + 6, none⟩ = some a := by rw [ho.1.cellAt _ (by omega)]; exact ⟨_, List.getElem?_eq_getElem (by omega)⟩
      obtain ⟨a0, e0⟩ := e0
      obtain ⟨a1, e1⟩ := e1
      obtain ⟨a2, e2⟩ := e2
      obtain ⟨a3, e3⟩ := e3
      obtain ⟨a4, e4⟩ := e4
      obtain ⟨a5, e5⟩ := e5
      obtain ⟨a6, e6⟩ := e6
      have e7 : wr.cell? ⟨g, t * 8 + 7, none⟩ = some (vs t) := by rw [ho.1.cellAt _ (by omega)]; exact hrs
      rw [hvs] at e7
      have f0 := ho.1.frozenAt (t * 8)
      have f1 := ho.1.frozenAt (t * 8 + 1)
      have f2 := ho.1.frozenAt (t * 8 + 2)
      have f3 := ho.1.frozenAt (t * 8 + 3)
      have f4 := ho.1.frozenAt (t * 8 + 4)
      have f5 := ho.1.frozenAt (t * 8 + 5)
      have f6 := ho.1.frozenAt (t * 8 + 6)
      have hM := hide (fun (p0 p1 p2 p3 p4 p5 p6 : Value) => markIntS_at a b (vs t) (p + 7) (Fss d) (((((((wr.setCell ⟨g, t * 8, none⟩ p0).setCell ⟨g, t * 8 + 1, none⟩ p1).setCell ⟨g, t * 8 + 2, none⟩ p2).setCell ⟨g, t * 8 + 3, none⟩ p3).setCell ⟨g, t * 8 + 4, none⟩ p4).setCell ⟨g, t * 8 + 5, none⟩ p5).setCell ⟨g, t * 8 + 6, none⟩ p6) hnk (by omega) (hvt.off ((((((((Upd.refl g (g + 1) wr).setCell (r := g) ⟨Nat.le_refl _, by omega⟩ (t * 8) p0).setCell (r := g) ⟨Nat.le_refl _, by omega⟩ (t * 8 + 1) p1).setCell (r := g) ⟨Nat.le_refl _, by omega⟩ (t * 8 + 2) p2).setCell (r := g) ⟨Nat.le_refl _, by omega⟩ (t * 8 + 3) p3).setCell (r := g) ⟨Nat.le_refl _, by omega⟩ (t * 8 + 4) p4).setCell (r := g) ⟨Nat.le_refl _, by omega⟩ (t * 8 + 5) p5).setCell (r := g) ⟨Nat.le_refl _, by omega⟩ (t * 8 + 6) p6) (fun x hx => by have : x ≠ g := fun e => hgt (e ▸ hx); omega)))
      have hS := hide (show ∀ p0 p1 p2 p3 p4 p5 p6 : Value, Own 27 8 (((((((wr.setCell ⟨g, t * 8, none⟩ p0).setCell ⟨g, t * 8 + 1, none⟩ p1).setCell ⟨g, t * 8 + 2, none⟩ p2).setCell ⟨g, t * 8 + 3, none⟩ p3).setCell ⟨g, t * 8 + 4, none⟩ p4).setCell ⟨g, t * 8 + 5, none⟩ p5).setCell ⟨g, t * 8 + 6, none⟩ p6) a b (.slice (some ⟨g, 0, none⟩) ds.length cap) ds.length (((((((ys.set (t * 8) (p0)).set (t * 8 + 1) (p1)).set (t * 8 + 2) (p2)).set (t * 8 + 3) (p3)).set (t * 8 + 4) (p4)).set (t * 8 + 5) (p5)).set (t * 8 + 6) (p6)) from fun p0 p1 p2 p3 p4 p5 p6 => ⟨(((((((ho.1.stored (t * 8) p0).1.stored (t * 8 + 1) p1).1.stored (t * 8 + 2) p2).1.stored (t * 8 + 3) p3).1.stored (t * 8 + 4) p4).1.stored (t * 8 + 5) p5).1.stored (t * 8 + 6) p6).1, ho.2⟩)
      have hU := hide (show ∀ p0 p1 p2 p3 p4 p5 p6 : Value, Upd g (g + 1) wr (((((((wr.setCell ⟨g, t * 8, none⟩ p0).setCell ⟨g, t * 8 + 1, none⟩ p1).setCell ⟨g, t * 8 + 2, none⟩ p2).setCell ⟨g, t * 8 + 3, none⟩ p3).setCell ⟨g, t * 8 + 4, none⟩ p4).setCell ⟨g, t * 8 + 5, none⟩ p5).setCell ⟨g, t * 8 + 6, none⟩ p6) from fun p0 p1 p2 p3 p4 p5 p6 => ((((((((Upd.refl g (g + 1) wr).setCell (r := g) ⟨Nat.le_refl _, by omega⟩ (t * 8) p0).setCell (r := g) ⟨Nat.le_refl _, by omega⟩ (t * 8 + 1) p1).setCell (r := g) ⟨Nat.le_refl _, by omega⟩ (t * 8 + 2) p2).setCell (r := g) ⟨Nat.le_refl _, by omega⟩ (t * 8 + 3) p3).setCell (r := g) ⟨Nat.le_refl _, by omega⟩ (t * 8 + 4) p4).setCell (r := g) ⟨Nat.le_refl _, by omega⟩ (t * 8 + 5) p5).setCell (r := g) ⟨Nat.le_refl _, by omega⟩ (t * 8 + 6) p6))
      have hv : (((p + 7 : Nat) : Nat) : Int) = (p : Int) + 1 + 1 + 1 + 1 + 1 + 1 + 1 := by omega
      rw [hvs, hv] at hM
      clear hv
      have hvb := hide hvt.bnd
      replace hvt := hide hvt
      replace hp := hide hp
      replace hdt := hide hdt
      replace hma := hide hma
      replace hrs := hide hrs
      replace hgt := hide hgt
      replace hlen' := hide hlen
      replace hvs := hide hvs
      replace ho := hide ho
      replace hupd := hide hupd
      replace hps := hide hps
      go_wp2_with fail
      refine (unhide hM (.int .i64 ((p : Int))) (.int .i64 ((p : Int) + 1)) (.int .i64 ((p : Int) + 1 + 1)) (.int .i64 ((p : Int) + 1 + 1 + 1)) (.int .i64 ((p : Int) + 1 + 1 + 1 + 1)) (.int .i64 ((p : Int) + 1 + 1 + 1 + 1 + 1)) (.int .i64 ((p : Int) + 1 + 1 + 1 + 1 + 1 + 1))).mono ?_
      rintro e w2 ⟨rfl, hov, c', d', hu2, hcd⟩
      have hgb2 : ∀ x, x = g → x < c' ∨ d' ≤ x := fun x hx => by
        subst hx
        apply Classical.byContradiction
        intro hn
        exact unhide hgt ((unhide hvs).symm ▸ hcd x (by omega) (by omega))
      have ho5 := hide ((unhide hS (.int .i64 ((p : Int))) (.int .i64 ((p : Int) + 1)) (.int .i64 ((p : Int) + 1 + 1)) (.int .i64 ((p : Int) + 1 + 1 + 1)) (.int .i64 ((p : Int) + 1 + 1 + 1 + 1)) (.int .i64 ((p : Int) + 1 + 1 + 1 + 1 + 1)) (.int .i64 ((p : Int) + 1 + 1 + 1 + 1 + 1 + 1))).off hu2 (fun x hx => hgb2 x (by simp [Value.ownBlock] at hx; exact hx.symm)))
      have hU5 := hide ((unhide hupd).trans (((unhide hU (.int .i64 ((p : Int))) (.int .i64 ((p : Int) + 1)) (.int .i64 ((p : Int) + 1 + 1)) (.int .i64 ((p : Int) + 1 + 1 + 1)) (.int .i64 ((p : Int) + 1 + 1 + 1 + 1)) (.int .i64 ((p : Int) + 1 + 1 + 1 + 1 + 1)) (.int .i64 ((p : Int) + 1 + 1 + 1 + 1 + 1 + 1))).wide (a := a) (b := b) (fun x h1 h2 => by omega)).trans (hu2.wide (fun x h1 h2 => (unhide hvb) x ((unhide hvs).symm ▸ hcd x h1 h2)))))
      have hel5 : Hid (∀ j, j < ds.length → OwnI w2 a b (vs j) (Fss (if j < t + 1 then (marksFs k ds).getD j Fr0 else ds.getD j Fr0))) := hide (fun j hj => by
        by_cases e : j = t
        · subst e
          rw [if_pos (Nat.lt_succ_self _), unhide hma, unhide hvs]
          exact hov
        · have h0 := ((unhide hel j hj).off (unhide hU (.int .i64 ((p : Int))) (.int .i64 ((p : Int) + 1)) (.int .i64 ((p : Int) + 1 + 1)) (.int .i64 ((p : Int) + 1 + 1 + 1)) (.int .i64 ((p : Int) + 1 + 1 + 1 + 1)) (.int .i64 ((p : Int) + 1 + 1 + 1 + 1 + 1)) (.int .i64 ((p : Int) + 1 + 1 + 1 + 1 + 1 + 1))) (fun x hx' => by have : x ≠ g := fun e => unhide hx j hj (e ▸ hx'); omega)).off hu2 (fun x hx' => by
            apply Classical.byContradiction
            intro hn
            exact unhide hd j t hj hlt e x hx' ((unhide hvs).symm ▸ hcd x (by omega) (by omega)))
          by_cases hjt : j < t
          · rw [if_pos hjt] at h0; rw [if_pos (by omega)]; exact h0
          · rw [if_neg hjt] at h0; rw [if_neg (by omega)]; exact h0)
      have hrow5 : Hid (RowFs (((((((ys.set (t * 8) ((.int .i64 ((p : Int))))).set (t * 8 + 1) ((.int .i64 ((p : Int) + 1)))).set (t * 8 + 2) ((.int .i64 ((p : Int) + 1 + 1)))).set (t * 8 + 3) ((.int .i64 ((p : Int) + 1 + 1 + 1)))).set (t * 8 + 4) ((.int .i64 ((p : Int) + 1 + 1 + 1 + 1)))).set (t * 8 + 5) ((.int .i64 ((p : Int) + 1 + 1 + 1 + 1 + 1)))).set (t * 8 + 6) ((.int .i64 ((p : Int) + 1 + 1 + 1 + 1 + 1 + 1)))) (marksFs k ds) vs (t + 1)) := hide (fun j hj => by
        by_cases e : j = t
        · subst e
          rw [unhide hma]
          refine ⟨?_, ?_, ?_, ?_, ?_, ?_, ?_, ?_⟩
          · refine Eq.trans (b := some (.int .i64 ((p : Int)))) ?_ (congrArg (fun z => some (Value.int .i64 z)) (show (p : Int) = ((p : Nat) : Int) by omega)); rw [List.getElem?_set_ne (by omega), List.getElem?_set_ne (by omega), List.getElem?_set_ne (by omega), List.getElem?_set_ne (by omega), List.getElem?_set_ne (by omega), List.getElem?_set_ne (by omega), List.getElem?_set_self (by first | omega | (simp; omega))]
          · refine Eq.trans (b := some (.int .i64 ((p : Int) + 1))) ?_ (congrArg (fun z => some (Value.int .i64 z)) (show (p : Int) + 1 = ((p + 1 : Nat) : Int) by omega)); rw [List.getElem?_set_ne (by omega), List.getElem?_set_ne (by omega), List.getElem?_set_ne (by omega), List.getElem?_set_ne (by omega), List.getElem?_set_ne (by omega), List.getElem?_set_self (by first | omega | (simp; omega))]
          · refine Eq.trans (b := some (.int .i64 ((p : Int) + 1 + 1))) ?_ (congrArg (fun z => some (Value.int .i64 z)) (show (p : Int) + 1 + 1 = ((p + 2 : Nat) : Int) by omega)); rw [List.getElem?_set_ne (by omega), List.getElem?_set_ne (by omega), List.getElem?_set_ne (by omega), List.getElem?_set_ne (by omega), List.getElem?_set_self (by first | omega | (simp; omega))]
          · refine Eq.trans (b := some (.int .i64 ((p : Int) + 1 + 1 + 1))) ?_ (congrArg (fun z => some (Value.int .i64 z)) (show (p : Int) + 1 + 1 + 1 = ((p + 3 : Nat) : Int) by omega)); rw [List.getElem?_set_ne (by omega), List.getElem?_set_ne (by omega), List.getElem?_set_ne (by omega), List.getElem?_set_self (by first | omega | (simp; omega))]
          · refine Eq.trans (b := some (.int .i64 ((p : Int) + 1 + 1 + 1 + 1))) ?_ (congrArg (fun z => some (Value.int .i64 z)) (show (p : Int) + 1 + 1 + 1 + 1 = ((p + 4 : Nat) : Int) by omega)); rw [List.getElem?_set_ne (by omega), List.getElem?_set_ne (by omega), List.getElem?_set_self (by first | omega | (simp; omega))]
          · refine Eq.trans (b := some (.int .i64 ((p : Int) + 1 + 1 + 1 + 1 + 1))) ?_ (congrArg (fun z => some (Value.int .i64 z)) (show (p : Int) + 1 + 1 + 1 + 1 + 1 = ((p + 5 : Nat) : Int) by omega)); rw [List.getElem?_set_ne (by omega), List.getElem?_set_self (by first | omega | (simp; omega))]
          · refine Eq.trans (b := some (.int .i64 ((p : Int) + 1 + 1 + 1 + 1 + 1 + 1))) ?_ (congrArg (fun z => some (Value.int .i64 z)) (show (p : Int) + 1 + 1 + 1 + 1 + 1 + 1 = ((p + 6 : Nat) : Int) by omega)); rw [List.getElem?_set_self (by first | omega | (simp; omega))]
          · rw [List.getElem?_set_ne (by omega), List.getElem?_set_ne (by omega), List.getElem?_set_ne (by omega), List.getElem?_set_ne (by omega), List.getElem?_set_ne (by omega), List.getElem?_set_ne (by omega), List.getElem?_set_ne (by omega)]; exact unhide hrs
        · have := unhide hrow j (by omega)
          refine ⟨?_, ?_, ?_, ?_, ?_, ?_, ?_, ?_⟩
          · rw [List.getElem?_set_ne (by omega), List.getElem?_set_ne (by omega), List.getElem?_set_ne (by omega), List.getElem?_set_ne (by omega), List.getElem?_set_ne (by omega), List.getElem?_set_ne (by omega), List.getElem?_set_ne (by omega)]; exact this.1
          · rw [List.getElem?_set_ne (by omega), List.getElem?_set_ne (by omega), List.getElem?_set_ne (by omega), List.getElem?_set_ne (by omega), List.getElem?_set_ne (by omega), List.getElem?_set_ne (by omega), List.getElem?_set_ne (by omega)]; exact this.2.1
          · rw [List.getElem?_set_ne (by omega), List.getElem?_set_ne (by omega), List.getElem?_set_ne (by omega), List.getElem?_set_ne (by omega), List.getElem?_set_ne (by omega), List.getElem?_set_ne (by omega), List.getElem?_set_ne (by omega)]; exact this.2.2.1
          · rw [List.getElem?_set_ne (by omega), List.getElem?_set_ne (by omega), List.getElem?_set_ne (by omega), List.getElem?_set_ne (by omega), List.getElem?_set_ne (by omega), List.getElem?_set_ne (by omega), List.getElem?_set_ne (by omega)]; exact this.2.2.2.1
          · rw [List.getElem?_set_ne (by omega), List.getElem?_set_ne (by omega), List.getElem?_set_ne (by omega), List.getElem?_set_ne (by omega), List.getElem?_set_ne (by omega), List.getElem?_set_ne (by omega), List.getElem?_set_ne (by omega)]; exact this.2.2.2.2.1
          · rw [List.getElem?_set_ne (by omega), List.getElem?_set_ne (by omega), List.getElem?_set_ne (by omega), List.getElem?_set_ne (by omega), List.getElem?_set_ne (by omega), List.getElem?_set_ne (by omega), List.getElem?_set_ne (by omega)]; exact this.2.2.2.2.2.1
          · rw [List.getElem?_set_ne (by omega), List.getElem?_set_ne (by omega), List.getElem?_set_ne (by omega), List.getElem?_set_ne (by omega), List.getElem?_set_ne (by omega), List.getElem?_set_ne (by omega), List.getElem?_set_ne (by omega)]; exact this.2.2.2.2.2.2.1
          · rw [List.getElem?_set_ne (by omega), List.getElem?_set_ne (by omega), List.getElem?_set_ne (by omega), List.getElem?_set_ne (by omega), List.getElem?_set_ne (by omega), List.getElem?_set_ne (by omega), List.getElem?_set_ne (by omega)]; exact this.2.2.2.2.2.2.2)
      have hrest5 : Hid (∀ j, t + 1 ≤ j → j < ds.length → (((((((ys.set (t * 8) ((.int .i64 ((p : Int))))).set (t * 8 + 1) ((.int .i64 ((p : Int) + 1)))).set (t * 8 + 2) ((.int .i64 ((p : Int) + 1 + 1)))).set (t * 8 + 3) ((.int .i64 ((p : Int) + 1 + 1 + 1)))).set (t * 8 + 4) ((.int .i64 ((p : Int) + 1 + 1 + 1 + 1)))).set (t * 8 + 5) ((.int .i64 ((p : Int) + 1 + 1 + 1 + 1 + 1)))).set (t * 8 + 6) ((.int .i64 ((p : Int) + 1 + 1 + 1 + 1 + 1 + 1))))[j * 8 + 7]? = some (vs j)) := hide (fun j h1 h2 => by rw [List.getElem?_set_ne (by omega), List.getElem?_set_ne (by omega), List.getElem?_set_ne (by omega), List.getElem?_set_ne (by omega), List.getElem?_set_ne (by omega), List.getElem?_set_ne (by omega), List.getElem?_set_ne (by omega)]; exact unhide hrest j (by omega) h2)
      clear hM hS hU hov hu2 hcd hel hrow hrest hvb hvt hgb2 ho hupd
      go_wp2
      go_roundw
      case rel => exact ⟨t + 1, _, by omega, by rw [unhide hps]; simp, by go_num, unhide ho5, hrow5, hrest5, hel5, unhide hU5⟩
      case measure => simp [intOf]; omega
    · have htn : t = ds.length := by omega
      subst htn
      replace ho := hide ho
      replace hupd := hide hupd
      go_wp2
      go_ret
      refine ⟨rfl, ⟨ys, vs, ?_, ?_, ?_, ?_, ?_⟩, unhide hupd⟩
      · rw [marksFs_length]; exact unhide ho
      · rw [marksFs_length]; exact unhide hrow
      · rw [marksFs_length]; exact fun j hj => by have := unhide hel j hj; rw [if_pos hj] at this; exact this
      · rw [marksFs_length]; exact unhide hd
      · rw [marksFs_length]; exact fun j hj x hx' => by
          intro e
          simp [Value.ownBlock] at e
          exact unhide hx j hj (e ▸ hx')

theorem markFrameS_own (a b : Nat) (v : Value) (k : Nat) (ds : Fs) (w : World) (hsz : sizeFs ds ≤ 1048576) (hk : k ≤ 1000000000000) (h : OwnFs w a b v ds) :
    Calls Try.prog 67 #[v, .int .i64 k] w fun e w' => e = .returned (.int .i64 ((posFs k ds ds.length : Nat) : Int)) ∧ OwnFs w' a b v (marksFs k ds) ∧ Upd a b w w' := by
  obtain ⟨ys, vs, ho, hr, he, hd, hx⟩ := h
  rcases ho.1.2 with ⟨rfl, h0⟩ | ⟨g, cap, cur, rfl, _⟩
  · have e : ds = [] := List.length_eq_zero_iff.1 h0
    subst e
    refine (markFrameS_none k w).mono ?_
    rintro e w' ⟨rfl, rfl⟩
    exact ⟨by simp [posFs, szToFs], ⟨ys, vs, ho, fun j hj => by simp at hj, fun j hj => by simp at hj, fun i j hi => by simp at hi, fun j hj => by simp at hj⟩, Upd.refl _ _ _⟩
  · exact markFrameS_some a b g cap k ds ys vs w hsz hk ho hr he hd (fun j hj hg => hx j hj g hg rfl)

end Go.Proofs.Ytbdegomnlconjaa

/- Moving pictures: the walk of the laws' own marking of them. -/
namespace Go.Proofs.Ytbdegomnlconjaa
open Go.RowKit

def MvCnt (d : Mv) : Nat := d.2.2.1.length + (7 * d.2.2.2.2.length + szToFs d.2.2.2.2 d.2.2.2.2.length)
def MvMarkd (k : Nat) (d : Mv) : Mv := (d.1, d.2.1, marks k d.2.2.1.length, d.2.2.2.1, marksFs (k + d.2.2.1.length) d.2.2.2.2)
theorem own_clipM {e : TypeId} {s : Nat} {w : World} {a b : Nat} {v : Value} {n : Nat} {xs : List Value} (h : Own e s w a b v n xs) : Own e s w a (min b w.heap.size) v n xs :=
  ⟨h.1, fun k hk => by have := h.2 k hk; have := (h.1.lt k hk).2; omega⟩
theorem upd_widenM {a b : Nat} {w w' : World} (h : Upd 0 0 w w') : Upd a b w w' := ⟨h.os, h.tape, h.output, h.size, fun k hk _ => h.block k hk (.inr (Nat.zero_le _))⟩
theorem upd_narrowM {a b c d : Nat} {w w' : World} (h : Upd c d w w') (h1 : a ≤ c) (h2 : d ≤ b) : Upd a b w w' := ⟨h.os, h.tape, h.output, h.size, fun k hk hn => h.block k hk (by omega)⟩
set_option maxHeartbeats 4000000 in
set_option maxRecDepth 100000 in
theorem markMoving_own {w : World} {a b : Nat} {v : Value} {d : Mv} (k : Nat) (hL : MvSize d ≤ 1048576) (hk : k ≤ 1073741824) (hv : OwnMv w a b v d) :
    Calls Try.prog 25 #[v, .int .i64 k] w fun e w' => e = .returned (.int .i64 ((k + MvCnt d : Nat) : Int)) ∧ OwnMv w' a b v (MvMarkd k d) ∧ Upd a b w w' := by
  obtain ⟨v0, v1, a1, rfl, hch, h0, h1⟩ := hv
  obtain ⟨x0, x1, zs0, x2, zs1⟩ := d
  simp only [Mvv, MvSize, MvCnt, MvMarkd] at hL h0 h1 ⊢
  have hn0 : zs0.length ≤ 1048576 := by omega
  have hn1 : sizeFs zs1 ≤ 1048576 := by omega
  have hu0 : Upd 0 0 w (w.alloc (.cells #[.int .i64 x0, .int .i64 x1, v0, .int .i64 x2, v1] 49)) := Upd.of_below ((Below.refl w.heap.size w).alloc (Nat.le_refl _) (.cells #[.int .i64 x0, .int .i64 x1, v0, .int .i64 x2, v1] 49)) 0 0
  have hbx0 := heldF_new w [.int .i64 x0, .int .i64 x1, v0, .int .i64 x2, v1] 49
  replace h0 := hide ((own_clipM h0).keep hu0)
  replace h1 := hide (h1.keep hu0)
  obtain ⟨ad0, cap0, hf0, _⟩ := OwnI.rd (unhide h0)
  subst hf0
  obtain ⟨ad1, cap1, hf1, _⟩ := OwnFs.rd (unhide h1)
  subst hf1
  have hU := hide (upd_widenM (a := a) (b := b) hu0)
  go_enter Try.func25, Try.ntmps25
  go_wp2_with fail
  clear hu0
  generalize w.alloc (.cells #[.int .i64 x0, .int .i64 x1, .slice ad0 zs0.length cap0, .int .i64 x2, .slice ad1 zs1.length cap1] 49) = w0 at hbx0 h0 h1 hU ⊢
  have hbx := hide hbx0
  clear hbx0
  refine (markIntS_own a (min a1 w.heap.size) _ (k) _ w0 hn0 (by omega) (unhide h0)).mono ?_
  rintro e w1 ⟨rfl, ho, hu⟩
  replace hbx := hide ((unhide hbx).upd hu (by omega))
  replace h1 := hide ((unhide h1).upd hu (by omega))
  replace h0 := hide ho
  replace hU := hide ((unhide hU).trans (upd_narrowM hu (by omega) (by omega)))
  clear hu ho
  have cb0 := (unhide hbx).1.2 0 _ rfl
  have cb1 := (unhide hbx).1.2 1 _ rfl
  have cb2 := (unhide hbx).1.2 2 _ rfl
  have cb3 := (unhide hbx).1.2 3 _ rfl
  have cb4 := (unhide hbx).1.2 4 _ rfl
  go_wp2_with fail
  clear cb0 cb1 cb2 cb3 cb4
  refine (markFrameS_own a1 b _ (k + zs0.length) zs1 w1 hn1 (by omega) (unhide h1)).mono ?_
  rintro e w2 ⟨rfl, ho, hu⟩
  replace h0 := hide ((unhide h0).upd hu (by omega))
  replace h1 := hide ho
  replace hU := hide ((unhide hU).trans (upd_narrowM hu (by omega) (by omega)))
  clear hu ho hbx
  go_wp2
  go_ret
  refine ⟨by unfold posFs; exact ret_int (by omega), ⟨_, _, a1, ?_, hch, own_mono (unhide h0) (Nat.le_refl _) (Nat.min_le_left _ _), unhide h1⟩, unhide hU⟩
  simp
end Go.Proofs.Ytbdegomnlconjaa

/- Lists of IntSs: the walks of the laws' own marking of them. -/
namespace Go.Proofs.Ytbdegomnlconjaa
open Go.RowKit

/-- Where the numbers of the t-th begin. -/
def posLl (k : Nat) (ds : Ll) (t : Nat) : Nat := k + 0 * t + szToLl ds t
def marked1Ll (p : Nat) (d : Ln) : Ln := marks p (Lls d).length
def marksLl (k : Nat) (ds : Ll) : Ll := (List.range ds.length).map fun t => marked1Ll (posLl k ds t) (ds.getD t Ln0)
@[simp] theorem marksLl_length (k : Nat) (ds : Ll) : (marksLl k ds).length = ds.length := by simp [marksLl]
theorem marksLl_at (k : Nat) (ds : Ll) (t : Nat) (h : t < ds.length) : (marksLl k ds).getD t Ln0 = marked1Ll (posLl k ds t) (ds.getD t Ln0) := by
  unfold marksLl; rw [List.getD_eq_getElem?_getD, List.getElem?_map, List.getElem?_range h]; rfl
theorem posLl_succ (k : Nat) (ds : Ll) (t : Nat) (h : t < ds.length) : posLl k ds (t + 1) = posLl k ds t + 0 + (Lls (ds.getD t Ln0)).length := by
  unfold posLl; rw [szToLl_succ ds t h]; unfold size1Ll; omega
theorem posLl_le (k : Nat) (ds : Ll) (t : Nat) (_h : t ≤ ds.length) : posLl k ds t ≤ k + 0 * ds.length + szToLl ds ds.length := by
  unfold posLl; have := szToLl_le ds t; omega

set_option maxHeartbeats 1000000 in
theorem markIntSS_none (k : Nat) (w : World) : Calls Try.prog 26 #[.slice none 0 0, .int .i64 k] w fun e w' => e = .returned (.int .i64 (k : Int)) ∧ w' = w := by
  go_enter Try.func26, Try.ntmps26
  go_wp2
  go_loop [1, 5] (fun a i => a = .int .i64 k ∧ i = .int .i64 0) (fun _ _ => 0)
  case atStart => exact ⟨rfl, rfl⟩
  case round =>
    obtain ⟨rfl, rfl⟩ := hrel
    go_wp2
    go_ret
    exact ⟨rfl, rfl⟩

set_option maxHeartbeats 8000000 in
set_option maxRecDepth 100000 in
theorem markIntSS_some (a b g cap k : Nat) (ds : Ll) (xs : List Value) (vs : Nat → Value) (w : World) (hsz : sizeLl ds ≤ 1048576) (hk : k ≤ 1000000000000)
    (ho : Own 23 1 w a b (.slice (some ⟨g, 0, none⟩) ds.length cap) ds.length xs) (hr : RowLl xs ds vs ds.length) (he : ∀ j, j < ds.length → OwnI w a b (vs j) (Lls (ds.getD j Ln0))) (hd : DistLl vs ds.length) (hx : ∀ j, j < ds.length → (vs j).ownBlock ≠ some g) :
    Calls Try.prog 26 #[.slice (some ⟨g, 0, none⟩) ds.length cap, .int .i64 k] w fun e w' => e = .returned (.int .i64 ((posLl k ds ds.length : Nat) : Int)) ∧ OwnLl w' a b (.slice (some ⟨g, 0, none⟩) ds.length cap) (marksLl k ds) ∧ Upd a b w w' := by
  have hn : ds.length ≤ 1048576 := by unfold sizeLl at hsz; omega
  have hst : szToLl ds ds.length ≤ 1048576 := by unfold sizeLl at hsz; omega
  have hEach : Hid (∀ k, k < ds.length → (Lls (ds.getD k Ln0)).length ≤ 1048576) := hide (fun k hk => by have := size1Ll_le ds k hk; unfold size1Ll at this; omega)
  have hgb := ho.bnd g rfl
  replace hx := hide hx
  replace hd := hide hd
  go_enter Try.func26, Try.ntmps26
  go_wp2
  go_loopw [1, 5] (fun c i wr => ∃ t : Nat, ∃ ys, t ≤ ds.length ∧ c = .int .i64 ((posLl k ds t : Nat) : Int) ∧ i = .int .i64 t ∧ Own 23 1 wr a b (.slice (some ⟨g, 0, none⟩) ds.length cap) ds.length ys ∧ Hid (RowLl ys (marksLl k ds) vs t) ∧ Hid (∀ j, t ≤ j → j < ds.length → ys[j]? = some (vs j)) ∧ Hid (∀ j, j < ds.length → OwnI wr a b (vs j) (Lls (if j < t then (marksLl k ds).getD j Ln0 else ds.getD j Ln0))) ∧ Upd a b w wr) (fun _ i _ => ds.length - (intOf i).toNat)
  case atStart => exact ⟨0, xs, Nat.zero_le _, by simp [posLl, szToLl], rfl, ho, hide (fun j hj => by omega), hide (fun j _ hj => (hr j hj)), hide (fun j hj => by rw [if_neg (by omega)]; exact he j hj), Upd.refl _ _ _⟩
  case round =>
    clear ho hr he
    obtain ⟨t, ys, ht, rfl, rfl, ho, hrow, hrest, hel, hupd⟩ := hrel
    have hlen : ys.length = ds.length * 1 := ho.1.1
    have hpl := posLl_le k ds t ht
    by_cases hlt : t < ds.length
    · have hnk := unhide hEach t hlt
      have hps := posLl_succ k ds t hlt
      have hma := marksLl_at k ds t hlt
      have hvt := unhide hel t hlt
      rw [if_neg (by omega)] at hvt
      have hrs := unhide hrest t (Nat.le_refl _) hlt
      have hgt := unhide hx t hlt
      obtain ⟨adk, capk, hvs, _⟩ := OwnI.rd hvt
      obtain ⟨p, hp⟩ : ∃ p, p = posLl k ds t := ⟨_, rfl⟩
      obtain ⟨d, hdt⟩ : ∃ d, d = ds.getD t Ln0 := ⟨_, rfl⟩
      rw [← hp, ← hdt] at hma
      rw [← hp, ← hdt] at hps
      rw [← hp] at hpl ⊢
      rw [← hdt] at hvt hnk hvs
      have e0 : wr.cell? ⟨g, t, none⟩ = some (vs t) := by rw [ho.1.cellAt _ (by omega)]; exact hrs
      rw [hvs] at e0
      have hM := hide (markIntS_at a b (vs t) p (Lls d) wr hnk (by omega) (hvt.off (Upd.refl g (g + 1) wr) (fun x hx => by have : x ≠ g := fun e => hgt (e ▸ hx); omega)))
      have hS := hide (show Own 23 1 wr a b (.slice (some ⟨g, 0, none⟩) ds.length cap) ds.length ys from ho)
      have hU := hide (show Upd g (g + 1) wr wr from (Upd.refl g (g + 1) wr))
      rw [hvs] at hM
      have hvb := hide hvt.bnd
      replace hvt := hide hvt
      replace hp := hide hp
      replace hdt := hide hdt
      replace hma := hide hma
      replace hrs := hide hrs
      replace hgt := hide hgt
      replace hlen' := hide hlen
      replace hvs := hide hvs
      replace ho := hide ho
      replace hupd := hide hupd
      replace hps := hide hps
      go_wp2_with fail
      refine (unhide hM ).mono ?_
      rintro e w2 ⟨rfl, hov, c', d', hu2, hcd⟩
      have hgb2 : ∀ x, x = g → x < c' ∨ d' ≤ x := fun x hx => by
        subst hx
        apply Classical.byContradiction
        intro hn
        exact unhide hgt ((unhide hvs).symm ▸ hcd x (by omega) (by omega))
      have ho5 := hide ((unhide hS ).off hu2 (fun x hx => hgb2 x (by simp [Value.ownBlock] at hx; exact hx.symm)))
      have hU5 := hide ((unhide hupd).trans (((unhide hU ).wide (a := a) (b := b) (fun x h1 h2 => by omega)).trans (hu2.wide (fun x h1 h2 => (unhide hvb) x ((unhide hvs).symm ▸ hcd x h1 h2)))))
      have hel5 : Hid (∀ j, j < ds.length → OwnI w2 a b (vs j) (Lls (if j < t + 1 then (marksLl k ds).getD j Ln0 else ds.getD j Ln0))) := hide (fun j hj => by
        by_cases e : j = t
        · subst e
          rw [if_pos (Nat.lt_succ_self _), unhide hma, unhide hvs]
          exact hov
        · have h0 := ((unhide hel j hj).off (unhide hU ) (fun x hx' => by have : x ≠ g := fun e => unhide hx j hj (e ▸ hx'); omega)).off hu2 (fun x hx' => by
            apply Classical.byContradiction
            intro hn
            exact unhide hd j t hj hlt e x hx' ((unhide hvs).symm ▸ hcd x (by omega) (by omega)))
          by_cases hjt : j < t
          · rw [if_pos hjt] at h0; rw [if_pos (by omega)]; exact h0
          · rw [if_neg hjt] at h0; rw [if_neg (by omega)]; exact h0)
      have hrow5 : Hid (RowLl ys (marksLl k ds) vs (t + 1)) := hide (fun j hj => by
        by_cases e : j = t
        · subst e
          exact unhide hrs
        · have := unhide hrow j (by omega)
          exact this)
      have hrest5 : Hid (∀ j, t + 1 ≤ j → j < ds.length → ys[j]? = some (vs j)) := hide (fun j h1 h2 => by exact unhide hrest j (by omega) h2)
      clear hM hS hU hov hu2 hcd hel hrow hrest hvb hvt hgb2 ho hupd
      go_wp2
      go_roundw
      case rel => exact ⟨t + 1, _, by omega, by rw [unhide hps]; simp, by go_num, unhide ho5, hrow5, hrest5, hel5, unhide hU5⟩
      case measure => simp [intOf]; omega
    · have htn : t = ds.length := by omega
      subst htn
      replace ho := hide ho
      replace hupd := hide hupd
      go_wp2
      go_ret
      refine ⟨rfl, ⟨ys, vs, ?_, ?_, ?_, ?_, ?_⟩, unhide hupd⟩
      · rw [marksLl_length]; exact unhide ho
      · rw [marksLl_length]; exact unhide hrow
      · rw [marksLl_length]; exact fun j hj => by have := unhide hel j hj; rw [if_pos hj] at this; exact this
      · rw [marksLl_length]; exact unhide hd
      · rw [marksLl_length]; exact fun j hj x hx' => by
          intro e
          simp [Value.ownBlock] at e
          exact unhide hx j hj (e ▸ hx')

theorem markIntSS_own (a b : Nat) (v : Value) (k : Nat) (ds : Ll) (w : World) (hsz : sizeLl ds ≤ 1048576) (hk : k ≤ 1000000000000) (h : OwnLl w a b v ds) :
    Calls Try.prog 26 #[v, .int .i64 k] w fun e w' => e = .returned (.int .i64 ((posLl k ds ds.length : Nat) : Int)) ∧ OwnLl w' a b v (marksLl k ds) ∧ Upd a b w w' := by
  obtain ⟨ys, vs, ho, hr, he, hd, hx⟩ := h
  rcases ho.1.2 with ⟨rfl, h0⟩ | ⟨g, cap, cur, rfl, _⟩
  · have e : ds = [] := List.length_eq_zero_iff.1 h0
    subst e
    refine (markIntSS_none k w).mono ?_
    rintro e w' ⟨rfl, rfl⟩
    exact ⟨by simp [posLl, szToLl], ⟨ys, vs, ho, fun j hj => by simp at hj, fun j hj => by simp at hj, fun i j hi => by simp at hi, fun j hj => by simp at hj⟩, Upd.refl _ _ _⟩
  · exact markIntSS_some a b g cap k ds ys vs w hsz hk ho hr he hd (fun j hj hg => hx j hj g hg rfl)

set_option maxHeartbeats 1000000 in
theorem heldIntSS_none (k : Nat) (w : World) : Calls Try.prog 27 #[.slice none 0 0, .int .i64 k] w fun e w' => e = .returned (.int .i64 (k : Int)) ∧ w' = w := by
  go_enter Try.func27, Try.ntmps27
  go_wp2
  go_loop [1, 5] (fun a i => a = .int .i64 k ∧ i = .int .i64 0) (fun _ _ => 0)
  case atStart => exact ⟨rfl, rfl⟩
  case round =>
    obtain ⟨rfl, rfl⟩ := hrel
    go_wp2
    go_ret
    exact ⟨rfl, rfl⟩

set_option maxHeartbeats 8000000 in
set_option maxRecDepth 100000 in
theorem heldIntSS_some (a b g cap k : Nat) (ds : Ll) (xs : List Value) (vs : Nat → Value) (w : World) (hsz : sizeLl ds ≤ 1048576) (hk : k ≤ 1000000000000)
    (ho : Own 23 1 w a b (.slice (some ⟨g, 0, none⟩) ds.length cap) ds.length xs) (hr : RowLl xs (marksLl k ds) vs ds.length) (he : ∀ j, j < ds.length → OwnI w a b (vs j) (Lls ((marksLl k ds).getD j Ln0))) :
    Calls Try.prog 27 #[.slice (some ⟨g, 0, none⟩) ds.length cap, .int .i64 k] w fun e w' => e = .returned (.int .i64 ((posLl k ds ds.length : Nat) : Int)) ∧ w' = w := by
  have hn : ds.length ≤ 1048576 := by unfold sizeLl at hsz; omega
  have hst : szToLl ds ds.length ≤ 1048576 := by unfold sizeLl at hsz; omega
  have hEach : Hid (∀ k, k < ds.length → (Lls (ds.getD k Ln0)).length ≤ 1048576) := hide (fun k hk => by have := size1Ll_le ds k hk; unfold size1Ll at this; omega)
  replace ho := hide ho
  replace hr := hide hr
  replace he := hide he
  go_enter Try.func27, Try.ntmps27
  go_wp2
  go_loop [1, 5] (fun c i => ∃ t : Nat, t ≤ ds.length ∧ c = .int .i64 ((posLl k ds t : Nat) : Int) ∧ i = .int .i64 t) (fun _ i => ds.length - (intOf i).toNat)
  case atStart => exact ⟨0, Nat.zero_le _, by simp [posLl, szToLl], rfl⟩
  case round =>
    obtain ⟨t, ht, rfl, rfl⟩ := hrel
    have hpl := posLl_le k ds t ht
    by_cases hlt : t < ds.length
    · have hnk := unhide hEach t hlt
      have hps := posLl_succ k ds t hlt
      have hvt := unhide he t hlt
      have d0 := unhide hr t hlt
      rw [marksLl_at k ds t hlt] at hvt 
      obtain ⟨p, hp⟩ : ∃ p, p = posLl k ds t := ⟨_, rfl⟩
      obtain ⟨d, hdt⟩ : ∃ d, d = ds.getD t Ln0 := ⟨_, rfl⟩
      rw [← hp, ← hdt] at hvt 
      rw [← hp, ← hdt] at hps
      rw [← hp] at hpl ⊢
      rw [← hdt] at hnk
      simp only [marked1Ll, Lls] at hvt 
      obtain ⟨adk, capk, hvs, _⟩ := OwnI.rd hvt
      rw [marks_length] at hvs
      have hM := hide (heldIntS_own a b (vs t) p (Lls d).length w hnk (by omega) hvt)
      have e0 : w.cell? ⟨g, t, none⟩ = some (vs t) := by rw [(unhide ho).1.cellAt _ (by omega)]; exact d0
      rw [hvs] at hM e0
      clear hvt hvs d0
      replace hp := hide hp
      replace hdt := hide hdt
      replace hps := hide hps
      go_wp2_with fail
      refine (unhide hM).mono ?_
      rintro e w2 ⟨rfl, rfl⟩
      clear hM
      go_wp2
      go_round
      case rel => exact ⟨t + 1, by omega, by rw [unhide hps]; simp, by go_num⟩
      case measure => simp [intOf]; omega
    · have htn : t = ds.length := by omega
      subst htn
      go_wp2
      go_ret
      exact ⟨rfl, rfl⟩

theorem heldIntSS_own (a b : Nat) (v : Value) (k : Nat) (ds : Ll) (w : World) (hsz : sizeLl ds ≤ 1048576) (hk : k ≤ 1000000000000) (h : OwnLl w a b v (marksLl k ds)) :
    Calls Try.prog 27 #[v, .int .i64 k] w fun e w' => e = .returned (.int .i64 ((posLl k ds ds.length : Nat) : Int)) ∧ w' = w := by
  obtain ⟨ys, vs, ho, hr, he, hd, hx⟩ := h
  rw [marksLl_length] at ho hr he hd hx
  rcases ho.1.2 with ⟨rfl, h0⟩ | ⟨g, cap, cur, rfl, _⟩
  · have e : ds = [] := List.length_eq_zero_iff.1 h0
    subst e
    refine (heldIntSS_none k w).mono ?_
    rintro e w' ⟨rfl, rfl⟩
    exact ⟨by simp [posLl, szToLl], rfl⟩
  · exact heldIntSS_some a b g cap k ds ys vs w hsz hk ho hr he
end Go.Proofs.Ytbdegomnlconjaa

/- The law on Screens, walked: what it calls is told by the walks of the specification and of the program. -/
namespace Go.Proofs.Ytbdegomnlconjaa
open Go.RowKit

theorem szTo_bd (ds : Ll) (m : Nat) (h : ∀ j, j < ds.length → (Lls (ds.getD j Ln0)).length ≤ m) : ∀ k, k ≤ ds.length → szToLl ds k ≤ k * m
  | 0, _ => by simp [szToLl]
  | k + 1, hk => by
    rw [szToLl_succ ds k hk, Nat.add_mul, Nat.one_mul]
    have h1 := szTo_bd ds m h k (by omega)
    have h2 := h k hk
    unfold size1Ll
    omega
theorem screensF_size (d : Mv) : sizeLl (screensF d) ≤ 1048576 := by
  by_cases hg : GoodMv d
  · have e : screensF d = screensTo d.1.toNat d.2.2.2.2 (List.replicate (d.1 * d.2.1).toNat (-1)) d.2.2.2.2.length := by unfold screensF; rw [if_pos hg]
    rw [e]
    have hl := screensTo_length d.1.toNat d.2.2.2.2 (List.replicate (d.1 * d.2.1).toNat (-1)) d.2.2.2.2.length
    have h40 := hg.2.1.2
    have hp := hg.1.1
    unfold SideOk at hp
    have hb := szTo_bd (screensTo d.1.toNat d.2.2.2.2 (List.replicate (d.1 * d.2.1).toNat (-1)) d.2.2.2.2.length) 4096 (fun j hj => by
      rw [hl] at hj
      show ((screensTo _ _ _ _).getD j []).length ≤ 4096
      unfold screensTo
      rw [List.getD_eq_getElem?_getD, List.getElem?_map, List.getElem?_range hj]
      show (seenF _ _ _).length ≤ 4096
      rw [seenF_length, scrN_length, List.length_replicate]
      omega) _ (Nat.le_refl _)
    unfold sizeLl
    rw [hl] at hb ⊢
    have : d.2.2.2.2.length * 4096 ≤ 40 * 4096 := Nat.mul_le_mul_right _ h40
    omega
  · have e : screensF d = [] := by unfold screensF; rw [if_neg hg]
    rw [e]
    decide

set_option maxHeartbeats 1000000 in
theorem lawScreens_long0 (d0 : Mv) (ad0_0 : Option Addr) (cap0_0 : Nat) (ad0_1 : Option Addr) (cap0_1 : Nat) (w : World) (hz0 : (d0.2.2.1.length ≤ 9223372036854775807 ∧ d0.2.2.2.2.length ≤ 9223372036854775807))  (_hn0 : 1048576 < d0.2.2.1.length + sizeFs d0.2.2.2.2) (hA0_0 : ArgI w ad0_0 d0.2.2.1) (hA0_1 : ArgFs w ad0_1 d0.2.2.2.2) (hR0 : InMv d0) :
    Calls Try.prog 5 #[.agg #[.int .i64 d0.1, .int .i64 d0.2.1, .slice ad0_0 d0.2.2.1.length cap0_0, .int .i64 d0.2.2.2.1, .slice ad0_1 d0.2.2.2.2.length cap0_1]] w fun e w' => e = .returned (.bool true) ∧ Below w.heap.size w w' := by
  replace hA0_0 := hide hA0_0
  replace hA0_1 := hide hA0_1
  replace hR0 := hide hR0
  have hB := hide (Below.refl w.heap.size w)
  go_enter Try.func5, Try.ntmps5
  go_wp2_with fail
  have hu := Upd.of_below ((Below.refl w.heap.size w).alloc (Nat.le_refl _) (.cells #[.int .i64 d0.1, .int .i64 d0.2.1, .slice ad0_0 d0.2.2.1.length cap0_0, .int .i64 d0.2.2.2.1, .slice ad0_1 d0.2.2.2.2.length cap0_1] 44)) 0 0
  replace hB := hide (below_upd (unhide hB) hu (Nat.le_refl _) (.inr (Nat.le_refl _)))
  have hs1 : Hid (w.heap.size + 1 ≤ (w.alloc (.cells #[.int .i64 d0.1, .int .i64 d0.2.1, .slice ad0_0 d0.2.2.1.length cap0_0, .int .i64 d0.2.2.2.1, .slice ad0_1 d0.2.2.2.2.length cap0_1] 44)).heap.size) := hide (by simp)
  have cp0 := hide (held_new w [.int .i64 d0.1, .int .i64 d0.2.1, .slice ad0_0 d0.2.2.1.length cap0_0, .int .i64 d0.2.2.2.1, .slice ad0_1 d0.2.2.2.2.length cap0_1] 44)
  clear hu
  generalize w.alloc (.cells #[.int .i64 d0.1, .int .i64 d0.2.1, .slice ad0_0 d0.2.2.1.length cap0_0, .int .i64 d0.2.2.2.1, .slice ad0_1 d0.2.2.2.2.length cap0_1] 44) = w1 at  hB hs1 cp0 ⊢
  refine (szMoving_any d0.1 d0.2.1 d0.2.2.1 d0.2.2.2.1 d0.2.2.2.2 ad0_0 cap0_0 ad0_1 cap0_1 (1048576) w1 (by omega) (by omega) hz0.1 hz0.2 (unhide hR0).2.2.2.2 ((unhide hA0_1).below (unhide hB))).mono ?_
  rintro e w2 ⟨rfl, hu⟩
  replace cp0 := hide ((unhide cp0).keep hu)
  replace hB := hide (below_upd (unhide hB) hu (Nat.le_refl _) (.inr (Nat.le_refl _)))
  have hs2 : Hid (w1.heap.size ≤ w2.heap.size) := hide hu.size
  clear hu
  rw [if_pos (by omega)]
  go_wp2
  go_ret
  exact ⟨rfl, unhide hB⟩

set_option maxHeartbeats 4000000 in
set_option maxRecDepth 100000 in
theorem lawScreens_short (d0 : Mv) (ad0_0 : Option Addr) (cap0_0 : Nat) (ad0_1 : Option Addr) (cap0_1 : Nat) (w : World)  (hz0 : (d0.2.2.1.length ≤ 9223372036854775807 ∧ d0.2.2.2.2.length ≤ 9223372036854775807)) (hn : d0.2.2.1.length + sizeFs d0.2.2.2.2 ≤ 1048576) (hA0_0 : ArgI w ad0_0 d0.2.2.1) (hA0_1 : ArgFs w ad0_1 d0.2.2.2.2) (hR0 : InMv d0) :
    Calls Try.prog 5 #[.agg #[.int .i64 d0.1, .int .i64 d0.2.1, .slice ad0_0 d0.2.2.1.length cap0_0, .int .i64 d0.2.2.2.1, .slice ad0_1 d0.2.2.2.2.length cap0_1]] w fun e w' => e = .returned (.bool true) ∧ Below w.heap.size w w' := by
  have hn0 : (MvSize d0 ≤ 1048576) := by unfold MvSize; omega
  replace hA0_0 := hide hA0_0
  replace hA0_1 := hide hA0_1
  replace hR0 := hide hR0
  have hL := hide (screensF_size d0)
  have hB := hide (Below.refl w.heap.size w)
  go_enter Try.func5, Try.ntmps5
  have hleft0 : (0 : Int) ≤ 1048576 := by omega
  go_wp2_with fail
  have hu := Upd.of_below ((Below.refl w.heap.size w).alloc (Nat.le_refl _) (.cells #[.int .i64 d0.1, .int .i64 d0.2.1, .slice ad0_0 d0.2.2.1.length cap0_0, .int .i64 d0.2.2.2.1, .slice ad0_1 d0.2.2.2.2.length cap0_1] 44)) 0 0
  replace hB := hide (below_upd (unhide hB) hu (Nat.le_refl _) (.inr (Nat.le_refl _)))
  have hs1 : Hid (w.heap.size + 1 ≤ (w.alloc (.cells #[.int .i64 d0.1, .int .i64 d0.2.1, .slice ad0_0 d0.2.2.1.length cap0_0, .int .i64 d0.2.2.2.1, .slice ad0_1 d0.2.2.2.2.length cap0_1] 44)).heap.size) := hide (by simp)
  have cp0 := hide (held_new w [.int .i64 d0.1, .int .i64 d0.2.1, .slice ad0_0 d0.2.2.1.length cap0_0, .int .i64 d0.2.2.2.1, .slice ad0_1 d0.2.2.2.2.length cap0_1] 44)
  clear hu
  generalize w.alloc (.cells #[.int .i64 d0.1, .int .i64 d0.2.1, .slice ad0_0 d0.2.2.1.length cap0_0, .int .i64 d0.2.2.2.1, .slice ad0_1 d0.2.2.2.2.length cap0_1] 44) = w1 at  hB hs1 cp0 ⊢
  refine (szMoving_any d0.1 d0.2.1 d0.2.2.1 d0.2.2.2.1 d0.2.2.2.2 ad0_0 cap0_0 ad0_1 cap0_1 (1048576) w1 (by omega) (by omega) hz0.1 hz0.2 (unhide hR0).2.2.2.2 ((unhide hA0_1).below (unhide hB))).mono ?_
  rintro e w2 ⟨rfl, hu⟩
  replace cp0 := hide ((unhide cp0).keep hu)
  replace hB := hide (below_upd (unhide hB) hu (Nat.le_refl _) (.inr (Nat.le_refl _)))
  have hs2 : Hid (w1.heap.size ≤ w2.heap.size) := hide hu.size
  clear hu
  rw [if_neg (by omega)]
  have hleft0 : ¬ (1048576 - ((d0.2.2.1.length + sizeFs d0.2.2.2.2 : Nat) : Int) < 0) := by omega
  have kcp0_0 := (unhide cp0).2 0 _ rfl
  have kcp0_1 := (unhide cp0).2 1 _ rfl
  have kcp0_2 := (unhide cp0).2 2 _ rfl
  have kcp0_3 := (unhide cp0).2 3 _ rfl
  have kcp0_4 := (unhide cp0).2 4 _ rfl
  have kcp0_l := (unhide cp0).1
  go_wp2_with fail
  clear kcp0_0 kcp0_1 kcp0_2 kcp0_3 kcp0_4 kcp0_l
  refine (toMoving_own _ d0 w2 hn0 ⟨_, _, rfl, ⟨ad0_0, cap0_0, rfl, (unhide hA0_0).below (unhide hB)⟩, ⟨ad0_1, cap0_1, rfl, (unhide hA0_1).below (unhide hB)⟩⟩).mono ?_
  rintro e w3 ⟨vy0_w0, rfl, ho, hu⟩
  replace cp0 := hide ((unhide cp0).keep hu)
  replace hB := hide (below_upd (unhide hB) hu (Nat.le_refl _) (.inr (Nat.le_refl _)))
  have hs3 : Hid (w2.heap.size ≤ w3.heap.size) := hide hu.size
  have y0_w0 := hide ho
  clear hu ho
  go_wp2_with fail
  refine (specScreens _ d0 w3  hn0 (unhide hR0) (OwnMv.rc (unhide y0_w0))).mono ?_
  rintro e w4 ⟨vr0, rfl, ho, hu⟩
  replace y0_w0 := hide ((unhide y0_w0).keep hu)
  replace cp0 := hide ((unhide cp0).keep hu)
  replace hB := hide (below_upd (unhide hB) hu (Nat.le_refl _) (.inr (Nat.le_refl _)))
  have hs4 : Hid (w3.heap.size ≤ w4.heap.size) := hide hu.size
  have r0 := hide ho
  clear hu ho
  clear y0_w0
  have kcp0_0 := (unhide cp0).2 0 _ rfl
  have kcp0_1 := (unhide cp0).2 1 _ rfl
  have kcp0_2 := (unhide cp0).2 2 _ rfl
  have kcp0_3 := (unhide cp0).2 3 _ rfl
  have kcp0_4 := (unhide cp0).2 4 _ rfl
  have kcp0_l := (unhide cp0).1
  go_wp2_with fail
  clear kcp0_0 kcp0_1 kcp0_2 kcp0_3 kcp0_4 kcp0_l
  refine (toMoving_own _ d0 w4 hn0 ⟨_, _, rfl, ⟨ad0_0, cap0_0, rfl, (unhide hA0_0).below (unhide hB)⟩, ⟨ad0_1, cap0_1, rfl, (unhide hA0_1).below (unhide hB)⟩⟩).mono ?_
  rintro e w5 ⟨vx0, rfl, ho, hu⟩
  replace r0 := hide ((unhide r0).keep hu)
  replace cp0 := hide ((unhide cp0).keep hu)
  replace hB := hide (below_upd (unhide hB) hu (Nat.le_refl _) (.inr (Nat.le_refl _)))
  have hs5 : Hid (w4.heap.size ≤ w5.heap.size) := hide hu.size
  have x0 := hide ho
  clear hu ho
  obtain ⟨adx0_0, capx0_0, adx0_1, capx0_1, hvx0⟩ := OwnMv.form (unhide x0)
  subst hvx0
  go_wp2_with fail
  have hu := Upd.of_below ((Below.refl w5.heap.size w5).alloc (Nat.le_refl _) (.cells #[.int .i64 d0.1, .int .i64 d0.2.1, .slice adx0_0 d0.2.2.1.length capx0_0, .int .i64 d0.2.2.2.1, .slice adx0_1 d0.2.2.2.2.length capx0_1] 49)) 0 0
  replace r0 := hide ((unhide r0).keep hu)
  replace x0 := hide ((unhide x0).keep hu)
  replace cp0 := hide ((unhide cp0).keep hu)
  replace hB := hide (below_upd (unhide hB) hu (Nat.le_refl _) (.inr (Nat.le_refl _)))
  have hs6 : Hid (w5.heap.size + 1 ≤ (w5.alloc (.cells #[.int .i64 d0.1, .int .i64 d0.2.1, .slice adx0_0 d0.2.2.1.length capx0_0, .int .i64 d0.2.2.2.1, .slice adx0_1 d0.2.2.2.2.length capx0_1] 49)).heap.size) := hide (by simp)
  have cx0 := hide (held_new w5 [.int .i64 d0.1, .int .i64 d0.2.1, .slice adx0_0 d0.2.2.1.length capx0_0, .int .i64 d0.2.2.2.1, .slice adx0_1 d0.2.2.2.2.length capx0_1] 49)
  clear hu
  generalize w5.alloc (.cells #[.int .i64 d0.1, .int .i64 d0.2.1, .slice adx0_0 d0.2.2.1.length capx0_0, .int .i64 d0.2.2.2.1, .slice adx0_1 d0.2.2.2.2.length capx0_1] 49) = w6 at r0 x0 cp0 hB hs6 cx0 ⊢
  refine (implScreens _ d0 w6  hn0 (unhide hR0) (OwnMv.rc (unhide x0))).mono ?_
  rintro e w7 ⟨vr1, rfl, ho, hu⟩
  replace r0 := hide ((unhide r0).keep hu)
  replace x0 := hide ((unhide x0).keep hu)
  replace cp0 := hide ((unhide cp0).keep hu)
  replace cx0 := hide ((unhide cx0).keep hu)
  replace hB := hide (below_upd (unhide hB) hu (Nat.le_refl _) (.inr (Nat.le_refl _)))
  have hs7 : Hid (w6.heap.size ≤ w7.heap.size) := hide hu.size
  have r1 := hide ho
  clear hu ho
  go_wp2_with fail
  refine (eqIntSS_rd vr1 vr0 ((screensF d0)) w7 (unhide hL) (OwnLl.rd (unhide r1)) (OwnLl.rd (unhide r0))).mono ?_
  rintro e w8 ⟨rfl, hu⟩
  replace r0 := hide ((unhide r0).keep hu)
  replace x0 := hide ((unhide x0).keep hu)
  replace r1 := hide ((unhide r1).keep hu)
  replace cp0 := hide ((unhide cp0).keep hu)
  replace cx0 := hide ((unhide cx0).keep hu)
  replace hB := hide (below_upd (unhide hB) hu (Nat.le_refl _) (.inr (Nat.le_refl _)))
  have hs8 : Hid (w7.heap.size ≤ w8.heap.size) := hide hu.size
  clear hu
  have kcx0_0 := (unhide cx0).2 0 _ rfl
  have kcx0_1 := (unhide cx0).2 1 _ rfl
  have kcx0_2 := (unhide cx0).2 2 _ rfl
  have kcx0_3 := (unhide cx0).2 3 _ rfl
  have kcx0_4 := (unhide cx0).2 4 _ rfl
  have kcx0_l := (unhide cx0).1
  have kcp0_0 := (unhide cp0).2 0 _ rfl
  have kcp0_1 := (unhide cp0).2 1 _ rfl
  have kcp0_2 := (unhide cp0).2 2 _ rfl
  have kcp0_3 := (unhide cp0).2 3 _ rfl
  have kcp0_4 := (unhide cp0).2 4 _ rfl
  have kcp0_l := (unhide cp0).1
  have hTo := hide (toMoving_own _ d0 w8.drew hn0 ⟨_, _, rfl, ⟨ad0_0, cap0_0, rfl, (unhide hA0_0).below (below_drewN (unhide hB) 1)⟩, ⟨ad0_1, cap0_1, rfl, (unhide hA0_1).below (below_drewN (unhide hB) 1)⟩⟩)
  go_wp2_with fail
  go_region_held3 (fun w' => w'.cell? ⟨w5.heap.size, 0, none⟩ = some (.int .i64 d0.1) ∧ w'.cell? ⟨w5.heap.size, 1, none⟩ = some (.int .i64 d0.2.1) ∧ w'.cell? ⟨w5.heap.size, 2, none⟩ = some (.slice adx0_0 d0.2.2.1.length capx0_0) ∧ w'.cell? ⟨w5.heap.size, 3, none⟩ = some (.int .i64 d0.2.2.2.1) ∧ w'.cell? ⟨w5.heap.size, 4, none⟩ = some (.slice adx0_1 d0.2.2.2.2.length capx0_1) ∧ w'.cell? ⟨w.heap.size, 0, none⟩ = some (.int .i64 d0.1) ∧ w'.cell? ⟨w.heap.size, 1, none⟩ = some (.int .i64 d0.2.1) ∧ w'.cell? ⟨w.heap.size, 2, none⟩ = some (.slice ad0_0 d0.2.2.1.length cap0_0) ∧ w'.cell? ⟨w.heap.size, 3, none⟩ = some (.int .i64 d0.2.2.2.1) ∧ w'.cell? ⟨w.heap.size, 4, none⟩ = some (.slice ad0_1 d0.2.2.2.2.length cap0_1)) (first | (exact ⟨((hut.trans huf).none.cell kcx0_l).trans kcx0_0, ((hut.trans huf).none.cell kcx0_l).trans kcx0_1, ((hut.trans huf).none.cell kcx0_l).trans kcx0_2, ((hut.trans huf).none.cell kcx0_l).trans kcx0_3, ((hut.trans huf).none.cell kcx0_l).trans kcx0_4, ((hut.trans huf).none.cell kcp0_l).trans kcp0_0, ((hut.trans huf).none.cell kcp0_l).trans kcp0_1, ((hut.trans huf).none.cell kcp0_l).trans kcp0_2, ((hut.trans huf).none.cell kcp0_l).trans kcp0_3, ((hut.trans huf).none.cell kcp0_l).trans kcp0_4⟩) | (exact ⟨(hut.none.cell kcx0_l).trans kcx0_0, (hut.none.cell kcx0_l).trans kcx0_1, (hut.none.cell kcx0_l).trans kcx0_2, (hut.none.cell kcx0_l).trans kcx0_3, (hut.none.cell kcx0_l).trans kcx0_4, (hut.none.cell kcp0_l).trans kcp0_0, (hut.none.cell kcp0_l).trans kcp0_1, (hut.none.cell kcp0_l).trans kcp0_2, (hut.none.cell kcp0_l).trans kcp0_3, (hut.none.cell kcp0_l).trans kcp0_4⟩) | go_keep) (first | (go_at_call 21; refine (unhide hTo).mono ?_; rintro e wt ⟨vt, rfl, hot, hut⟩) | (go_at_call 24; refine (eqMoving_rd _ _ d0 _ hn0 (OwnMv.rd (OwnMv.keep (unhide x0) (Upd.trans (Upd.drew1 _) hut))) (OwnMv.rd hot)).mono ?_; rintro e wf ⟨rfl, huf⟩))
  clear hTo kcx0_0 kcx0_1 kcx0_2 kcx0_3 kcx0_4 kcx0_l kcp0_0 kcp0_1 kcp0_2 kcp0_3 kcp0_4 kcp0_l
  have hu : Upd 0 0 w8 wf := (Upd.drew1 _).trans (hut.trans huf)
  clear hut hot huf
  replace r0 := hide ((unhide r0).keep hu)
  replace x0 := hide ((unhide x0).keep hu)
  replace r1 := hide ((unhide r1).keep hu)
  replace cp0 := hide ((unhide cp0).keep hu)
  replace cx0 := hide ((unhide cx0).keep hu)
  replace hB := hide (below_upd (unhide hB) hu (Nat.le_refl _) (.inr (Nat.le_refl _)))
  have hs9 : Hid (w8.heap.size ≤ wf.heap.size) := hide hu.size
  clear hu
  generalize wf = w9 at r0 x0 r1 cp0 cx0 hB hs9 ⊢
  have kcx0_0 := (unhide cx0).2 0 _ rfl
  have kcx0_1 := (unhide cx0).2 1 _ rfl
  have kcx0_2 := (unhide cx0).2 2 _ rfl
  have kcx0_3 := (unhide cx0).2 3 _ rfl
  have kcx0_4 := (unhide cx0).2 4 _ rfl
  have kcx0_l := (unhide cx0).1
  go_wp2_with fail
  clear kcx0_0 kcx0_1 kcx0_2 kcx0_3 kcx0_4 kcx0_l
  refine (markMoving_own (1) hn0 (by omega) (unhide x0)).mono ?_
  rintro e w10 ⟨rfl, ho, hu⟩
  replace r0 := hide ((unhide r0).upd hu (by have := unhide hs1; have := unhide hs2; have := unhide hs3; have := unhide hs4; have := unhide hs5; have := unhide hs6; have := unhide hs7; have := unhide hs8; have := unhide hs9; omega))
  replace r1 := hide ((unhide r1).upd hu (by have := unhide hs1; have := unhide hs2; have := unhide hs3; have := unhide hs4; have := unhide hs5; have := unhide hs6; have := unhide hs7; have := unhide hs8; have := unhide hs9; omega))
  replace cp0 := hide ((unhide cp0).upd hu (by have := unhide hs1; have := unhide hs2; have := unhide hs3; have := unhide hs4; have := unhide hs5; have := unhide hs6; have := unhide hs7; have := unhide hs8; have := unhide hs9; omega))
  replace cx0 := hide ((unhide cx0).upd hu (by have := unhide hs1; have := unhide hs2; have := unhide hs3; have := unhide hs4; have := unhide hs5; have := unhide hs6; have := unhide hs7; have := unhide hs8; have := unhide hs9; omega))
  replace hB := hide (below_upd (unhide hB) hu (Nat.le_refl _) (by have := unhide hs1; have := unhide hs2; have := unhide hs3; have := unhide hs4; have := unhide hs5; have := unhide hs6; have := unhide hs7; have := unhide hs8; have := unhide hs9; omega))
  replace x0 := hide ho
  have hs10 : Hid (w9.heap.size ≤ w10.heap.size) := hide hu.size
  clear hu ho
  have hk0 : ¬ (((1 + MvCnt d0 : Nat) : Int) < 0) := by omega
  go_wp2_with fail
  refine (eqIntSS_rd vr1 vr0 ((screensF d0)) w10 (unhide hL) (OwnLl.rd (unhide r1)) (OwnLl.rd (unhide r0))).mono ?_
  rintro e w11 ⟨rfl, hu⟩
  replace r0 := hide ((unhide r0).keep hu)
  replace x0 := hide ((unhide x0).keep hu)
  replace r1 := hide ((unhide r1).keep hu)
  replace cp0 := hide ((unhide cp0).keep hu)
  replace cx0 := hide ((unhide cx0).keep hu)
  replace hB := hide (below_upd (unhide hB) hu (Nat.le_refl _) (.inr (Nat.le_refl _)))
  have hs11 : Hid (w10.heap.size ≤ w11.heap.size) := hide hu.size
  clear hu
  clear x0
  go_wp2_with fail
  refine (markIntSS_own (w6.heap.size) (w7.heap.size) vr1 (1) ((screensF d0)) w11 (unhide hL) (by omega) (unhide r1)).mono ?_
  rintro e w12 ⟨rfl, ho, hu⟩
  replace r0 := hide ((unhide r0).upd hu (by have := unhide hs1; have := unhide hs2; have := unhide hs3; have := unhide hs4; have := unhide hs5; have := unhide hs6; have := unhide hs7; have := unhide hs8; have := unhide hs9; have := unhide hs10; have := unhide hs11; omega))
  replace cp0 := hide ((unhide cp0).upd hu (by have := unhide hs1; have := unhide hs2; have := unhide hs3; have := unhide hs4; have := unhide hs5; have := unhide hs6; have := unhide hs7; have := unhide hs8; have := unhide hs9; have := unhide hs10; have := unhide hs11; omega))
  replace cx0 := hide ((unhide cx0).upd hu (by have := unhide hs1; have := unhide hs2; have := unhide hs3; have := unhide hs4; have := unhide hs5; have := unhide hs6; have := unhide hs7; have := unhide hs8; have := unhide hs9; have := unhide hs10; have := unhide hs11; omega))
  replace hB := hide (below_upd (unhide hB) hu (Nat.le_refl _) (by have := unhide hs1; have := unhide hs2; have := unhide hs3; have := unhide hs4; have := unhide hs5; have := unhide hs6; have := unhide hs7; have := unhide hs8; have := unhide hs9; have := unhide hs10; have := unhide hs11; omega))
  replace r1 := hide ho
  have hs12 : Hid (w11.heap.size ≤ w12.heap.size) := hide hu.size
  clear hu ho
  go_wp2_with fail
  refine (upd_of_same (heldIntSS_own (w6.heap.size) (w7.heap.size) vr1 1 ((screensF d0)) w12 (unhide hL) (by omega) (unhide r1))).mono ?_
  rintro e w13 ⟨rfl, hu⟩
  replace r0 := hide ((unhide r0).keep hu)
  replace r1 := hide ((unhide r1).keep hu)
  replace cp0 := hide ((unhide cp0).keep hu)
  replace cx0 := hide ((unhide cx0).keep hu)
  replace hB := hide (below_upd (unhide hB) hu (Nat.le_refl _) (.inr (Nat.le_refl _)))
  have hs13 : Hid (w12.heap.size ≤ w13.heap.size) := hide hu.size
  clear hu
  have hq0 : ¬ (((posLl 1 ((screensF d0)) ((screensF d0)).length : Nat) : Int) < 0) := by omega
  have kcp0_0 := (unhide cp0).2 0 _ rfl
  have kcp0_1 := (unhide cp0).2 1 _ rfl
  have kcp0_2 := (unhide cp0).2 2 _ rfl
  have kcp0_3 := (unhide cp0).2 3 _ rfl
  have kcp0_4 := (unhide cp0).2 4 _ rfl
  have kcp0_l := (unhide cp0).1
  go_wp2_with fail
  clear kcp0_0 kcp0_1 kcp0_2 kcp0_3 kcp0_4 kcp0_l
  refine (toMoving_own _ d0 w13 hn0 ⟨_, _, rfl, ⟨ad0_0, cap0_0, rfl, (unhide hA0_0).below (unhide hB)⟩, ⟨ad0_1, cap0_1, rfl, (unhide hA0_1).below (unhide hB)⟩⟩).mono ?_
  rintro e w14 ⟨vy0_h0, rfl, ho, hu⟩
  replace r0 := hide ((unhide r0).keep hu)
  replace r1 := hide ((unhide r1).keep hu)
  replace cp0 := hide ((unhide cp0).keep hu)
  replace cx0 := hide ((unhide cx0).keep hu)
  replace hB := hide (below_upd (unhide hB) hu (Nat.le_refl _) (.inr (Nat.le_refl _)))
  have hs14 : Hid (w13.heap.size ≤ w14.heap.size) := hide hu.size
  have y0_h0 := hide ho
  clear hu ho
  go_wp2_with fail
  refine (implScreens _ d0 w14  hn0 (unhide hR0) (OwnMv.rc (unhide y0_h0))).mono ?_
  rintro e w15 ⟨vr2, rfl, ho, hu⟩
  replace r0 := hide ((unhide r0).keep hu)
  replace r1 := hide ((unhide r1).keep hu)
  replace y0_h0 := hide ((unhide y0_h0).keep hu)
  replace cp0 := hide ((unhide cp0).keep hu)
  replace cx0 := hide ((unhide cx0).keep hu)
  replace hB := hide (below_upd (unhide hB) hu (Nat.le_refl _) (.inr (Nat.le_refl _)))
  have hs15 : Hid (w14.heap.size ≤ w15.heap.size) := hide hu.size
  have r2 := hide ho
  clear hu ho
  clear y0_h0
  go_wp2_with fail
  refine (eqIntSS_rd vr2 vr0 ((screensF d0)) w15 (unhide hL) (OwnLl.rd (unhide r2)) (OwnLl.rd (unhide r0))).mono ?_
  rintro e w16 ⟨rfl, hu⟩
  replace r0 := hide ((unhide r0).keep hu)
  replace r1 := hide ((unhide r1).keep hu)
  replace r2 := hide ((unhide r2).keep hu)
  replace cp0 := hide ((unhide cp0).keep hu)
  replace cx0 := hide ((unhide cx0).keep hu)
  replace hB := hide (below_upd (unhide hB) hu (Nat.le_refl _) (.inr (Nat.le_refl _)))
  have hs16 : Hid (w15.heap.size ≤ w16.heap.size) := hide hu.size
  clear hu
  go_wp2_with fail
  refine (upd_of_same (heldIntSS_own (w6.heap.size) (w7.heap.size) vr1 1 ((screensF d0)) w16 (unhide hL) (by omega) (unhide r1))).mono ?_
  rintro e w17 ⟨rfl, hu⟩
  replace r0 := hide ((unhide r0).keep hu)
  replace r1 := hide ((unhide r1).keep hu)
  replace r2 := hide ((unhide r2).keep hu)
  replace cp0 := hide ((unhide cp0).keep hu)
  replace cx0 := hide ((unhide cx0).keep hu)
  replace hB := hide (below_upd (unhide hB) hu (Nat.le_refl _) (.inr (Nat.le_refl _)))
  have hs17 : Hid (w16.heap.size ≤ w17.heap.size) := hide hu.size
  clear hu
  go_wp2_with fail
  go_ret
  exact ⟨rfl, unhide hB⟩

theorem lawScreens (d0 : Mv) (ad0_0 : Option Addr) (cap0_0 : Nat) (ad0_1 : Option Addr) (cap0_1 : Nat) (w : World)  (hz0 : (d0.2.2.1.length ≤ 9223372036854775807 ∧ d0.2.2.2.2.length ≤ 9223372036854775807)) (hA0_0 : ArgI w ad0_0 d0.2.2.1) (hA0_1 : ArgFs w ad0_1 d0.2.2.2.2) (hR0 : InMv d0) :
    Calls Try.prog 5 #[.agg #[.int .i64 d0.1, .int .i64 d0.2.1, .slice ad0_0 d0.2.2.1.length cap0_0, .int .i64 d0.2.2.2.1, .slice ad0_1 d0.2.2.2.2.length cap0_1]] w fun e w' => e = .returned (.bool true) ∧ Below w.heap.size w w' := by
  by_cases h0 : 1048576 < d0.2.2.1.length + sizeFs d0.2.2.2.2
  · exact lawScreens_long0 d0 ad0_0 cap0_0 ad0_1 cap0_1 w hz0 h0 hA0_0 hA0_1 hR0
  exact lawScreens_short d0 ad0_0 cap0_0 ad0_1 cap0_1 w  hz0 (by omega) hA0_0 hA0_1 hR0
end Go.Proofs.Ytbdegomnlconjaa

/- The walks of the laws' own helpers on byte strings: a copy, whether two are equal, marksB. -/
namespace Go.Proofs.Ytbdegomnlconjaa
open Go.RowKit

def byts (zs : List Int) : List Value := zs.map (.int .u8)
theorem byts_length (zs : List Int) : (byts zs).length = zs.length := by simp [byts]
abbrev OwnY (w : World) (a b : Nat) (v : Value) (zs : List Int) : Prop := Own 5 1 w a b v zs.length (byts zs)
abbrev ArgY (w : World) (ad : Option Addr) (zs : List Int) : Prop := ReadK .u8 w ad zs
/-- A byte string as a value that can be read. -/
def RdY (w : World) (v : Value) (zs : List Int) : Prop := ∃ ad cap, v = .slice ad zs.length cap ∧ ArgY w ad zs
theorem RdY.below {w w' : World} {v : Value} {zs : List Int} (h : RdY w v zs) (hb : Below w.heap.size w w') : RdY w' v zs := by
  obtain ⟨ad, cap, e, h⟩ := h
  exact ⟨ad, cap, e, h.below hb⟩
theorem OwnY.rd {w : World} {a b : Nat} {v : Value} {zs : List Int} (h : OwnY w a b v zs) : RdY w v zs := readK_of_own h

def partY (zs : List Int) (k : Nat) : List Value := byts (zs.take k) ++ List.replicate (zs.length - k) (.int .u8 0)
theorem partY_zero (zs : List Int) : partY zs 0 = List.replicate zs.length (.int .u8 0) := by unfold partY byts; simp
theorem partY_all (zs : List Int) : partY zs zs.length = byts zs := by unfold partY byts; simp
theorem partY_set (zs : List Int) (k : Nat) (h : k < zs.length) : (partY zs k).set k (.int .u8 (zs.getD k 0)) = partY zs (k + 1) := by
  unfold partY byts
  rw [take_snoc_getD zs 0 k h, List.map_append, List.set_append, if_neg (by simp; omega), List.append_assoc]
  congr 1
  have : zs.length - k = (zs.length - (k + 1)) + 1 := by omega
  rw [this, List.replicate_succ]
  simp [Nat.min_eq_left (Nat.le_of_lt h)]
theorem partY_length (zs : List Int) (k : Nat) (h : k ≤ zs.length) : (partY zs k).length = zs.length := by unfold partY byts; simp; omega

set_option maxHeartbeats 1000000 in
theorem toByteY_own (ad : Option Addr) (cap : Nat) (zs : List Int) (w : World) (hn : zs.length ≤ 1048576) (hA : ArgY w ad zs) :
    Calls Try.prog 12 #[.slice ad zs.length cap] w fun e w' =>
      ∃ v, e = .returned v ∧ OwnY w' w.heap.size w'.heap.size v zs ∧ Upd 0 0 w w' := by
  obtain ⟨i0, hi, hz0, hz1, hz2⟩ := info_parts infoB
  replace hA := hide hA
  go_enter Try.func12, Try.ntmps12
  go_wp2_with (at_make; refine wpList_make_full _ rfl _ _ 22 rfl w.heap.size 5 i0 (.int .u8 0) 1 Try.underlying22 hi hz0 hz1 .i64 .i64 _ _ zs.length rfl rfl (by omega) (by omega) (by rw [hz2]; omega) (by unfold maxLen; omega) (Nat.le_refl _) ?_; intro w1 hown hgrow)
  have hbel := (Below.refl w.heap.size w).grown hgrow (Nat.le_refl _) (by simp)
  have hown0 : w1.ownsRow w.heap.size 5 1 (.slice (some ⟨w.heap.size, 0, none⟩) zs.length zs.length) zs.length (partY zs 0) := by
    rw [partY_zero]; simpa [toList_madeCells_one, Value.cells] using hown
  clear hown hgrow
  go_loopw [4] (fun i wr => ∃ k : Nat, k ≤ zs.length ∧ i = .int .i64 k ∧ wr.ownsRow w.heap.size 5 1 (.slice (some ⟨w.heap.size, 0, none⟩) zs.length zs.length) zs.length (partY zs k) ∧ Below w.heap.size w wr) (fun i _ => zs.length - (intOf i).toNat)
  case atStart => exact ⟨0, Nat.zero_le _, rfl, hown0, hbel⟩
  case round =>
    clear hown0 hbel
    obtain ⟨k, hk, rfl, hown, hbel⟩ := hrel
    by_cases hlt : k < zs.length
    · obtain ⟨b, off, rfl, hbl, hc⟩ := (unhide hA) (ne_of_lt_length hlt)
      have hck : wr.cell? ⟨b, off + k, none⟩ = some (.int .u8 (zs.getD k 0)) := (hbel.cell (by simpa using hbl)).trans (hc k hlt)
      have hps := partY_set zs k hlt
      generalize zs.getD k 0 = x at hck hps
      have hdst : ∃ u, wr.cell? ⟨w.heap.size, k, none⟩ = some u := by
        rw [hown.cellAt k (by omega)]; exact ⟨_, List.getElem?_eq_getElem (by have := hown.1; omega)⟩
      obtain ⟨u, hdst⟩ := hdst
      have hfz := hown.frozenAt k
      have hst := (hown.stored k (.int .u8 x)).1
      rw [hps] at hst
      have hb2 := hbel.setCell (p := ⟨w.heap.size, k, none⟩) (Nat.le_refl _) (.int .u8 x)
      replace hst := hide hst
      clear hown hps hc
      go_wp2
      go_roundw
      case rel => exact ⟨k + 1, by omega, by go_num, unhide hst, hb2⟩
      case measure => simp [intOf]; omega
    · have hkl : k = zs.length := by omega
      subst hkl
      rw [partY_all] at hown
      replace hown := hide (Own.of hown)
      go_wp2
      go_ret
      exact ⟨_, rfl, unhide hown, Upd.of_below hbel 0 0⟩

set_option maxHeartbeats 1000000 in
theorem eqByteY_rd (u v : Value) (zs : List Int) (w : World) (hn : zs.length ≤ 1048576) (hu : RdY w u zs) (hv : RdY w v zs) :
    Calls Try.prog 15 #[u, v] w fun e w' => e = .returned (.bool true) ∧ Upd 0 0 w w' := by
  obtain ⟨ad, cap, rfl, hA⟩ := hu
  obtain ⟨ad', cap', rfl, hA'⟩ := hv
  replace hA := hide hA
  replace hA' := hide hA'
  go_enter Try.func15, Try.ntmps15
  go_wp2
  go_loopw [5] (fun i wr => ∃ k : Nat, k ≤ zs.length ∧ i = .int .i64 k ∧ ∃ nq, wr = w.drewN nq) (fun i _ => zs.length - (intOf i).toNat)
  case atStart => exact ⟨0, Nat.zero_le _, rfl, 0, rfl⟩
  case round =>
    obtain ⟨k, hk, rfl, nq, rfl⟩ := hrel
    by_cases hlt : k < zs.length
    · obtain ⟨b, off, rfl, hbl, hc⟩ := (unhide hA) (ne_of_lt_length hlt)
      obtain ⟨b', off', rfl, hbl', hc'⟩ := (unhide hA') (ne_of_lt_length hlt)
      have hck := hc k hlt
      have hck' := hc' k hlt
      clear hc hc' hA hA'
      generalize zs.getD k 0 = x at hck hck'
      go_wp2
      go_quiet (fail)
      go_wp2
      go_roundw
      case rel => exact ⟨k + 1, by omega, by go_num, _, rfl⟩
      case measure => simp [intOf]; omega
    · have hkl : k = zs.length := by omega
      subst hkl
      go_wp2
      go_ret
      exact ⟨rfl, (Upd.refl 0 0 _).drewN _⟩

set_option maxHeartbeats 1000000 in
theorem markByteY_none (k : Nat) (w : World) : Calls Try.prog 16 #[.slice none 0 0, .int .i64 k] w fun e w' => e = .returned (.int .i64 (k : Int)) ∧ w' = w := by
  go_enter Try.func16, Try.ntmps16
  go_wp2
  go_loop [1, 5] (fun a i => a = .int .i64 k ∧ i = .int .i64 0) (fun _ _ => 0)
  case atStart => exact ⟨rfl, rfl⟩
  case round =>
    obtain ⟨rfl, rfl⟩ := hrel
    go_wp2
    go_ret
    exact ⟨rfl, rfl⟩

set_option maxHeartbeats 1000000 in
theorem markByteY_some (a g cap n k : Nat) (xs : List Value) (w : World) (hn : n ≤ 1048576) (hk : k ≤ 1099511627776) (h : w.ownsRow a 5 1 (.slice (some ⟨g, 0, none⟩) n cap) n xs) :
    Calls Try.prog 16 #[.slice (some ⟨g, 0, none⟩) n cap, .int .i64 k] w fun e w' => e = .returned (.int .i64 ((k + n : Nat) : Int)) ∧ w'.ownsRow a 5 1 (.slice (some ⟨g, 0, none⟩) n cap) n (byts (marksB k n)) ∧ Upd g (g + 1) w w' := by
  have hxl : xs.length = n := by have := h.1; omega
  go_enter Try.func16, Try.ntmps16
  go_wp2
  go_loopw [1, 5] (fun c i wr => ∃ t : Nat, t ≤ n ∧ c = .int .i64 ((k + t : Nat) : Int) ∧ i = .int .i64 t ∧ wr.ownsRow a 5 1 (.slice (some ⟨g, 0, none⟩) n cap) n (partSet .u8 xs (marksB k n) t) ∧ Upd g (g + 1) w wr) (fun _ i _ => n - (intOf i).toNat)
  case atStart => exact ⟨0, Nat.zero_le _, rfl, rfl, by rw [partSet_zero]; exact h, Upd.refl _ _ _⟩
  case round =>
    clear h
    obtain ⟨t, ht, rfl, rfl, hown, hupd⟩ := hrel
    have hlen : (partSet .u8 xs (marksB k n) t).length = n := by rw [partSet_length _ _ _ _ (by simpa using ht) (by simpa using hxl)]; simp
    by_cases hlt : t < n
    · have hdst : wr.cell? ⟨g, t, none⟩ = some ((partSet .u8 xs (marksB k n) t).getD t undef) := by
        rw [hown.cellAt t (by omega), List.getElem?_eq_getElem (by omega), List.getD_eq_getElem?_getD, List.getElem?_eq_getElem (by omega)]; rfl
      have hfz := hown.frozenAt t
      have hst := (hown.stored t (.int .u8 (((k + t) % 256 : Nat) : Int))).1
      have hps := partSet_set .u8 xs (marksB k n) t (by simpa using hlt) (by simpa using hxl)
      rw [marksB_getD k n t hlt] at hps
      rw [hps] at hst
      generalize (partSet .u8 xs (marksB k n) t).getD t undef = u at hdst
      have ho2 := hupd.setCell (r := g) ⟨Nat.le_refl _, by omega⟩ t (.int .u8 (((k + t) % 256 : Nat) : Int))
      rw [show ((((k + t) % 256 : Nat) : Int)) = ((k : Int) + (t : Int)) % 256 by omega] at hst ho2
      replace hst := hide hst
      replace ho2 := hide ho2
      clear hown hupd hps hlen
      go_wp2
      go_roundw
      case rel => exact ⟨t + 1, by omega, by go_num, by go_num, unhide hst, unhide ho2⟩
      case measure => simp [intOf]; omega
    · have htn : t = n := by omega
      subst htn
      have hM : wr.ownsRow a 5 1 (.slice (some ⟨g, 0, none⟩) t cap) t (byts (marksB k t)) := by
        have := partSet_all .u8 xs (marksB k t) (by simpa using hxl)
        rw [marksB_length] at this
        rw [this] at hown; exact hown
      replace hM := hide hM
      clear hown
      go_wp2
      go_ret
      exact ⟨rfl, unhide hM, hupd⟩
theorem markByteY_own (a b : Nat) (v : Value) (k : Nat) (zs : List Int) (w : World) (hn : zs.length ≤ 1048576) (hk : k ≤ 1099511627776) (h : OwnY w a b v zs) :
    Calls Try.prog 16 #[v, .int .i64 k] w fun e w' => e = .returned (.int .i64 ((k + zs.length : Nat) : Int)) ∧ OwnY w' a b v (marksB k zs.length) ∧ Upd a b w w' := by
  rcases h.1.2 with ⟨rfl, h0⟩ | ⟨g, cap, cur, rfl, h1, h2, h3⟩
  · refine (markByteY_none k w).mono ?_
    rintro e w' ⟨rfl, rfl⟩
    rw [h0]
    exact ⟨rfl, ⟨World.ownsRow_nil _ _ _ _, fun k hk => by simp [Value.ownBlock] at hk⟩, Upd.refl _ _ _⟩
  · have hb := h.2 g rfl
    refine (markByteY_some a g cap zs.length k _ w hn hk h.1).mono ?_
    rintro e w' ⟨rfl, ho, hu⟩
    refine ⟨rfl, ⟨?_, h.2⟩, ⟨hu.os, hu.tape, hu.output, hu.size, fun i hi hn => hu.block i hi (by omega)⟩⟩
    rw [marksB_length]; exact ho

end Go.Proofs.Ytbdegomnlconjaa

/- Opening an argument that is a byte string or a list of ints: what the form's reading of it says of cells. -/
namespace Go.Proofs.Ytbdegomnlconjaa
open Go.ChangeShapes Go.WideShapes Go.ChangeAt Go.RowKit

theorem Try.own : ownKnob Try.prog.godebug = none := by kernel_rfl
theorem Try.laidOut : laidOutB Try.prog = true := by kernel_rfl
theorem cellsY : Try.prog.cellsOf 5 = 1 := by kernel_rfl
theorem cellsI : Try.prog.cellsOf 3 = 1 := by kernel_rfl
theorem i64_of_wf {x : Int} (h : (Lit.int .i64 x).wf = true) : -9223372036854775808 ≤ x ∧ x ≤ 9223372036854775807 := by
  simp [Lit.wf, IntKind.min, IntKind.max, IntKind.signed, IntKind.bits] at h
  exact ⟨by omega, by omega⟩
theorem u64_of_wf {x : Int} (h : (Lit.int .u64 x).wf = true) : 0 ≤ x ∧ x ≤ 18446744073709551615 := by
  simp [Lit.wf, IntKind.min, IntKind.max, IntKind.signed, IntKind.bits] at h
  exact ⟨by omega, by omega⟩
theorem u8_of_wf {x : Int} (h : (Lit.int .u8 x).wf = true) : 0 ≤ x ∧ x < 256 := by
  simp [Lit.wf, IntKind.min, IntKind.max, IntKind.signed, IntKind.bits] at h
  exact ⟨by omega, by omega⟩

set_option maxRecDepth 100000 in
theorem open_byts {H : Type} {enc : TypeId × Value → H} {W : World} {base : Nat} {v : Value} {d : DataW H} {p : List MemPlace}
    (hv : Value.okWide Try.prog W .any base 22 v) (h0 : DataW.Trod enc Try.prog W 0 (fun _ => true) true 22 v d p) (hlt : ∀ x ∈ p, x.block < W.heap.size) :
    ∃ ad cap zs, v = .slice ad zs.length cap ∧ ArgY W ad zs ∧ InB zs := by
  obtain ⟨a0, len, cap, rfl⟩ := okWide_slice Try.underlying22 hv
  obtain ⟨fuel, hf⟩ := h0
  rcases open_ints Try.underlying22 Try.underlying5 cellsY hf with ⟨hcs, hx⟩ | ⟨a, len', cap', zs, hcs, _, hl, hm, hz, hx, hcell, hwz⟩
  · simp [Value.cells] at hcs
    obtain ⟨rfl, rfl, rfl⟩ := hcs
    exact ⟨none, 0, [], rfl, fun h => absurd rfl h, fun j => by simp⟩
  · simp [Value.cells] at hcs
    obtain ⟨rfl, rfl, rfl⟩ := hcs
    simp only [Prod.mk.injEq] at hx
    obtain ⟨rfl, rfl⟩ := hx
    simp only [if_true] at hz
    have hlen : (zs.take len).length = len := by rw [List.length_take]; omega
    have hget : ∀ j, j < len → (zs.take len).getD j 0 = zs.getD j 0 := fun j hj => by
      rw [List.getD_eq_getElem?_getD, List.getD_eq_getElem?_getD, List.getElem?_take, if_pos hj]
    refine ⟨some a, cap, zs.take len, by rw [hlen], ?_, ?_⟩
    · intro hne
      have hpos : 0 < len := by
        rcases Nat.eq_zero_or_pos len with h | h
        · subst h; simp at hne
        · exact h
      obtain ⟨b, off, spot⟩ := a
      have hspot : spot = none := by simpa [Addr.add] using World.cell?_spot (hcell 0 (by omega))
      subst hspot
      refine ⟨b, off, rfl, hlt (.cell b off) (MemPlace.mem_row.2 ⟨0, by omega, by simp⟩), fun j hj => ?_⟩
      rw [hget j (by omega), ← add_plain]
      exact hcell j (by omega)
    · intro j
      by_cases hj : j < len
      · rw [hget j hj, List.getD_eq_getElem?_getD, List.getElem?_eq_getElem (by omega)]
        exact u8_of_wf (hwz _ (List.getElem_mem _))
      · rw [List.getD_eq_getElem?_getD, List.getElem?_eq_none (by omega)]; simp

set_option maxRecDepth 100000 in
theorem open_intl {H : Type} {enc : TypeId × Value → H} {W : World} {base : Nat} {v : Value} {d : DataW H} {p : List MemPlace}
    (hv : Value.okWide Try.prog W .any base 23 v) (h0 : DataW.Trod enc Try.prog W 0 (fun _ => true) true 23 v d p) (hlt : ∀ x ∈ p, x.block < W.heap.size) :
    ∃ ad cap zs, v = .slice ad zs.length cap ∧ ArgI W ad zs ∧ InI zs := by
  obtain ⟨a0, len, cap, rfl⟩ := okWide_slice Try.underlying23 hv
  obtain ⟨fuel, hf⟩ := h0
  rcases open_ints Try.underlying23 Try.underlying3 cellsI hf with ⟨hcs, hx⟩ | ⟨a, len', cap', zs, hcs, _, hl, hm, hz, hx, hcell, hwz⟩
  · simp [Value.cells] at hcs
    obtain ⟨rfl, rfl, rfl⟩ := hcs
    exact ⟨none, 0, [], rfl, fun h => absurd rfl h, fun j => by simp⟩
  · simp [Value.cells] at hcs
    obtain ⟨rfl, rfl, rfl⟩ := hcs
    simp only [Prod.mk.injEq] at hx
    obtain ⟨rfl, rfl⟩ := hx
    simp only [if_true] at hz
    have hlen : (zs.take len).length = len := by rw [List.length_take]; omega
    have hget : ∀ j, j < len → (zs.take len).getD j 0 = zs.getD j 0 := fun j hj => by
      rw [List.getD_eq_getElem?_getD, List.getD_eq_getElem?_getD, List.getElem?_take, if_pos hj]
    refine ⟨some a, cap, zs.take len, by rw [hlen], ?_, ?_⟩
    · intro hne
      have hpos : 0 < len := by
        rcases Nat.eq_zero_or_pos len with h | h
        · subst h; simp at hne
        · exact h
      obtain ⟨b, off, spot⟩ := a
      have hspot : spot = none := by simpa [Addr.add] using World.cell?_spot (hcell 0 (by omega))
      subst hspot
      refine ⟨b, off, rfl, hlt (.cell b off) (MemPlace.mem_row.2 ⟨0, by omega, by simp⟩), fun j hj => ?_⟩
      rw [hget j (by omega), ← add_plain]
      exact hcell j (by omega)
    · intro j
      by_cases hj : j < len
      · rw [hget j hj, List.getD_eq_getElem?_getD, List.getElem?_eq_getElem (by omega)]
        exact i64_of_wf (hwz _ (List.getElem_mem _))
      · rw [List.getD_eq_getElem?_getD, List.getElem?_eq_none (by omega)]; simp
end Go.Proofs.Ytbdegomnlconjaa

/- Opening a list of numbers of any kind that stands in a struct's field: what the form's reading of it says of cells. -/
namespace Go.Proofs.Ytbdegomnlconjaa
open Go.ChangeShapes Go.WideShapes Go.ChangeAt Go.RowKit

theorem open_row_at {H : Type} {enc : TypeId × Value → H} {W : World} {t e : TypeId} {k : IntKind} {fuel : Nat} {v : Value} {x : DataW H × List MemPlace}
    (ht : Try.prog.underlying t = some (.slice e)) (he : Try.prog.underlying e = some (.int k)) (hc : Try.prog.cellsOf e = 1)
    (hf : DataW.trod enc Try.prog W 0 (fun _ => true) true fuel t [v] = some x) (hlt : ∀ y ∈ x.2, y.block < W.heap.size) :
    ∃ ad cap zs, v = .slice ad zs.length cap ∧ ReadK k W ad zs ∧ zs.length ≤ 9223372036854775807 ∧ ∀ j, j < zs.length → (Lit.int k (zs.getD j 0)).wf = true := by
  rcases open_ints ht he hc hf with ⟨hcs, hx⟩ | ⟨a, len, cap, zs, hcs, _, hl, hm, hz, hx, hcell, hwz⟩
  · simp only [List.cons.injEq, and_true] at hcs
    subst hcs
    exact ⟨none, 0, [], rfl, fun h => absurd rfl h, by simp, fun j hj => by simp at hj⟩
  · simp only [List.cons.injEq, and_true] at hcs
    subst hcs hx
    simp only [if_true] at hz
    have hlen : (zs.take len).length = len := by rw [List.length_take]; omega
    have hget : ∀ j, j < len → (zs.take len).getD j 0 = zs.getD j 0 := fun j hj => by
      rw [List.getD_eq_getElem?_getD, List.getD_eq_getElem?_getD, List.getElem?_take, if_pos hj]
    refine ⟨some a, cap, zs.take len, by rw [hlen], ?_, by rw [hlen]; unfold maxLen at hm; omega, ?_⟩
    · intro hne
      have hpos : 0 < len := by
        rcases Nat.eq_zero_or_pos len with h | h
        · subst h; simp at hne
        · exact h
      obtain ⟨b, off, spot⟩ := a
      have hspot : spot = none := by simpa [Addr.add] using World.cell?_spot (hcell 0 (by omega))
      subst hspot
      refine ⟨b, off, rfl, hlt (.cell b off) (MemPlace.mem_row.2 ⟨0, by omega, by simp⟩), fun j hj => ?_⟩
      rw [hget j (by omega), ← add_plain]
      exact hcell j (by omega)
    · intro j hj
      rw [hlen] at hj
      rw [hget j hj, List.getD_eq_getElem?_getD, List.getElem?_eq_getElem (by omega)]
      exact hwz _ (List.getElem_mem _)
theorem inI_of_wf {zs : List Int} (h : ∀ j, j < zs.length → (Lit.int .i64 (zs.getD j 0)).wf = true) : InI zs := by
  intro j
  by_cases hj : j < zs.length
  · exact i64_of_wf (h j hj)
  · rw [List.getD_eq_getElem?_getD, List.getElem?_eq_none (by omega)]; simp
theorem inB_of_wf {zs : List Int} (h : ∀ j, j < zs.length → (Lit.int .u8 (zs.getD j 0)).wf = true) : InB zs := by
  intro j
  by_cases hj : j < zs.length
  · exact u8_of_wf (h j hj)
  · rw [List.getD_eq_getElem?_getD, List.getElem?_eq_none (by omega)]; simp
end Go.Proofs.Ytbdegomnlconjaa

/- Out of one for each index, a list. -/
namespace Go.Proofs.Ytbdegomnlconjaa
theorem list_of_each {α : Type} (d : α) (p : Nat → α → Prop) (n : Nat) (h : ∀ i, i < n → ∃ x, p i x) : ∃ l : List α, l.length = n ∧ ∀ i, i < n → p i (l.getD i d) := by
  induction n with
  | zero => exact ⟨[], rfl, fun i hi => by omega⟩
  | succ n ih =>
    obtain ⟨l, hl, hp⟩ := ih (fun i hi => h i (by omega))
    obtain ⟨x, hx⟩ := h n (by omega)
    refine ⟨l ++ [x], by simp [hl], fun i hi => ?_⟩
    rw [List.getD_eq_getElem?_getD]
    by_cases e : i < n
    · rw [List.getElem?_append_left (by omega), ← List.getD_eq_getElem?_getD]; exact hp i e
    · have : i = l.length := by omega
      subst this
      rw [List.getElem?_append_right (Nat.le_refl _), Nat.sub_self]
      rw [hl]; exact hx
end Go.Proofs.Ytbdegomnlconjaa

/- Opening a list of Frames, each with a list of its own: what the form's reading of it says of cells. -/
namespace Go.Proofs.Ytbdegomnlconjaa
open Go.ChangeShapes Go.WideShapes Go.ChangeAt Go.RowKit

theorem cellsLFs : Try.prog.cellsOf 129 = 8 := by kernel_rfl
theorem cellsLFst0 : Try.prog.cellsOf 3 = 1 := by kernel_rfl
theorem cellsLFst1 : Try.prog.cellsOf 23 = 1 := by kernel_rfl

set_option maxRecDepth 100000 in
set_option maxHeartbeats 1000000 in
theorem open_Fs_row {H : Type} {enc : TypeId × Value → H} {W : World} {fuel : Nat} {v : Value} {x : DataW H × List MemPlace}
    (hf : DataW.trod enc Try.prog W 0 (fun _ => true) true fuel 42 [v] = some x) (hlt : ∀ y ∈ x.2, y.block < W.heap.size) :
    ∃ ad cap ps, v = .slice ad ps.length cap ∧ ArgFs W ad ps ∧ ps.length ≤ 9223372036854775807 ∧ InFs ps := by
  rcases Go.Deep.open_slice Try.underlying42 hf with ⟨hcs, hx⟩ | ⟨a, len, cap, m, n, D, Pl, hcs, _, hl, hm, hmm, hx, hcell⟩
  · simp only [List.cons.injEq, and_true] at hcs
    subst hcs
    exact ⟨none, 0, [], rfl, fun h => absurd rfl h, by simp, ⟨fun j => by simp [Fr0, InFr, InI], fun j => by simp [Fr0, Fss]⟩⟩
  · simp only [List.cons.injEq, and_true] at hcs
    subst hcs hx
    simp only [if_true] at hmm
    have each : ∀ i, i < len → ∃ x : Fr × Value, (W.cell? (a.add (i * 8)) = some (.int .i64 x.1.1) ∧ W.cell? (a.add (i * 8 + 1)) = some (.int .i64 x.1.2.1) ∧ W.cell? (a.add (i * 8 + 2)) = some (.int .i64 x.1.2.2.1) ∧ W.cell? (a.add (i * 8 + 3)) = some (.int .i64 x.1.2.2.2.1) ∧ W.cell? (a.add (i * 8 + 4)) = some (.int .i64 x.1.2.2.2.2.1) ∧ W.cell? (a.add (i * 8 + 5)) = some (.int .i64 x.1.2.2.2.2.2.1) ∧ W.cell? (a.add (i * 8 + 6)) = some (.int .i64 x.1.2.2.2.2.2.2.1) ∧ W.cell? (a.add (i * 8 + 7)) = some (x.2)) ∧ RdI W x.2 (Fss x.1) ∧ InFr x.1 ∧ (Fss x.1).length ≤ 9223372036854775807 := by
      intro i hi
      obtain ⟨cs', h1, h2⟩ := hcell i (by omega)
      rw [cellsLFs] at h1
      obtain ⟨_, hlen, hc⟩ := World.cells?_some h1
      obtain ⟨xs, k, hk, hxy, _, hxl, hfl⟩ := DataW.trod_struct Try.underlying129 h2
      have hlti : ∀ y ∈ Pl i, y.block < W.heap.size := fun y hy => hlt y (List.mem_append_right _ (List.mem_flatMap.2 ⟨i, List.mem_range.2 (by omega), hy⟩))
      match xs, hxl, cs', hlen with
      | [y0, y1, y2, y3, y4, y5, y6, y7], _, [v0, v1, v2, v3, v4, v5, v6, v7], _ =>
        have g0 := hfl 0 _ rfl
        have g1 := hfl 1 _ rfl
        have g2 := hfl 2 _ rfl
        have g3 := hfl 3 _ rfl
        have g4 := hfl 4 _ rfl
        have g5 := hfl 5 _ rfl
        have g6 := hfl 6 _ rfl
        have g7 := hfl 7 _ rfl
        simp [cellsLFst0, cellsLFst1] at g0 g1 g2 g3 g4 g5 g6 g7
        have e0 := hc 0 (by omega)
        have e1 := hc 1 (by omega)
        have e2 := hc 2 (by omega)
        have e3 := hc 3 (by omega)
        have e4 := hc 4 (by omega)
        have e5 := hc 5 (by omega)
        have e6 := hc 6 (by omega)
        have e7 := hc 7 (by omega)
        rw [Go.Deep.add_add] at e0 e1 e2 e3 e4 e5 e6 e7
        have hp : Pl i = y0.2 ++ (y1.2 ++ (y2.2 ++ (y3.2 ++ (y4.2 ++ (y5.2 ++ (y6.2 ++ (y7.2))))))) := by simpa using congrArg Prod.snd hxy
        obtain ⟨n0, q0, _, w0⟩ := DataW.trod_int Try.underlying3 g0
        obtain ⟨n1, q1, _, w1⟩ := DataW.trod_int Try.underlying3 g1
        obtain ⟨n2, q2, _, w2⟩ := DataW.trod_int Try.underlying3 g2
        obtain ⟨n3, q3, _, w3⟩ := DataW.trod_int Try.underlying3 g3
        obtain ⟨n4, q4, _, w4⟩ := DataW.trod_int Try.underlying3 g4
        obtain ⟨n5, q5, _, w5⟩ := DataW.trod_int Try.underlying3 g5
        obtain ⟨n6, q6, _, w6⟩ := DataW.trod_int Try.underlying3 g6
        simp only [List.cons.injEq, and_true] at q0 q1 q2 q3 q4 q5 q6
        subst q0 q1 q2 q3 q4 q5 q6
        obtain ⟨ad, cap, zs, e, hA, hl, hw⟩ := open_row_at Try.underlying23 Try.underlying3 cellsI g7 (fun y hy => hlti y (by rw [hp]; simp [hy]))
        subst e
        exact ⟨((n0, n1, n2, n3, n4, n5, n6, zs), .slice ad zs.length cap), ⟨by simpa using e0, by simpa using e1, by simpa using e2, by simpa using e3, by simpa using e4, by simpa using e5, by simpa using e6, by simpa using e7⟩, ⟨ad, cap, rfl, hA⟩, ⟨i64_of_wf w0, i64_of_wf w1, i64_of_wf w2, i64_of_wf w3, i64_of_wf w4, i64_of_wf w5, i64_of_wf w6, inI_of_wf hw⟩, hl⟩
    obtain ⟨qs, hql, hqs⟩ := list_of_each ((Fr0, Value.int .i64 0) : Fr × Value) _ len each
    have hfst : ∀ j, ((qs.map Prod.fst).getD j Fr0) = (qs.getD j (Fr0, Value.int .i64 0)).1 := fun j => by
      simp only [List.getD_eq_getElem?_getD, List.getElem?_map]
      cases qs[j]? <;> rfl
    refine ⟨some a, cap, qs.map Prod.fst, by rw [List.length_map, hql], ?_, by rw [List.length_map, hql]; unfold maxLen at hm; omega, fun j => ?_, fun j => ?_⟩
    · intro hne
      have hpos : 0 < len := by
        rcases Nat.eq_zero_or_pos len with h | h
        · subst h; exact absurd (List.map_eq_nil_iff.2 (List.length_eq_zero_iff.1 hql)) hne
        · exact h
      obtain ⟨b, off, spot⟩ := a
      have hspot : spot = none := by simpa [Addr.add] using World.cell?_spot (hqs 0 hpos).1.1
      subst hspot
      refine ⟨b, off, fun j => (qs.getD j (Fr0, Value.int .i64 0)).2, rfl, hlt (.cell b off) (List.mem_append_left _ (MemPlace.mem_row.2 ⟨0, by rw [cellsLFs]; omega, by simp⟩)), fun j hj => ?_, fun j hj => ?_⟩
      · rw [List.length_map, hql] at hj
        have := (hqs j hj).1
        rw [add_plain, add_plain, add_plain, add_plain, add_plain, add_plain, add_plain, add_plain, ← Nat.add_assoc, ← Nat.add_assoc, ← Nat.add_assoc, ← Nat.add_assoc, ← Nat.add_assoc, ← Nat.add_assoc, ← Nat.add_assoc] at this
        rw [hfst j]
        exact this
      · rw [List.length_map, hql] at hj
        rw [hfst j]
        exact (hqs j hj).2.1
    · rw [hfst j]
      by_cases hj : j < len
      · exact (hqs j hj).2.2.1
      · rw [List.getD_eq_getElem?_getD, List.getElem?_eq_none (by omega)]; simp [Fr0, InFr, InI]
    · rw [hfst j]
      by_cases hj : j < len
      · exact (hqs j hj).2.2.2
      · rw [List.getD_eq_getElem?_getD, List.getElem?_eq_none (by omega)]; simp [Fr0, Fss]
end Go.Proofs.Ytbdegomnlconjaa

/- Opening an argument that is a Moving: what the form's reading of it says. -/
namespace Go.Proofs.Ytbdegomnlconjaa
open Go.ChangeShapes Go.WideShapes Go.ChangeAt Go.RowKit

theorem cellsMva : Try.prog.cellsOf 44 = 5 := by kernel_rfl
theorem cellsMvt0 : Try.prog.cellsOf 3 = 1 := by kernel_rfl
theorem cellsMvt1 : Try.prog.cellsOf 23 = 1 := by kernel_rfl
theorem cellsMvt2 : Try.prog.cellsOf 42 = 1 := by kernel_rfl

set_option maxRecDepth 100000 in
set_option maxHeartbeats 1000000 in
theorem open_Mv {H : Type} {enc : TypeId × Value → H} {W : World} {base : Nat} {v : Value} {d : DataW H} {p : List MemPlace}
    (hv : Value.okWide Try.prog W .any base 44 v) (h0 : DataW.Trod enc Try.prog W 0 (fun _ => true) true 44 v d p) (hlt : ∀ x ∈ p, x.block < W.heap.size) :
    ∃ (x : Mv) (ad0 : Option Addr) (cap0 : Nat) (ad1 : Option Addr) (cap1 : Nat), v = .agg #[.int .i64 x.1, .int .i64 x.2.1, (.slice ad0 x.2.2.1.length cap0), .int .i64 x.2.2.2.1, (.slice ad1 x.2.2.2.2.length cap1)] ∧ ArgI W ad0 x.2.2.1 ∧ ArgFs W ad1 x.2.2.2.2 ∧ InMv x ∧ (x.2.2.1.length ≤ 9223372036854775807 ∧ x.2.2.2.2.length ≤ 9223372036854775807) := by
  obtain ⟨cs, rfl, hsz⟩ := okWide_struct Try.underlying44 hv
  rw [cellsMva] at hsz
  obtain ⟨fuel, hf⟩ := h0
  obtain ⟨xs, k, _, hxy, hcl, hxl, hfl⟩ := DataW.trod_struct Try.underlying44 hf
  obtain ⟨cl⟩ := cs
  simp only [List.size_toArray] at hsz
  match xs, hxl, cl, hsz with
  | [y0, y1, y2, y3, y4], _, [v0, v1, v2, v3, v4], _ =>
    have g0 := hfl 0 _ rfl
    have g1 := hfl 1 _ rfl
    have g2 := hfl 2 _ rfl
    have g3 := hfl 3 _ rfl
    have g4 := hfl 4 _ rfl
    simp [cellsMvt0, cellsMvt1, cellsMvt2, Value.cells] at g0 g1 g2 g3 g4
    have hp : p = y0.2 ++ (y1.2 ++ (y2.2 ++ (y3.2 ++ (y4.2)))) := by simpa using congrArg Prod.snd hxy
    obtain ⟨n0, q0, _, w0⟩ := DataW.trod_int Try.underlying3 g0
    simp only [List.cons.injEq, and_true] at q0
    subst q0
    obtain ⟨n1, q1, _, w1⟩ := DataW.trod_int Try.underlying3 g1
    simp only [List.cons.injEq, and_true] at q1
    subst q1
    obtain ⟨ad0, cap0, zs0, e0, hA0, hl0, hw0⟩ := open_row_at Try.underlying23 Try.underlying3 cellsI g2 (fun y hy => hlt y (by rw [hp]; simp [hy]))
    subst e0
    obtain ⟨n3, q3, _, w3⟩ := DataW.trod_int Try.underlying3 g3
    simp only [List.cons.injEq, and_true] at q3
    subst q3
    obtain ⟨ad1, cap1, zs1, e1, hA1, hl1, hw1⟩ := open_Fs_row g4 (fun y hy => hlt y (by rw [hp]; simp [hy]))
    subst e1
    exact ⟨(n0, n1, zs0, n3, zs1), ad0, cap0, ad1, cap1, rfl, hA0, hA1, ⟨i64_of_wf w0, i64_of_wf w1, inI_of_wf hw0, i64_of_wf w3, hw1⟩, ⟨hl0, hl1⟩⟩
end Go.Proofs.Ytbdegomnlconjaa
