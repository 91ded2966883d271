/- The texts behind FnOdds, part 3: what each of them says stands at its head. -/
import Derived.Test.YtpofmcepjmbmcaaGOdds2
import Derived.Deep.DeepCutAuto
import Derived.ProofKit
/- Odds: the program's OddsUnpack, where places and list are good. -/
namespace Go.Proofs.Ytpofmcepjmbmcaa
open Go.RowKit

theorem alloc_sizeE (X : World) (o : Obj) : X.heap.size + 1 = (X.alloc o).heap.size := by simp
theorem heldF_belowJ {B g : Nat} {cs : List Value} {w w' : World} (h : HeldF w g cs) (hb : Below B w w') (hg : g < B) : HeldF w' g cs := by
  have e := hb.block g hg
  exact ⟨⟨Nat.lt_of_lt_of_le h.1.1 hb.size, fun j u hj => (World.cell?_of_block (a := ⟨g, j, none⟩) e).trans (h.1.2 j u hj)⟩, fun j => (World.frozen?_of_block (a := ⟨g, j, none⟩) e).trans (h.2 j)⟩
/-- The bits read so far, zeros behind them. -/
def bitsTo (ds ps : List Int) (k : Nat) : Int → Int := fun q => if q < (k : Int) then bitK ds ps q.toNat else 0
theorem bitsTo_zero (ds ps : List Int) (n : Nat) : oddsI n (bitsTo ds ps 0) = List.replicate n (.int .i64 0) := by
  apply List.ext_getElem?
  intro j
  by_cases hj : j < n
  · rw [oddsI_at _ _ _ hj, List.getElem?_replicate, if_pos hj]; unfold bitsTo; rw [if_neg (by omega)]
  · rw [List.getElem?_eq_none (by simp; omega), List.getElem?_eq_none (by simp; omega)]
theorem bitsTo_succ (ds ps : List Int) (n k : Nat) : (oddsI n (bitsTo ds ps k)).set k (.int .i64 (bitK ds ps k)) = oddsI n (bitsTo ds ps (k + 1)) :=
  oddsI_put n _ _ k (bitK ds ps k) (fun q => by
    unfold bitsTo
    by_cases h : q = (k : Int)
    · rw [if_pos h, if_pos (by omega), h, Int.toNat_natCast]
    · rw [if_neg h]
      by_cases h2 : q < (k : Int)
      · rw [if_pos h2, if_pos (by omega)]
      · rw [if_neg h2, if_neg (by omega)])
theorem bitsTo_all (ds ps : List Int) (n : Nat) : oddsI n (bitsTo ds ps n) = ints (bitsR ds ps n) := by
  unfold oddsI bitsR ints
  rw [List.map_map]
  apply List.map_congr_left
  intro p hp
  have := List.mem_range.1 hp
  simp only [Function.comp, bitsTo]
  rw [if_pos (by omega), Int.toNat_natCast]
theorem below_alloc2 (X : World) (a b : Obj) : Below X.heap.size X ((X.alloc a).alloc b) := ((Below.refl _ X).alloc (Nat.le_refl _) a).alloc (by simp) b
theorem RowI.drewE {w : World} {g n : Nat} {xs : List Value} (h : RowI w g n xs) : RowI w.drew g n xs := h
theorem alloc_setRowE (X : World) (o : Obj) (k : Nat) (cs : Array Value) : X.heap.size + 1 = ((X.alloc o).setRow k cs).heap.size := by simp
theorem setRow_sizeE (X : World) (k : Nat) (cs : Array Value) : X.heap.size = (X.setRow k cs).heap.size := by simp
theorem heap_row_new (X : World) (o : Obj) (k : Nat) (h : k = X.heap.size) : (X.alloc o).heap[k]? = some o := by subst h; exact heap_alloc_new X o
theorem heap_row_old (X : World) (o o' : Obj) (k : Nat) (h : X.heap[k]? = some o') : (X.alloc o).heap[k]? = some o' := (Below.heap_alloc X o k (Array.getElem?_eq_some_iff.1 h).1).trans h
theorem heap_row_drew (X : World) (o' : Obj) (k : Nat) (h : X.heap[k]? = some o') : X.drew.heap[k]? = some o' := h
theorem heap_row_upd {X Y : World} (u : Upd 0 0 X Y) (o' : Obj) (k : Nat) (h : X.heap[k]? = some o') : Y.heap[k]? = some o' := (u.block k (Array.getElem?_eq_some_iff.1 h).1 (.inr (Nat.zero_le _))).trans h
theorem setRow_else (X : World) (c k : Nat) (cs : Array Value) (h : k ≠ c) : (X.setRow c cs).heap[k]? = X.heap[k]? := by
  unfold World.setRow
  simp only [Array.getElem?_modify]
  rw [if_neg (fun e => h e.symm)]
theorem RowI.setRowE {w : World} {g n c : Nat} {xs : List Value} (h : RowI w g n xs) (hc : g ≠ c) (cs : Array Value) : RowI (w.setRow c cs) g n xs := by
  obtain ⟨h1, h2⟩ := (show w.ownsRow g 3 1 (.slice (some ⟨g, 0, none⟩) n n) n xs from h)
  refine ⟨h1, ?_⟩
  rcases h2 with h2 | ⟨g', cap, cur, hv', hg, hh, r⟩
  · exact .inl h2
  · have e : g' = g := by cases hv'; rfl
    subst e
    exact .inr ⟨g', cap, cur, hv', hg, (setRow_else w c g' cs hc).trans hh, r⟩
theorem RowI.atE {w : World} {g n : Nat} {xs : List Value} (h : RowI w g n xs) {k : Nat} (e : k = g) : RowI w k n xs := by subst e; exact h
set_option maxHeartbeats 32000000 in
set_option maxRecDepth 1000000 in
theorem implOddsUnpackOk (P : Nat) (ad1 : Option Addr) (cap1 : Nat) (ds : List Int) (ad : Option Addr) (cap : Nat) (ps : List Int) (w : World) (hA1 : ArgY w ad1 ds) (hd : ByteOk ds) (hn1 : ds.length ≤ 1048576) (hA : ArgI w ad ps) (hp1 : 1 ≤ P) (hp2 : P ≤ 512) (hlen : ps.length ≤ 20000) (hps : PsOk (P : Int) ps) :
    Calls Try.prog 14 #[.int .i64 (P : Int), .slice ad1 ds.length cap1, .slice ad ps.length cap] w fun e w' => ∃ u, e = .returned u ∧ OwnCn w' w.heap.size w'.heap.size u (oddsUnpack (P : Int) ds ps) ∧ Upd 0 0 w w' := by
  have hB0 := hide ((Below.refl w.heap.size w).alloc (Nat.le_refl _) (.cells #[.int .i64 0, .slice none 0 0, .int .i64 0] 33))
  have hh0 := hide (heldF_new w [.int .i64 0, .slice none 0 0, .int .i64 0] 33)
  have hz0 : (w.alloc (.cells #[.int .i64 0, .slice none 0 0, .int .i64 0] 33)).heap.size = w.heap.size + 1 := by simp
  have hE : Hid (oddsUnpack (P : Int) ds ps = if (stR ds ps ps.length).2.err ≠ 0 then ((stR ds ps ps.length).2.err, [], 0) else (0, bitsR ds ps ps.length, ((stR ds ps ps.length).2.at_ : Int))) := hide (by
    unfold oddsUnpack; rw [if_pos ((unpB_iff _ _).2 ⟨⟨by omega, by omega⟩, hlen, hps⟩)])
  have hP := hide (fun X => implGoodPlaces (P : Int) X)
  have hpb : placesB (P : Int) = true := by unfold placesB; rw [decide_eq_true (by omega), decide_eq_true (by omega)]; rfl
  rw [hpb] at hP
  have hW := hide (fun X (h : ArgI X ad ps) => implWithin ad cap ps 0 ((P : Int) - 1) X (by omega) h)
  rw [inRB_yes (psOk_inR.2 hps)] at hW
  have hok := hide (stR_ok ds ps hd)
  have hRO := hide (fun X (h : ArgY X ad1 ds) => implReadOdds ad1 cap1 ds X h hd hn1)
  obtain ⟨z, hzz, hz⟩ : ∃ z : Array Value, z.size = 517 ∧ ∀ w, (zeroValue 74).run Try.prog w = .ok (.agg z) w := ⟨_, by rw [List.size_toArray, List.length_append, List.length_append, List.length_replicate]; rfl, (zero_of_info infoRd).1⟩
  obtain ⟨o, hmk⟩ := mkRowI ps.length (by omega)
  obtain ⟨L, hL⟩ : ∃ L, rdV odds0 (.slice ad1 ds.length cap1) (openR ds) = L := ⟨_, rfl⟩
  have hLl : L.length = 517 := by rw [← hL, rdV_len]
  have hL1 : ∀ v ∈ L, v.oneCell' = true := by
    intro v hv
    rw [← hL] at hv
    have h := oneRow odds0 [.int .u32 (openR ds).rng, .slice ad1 ds.length cap1, .int .i64 ((openR ds).at_ : Int), .int .u32 (openR ds).code, .int .i64 (openR ds).err] (fun v hv => by simp only [List.mem_cons, List.not_mem_nil, or_false] at hv; rcases hv with rfl | rfl | rfl | rfl | rfl <;> rfl)
    rw [Array.all_eq_true_iff_forall_mem] at h
    exact h v (by simpa [rdV] using hv)
  have hst := hide (fun (X : World) (k : Nat) (h : X.heap[k]? = some (Obj.cells z 74 (0, 0))) => (by
    have h1 := run_storeCells_from (P := Try.prog) k 74 L 0 z X h (by rw [hLl, hzz]) hL1
    simpa using h1 : Sem.run Try.prog (storeCells ⟨k, 0, none⟩ L) X = Result.ok () (X.setRow k L.toArray)))
  rw [hL] at hRO
  have hrun := hide (fun X : World => (hmk X).1)
  have hrow := hide (fun X : World => (hmk X).2)
  have pI1 : (1 : Int) ≤ (P : Int) := by omega
  have pI2 : (P : Int) ≤ 512 := by omega
  replace hA := hide hA
  replace hA1 := hide hA1
  replace hps := hide hps
  replace hd := hide hd
  replace hL := hide hL
  replace hLl := hide hLl
  replace hz := hide hz
  clear hmk hpb hL1 hzz
  go_enter Try.func14, Try.ntmps14
  go_upto_region 1 with fail
  simp only [List.toArray] at hh0
  generalize w.alloc (.cells #[.int .i64 0, .slice none 0 0, .int .i64 0] 33) = w0 at hB0 hh0 hz0 ⊢
  go_wp2_with fail
  refine (unhide hP _).mono ?_
  rintro e w1 ⟨rfl, hw1⟩
  obtain rfl : w0 = w1 := hw1.symm
  go_wp2_with fail
  refine (unhide hW _ ((unhide hA).below (unhide hB0))).mono ?_
  rintro e w2 ⟨rfl, hu2⟩
  have hh2 := hide ((unhide hh0).keep hu2)
  have hB2 := hide (below_upd (unhide hB0) hu2 (Nat.le_refl _) (.inr (Nat.le_refl _)))
  have hs2 : w.heap.size < w2.heap.size := by have := hu2.size; omega
  clear hu2 hP hW hh0 hB0 hz0
  go_upto_region 3 with fail
  have hA2 := hide ((unhide hA1).below (unhide hB2))
  go_cut [7, 8] (fun s7 s8 wx => ∃ g sl, s7 = .pointer (some ⟨g, 0, none⟩) ∧ s8 = .slice (some ⟨sl, 0, none⟩) ps.length ps.length ∧ Hid (wx.heap[g]? = some (.cells L.toArray 74 (0, 0))) ∧ Hid (RowI wx sl ps.length (List.replicate ps.length (.int .i64 0))) ∧ Hid (Below w2.heap.size w2 wx) ∧ w2.heap.size ≤ g ∧ w2.heap.size ≤ sl ∧ g ≠ sl)
  case first =>
    have hz' := unhide hz
    have hrun' := unhide hrun
    have hL' := unhide hLl
    have S1 : ∀ X : World, Sem.run Try.prog (storeCells ⟨X.heap.size + 1, 0, none⟩ L) ((X.alloc o).alloc (Obj.cells z 74 (0, 0))) = Result.ok () (((X.alloc o).alloc (Obj.cells z 74 (0, 0))).setRow (X.heap.size + 1) L.toArray) :=
      fun X => unhide hst _ _ (heap_row_new _ _ _ (by simp))
    have S2 : ∀ X : World, Sem.run Try.prog (storeCells ⟨X.heap.size, 0, none⟩ L) ((X.alloc (Obj.cells z 74 (0, 0))).alloc o) = Result.ok () (((X.alloc (Obj.cells z 74 (0, 0))).alloc o).setRow X.heap.size L.toArray) :=
      fun X => unhide hst _ _ (heap_row_old _ _ _ _ (heap_row_new _ _ _ rfl))
    have S3 : ∀ X : World, Sem.run Try.prog (storeCells ⟨X.heap.size, 0, none⟩ L) (X.alloc (Obj.cells z 74 (0, 0))) = Result.ok () ((X.alloc (Obj.cells z 74 (0, 0))).setRow X.heap.size L.toArray) :=
      fun X => unhide hst _ _ (heap_row_new _ _ _ rfl)
    go_region_law (refine step_wanted rfl ?_; go_simp; go_at_call 46; refine (unhide hRO _ ((unhide hA2).below (by repeat (first | exact Below.refl _ _ | refine Below.alloc ?_ (by simp) _ | refine Below.drew ?_)))).mono ?_; rintro e7 w7 ⟨rfl, hu7⟩; (first | (have s4 : Sem.run Try.prog (storeCells ⟨w2.heap.size, 0, none⟩ L) w7 = Result.ok () (World.setRow w7 (w2.heap.size) L.toArray) := unhide hst _ _ (heap_row_upd hu7 _ _ (heap_row_new _ _ _ rfl))) | (have s4 : Sem.run Try.prog (storeCells ⟨w2.heap.size, 0, none⟩ L) w7 = Result.ok () (World.setRow w7 (w2.heap.size) L.toArray) := unhide hst _ _ (heap_row_upd hu7 _ _ (heap_row_old _ _ _ _ (heap_row_new _ _ _ rfl)))) | skip); (first | (have s5 : Sem.run Try.prog (storeCells ⟨w2.heap.size + 1, 0, none⟩ L) w7 = Result.ok () (World.setRow w7 (w2.heap.size + 1) L.toArray) := unhide hst _ _ (heap_row_upd hu7 _ _ (heap_row_new _ _ _ (alloc_sizeE _ _)))) | skip); (first | (have s6 : Sem.run Try.prog (storeCells ⟨w2.heap.size, 0, none⟩ L) (w7.alloc o) = Result.ok () (World.setRow (w7.alloc o) (w2.heap.size) L.toArray) := unhide hst _ _ (heap_row_old _ _ _ _ (heap_row_upd hu7 _ _ (heap_row_new _ _ _ rfl)))) | skip); replace hu7 := hide hu7)
    all_goals
      have hb7 : Below w2.heap.size w2 w7 := by
        first | exact below_upd (Below.drew (Below.refl _ _)) (unhide hu7) (Nat.le_refl _) (.inr (Nat.le_refl _)) | exact below_upd (Below.drew (Below.alloc (Below.refl _ _) (Nat.le_refl _) _)) (unhide hu7) (Nat.le_refl _) (.inr (Nat.le_refl _)) | exact below_upd (Below.drew (below_alloc2 _ _ _)) (unhide hu7) (Nat.le_refl _) (.inr (Nat.le_refl _))
      have hs7 := hb7.size
      have hu7s := (unhide hu7).size
      replace hb7 := hide hb7
      clear S1 S2 S3
      go_wp2
      go_meet
      refine ⟨_, _, rfl, rfl, hide ?_, hide ?_, hide ?_, ?_, ?_, ?_⟩
      case refine_1 => first | exact setRow_heap _ _ z _ _ _ (heap_row_new _ _ _ (alloc_sizeE _ _)) | exact setRow_heap _ _ z _ _ _ (heap_row_old _ _ _ _ (heap_row_new _ _ _ rfl)) | exact heap_row_old _ _ _ _ (setRow_heap _ _ z _ _ _ (heap_row_new _ _ _ rfl)) | exact setRow_heap _ _ z _ _ _ (heap_row_new _ _ _ rfl) | exact setRow_heap _ _ z _ _ _ (heap_row_upd (unhide hu7) _ _ (heap_row_new _ _ _ (alloc_sizeE _ _))) | exact setRow_heap _ _ z _ _ _ (heap_row_old _ _ _ _ (heap_row_upd (unhide hu7) _ _ (heap_row_new _ _ _ rfl))) | exact heap_row_old _ _ _ _ (setRow_heap _ _ z _ _ _ (heap_row_upd (unhide hu7) _ _ (heap_row_new _ _ _ rfl))) | exact setRow_heap _ _ z _ _ _ (heap_row_upd (unhide hu7) _ _ (heap_row_old _ _ _ _ (heap_row_new _ _ _ rfl)))
      case refine_2 =>
        first | exact RowI.atE (unhide hrow _) (alloc_setRowE _ _ _ _) | exact RowI.atE (unhide hrow _) (setRow_sizeE _ _ _) | refine RowI.setRowE (unhide hrow _) ?_ _ | refine RowI.setRowE (RowI.alloc (unhide hrow _) _) ?_ _ | refine RowI.setRowE (RowI.atE (unhide hrow _) (alloc_sizeE _ _)) ?_ _ | refine RowI.setRowE (RowI.alloc (RowI.keep (RowI.drewE (unhide hrow _)) (unhide hu7)) _) ?_ _ | refine RowI.setRowE (RowI.keep (RowI.drewE (RowI.alloc (unhide hrow _) _)) (unhide hu7)) ?_ _ | refine RowI.setRowE (RowI.keep (RowI.drewE (RowI.atE (unhide hrow _) (alloc_sizeE _ _))) (unhide hu7)) ?_ _
        all_goals (first | omega | (simp at hu7s; omega) | (simp at hu7s ⊢; omega) | (simp; omega))
      case refine_3 =>
        repeat' (first | exact unhide hb7 | refine below_setRow ?_ ?_ _ | refine Below.alloc ?_ ?_ _)
        all_goals (first | omega | (simp at hu7s; omega) | (simp at hu7s ⊢; omega) | (simp; omega))
      all_goals (first | omega | (simp at hu7s; omega) | (simp at hu7s ⊢; omega) | (simp; omega))
  case rest =>
    obtain ⟨g, sl, rfl, rfl, hrw, hsl, hbl, hg0, hs0, hgs⟩ := hcut
    have hrs0 := hide (heldF_belowJ (unhide hh2) (unhide hbl) hs2)
    have hB3 := hide ((unhide hB2).trans ((unhide hbl).mono (Nat.le_of_lt hs2)))
    have hr0 : Hid (RrAt wc g (stR ds ps 0).1 (.slice ad1 ds.length cap1) (stR ds ps 0).2) := hide (by
      have h := unhide hrw
      rw [← unhide hL] at h
      exact odAt_rowH h)
    have hsl0 : Hid (RowI wc sl ps.length (oddsI ps.length (bitsTo ds ps 0))) := hide (by rw [bitsTo_zero]; exact unhide hsl)
    clear hrw hsl hbl hh2 hB2 hRO hst hrun hrow hL hLl hz hA2
    obtain ⟨rb, hrb⟩ : ∃ rb, w.heap.size = rb := ⟨_, rfl⟩
    have hrb0 : w.heap.size ≤ rb := by omega
    have hrg : rb < g := by omega
    have hrl : rb < sl := by omega
    rw [hrb] at hrs0 ⊢
    clear hg0 hs0 hs2
    go_wp2_with fail
    go_loopw [9, 10, 34] (fun _ _ i wr => ∃ k : Nat, i = .int .i64 (k : Int) ∧ k ≤ ps.length ∧ Hid (RrAt wr g (stR ds ps k).1 (.slice ad1 ds.length cap1) (stR ds ps k).2) ∧ Hid (RowI wr sl ps.length (oddsI ps.length (bitsTo ds ps k))) ∧ Hid (HeldF wr rb [.int .i64 0, .slice none 0 0, .int .i64 0]) ∧ Hid (Below w.heap.size w wr)) (fun _ _ i _ => ps.length - (intOf i).toNat)
    case atStart => exact ⟨0, rfl, by omega, hr0, hsl0, hrs0, hB3⟩
    case round =>
      clear hr0 hsl0 hrs0 hB3
      obtain ⟨k, rfl, hk, hrd, hrow, hrs, hB⟩ := hrel
      by_cases hkl : k < ps.length
      · obtain ⟨bb, off, rfl, hbl, hcl⟩ := (unhide hA) (ne_of_lt_length hkl)
        have c0 := hcl k hkl
        have hx := unhide hps k hkl
        have hbk2 : bitK ds ps k = if (stR ds ps k).2.err ≠ 0 then 0 else bitOf (stR ds ps k).2 ((stR ds ps k).1 (ps.getD k 0)) := rfl
        have hbad := stR_bad ds ps k
        have hgood := stR_good ds ps k
        have hokk := unhide hok k
        have hnx := bitsTo_succ ds ps ps.length k
        generalize ps.getD k 0 = x at c0 hx hbk2 hgood
        have c0 : wr.cell? ⟨bb, off + k, none⟩ = some (.int .i64 x) := ((unhide hB).cell (by simpa using hbl)).trans c0
        obtain ⟨x0, x1⟩ := hx
        obtain ⟨q, rfl⟩ := Int.eq_ofNat_of_zero_le x0
        have hq : q < 512 := by omega
        obtain ⟨bt, hbt⟩ : ∃ bt, bitK ds ps k = bt := ⟨_, rfl⟩
        rw [hbt] at hnx hbk2
        have hCall : Hid (Calls Try.prog 47 #[.pointer (some ⟨g, 0, none⟩), .int .i64 (q : Int)] wr fun e w' => e = .returned (.int .i64 bt) ∧ RrAt w' g (stR ds ps (k + 1)).1 (.slice ad1 ds.length cap1) (stR ds ps (k + 1)).2 ∧ Upd g (g + 1) wr w') := hide (by
          by_cases he : (stR ds ps k).2.err = 0
          · rw [hgood he]
            rw [if_neg (by simpa using he)] at hbk2
            rw [hbk2]
            exact implTake g ad1 cap1 ds (stR ds ps k).1 (stR ds ps k).2 q wr (unhide hrd) hokk.1 he hokk.2 hq (fun Y hY => (unhide hA1).below (below_upd (unhide hB) hY (Nat.le_refl _) (.inl (by omega)))) (unhide hd) hn1
          · rw [hbad he]
            rw [if_pos he] at hbk2
            rw [hbk2]
            refine (implTakeBad g _ _ (stR ds ps k).2 (q : Int) wr (unhide hrd) he).mono ?_
            rintro e w' ⟨rfl, rfl⟩
            exact ⟨rfl, unhide hrd, Upd.refl _ _ _⟩)
        have kI : decide ((k : Int) < (ps.length : Int)) = true := decide_eq_true (by omega)
        have kJ : (k : Int) < (ps.length : Int) := by omega
        replace hA := hide hA
        replace hbk2 := hide hbk2
        replace hbt := hide hbt
        replace hnx := hide hnx
        clear hcl hbad hgood hokk
        go_wp2_with fail
        refine (unhide hCall).mono ?_
        rintro e w4 ⟨rfl, hr4, hu4⟩
        have hrow4 := (unhide hrow).upd hu4 (by omega)
        have hc4 := hrow4.has k hkl
        have hf4 := hrow4.frozen k
        have hrow5 := hide (hrow4.set k (.int .i64 bt))
        rw [unhide hnx] at hrow5
        have hr5 := hide (OdAt.other (g' := sl) hr4 (fun e => hgs e.symm) k (.int .i64 bt))
        have hrs5 := hide (((unhide hrs).upd hu4 (by omega)).other (g' := sl) (by omega) k (.int .i64 bt))
        have hB5 := hide ((below_upd (unhide hB) hu4 (Nat.le_refl _) (.inl (by omega))).setCell (p := ⟨sl, k, none⟩) (by simp; omega) (.int .i64 bt))
        obtain ⟨u4, hc4⟩ := hc4
        clear hrd hrow hrs hB hr4 hu4 hrow4 hCall c0
        go_wp2_with fail
        go_roundw
        case rel => exact ⟨k + 1, by go_num, by omega, hr5, hrow5, hrs5, hB5⟩
        case measure => simp [intOf]; omega
      · obtain rfl : k = ps.length := by omega
        have kI : decide ((ps.length : Int) < (ps.length : Int)) = false := decide_eq_false (by omega)
        obtain ⟨er, her⟩ : ∃ er, (stR ds ps ps.length).2.err = er := ⟨_, rfl⟩
        have e5 : wr.cell? ⟨g, 516, none⟩ = some (.int .i64 er) := by rw [← her]; exact (unhide hrd).back 4 _ rfl
        by_cases he : er = 0
        · have t : (er != 0) = false := by rw [he]; rfl
          have hE2 := hide (show oddsUnpack (P : Int) ds ps = (0, bitsR ds ps ps.length, ((stR ds ps ps.length).2.at_ : Int)) by rw [unhide hE, if_neg (by rw [her, he]; simp)])
          have e3 : wr.cell? ⟨g, 514, none⟩ = some (.int .i64 ((stR ds ps ps.length).2.at_ : Int)) := (unhide hrd).back 2 _ rfl
          generalize (stR ds ps ps.length).2.at_ = na at e3 hE2
          replace her := hide her
          subst he
          have hbl := hide (bitsR_len ds ps ps.length)
          have hrow2 : Hid (RowI wr sl ps.length (ints (bitsR ds ps ps.length))) := hide (by rw [← bitsTo_all]; exact unhide hrow)
          generalize bitsR ds ps ps.length = bits at hE2 hbl hrow2
          have z0 := (unhide hrs).1.2 0 _ rfl
          have z1 := (unhide hrs).1.2 1 _ rfl
          have z2 := (unhide hrs).1.2 2 _ rfl
          have y0 := (unhide hrs).2 0
          have y1 := (unhide hrs).2 1
          have y2 := (unhide hrs).2 2
          have hfr : Hid (RowI (((wr.setCell ⟨rb, 0, none⟩ (.int .i64 0)).setCell ⟨rb, 1, none⟩ (.slice (some ⟨sl, 0, none⟩) ps.length ps.length)).setCell ⟨rb, 2, none⟩ (.int .i64 (na : Int))) sl ps.length (ints bits)) := hide ((((unhide hrow2).other (c := rb) (by omega) 0 _).other (c := rb) (by omega) 1 _).other (c := rb) (by omega) 2 _)
          have hBf : Hid (Upd 0 0 w (((wr.setCell ⟨rb, 0, none⟩ (.int .i64 0)).setCell ⟨rb, 1, none⟩ (.slice (some ⟨sl, 0, none⟩) ps.length ps.length)).setCell ⟨rb, 2, none⟩ (.int .i64 (na : Int)))) := hide (Upd.of_below ((((unhide hB).setCell (by simp; omega) _).setCell (by simp; omega) _).setCell (by simp; omega) _) 0 0)
          clear hrd hrow hrow2 hrs hB
          go_wp2
          refine bodyPost_ret (v := .agg #[.int .i64 0, .slice (some ⟨sl, 0, none⟩) ps.length ps.length, .int .i64 (na : Int)]) (by simp [results, Try.results14, go_sem, z0, z1, z2]) rfl ⟨_, rfl, ?_, unhide hBf⟩
          rw [unhide hE2]
          refine ⟨.slice (some ⟨sl, 0, none⟩) ps.length ps.length, rfl, ?_⟩
          have h1 := Own.of (show World.ownsRow _ sl 3 1 _ _ _ from unhide hfr)
          show OwnI _ _ _ _ bits
          unfold OwnI
          rw [unhide hbl]
          exact own_mono h1 (by omega) (Nat.le_refl _)
        · have t : (er != 0) = true := by simpa using he
          have hE2 := hide (show oddsUnpack (P : Int) ds ps = (er, [], 0) by rw [unhide hE, if_pos (by rw [her]; exact he), her])
          have hAns := hide (fun X => own_ans X w.heap.size X.heap.size er 0)
          replace her := hide her
          clear he hrd hrow
          have z0 := (unhide hrs).1.2 0 _ rfl
          have z1 := (unhide hrs).1.2 1 _ rfl
          have z2 := (unhide hrs).1.2 2 _ rfl
          have y0 := (unhide hrs).2 0
          have y1 := (unhide hrs).2 1
          have y2 := (unhide hrs).2 2
          clear hrs
          go_wp2
          refine bodyPost_ret (v := ans0 er 0) (by simp [results, Try.results14, go_sem, z0, z1, z2]) rfl ⟨_, rfl, by rw [unhide hE2]; exact unhide hAns _, Upd.of_below ((((unhide hB).setCell (by simp; omega) _).setCell (by simp; omega) _).setCell (by simp; omega) _) 0 0⟩
end Go.Proofs.Ytpofmcepjmbmcaa

/- Odds: OddsUnpack at every argument, both sides. -/
namespace Go.Proofs.Ytpofmcepjmbmcaa
open Go.RowKit

theorem implOddsUnpack (p : Int) (v1 : Value) (ds : List Int) (v2 : Value) (ps : List Int) (w : World) (hp0 : -9223372036854775808 ≤ p) (hp1 : p ≤ 9223372036854775807) (hn1 : ds.length ≤ 1048576) (hR1 : InB ds) (hv1 : RdY w v1 ds) (hn2 : ps.length ≤ 1048576) (_hR2 : InI ps) (hv2 : RdI w v2 ps) :
    Calls Try.prog 14 #[.int .i64 p, v1, v2] w fun e w' => ∃ u, e = .returned u ∧ OwnCn w' w.heap.size w'.heap.size u (oddsUnpack p ds ps) ∧ Upd 0 0 w w' := by
  obtain ⟨ad1, cap1, rfl, hA1⟩ := hv1
  obtain ⟨ad, cap, rfl, hA⟩ := hv2
  by_cases h : (1 ≤ p ∧ p ≤ 512) ∧ ps.length ≤ 20000 ∧ PsOk p ps
  · obtain ⟨⟨a1, a2⟩, a3, a4⟩ := h
    obtain ⟨P, rfl⟩ := Int.eq_ofNat_of_zero_le (show 0 ≤ p by omega)
    exact implOddsUnpackOk P ad1 cap1 ds ad cap ps w hA1 (ByteOk.of hR1) hn1 hA (by omega) (by omega) a3 a4
  · exact implOddsUnpackBad p _ ds ad cap ps w hp0 hp1 hn2 hA h
theorem oddsUnpack_big (p : Int) (ds ps : List Int) : (oddsUnpack p ds ps).2.1.length ≤ 1048576 := by
  unfold oddsUnpack
  split
  · rename_i h
    have := ((unpB_iff _ _).1 h).2.1
    split
    · simp
    · show (bitsR ds ps ps.length).length ≤ _
      rw [bitsR_len]; omega
  · simp
end Go.Proofs.Ytpofmcepjmbmcaa

/- The walks of the laws' own comparing of lists of ints and of byte strings. -/
namespace Go.Proofs.Ytpofmcepjmbmcaa
open Go.RowKit

set_option maxHeartbeats 1000000 in
theorem wInts_rd (u v : Value) (zs : List Int) (w : World) (hn : zs.length ≤ 1048576) (hu : RdI w u zs) (hv : RdI w v zs) :
    Calls Try.prog 18 #[u, v] w fun e w' => e = .returned (.bool true) ∧ Upd 0 0 w w' := by
  obtain ⟨ad, cap, rfl, hA⟩ := hu
  obtain ⟨ad', cap', rfl, hA'⟩ := hv
  replace hA := hide hA
  replace hA' := hide hA'
  go_enter Try.func18, Try.ntmps18
  go_wp2
  go_loopw [13] (fun i wr => ∃ k : Nat, k ≤ zs.length ∧ i = .int .i64 k ∧ ∃ nq, wr = w.drewN nq) (fun i _ => zs.length - (intOf i).toNat)
  case atStart => exact ⟨0, Nat.zero_le _, rfl, 0, rfl⟩
  case round =>
    obtain ⟨k, hk, rfl, nq, rfl⟩ := hrel
    by_cases hlt : k < zs.length
    · obtain ⟨b, off, rfl, hbl, hc⟩ := (unhide hA) (ne_of_lt_length hlt)
      obtain ⟨b', off', rfl, hbl', hc'⟩ := (unhide hA') (ne_of_lt_length hlt)
      have hck := hc k hlt
      have hck' := hc' k hlt
      clear hc hc' hA hA'
      generalize zs.getD k 0 = x at hck hck'
      go_wp2
      go_quiet (fail)
      go_wp2
      go_roundw
      case rel => exact ⟨k + 1, by omega, by go_num, _, rfl⟩
      case measure => simp [intOf]; omega
    · have hkl : k = zs.length := by omega
      subst hkl
      go_wp2
      go_ret
      exact ⟨rfl, (Upd.refl 0 0 _).drewN _⟩

set_option maxHeartbeats 1000000 in
theorem wBytes_rd (u v : Value) (zs : List Int) (w : World) (hn : zs.length ≤ 1048576) (hu : RdY w u zs) (hv : RdY w v zs) :
    Calls Try.prog 11 #[u, v] w fun e w' => e = .returned (.bool true) ∧ Upd 0 0 w w' := by
  obtain ⟨ad, cap, rfl, hA⟩ := hu
  obtain ⟨ad', cap', rfl, hA'⟩ := hv
  replace hA := hide hA
  replace hA' := hide hA'
  go_enter Try.func11, Try.ntmps11
  go_wp2
  go_loopw [13] (fun i wr => ∃ k : Nat, k ≤ zs.length ∧ i = .int .i64 k ∧ ∃ nq, wr = w.drewN nq) (fun i _ => zs.length - (intOf i).toNat)
  case atStart => exact ⟨0, Nat.zero_le _, rfl, 0, rfl⟩
  case round =>
    obtain ⟨k, hk, rfl, nq, rfl⟩ := hrel
    by_cases hlt : k < zs.length
    · obtain ⟨b, off, rfl, hbl, hc⟩ := (unhide hA) (ne_of_lt_length hlt)
      obtain ⟨b', off', rfl, hbl', hc'⟩ := (unhide hA') (ne_of_lt_length hlt)
      have hck := hc k hlt
      have hck' := hc' k hlt
      clear hc hc' hA hA'
      generalize zs.getD k 0 = x at hck hck'
      go_wp2
      go_quiet (fail)
      go_wp2
      go_roundw
      case rel => exact ⟨k + 1, by omega, by go_num, _, rfl⟩
      case measure => simp [intOf]; omega
    · have hkl : k = zs.length := by omega
      subst hkl
      go_wp2
      go_ret
      exact ⟨rfl, (Upd.refl 0 0 _).drewN _⟩
end Go.Proofs.Ytpofmcepjmbmcaa

/- The law on drawn choices, packed and unpacked, walked. -/
namespace Go.Proofs.Ytpofmcepjmbmcaa
open Go.RowKit

theorem add_cellC (g o j : Nat) : (⟨g, o, none⟩ : Addr).add j = ⟨g, o + j, none⟩ := by unfold Addr.add; split <;> simp_all
theorem ints_appendC (xs ys : List Int) : ints (xs ++ ys) = ints xs ++ ints ys := by unfold ints; rw [List.map_append]
theorem bytes_inB {bs : List Int} (h : BytesIn bs) : InB bs := by
  intro j
  by_cases hj : j < bs.length
  · have := h (bs.getD j 0) (by rw [List.getD_eq_getElem?_getD, List.getElem?_eq_getElem hj]; exact List.getElem_mem hj); omega
  · rw [List.getD_eq_getElem?_getD, List.getElem?_eq_none (by omega)]; exact ⟨by decide, by decide⟩
theorem psOf_inI {cs : List Ch} (h : InCh cs) : InI (psOf cs) := by
  intro j
  by_cases hj : j < cs.length
  · rw [psOf_at cs j hj]; exact (h j).1
  · rw [List.getD_eq_getElem?_getD, List.getElem?_eq_none (by unfold psOf; rw [List.length_map]; omega)]; exact ⟨by decide, by decide⟩
theorem psOf_take (cs : List Ch) (k : Nat) (hk : k < cs.length) : (psOf cs).take (k + 1) = (psOf cs).take k ++ [(cs.getD k Ch0).1] := by
  rw [take_snoc_getD (psOf cs) 0 k (by unfold psOf; rw [List.length_map]; exact hk), psOf_at cs k hk]
set_option maxHeartbeats 8000000 in
set_option maxRecDepth 100000 in
theorem lawFnOddsB (ad : Option Addr) (cap : Nat) (zs : List Int) (w : World) (hA : ArgB w ad zs) :
    Calls Try.prog 3 #[.slice ad zs.length cap] w fun e w' => e = .returned (.bool true) ∧ Below w.heap.size w w' := by
  by_cases hl : 1048576 < zs.length
  · clear hA
    go_enter Try.func3, Try.ntmps3
    go_wp2
    go_ret
    exact ⟨rfl, Below.refl _ _⟩
  have hl' : zs.length ≤ 1048576 := by omega
  replace hA := hide hA
  go_enter Try.func3, Try.ntmps3
  go_wp2_with fail
  refine (specDrawOddsPack ad cap zs _ (unhide hA) hl').mono ?_
  rintro e w1 ⟨p, v, cs, rfl, hp, hcl, hcI, hcv, hB⟩
  clear hA hl hl'
  obtain ⟨adc, capc, rfl, hC⟩ := hcv
  have hCr := hide (fun (W : World) (hb : Below w1.heap.size w1 W) => (show RdCh W (.slice adc cs.length capc) cs from ⟨adc, capc, rfl, ArgCh.below hC hb⟩))
  replace hB := hide hB
  replace hcI := hide hcI
  have hPi := hide (fun W hv => implOddsPack p (.slice adc cs.length capc) cs W (by omega) (by omega) (by omega) (unhide hcI) hv)
  have hPs := hide (fun W hv => specOddsPack p (.slice adc cs.length capc) cs W (by omega) (by omega) (by omega) (unhide hcI) hv)
  have hKi := hide (fun W hv => implOddsCost p (.slice adc cs.length capc) cs W (by omega) (by omega) (by omega) (unhide hcI) hv)
  have hbn : (oddsPack p cs).length ≤ 20005 := by
    unfold oddsPack
    split
    · have := packL_len cs; omega
    · simp
  have hbI : Hid (InB (oddsPack p cs)) := hide (by
    unfold oddsPack
    split
    · exact bytes_inB (pack_num cs).2.1
    · intro j; simp)
  have hUi := hide (fun (v1 v2 : Value) (W : World) (a : RdY W v1 (oddsPack p cs)) (b : RdI W v2 (psOf cs)) => implOddsUnpack p v1 (oddsPack p cs) v2 (psOf cs) W (by omega) (by omega) (by omega) (unhide hbI) a (by unfold psOf; rw [List.length_map]; omega) (psOf_inI (unhide hcI)) b)
  have hno : Hid (oddsB p cs = false → oddsPack p cs = [] ∧ oddsCost p cs = -1) := hide (fun h => by unfold oddsPack oddsCost; rw [h]; exact ⟨rfl, rfl⟩)
  have hyes : Hid (oddsB p cs = true → 4 ≤ (oddsPack p cs).length) := hide (fun h => by unfold oddsPack; rw [if_pos h]; have := (pack_num cs).2.2; omega)
  have hback := hide (odds_back_all p cs)
  have hcost := hide (odds_cost_all p cs)
  have hcb : Hid (oddsB p cs = true → 0 ≤ oddsCost p cs ∧ oddsCost p cs ≤ 2048 * 20001) := hide (fun h => by
    unfold oddsCost; rw [if_pos h]
    have := costK_bd cs cs.length
    omega)
  generalize oddsUnpack p (oddsPack p cs) (psOf cs) = U at hUi hback
  generalize oddsPack p cs = bs at hPi hPs hUi hno hyes hback hcost hbn
  generalize oddsCost p cs = K at hKi hno hcost hcb
  replace hbn := hide hbn
  replace hcl := hide hcl
  obtain ⟨p0, p1⟩ := hp
  go_wp2_with fail
  refine (unhide hPi w1 (unhide hCr w1 (Below.refl _ _))).mono ?_
  rintro e w2 ⟨v2, rfl, hO2, hu2⟩
  obtain ⟨ad2, cap2, rfl, _⟩ := OwnY.rd hO2
  have hbw := hide (hu2.none)
  replace hB := hide (below_upd (unhide hB) hu2 (Nat.le_refl _) (.inr (Nat.zero_le _)))
  replace hO2 := hide hO2
  clear hu2 hPi
  go_wp2_with fail
  refine (unhide hPs w2 (unhide hCr w2 (unhide hbw))).mono ?_
  rintro e w3 ⟨v3, rfl, hO3, hu3⟩
  obtain ⟨ad3, cap3, rfl, _⟩ := OwnY.rd hO3
  replace hbw := hide (below_upd (unhide hbw) hu3 (Nat.le_refl _) (.inr (Nat.zero_le _)))
  replace hB := hide (below_upd (unhide hB) hu3 (Nat.le_refl _) (.inr (Nat.zero_le _)))
  replace hO2 := hide ((unhide hO2).keep hu3)
  replace hO3 := hide hO3
  clear hu3 hPs
  go_wp2_with fail
  refine (wBytes_rd _ _ bs w3 (by have := unhide hbn; omega) (OwnY.rd (unhide hO2)) (OwnY.rd (unhide hO3))).mono ?_
  rintro e w4 ⟨rfl, hu4⟩
  replace hbw := hide (below_upd (unhide hbw) hu4 (Nat.le_refl _) (.inr (Nat.zero_le _)))
  replace hB := hide (below_upd (unhide hB) hu4 (Nat.le_refl _) (.inr (Nat.zero_le _)))
  replace hO2 := hide ((unhide hO2).keep hu4)
  clear hu4 hO3
  go_wp2_with fail
  refine (unhide hKi w4 (unhide hCr w4 (unhide hbw))).mono ?_
  rintro e w5 ⟨rfl, hu5⟩
  replace hbw := hide (below_upd (unhide hbw) hu5 (Nat.le_refl _) (.inr (Nat.zero_le _)))
  replace hB := hide (below_upd (unhide hB) hu5 (Nat.le_refl _) (.inr (Nat.zero_le _)))
  replace hO2 := hide ((unhide hO2).keep hu5)
  clear hu5 hKi
  by_cases hok : oddsB p cs = true
  case neg =>
    obtain ⟨e1, e2⟩ := unhide hno (Bool.eq_false_iff.2 hok)
    subst e1
    subst e2
    clear hO2 hno hyes hback hcost hcb hUi hCr hC hok
    go_wp2
    go_ret
    exact ⟨rfl, unhide hB⟩
  replace hyes := unhide hyes hok
  obtain ⟨u0, u1, u2, u3⟩ := unhide hback hok
  replace hcost := unhide hcost hok
  replace hcb := unhide hcb hok
  have nb : ((bs.length : Int) == 0) = false := beq_eq_false_iff_ne.2 (by omega)
  clear hno hback hok
  replace hyes := hide hyes
  replace hcost := hide hcost
  replace u0 := hide u0
  replace u1 := hide u1
  replace u2 := hide u2
  replace u3 := hide u3
  go_wp2_with fail
  have hTk := hide (psOf_take cs)
  obtain ⟨i0, hi, hz0, hz1, hz2⟩ := info_parts infoI
  have hw15 : w1.heap.size ≤ w5.heap.size := (unhide hbw).size
  go_loopw [7, 39] (fun s i wr => ∃ (k : Nat) (v : Value), v = s ∧ k ≤ cs.length ∧ i = .int .i64 (k : Int) ∧ Hid (wr.ownsRow w5.heap.size 3 1 v k (ints ((psOf cs).take k))) ∧ Hid (Below w5.heap.size w5 wr)) (fun _ i _ => cs.length - (intOf i).toNat)
  case atStart => exact ⟨0, _, rfl, by omega, rfl, hide (World.ownsRow_nil _ _ _ _), hide (Below.refl _ _)⟩
  case round =>
    obtain ⟨k, v, rfl, hk, rfl, hrow, hbel⟩ := hrel
    by_cases hklt : k < cs.length
    · have hkb : decide ((k : Int) < (cs.length : Int)) = true := decide_eq_true (by omega)
      have hk20 : k ≤ 20001 := by have := unhide hcl; omega
      obtain ⟨bb, off, hse, hbl, hcl2⟩ := hC (ne_of_lt_length hklt)
      have hbw2 : bb < w5.heap.size := by omega
      have c0 : wr.cell? ⟨bb, off + k * 2, none⟩ = some (.int .i64 (cs.getD k Ch0).1) := ((unhide hbel).cell (by simpa using hbw2)).trans (((unhide hbw).cell (by simpa using hbl)).trans (hcl2 k hklt).1)
      have c1 : wr.cell? ⟨bb, off + k * 2 + 1, none⟩ = some (.int .i64 (cs.getD k Ch0).2) := ((unhide hbel).cell (by simpa using hbw2)).trans (((unhide hbw).cell (by simpa using hbl)).trans (hcl2 k hklt).2)
      subst hse
      have hnx := hide (unhide hTk k hklt)
      have hrow1 := unhide hrow
      generalize (cs.getD k Ch0).1 = x at c0 hnx
      generalize (cs.getD k Ch0).2 = y at c1
      have hO5 := (((Own.of hrow1).keep (Upd.of_below ((Below.refl wr.heap.size wr).alloc (Nat.le_refl _) (.cells #[.int .i64 x, .int .i64 y] 31)) 0 0)).keep (Upd.of_below ((Below.refl _ (wr.alloc (.cells #[.int .i64 x, .int .i64 y] 31))).alloc (Nat.le_refl _) (.cells #[.int .i64 x] 3)) 0 0)).1
      have hB5 : Below w5.heap.size w5 ((wr.alloc (.cells #[.int .i64 x, .int .i64 y] 31)).alloc (.cells #[.int .i64 x] 3)) := ((unhide hbel).alloc (unhide hbel).size _).alloc (by have := (unhide hbel).size; simp; omega) _
      have hsz5 : Hid (w5.heap.size ≤ ((wr.alloc (.cells #[.int .i64 x, .int .i64 y] 31)).alloc (.cells #[.int .i64 x] 3)).heap.size) := hide hB5.size
      have hnew : Hid (∀ j u, ([.int .i64 x] : List Value)[j]? = some u → ((wr.alloc (.cells #[.int .i64 x, .int .i64 y] 31)).alloc (.cells #[.int .i64 x] 3)).cell? ((⟨wr.heap.size + 1, 0, none⟩ : Addr).add j) = some u) := hide (by
        intro j u hj
        have h := (heldF_new (wr.alloc (.cells #[.int .i64 x, .int .i64 y] 31)) [.int .i64 x] 3).1.2 j u hj
        rw [show (wr.alloc (.cells #[.int .i64 x, .int .i64 y] 31)).heap.size = wr.heap.size + 1 by simp] at h
        rw [add_cellC, Nat.zero_add]
        exact h)
      have hone : Hid (∀ u ∈ ([.int .i64 x] : List Value), u.oneCell' = true) := hide (by intro u hu; simp at hu; subst hu; rfl)
      have hk9 : k + 1 ≤ maxLen := by have := unhide hcl; unfold maxLen; omega
      have hk8 : (k + 1) * 8 ≤ 140737488355328 := by have := unhide hcl; omega
      replace hB5 := hide hB5
      clear hrow hbw2
      go_wp2_with (at_builtin; refine wpList_append_own _ rfl (.tmp 43) (.tmp 46) 29 rfl w5.heap.size 3 i0 (.int .i64 0) 1 8 Try.underlying29 hi hz0 hz1 hz2 rfl (by decide) _ _ _ rfl hO5 ⟨wr.heap.size + 1, 0, none⟩ 1 1 [.int .i64 x] rfl rfl (unhide hnew) (unhide hone) hk9 hk8 (unhide hsz5) ?_)
      intro v' w6 hown' hgrow _
      have hB6 := hide ((unhide hB5).grown hgrow (unhide hsz5) (fun k hk => (hO5.lt k hk).1))
      have hrow6 : Hid (w6.ownsRow w5.heap.size 3 1 v' (k + 1) (ints ((psOf cs).take (k + 1)))) := hide (by rw [unhide hnx, ints_appendC]; exact hown')
      clear hown' hgrow hO5 hB5 hsz5 hnew hone hnx hrow1 hbel c0 c1 hk8 hk9
      go_wp2
      go_roundw
      case rel => exact ⟨k + 1, _, rfl, by omega, by go_num, hrow6, hB6⟩
      case measure => simp [intOf]; omega
    · have hkl : k = cs.length := by omega
      have hkb : decide ((k : Int) < (cs.length : Int)) = false := decide_eq_false (by omega)
      have hpl : (psOf cs).length = cs.length := by unfold psOf; rw [List.length_map]
      have hrP : OwnI wr w5.heap.size wr.heap.size v (psOf cs) := by
        have h := unhide hrow
        rw [hkl, List.take_of_length_le (by rw [hpl]; exact Nat.le_refl _)] at h
        unfold OwnI
        rw [hpl]
        exact Own.of h
      have hr2 := OwnI.rd hrP
      obtain ⟨adp, capp, rfl, hAp⟩ := hr2
      have hr2 := hide (show RdI wr (.slice adp (psOf cs).length capp) (psOf cs) from ⟨adp, capp, rfl, hAp⟩)
      have hrb := hide (OwnY.rd ((unhide hO2).keep (Upd.of_below (unhide hbel) 0 0)))
      replace hbw := hide ((unhide hbw).trans ((unhide hbel).mono hw15))
      replace hB := hide ((unhide hB).trans ((unhide hbel).mono (unhide hB).size))
      clear hrow hAp hO2 hrP hbel
      replace hkl := hide hkl
      replace hpl := hide hpl
      go_wp2_with fail
      refine (unhide hUi _ _ wr (unhide hrb) (unhide hr2)).mono ?_
      rintro e w7 ⟨v7, rfl, hO7, hu7⟩
      replace hbw := hide (below_upd (unhide hbw) hu7 (Nat.le_refl _) (.inr (Nat.zero_le _)))
      replace hB := hide (below_upd (unhide hB) hu7 (Nat.le_refl _) (.inr (Nat.zero_le _)))
      clear hu7 hUi hrb hr2
      obtain ⟨E, bits, nx⟩ := U
      have u0' := unhide u0
      have u1' := unhide u1
      have u2' := unhide u2
      have u3' := unhide u3
      simp only at u0' u1' u2' u3'
      subst u0'
      subst u1'
      clear u0 u1 u2 u3
      obtain ⟨v8, rfl, hO8⟩ := hO7
      obtain ⟨adU, capU, rfl, hAU⟩ := OwnI.rd hO8
      simp only at hAU
      have hb2 := hide (fun (j : Nat) (hj : j < cs.length) => by
        obtain ⟨bu, ou, e, hbu, hcu⟩ := hAU (ne_of_lt_length (k := j) (by omega))
        exact (⟨bu, ou, e, hbu, hcu j (by omega)⟩ : ∃ bu ou, adU = some ⟨bu, ou, none⟩ ∧ bu < w7.heap.size ∧ w7.cell? ⟨bu, ou + j, none⟩ = some (.int .i64 (bits.getD j 0))))
      have hA9 := (Below.refl w7.heap.size w7).alloc (Nat.le_refl _) (.cells #[.int .i64 0, .slice adU cs.length capU, .int .i64 (bs.length : Int)] 33)
      have hCh := hide (heldF_new w7 [.int .i64 0, .slice adU cs.length capU, .int .i64 (bs.length : Int)] 33)
      unfold Cnv
      simp only
      rw [u2']
      replace u2' := hide u2'
      replace u3' := hide u3'
      have nb1 : ((bs.length : Int) != (bs.length : Int)) = false := by simp
      have nb2 : ((cs.length : Int) != (cs.length : Int)) = false := by simp
      replace hA9 := hide hA9
      clear hO8 hAU
      go_upto_region 17 with fail
      generalize w7.alloc (.cells #[.int .i64 0, .slice adU cs.length capU, .int .i64 (bs.length : Int)] 33) = w8 at hA9 hCh ⊢
      have k0 := (unhide hCh).1.2 0 _ rfl
      have k1 := (unhide hCh).1.2 1 _ rfl
      have k2 := (unhide hCh).1.2 2 _ rfl
      have hbw8 := hide ((unhide hbw).trans ((unhide hA9).mono (unhide hbw).size))
      have hB8 := hide ((unhide hB).trans ((unhide hA9).mono (unhide hB).size))
      go_wp2_with fail
      clear k0 k2
      go_loopw [73] (fun i wr => ∃ j : Nat, j ≤ cs.length ∧ i = .int .i64 j ∧ ∃ nq, wr = w8.drewN nq) (fun i _ => cs.length - (intOf i).toNat)
      case atStart => exact ⟨0, Nat.zero_le _, rfl, 0, rfl⟩
      case round =>
        obtain ⟨j, hj, rfl, nq, rfl⟩ := hrel
        by_cases hjlt : j < cs.length
        · have hjb : decide ((j : Int) < (cs.length : Int)) = true := decide_eq_true (by omega)
          have hj20 : j ≤ 20001 := by have := unhide hcl; omega
          obtain ⟨bu, ou, rfl, hbu, hcu⟩ := unhide hb2 j hjlt
          obtain ⟨bb, off, hse, hbl, hcl2⟩ := hC (ne_of_lt_length hjlt)
          have d1 : w8.cell? ⟨bb, off + j * 2 + 1, none⟩ = some (.int .i64 (cs.getD j Ch0).2) := ((unhide hbw8).cell (by simpa using hbl)).trans (hcl2 j hjlt).2
          have d2 : w8.cell? ⟨bu, ou + j, none⟩ = some (.int .i64 (cs.getD j Ch0).2) := by
            rw [← unhide u3' j hjlt]
            exact ((unhide hA9).cell (by simpa using hbu)).trans hcu
          subst hse
          generalize (cs.getD j Ch0).2 = y at d1 d2
          have hkI : (0 : Int) ≤ (j : Int) := by omega
          have hkL : (j : Int) < (cs.length : Int) := by omega
          clear hcu hcl2 hbu hbl
          go_wp2_with fail
          go_quiet (fail)
          go_wp2
          go_roundw
          case rel => exact ⟨j + 1, by omega, by go_num, _, rfl⟩
          case measure => simp [intOf]; omega
        · have hjb : decide ((j : Int) < (cs.length : Int)) = false := decide_eq_false (by omega)
          have hc := unhide hcost
          have hd : K.tdiv 8 = K / 8 := Int.tdiv_eq_ediv_of_nonneg hcb.1
          have hcb2 := hcb
          obtain ⟨c0, c1⟩ := hcb2
          have hbl0 : (0 : Int) ≤ (bs.length : Int) := by omega
          have hbl1 : (bs.length : Int) ≤ 20005 := by have := unhide hbn; omega
          have hfin : decide (2048 * (bs.length : Int) ≤ K + K / 8 + 16384) = true := decide_eq_true hc
          replace hc := hide hc
          clear hcb hC
          go_wp2
          go_ret
          exact ⟨by first | rfl | rw [hfin], below_drewN (unhide hB8) nq⟩
theorem lawFnOdds (ad : Option Addr) (cap : Nat) (zs : List Int) (w : World) (hA : ArgY w ad zs) (hR : InB zs) :
    Calls Try.prog 3 #[.slice ad zs.length cap] w fun e w' => e = .returned (.bool true) ∧ Below w.heap.size w w' :=
  lawFnOddsB ad cap zs w ⟨hR, fun hne => by
    obtain ⟨b, off, e, hl, hc⟩ := hA hne
    exact ⟨b, off, e, hl, hc⟩⟩
end Go.Proofs.Ytpofmcepjmbmcaa

/- Opening an argument that is a byte string or a list of ints: what the form's reading of it says of cells. -/
namespace Go.Proofs.Ytpofmcepjmbmcaa
open Go.ChangeShapes Go.WideShapes Go.ChangeAt Go.RowKit

theorem Try.own : ownKnob Try.prog.godebug = none := by kernel_rfl
theorem Try.laidOut : laidOutB Try.prog = true := by kernel_rfl
theorem cellsY : Try.prog.cellsOf 5 = 1 := by kernel_rfl
theorem cellsI : Try.prog.cellsOf 3 = 1 := by kernel_rfl
theorem i64_of_wf {x : Int} (h : (Lit.int .i64 x).wf = true) : -9223372036854775808 ≤ x ∧ x ≤ 9223372036854775807 := by
  simp [Lit.wf, IntKind.min, IntKind.max, IntKind.signed, IntKind.bits] at h
  exact ⟨by omega, by omega⟩
theorem u64_of_wf {x : Int} (h : (Lit.int .u64 x).wf = true) : 0 ≤ x ∧ x ≤ 18446744073709551615 := by
  simp [Lit.wf, IntKind.min, IntKind.max, IntKind.signed, IntKind.bits] at h
  exact ⟨by omega, by omega⟩
theorem u8_of_wf {x : Int} (h : (Lit.int .u8 x).wf = true) : 0 ≤ x ∧ x < 256 := by
  simp [Lit.wf, IntKind.min, IntKind.max, IntKind.signed, IntKind.bits] at h
  exact ⟨by omega, by omega⟩

set_option maxRecDepth 100000 in
theorem open_byts {H : Type} {enc : TypeId × Value → H} {W : World} {base : Nat} {v : Value} {d : DataW H} {p : List MemPlace}
    (hv : Value.okWide Try.prog W .any base 22 v) (h0 : DataW.Trod enc Try.prog W 0 (fun _ => true) true 22 v d p) (hlt : ∀ x ∈ p, x.block < W.heap.size) :
    ∃ ad cap zs, v = .slice ad zs.length cap ∧ ArgY W ad zs ∧ InB zs := by
  obtain ⟨a0, len, cap, rfl⟩ := okWide_slice Try.underlying22 hv
  obtain ⟨fuel, hf⟩ := h0
  rcases open_ints Try.underlying22 Try.underlying5 cellsY hf with ⟨hcs, hx⟩ | ⟨a, len', cap', zs, hcs, _, hl, hm, hz, hx, hcell, hwz⟩
  · simp [Value.cells] at hcs
    obtain ⟨rfl, rfl, rfl⟩ := hcs
    exact ⟨none, 0, [], rfl, fun h => absurd rfl h, fun j => by simp⟩
  · simp [Value.cells] at hcs
    obtain ⟨rfl, rfl, rfl⟩ := hcs
    simp only [Prod.mk.injEq] at hx
    obtain ⟨rfl, rfl⟩ := hx
    simp only [if_true] at hz
    have hlen : (zs.take len).length = len := by rw [List.length_take]; omega
    have hget : ∀ j, j < len → (zs.take len).getD j 0 = zs.getD j 0 := fun j hj => by
      rw [List.getD_eq_getElem?_getD, List.getD_eq_getElem?_getD, List.getElem?_take, if_pos hj]
    refine ⟨some a, cap, zs.take len, by rw [hlen], ?_, ?_⟩
    · intro hne
      have hpos : 0 < len := by
        rcases Nat.eq_zero_or_pos len with h | h
        · subst h; simp at hne
        · exact h
      obtain ⟨b, off, spot⟩ := a
      have hspot : spot = none := by simpa [Addr.add] using World.cell?_spot (hcell 0 (by omega))
      subst hspot
      refine ⟨b, off, rfl, hlt (.cell b off) (MemPlace.mem_row.2 ⟨0, by omega, by simp⟩), fun j hj => ?_⟩
      rw [hget j (by omega), ← add_plain]
      exact hcell j (by omega)
    · intro j
      by_cases hj : j < len
      · rw [hget j hj, List.getD_eq_getElem?_getD, List.getElem?_eq_getElem (by omega)]
        exact u8_of_wf (hwz _ (List.getElem_mem _))
      · rw [List.getD_eq_getElem?_getD, List.getElem?_eq_none (by omega)]; simp

set_option maxRecDepth 100000 in
theorem open_intl {H : Type} {enc : TypeId × Value → H} {W : World} {base : Nat} {v : Value} {d : DataW H} {p : List MemPlace}
    (hv : Value.okWide Try.prog W .any base 29 v) (h0 : DataW.Trod enc Try.prog W 0 (fun _ => true) true 29 v d p) (hlt : ∀ x ∈ p, x.block < W.heap.size) :
    ∃ ad cap zs, v = .slice ad zs.length cap ∧ ArgI W ad zs ∧ InI zs := by
  obtain ⟨a0, len, cap, rfl⟩ := okWide_slice Try.underlying29 hv
  obtain ⟨fuel, hf⟩ := h0
  rcases open_ints Try.underlying29 Try.underlying3 cellsI hf with ⟨hcs, hx⟩ | ⟨a, len', cap', zs, hcs, _, hl, hm, hz, hx, hcell, hwz⟩
  · simp [Value.cells] at hcs
    obtain ⟨rfl, rfl, rfl⟩ := hcs
    exact ⟨none, 0, [], rfl, fun h => absurd rfl h, fun j => by simp⟩
  · simp [Value.cells] at hcs
    obtain ⟨rfl, rfl, rfl⟩ := hcs
    simp only [Prod.mk.injEq] at hx
    obtain ⟨rfl, rfl⟩ := hx
    simp only [if_true] at hz
    have hlen : (zs.take len).length = len := by rw [List.length_take]; omega
    have hget : ∀ j, j < len → (zs.take len).getD j 0 = zs.getD j 0 := fun j hj => by
      rw [List.getD_eq_getElem?_getD, List.getD_eq_getElem?_getD, List.getElem?_take, if_pos hj]
    refine ⟨some a, cap, zs.take len, by rw [hlen], ?_, ?_⟩
    · intro hne
      have hpos : 0 < len := by
        rcases Nat.eq_zero_or_pos len with h | h
        · subst h; simp at hne
        · exact h
      obtain ⟨b, off, spot⟩ := a
      have hspot : spot = none := by simpa [Addr.add] using World.cell?_spot (hcell 0 (by omega))
      subst hspot
      refine ⟨b, off, rfl, hlt (.cell b off) (MemPlace.mem_row.2 ⟨0, by omega, by simp⟩), fun j hj => ?_⟩
      rw [hget j (by omega), ← add_plain]
      exact hcell j (by omega)
    · intro j
      by_cases hj : j < len
      · rw [hget j hj, List.getD_eq_getElem?_getD, List.getElem?_eq_getElem (by omega)]
        exact i64_of_wf (hwz _ (List.getElem_mem _))
      · rw [List.getD_eq_getElem?_getD, List.getElem?_eq_none (by omega)]; simp
end Go.Proofs.Ytpofmcepjmbmcaa
