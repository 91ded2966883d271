/- The texts behind FnExactOddsPack, part 2: what each of them says stands at its head. -/
import Derived.Test.YtocoeodoihdkgaaGOddsPack1
import Derived.Great.BuildSlice
import Derived.ProofKit
import Derived.Deep.SlicePairs
/- Structs with a long row inside, built. -/
namespace Go.Proofs.Ytocoeodoihdkgaa
open Go.RowKit

theorem fold_fill : ∀ (xs : List Value) (off i : Nat) (cs : Array Value), off + i + xs.length ≤ cs.size →
    ((xs.zipIdx i).foldl (fun cs (p : Value × Nat) => cs.setIfInBounds (off + p.2) p.1) cs).toList = cs.toList.take (off + i) ++ xs ++ cs.toList.drop (off + i + xs.length)
  | [], off, i, cs, _ => by simp
  | x :: xs, off, i, cs, h => by
    simp only [List.length_cons] at h
    rw [List.zipIdx_cons, List.foldl_cons, fold_fill xs off (i + 1) _ (by simp; omega)]
    have hlt : off + i < cs.toList.length := by simp; omega
    simp only [Array.toList_setIfInBounds, List.length_cons]
    rw [show off + (i + 1) = off + i + 1 by omega]
    have e1 : (cs.toList.set (off + i) x).take (off + i + 1) = cs.toList.take (off + i) ++ [x] := by
      rw [List.take_succ_eq_append_getElem (by simpa using hlt)]
      rw [List.getElem_set_self, List.take_set_of_le (Nat.le_refl _)]
    have e2 : (cs.toList.set (off + i) x).drop (off + i + 1 + xs.length) = cs.toList.drop (off + i + (xs.length + 1)) := by
      rw [List.drop_set_of_lt (by omega)]; congr 1; omega
    rw [e1, e2, List.append_assoc, List.append_assoc, List.append_assoc]; rfl
theorem built_struct {P : Program} {t : TypeId} {it : TypeInfo} {z : Value} {fields : Array Field} {places : List (Nat × Nat)} {parts : List (Nat × Value)} (hi : P.info? t = some it) (hz : it.zero = some z) (hu : P.underlying t = some (.struct fields))
    (hp : fields.toList.mapM (fun f => (P.info? f.type).map fun i => (f.offset, i.size)) = some places) : P.built t parts = Instr.fill (places.toArray[·]?) z.cells parts := by
  unfold Program.built; simp [hi, hz, hu, hp]
theorem fill_step {place : Nat → Option (Nat × Nat)} {xs : List Value} {v : Value} {i off : Nat} {cs : List Value} {rest : List (Nat × Value)} (hv : v.cells = xs.toArray) (hp : place i = some (off, xs.length)) (hl : off + xs.length ≤ cs.length) :
    Instr.fill place cs.toArray ((i, v) :: rest) = Instr.fill place (cs.take off ++ xs ++ cs.drop (off + xs.length)).toArray rest := by
  have h := fold_fill xs off 0 cs.toArray (by simpa using hl)
  rw [Nat.add_zero] at h
  have e : ((xs.zipIdx 0).foldl (fun cs (p : Value × Nat) => cs.setIfInBounds (off + p.2) p.1) cs.toArray) = (cs.take off ++ xs ++ cs.drop (off + xs.length)).toArray := by
    apply Array.ext'
    rw [h]
  rw [Instr.fill]
  simp only [hp, hv]
  rw [if_neg (by simp; omega)]
  rw [← e]
  congr 1
  simp
theorem fillOne {place : Nat → Option (Nat × Nat)} {cs : Array Value} : Instr.fill place cs [] = some cs := rfl
theorem info_at {t : TypeId} {z : Value} {n : Nat} (h : (Try.prog.info? t).map (fun i => (i.zero, i.size)) = some (some z, n)) : ∃ it, Try.prog.info? t = some it ∧ it.zero = some z := by
  cases he : Try.prog.info? t with
  | none => rw [he] at h; cases h
  | some it => rw [he] at h; simp only [Option.map_some, Option.some.injEq, Prod.mk.injEq] at h; exact ⟨it, rfl, h.1⟩
theorem infoOr : (Try.prog.info? 89).map (fun i => (i.zero, i.size)) = some (some (.agg (List.replicate 512 (Value.int .u16 0) ++ [Value.int .u32 0]).toArray), 513) := by kernel_rfl
def rngV (s : Int → Int) (n : Int) : List Value := oddsV s ++ [.int .u32 n]
theorem rngV_len (s : Int → Int) (n : Int) : (rngV s n).length = 513 := by simp [rngV]
theorem fill_two (L M : List Value) (m : Nat) (hL : L.length = m) (hM : M.length = m) (a b : Value) (hb : b.cells = [b].toArray) (place : Nat → Option (Nat × Nat)) (h0 : place 0 = some (0, m)) (h1 : place 1 = some (m, 1)) :
    Instr.fill place (L ++ [a]).toArray [(0, .agg M.toArray), (1, b)] = some (M ++ [b]).toArray := by
  rw [fill_step (xs := M) (off := 0) rfl (by rw [h0, hM]) (by simp; omega)]
  rw [List.take_zero, List.nil_append, Nat.zero_add, hM, ← hL, List.drop_left]
  rw [fill_step (xs := [b]) (off := m) hb h1 (by simp; omega), fillOne]
  rw [List.take_left' hM, List.drop_eq_nil_of_le (by simp; omega), List.append_nil]
theorem fill_first (L M T : List Value) (m : Nat) (hL : L.length = m) (hM : M.length = m) (place : Nat → Option (Nat × Nat)) (h0 : place 0 = some (0, m)) :
    Instr.fill place (L ++ T).toArray [(0, .agg M.toArray)] = some (M ++ T).toArray := by
  rw [fill_step (xs := M) (off := 0) rfl (by rw [h0, hM]) (by simp; omega), fillOne]
  rw [List.take_zero, List.nil_append, Nat.zero_add, hM, ← hL, List.drop_left]
theorem builtOr (s : Int → Int) (n : Int) : Try.prog.built 89 [(0, .agg (oddsV s).toArray), (1, .int .u32 n)] = some (rngV s n).toArray := by
  obtain ⟨it, h1, h2⟩ := info_at infoOr
  rw [built_struct (places := [(0, 512), (512, 1)]) h1 h2 Try.underlying89 (by kernel_rfl)]
  exact fill_two _ (oddsV s) 512 (List.length_replicate ..) (oddsV_length s) _ _ rfl _ rfl rfl
theorem infoOw : (Try.prog.info? 92).map (fun i => (i.zero, i.size)) = some (some (.agg ((List.replicate 512 (Value.int .u16 0) ++ [Value.int .u32 0]) ++ [Value.int .u32 0, Value.slice none 0 0]).toArray), 515) := by kernel_rfl
theorem builtOw (s : Int → Int) (n : Int) : Try.prog.built 92 [(0, .agg (rngV s n).toArray)] = some (oddsV s ++ [Value.int .u32 n, Value.int .u32 0, Value.slice none 0 0]).toArray := by
  obtain ⟨it, h1, h2⟩ := info_at infoOw
  rw [built_struct (places := [(0, 513), (513, 1), (514, 1)]) h1 h2 Try.underlying92 (by kernel_rfl)]
  refine (fill_first _ (rngV s n) _ 513 (by rw [List.length_append, List.length_replicate]; rfl) (rngV_len s n) _ rfl).trans ?_
  unfold rngV
  rw [List.append_assoc]; rfl
end Go.Proofs.Ytocoeodoihdkgaa

/- Odds: the program's OddsPack. -/
namespace Go.Proofs.Ytocoeodoihdkgaa
open Go.RowKit

def rng0 : List Value := rngV odds0 4294967295
theorem sizeOr : (Try.prog.info? 89).map (·.size) = some 513 := (zero_of_info infoOr).2
theorem sizeOw : (Try.prog.info? 92).map (·.size) = some 515 := (zero_of_info infoOw).2
theorem oneRow (s : Int → Int) (tl : List Value) (ht : ∀ v ∈ tl, v.oneCell' = true) : (oddsV s ++ tl).toArray.all (·.oneCell') = true := by
  rw [Array.all_eq_true_iff_forall_mem]
  intro v hv
  simp only [List.mem_toArray, List.mem_append] at hv
  rcases hv with hv | hv
  · simp only [oddsV, List.mem_map] at hv
    obtain ⟨x, _, rfl⟩ := hv
    rfl
  · exact ht v hv
set_option maxHeartbeats 4000000 in
set_option maxRecDepth 1000000 in
theorem implStartRange (w : World) :
    Calls Try.prog 59 #[] w fun e w' => e = .returned (.agg rng0.toArray) ∧ Upd 0 0 w w' := by
  obtain ⟨z, hz0, hz⟩ : ∃ z : Array Value, z.size = 513 ∧ ∀ w, (zeroValue 89).run Try.prog w = .ok (.agg z) w := ⟨_, by rw [List.size_toArray, List.length_append, List.length_replicate]; rfl, (zero_of_info infoOr).1⟩
  have hsz : (Try.prog.info? 89).map (·.size) = some 513 := sizeOr
  have hS := hide (fun X => implStartOdds X)
  have hone : Hid (rng0.toArray.all (·.oneCell') = true) := hide (by unfold rng0 rngV; exact oneRow odds0 [Value.int .u32 4294967295] (fun v hv => by rw [List.mem_singleton] at hv; rw [hv]; rfl))
  have hcs : Hid ((Try.prog.info? 89).map (·.size) = some rng0.toArray.size) := hide (hsz.trans (by unfold rng0; rw [List.size_toArray, rngV_len]))
  have hcz : Hid (z.size = rng0.toArray.size) := hide (hz0.trans (by unfold rng0; rw [List.size_toArray, rngV_len]))
  have hbt : Try.prog.built 89 [(0, .agg (oddsV odds0).toArray), (1, .int .u32 4294967295)] = some rng0.toArray := builtOr odds0 4294967295
  have hB0 := hide ((Below.refl w.heap.size w).alloc (Nat.le_refl _) (.cells z 89))
  have hr0 := hide (heap_alloc_new w (.cells z 89))
  generalize hRR : rng0.toArray = R at hone hcs hcz hbt ⊢
  clear hz0 hsz hRR
  replace hbt := hide hbt
  go_enter Try.func59, Try.ntmps59
  go_wp2_with fail
  generalize w.alloc (.cells z 89) = w0 at hB0 hr0 ⊢
  refine (unhide hS _).mono ?_
  rintro e w1 ⟨rfl, hu1⟩
  have hr1 := hide ((hu1.block w.heap.size (by have := (Array.getElem?_eq_some_iff.1 (unhide hr0)).1; omega) (.inr (Nat.zero_le _))).trans (unhide hr0))
  have hB1 := hide (below_upd (unhide hB0) hu1 (Nat.le_refl _) (.inr (Nat.le_refl _)))
  clear hu1 hr0 hB0 hz
  rename_i aK
  refine aK _ _ ?_
  refine wpList_buildTo rfl 89 _ rfl _ rfl R ?hf ?_
  case hf =>
    simp only [List.map_toArray, List.map_cons, List.map_nil]
    exact unhide hbt
  refine wpList_store_row rfl 89 (.tmp 0) (.tmp 2) rfl w.heap.size R rfl rfl 89 z (unhide hr1) (unhide hcs) (unhide hcz) (unhide hone) ?_
  have hres := hide (setRow_heap w1 w.heap.size z R 89 (0, 0) (unhide hr1))
  have hb2 := hide (below_setRow (unhide hB1) (Nat.le_refl _) R)
  generalize w1.setRow w.heap.size R = w2 at hres hb2 ⊢
  clear hr1 hB1 hbt hone aK
  go_wp2_with fail
  refine bodyPost_ret (v := .agg R) (results_cell_row rfl _ _ w.heap.size 89 R (0, 0) _ rfl (unhide hres) Try.underlying89 rfl (unhide hcs)) rfl ⟨rfl, Upd.of_below (unhide hb2) 0 0⟩
end Go.Proofs.Ytocoeodoihdkgaa

/- Odds: the program's OddsPack, whole. -/
namespace Go.Proofs.Ytocoeodoihdkgaa
open Go.RowKit

theorem odAt_rowR {W : World} {g : Nat} {s : Int → Int} {t : TypeId} {rest : List Value} (h : W.heap[g]? = some (.cells (oddsV s ++ rest).toArray t (0, 0))) : OdAt W g s rest := by
  refine ⟨⟨(Array.getElem?_eq_some_iff.1 h).1, fun j v hj => ?_⟩, fun j => frozen_of_row _ _ _ _ _ h⟩
  rw [cell_of_row _ _ _ _ _ _ h, List.getElem?_toArray]
  exact hj
set_option maxHeartbeats 8000000 in
set_option maxRecDepth 100000 in
theorem implFinish (g base : Nat) (s : Int → Int) (v : Value) (r : Rg) (W : World) (hg : g < base) (hbb : base ≤ W.heap.size) (h : WrR W g base s v r) (hn : r.out.length ≤ 20000) :
    Calls Try.prog 61 #[.pointer (some ⟨g, 0, none⟩)] W fun e w' => ∃ v', e = .returned v' ∧ TRow w' base v' (shiftsF r 4).out ∧ KpO g v W w' := by
  have hsl := hide (shiftsF_len r)
  have hte := hide (told_end r 4 (by omega))
  have h0 := hide (show WrR W g base s v (shiftsF r 0) from h)
  clear h
  go_enter Try.func61, Try.ntmps61
  go_wp2_with fail
  go_loopw [3] (fun i wx => ∃ (m : Nat) (u : Value), i = .int .i64 (m : Int) ∧ m ≤ 4 ∧ Hid (WrR wx g base s u (shiftsF r m)) ∧ Hid (KpO g v W wx) ∧ Hid (FreshV W v u)) (fun i _ => 4 - (intOf i).toNat)
  case atStart => exact ⟨0, v, rfl, by omega, h0, hide (KpO.refl _ _ _), hide (FreshV.refl _ _)⟩
  case round =>
    clear h0
    obtain ⟨m, u, rfl, hm, hO, hkp, hfr⟩ := hrel
    have hsz := (unhide hkp).size
    by_cases hm4 : m < 4
    · have t4 : decide ((m : Int) < 4) = true := decide_eq_true (by omega)
      have hln := unhide hsl m
      go_wp2_with fail
      refine (implShiftR g base s u (shiftsF r m) wr hg (by omega) (unhide hO) (by omega)).mono ?_
      rintro e w4 ⟨rfl, v4, hO4, hkp4, hfr4⟩
      have hkp5 := hide ((unhide hkp).trans (unhide hfr) hkp4)
      have hfr5 := hide ((unhide hfr).trans hfr4 (by omega))
      rw [← shiftsF_succ] at hO4
      replace hO4 := hide hO4
      clear hkp4 hO hkp hfr4 hfr hln
      go_wp2_with fail
      go_roundw
      case rel => exact ⟨m + 1, v4, by go_num, by omega, hO4, hkp5, hfr5⟩
      case measure => simp [intOf]; omega
    · obtain rfl : m = 4 := by omega
      have c0 : wr.cell? ⟨g, 514, none⟩ = some u := (unhide hO).1.back 2 _ rfl
      have ho : Hid (TRow wr base u (shiftsF r 4).out) := hide (by
        have h := (unhide hO).2
        rw [unhide hte] at h
        exact h)
      clear hO
      go_wp2
      go_ret
      exact ⟨_, rfl, unhide ho, unhide hkp⟩
set_option maxHeartbeats 16000000 in
set_option maxRecDepth 1000000 in
theorem implOddsPack (p : Int) (v : Value) (cs : List Ch) (w : World) (hp0 : -9223372036854775808 ≤ p) (hp1 : p ≤ 9223372036854775807) (hn : cs.length ≤ 1048576) (_hR : InCh cs) (hv : RdCh w v cs) :
    Calls Try.prog 17 #[.int .i64 p, v] w fun e w' => ∃ u, e = .returned u ∧ OwnY w' w.heap.size w'.heap.size u (oddsPack p cs) ∧ Upd 0 0 w w' := by
  have hG := hide (implGoodChoices p v cs w hn hv)
  obtain ⟨ad, cap, rfl, hA⟩ := hv
  by_cases hok : oddsB p cs = true
  case neg =>
    have hok : oddsB p cs = false := by simpa using hok
    have hE := hide (show oddsPack p cs = [] by unfold oddsPack; rw [hok]; rfl)
    rw [hok] at hG
    clear hok hA
    go_enter Try.func17, Try.ntmps17
    go_wp2_with fail
    refine (unhide hG).mono ?_
    rintro e w1 ⟨rfl, hu⟩
    replace hu := hide hu
    clear hG
    go_wp2
    go_ret
    exact ⟨_, rfl, by rw [unhide hE]; exact ⟨World.ownsRow_nil _ _ _ _, fun k hk => by simp [Value.ownBlock] at hk⟩, unhide hu⟩
  have hE := hide (show oddsPack p cs = packL cs by unfold oddsPack; rw [hok]; rfl)
  rw [hok] at hG
  obtain ⟨⟨hp1', hp512⟩, hlen, hch⟩ := (oddsB_iff _ _).1 hok
  have hS := hide (fun X => implStartRange X)
  obtain ⟨z, hz0, hz⟩ : ∃ z : Array Value, z.size = 515 ∧ ∀ w, (zeroValue 92).run Try.prog w = .ok (.agg z) w := ⟨_, by rw [List.size_toArray, List.length_append, List.length_append, List.length_replicate]; rfl, (zero_of_info infoOw).1⟩
  obtain ⟨R, hRR⟩ : ∃ R, (oddsV odds0 ++ [Value.int .u32 4294967295, Value.int .u32 0, Value.slice none 0 0]).toArray = R := ⟨_, rfl⟩
  have hRl : R.size = 515 := by rw [← hRR, List.size_toArray, List.length_append, oddsV_length]; rfl
  have hbt := hide (show Try.prog.built 92 [(0, .agg rng0.toArray)] = some R from (builtOw odds0 4294967295).trans (by rw [hRR]))
  have hone : Hid (R.all (·.oneCell') = true) := hide (by
    rw [← hRR]
    exact oneRow odds0 _ (fun v hv => by simp only [List.mem_cons, List.not_mem_nil, or_false] at hv; rcases hv with rfl | rfl | rfl <;> rfl))
  have hcs : Hid ((Try.prog.info? 92).map (·.size) = some R.size) := hide (sizeOw.trans (by rw [hRl]))
  have hcz : Hid (z.size = R.size) := hide (hz0.trans hRl.symm)
  have hRR := hide hRR
  replace hch := hide hch
  replace hA := hide hA
  clear hok hRl hz0
  generalize hrr : rng0.toArray = RR at hS hbt
  clear hrr
  go_enter Try.func17, Try.ntmps17
  go_wp2_with fail
  refine (unhide hG).mono ?_
  rintro e w1 ⟨rfl, hu1⟩
  replace hu1 := hide hu1
  clear hG
  go_wp2_with fail
  refine (unhide hS _).mono ?_
  rintro e w2 ⟨rfl, hu2⟩
  have hu := hide ((unhide hu1).trans hu2)
  clear hu1 hu2
  rename_i aK
  refine aK _ _ ?_
  refine wpList_buildTo rfl 92 _ rfl _ rfl R ?hf ?_
  case hf =>
    simp only [List.map_toArray, List.map_cons, List.map_nil]
    exact unhide hbt
  clear aK
  go_upto_region 4 with (first | (refine wpList_store_row rfl 92 (.tmp 5) (.tmp 13) rfl w2.heap.size R rfl rfl 92 z (heap_alloc_new w2 _) (unhide hcs) (unhide hcz) (unhide hone) ?_))
  have hb3 : Below w2.heap.size w2 ((w2.alloc (.cells z 92)).setRow w2.heap.size R) := below_setRow ((Below.refl w2.heap.size w2).alloc (Nat.le_refl _) _) (Nat.le_refl _) _
  have hrow := setRow_heap (w2.alloc (.cells z 92)) w2.heap.size z R 92 (0, 0) (heap_alloc_new w2 _)
  generalize (w2.alloc (.cells z 92)).setRow w2.heap.size R = W3 at hrow hb3 ⊢
  rw [← unhide hRR] at hrow
  have hod := odAt_rowR hrow
  have hgl := hod.lt
  have hs2 := (unhide hu).size
  have hB := hide ((unhide hu).none.trans (hb3.mono hs2))
  generalize w2.heap.size = g at hs2 hod hB hgl ⊢
  have hw3 : Hid (WrR W3 g (g + 1) (oddsK cs 0) (.slice none 0 0) (rgK cs 0)) := hide ⟨hod, TRow.empty _ _⟩
  have hsz3 : g + 1 ≤ W3.heap.size := by omega
  clear hz hcs hcz hone hu hb3 hbt hrow hod hS hRR hgl
  go_wp2_with fail
  go_loopw [16, 7] (fun i _ wr => ∃ (k : Nat) (v : Value), i = .int .i64 (k : Int) ∧ k ≤ cs.length ∧ Hid (WrR wr g (g + 1) (oddsK cs k) v (rgK cs k)) ∧ Hid (Below w.heap.size w wr) ∧ g + 1 ≤ wr.heap.size) (fun i _ _ => cs.length - (intOf i).toNat)
  case atStart => exact ⟨0, _, rfl, by omega, hw3, hB, hsz3⟩
  case round =>
    clear hB hw3 hsz3
    obtain ⟨k, v, rfl, hk, hO, hB, hsz⟩ := hrel
    by_cases hkl : k < cs.length
    · obtain ⟨bb, off, rfl, hbl, hcl⟩ := (unhide hA) (ne_of_lt_length hkl)
      obtain ⟨c0, c1⟩ := hcl k hkl
      replace c0 := ((unhide hB).cell (by simpa using hbl)).trans c0
      replace c1 := ((unhide hB).cell (by simpa using hbl)).trans c1
      have hck := unhide hch k hkl
      have hso := oddsK_succ cs k
      have hrg := rgK_succ cs k
      have hrok := rgK_ok cs k
      have hlnk := rgK_len cs k
      have hSk : SOk (oddsK cs k) := oddsK_bd cs k
      rw [show cs.getD k Ch0 = cs.getD k (0, 0) from rfl] at c0 c1
      generalize cs.getD k (0, 0) = c at c0 c1 hck hso hrg
      obtain ⟨x, y⟩ := c
      obtain ⟨⟨x0, x1⟩, y0, y1⟩ := hck
      obtain ⟨q, rfl⟩ := Int.eq_ofNat_of_zero_le x0
      have hq : q < 512 := by simp at x1; omega
      replace c0 : wr.cell? ⟨bb, off + k * 2, none⟩ = some (.int .i64 (q : Int)) := c0
      replace c1 : wr.cell? ⟨bb, off + k * 2 + 1, none⟩ = some (.int .i64 y) := c1
      replace hrg : rgK cs (k + 1) = putF (rgK cs k) (oddsK cs k (q : Int)) y := hrg
      have hP := hide (fun X (hs : g + 1 ≤ X.heap.size) (h : WrR X g (g + 1) (oddsK cs k) v (rgK cs k)) => implPut g (g + 1) q y (oddsK cs k) v (rgK cs k) X (by omega) hs h hrok hSk hq y0 y1 (by omega))
      rw [← hrg, ← hso] at hP
      have hal := Upd.of_below ((Below.refl wr.heap.size wr).alloc (Nat.le_refl _) (.cells #[.int .i64 (q : Int), .int .i64 y] 38)) 0 0
      have hO1 := hide ((unhide hO).keep hal)
      have hcc := heldF_new wr [.int .i64 (q : Int), .int .i64 y] 38
      have hB1 := hide (below_upd (unhide hB) hal (Nat.le_refl _) (.inr (Nat.le_refl _)))
      have hs1 : g + 1 ≤ (wr.alloc (.cells #[.int .i64 (q : Int), .int .i64 y] 38)).heap.size := by simp; omega
      have hvb := hide ((unhide hO).2.block)
      replace hcc := hide hcc
      clear hal hO hB hcl x1 hso hrg hrok hSk hlnk
      have kI : decide ((k : Int) < (cs.length : Int)) = true := decide_eq_true (by omega)
      go_upto_region 7 with fail
      simp only [List.toArray] at hcc
      generalize wr.alloc (.cells #[.int .i64 (q : Int), .int .i64 y] 38) = wn at hO1 hcc hB1 hs1 ⊢
      generalize wr.heap.size = cb at hcc hvb hsz ⊢
      have d0 := (unhide hcc).1.2 0 _ rfl
      have d1 := (unhide hcc).1.2 1 _ rfl
      clear c0 c1
      go_wp2_with fail
      refine (unhide hP _ hs1 (unhide hO1)).mono ?_
      rintro e w3 ⟨rfl, v3, hO3, hkp3, _⟩
      have hB3 := hide (hkp3.below (unhide hB1) (Nat.le_refl _) hs2 (fun b hb => by have := (unhide hvb _ hb).1; omega))
      have hs3 : g + 1 ≤ w3.heap.size := by have := hkp3.size; omega
      replace hO3 := hide hO3
      clear d0 d1 hO1 hB1 hcc hkp3 hP hvb
      go_wp2_with fail
      go_roundw
      case rel => exact ⟨k + 1, v3, by go_num, by omega, hO3, hB3, hs3⟩
      case measure => simp [intOf]; omega
    · obtain rfl : k = cs.length := by omega
      have kI : decide ((cs.length : Int) < (cs.length : Int)) = false := decide_eq_false (by omega)
      have hlnk := rgK_len cs cs.length
      have hpl : Hid ((shiftsF (rgK cs cs.length) 4).out = packL cs) := hide rfl
      have hF := hide (implFinish g (g + 1) _ v (rgK cs cs.length) wr (by omega) hsz (unhide hO) (by omega))
      have hvb := hide ((unhide hO).2.block)
      generalize (shiftsF (rgK cs cs.length) 4).out = L at hpl hF
      clear hO
      go_wp2_with fail
      refine (unhide hF).mono ?_
      rintro e w5 ⟨u, rfl, hr5, hkp5⟩
      have hB5 := hide (Upd.of_below (hkp5.below (unhide hB) (Nat.le_refl _) hs2 (fun b hb => by have := (unhide hvb _ hb).1; omega)) 0 0)
      have ho : Hid (OwnY w5 w.heap.size w5.heap.size u (packL cs)) := hide (by
        have h := hr5
        unfold TRow at h
        rw [unhide hpl] at h
        exact own_mono (Own.of h) (by omega) (Nat.le_refl _))
      clear hr5 hkp5 hF
      go_wp2
      go_ret
      exact ⟨_, rfl, by rw [unhide hE]; exact unhide ho, unhide hB5⟩
end Go.Proofs.Ytocoeodoihdkgaa

/- Lists of Choices: the walks of the laws' own marking of them. -/
namespace Go.Proofs.Ytocoeodoihdkgaa
open Go.RowKit

set_option maxHeartbeats 1000000 in
theorem markChoiceS_none (k : Nat) (w : World) : Calls Try.prog 44 #[.slice none 0 0, .int .i64 k] w fun e w' => e = .returned (.int .i64 (k : Int)) ∧ w' = w := by
  go_enter Try.func44, Try.ntmps44
  go_wp2
  go_loop [1, 5] (fun a i => a = .int .i64 k ∧ i = .int .i64 0) (fun _ _ => 0)
  case atStart => exact ⟨rfl, rfl⟩
  case round =>
    obtain ⟨rfl, rfl⟩ := hrel
    go_wp2
    go_ret
    exact ⟨rfl, rfl⟩

set_option maxHeartbeats 4000000 in
theorem markChoiceS_some (a g cap n k : Nat) (xs : List Value) (w : World) (hn : n ≤ 1048576) (hk : k ≤ 1099511627776) (h : w.ownsRow a 38 2 (.slice (some ⟨g, 0, none⟩) n cap) n xs) :
    Calls Try.prog 44 #[.slice (some ⟨g, 0, none⟩) n cap, .int .i64 k] w fun e w' => e = .returned (.int .i64 ((k + 2 * n : Nat) : Int)) ∧ w'.ownsRow a 38 2 (.slice (some ⟨g, 0, none⟩) n cap) n (cellsCh (marksCh k n)) ∧ Upd g (g + 1) w w' := by
  go_enter Try.func44, Try.ntmps44
  go_wp2
  go_loopw [1, 5] (fun c i wr => ∃ t : Nat, ∃ ys, t ≤ n ∧ c = .int .i64 ((k + 2 * t : Nat) : Int) ∧ i = .int .i64 t ∧ wr.ownsRow a 38 2 (.slice (some ⟨g, 0, none⟩) n cap) n ys ∧ Hid (RowCh ys (marksCh k n) t) ∧ Upd g (g + 1) w wr) (fun _ i _ => n - (intOf i).toNat)
  case atStart => exact ⟨0, xs, Nat.zero_le _, rfl, rfl, h, fun j hj => by omega, Upd.refl _ _ _⟩
  case round =>
    clear h
    obtain ⟨t, ys, ht, rfl, rfl, hown, hrow, hupd⟩ := hrel
    have hlen : ys.length = n * 2 := hown.1
    by_cases hlt : t < n
    · have e0 : ∃ a, wr.cell? ⟨g, t * 2, none⟩ = some a := by rw [hown.cellAt _ (by omega)]; exact ⟨_, List.getElem?_eq_getElem (by omega)⟩
      have e1 : ∃ a, wr.cell? ⟨g, t * 2 + 1, none⟩ = some a := by rw [hown.cellAt _ (by omega)]; exact ⟨_, List.getElem?_eq_getElem (by omega)⟩
      obtain ⟨a0, e0⟩ := e0
      obtain ⟨a1, e1⟩ := e1
      have f0 := hown.frozenAt (t * 2)
      have f1 := hown.frozenAt (t * 2 + 1)
      have hst := hide (show ∀ p0 p1 : Value, ((wr.setCell ⟨g, t * 2, none⟩ (p0)).setCell ⟨g, t * 2 + 1, none⟩ (p1)).ownsRow a 38 2 (.slice (some ⟨g, 0, none⟩) n cap) n ((ys.set (t * 2) (p0)).set (t * 2 + 1) (p1)) from fun p0 p1 => ((hown.stored (t * 2) p0).1.stored (t * 2 + 1) p1).1)
      have ho2 := hide (show ∀ p0 p1 : Value, Upd g (g + 1) w ((wr.setCell ⟨g, t * 2, none⟩ (p0)).setCell ⟨g, t * 2 + 1, none⟩ (p1)) from fun p0 p1 => ((hupd.setCell (r := g) ⟨Nat.le_refl _, by omega⟩ _ p0).setCell (r := g) ⟨Nat.le_refl _, by omega⟩ _ p1))
      have hrow2 : Hid (RowCh ((ys.set (t * 2) (.int .i64 ((k + 2 * t : Nat) : Int))).set (t * 2 + 1) (.int .i64 ((k + 2 * t + 1 : Nat) : Int))) (marksCh k n) (t + 1)) := by
        intro j hj
        by_cases e : j = t
        · subst e
          rw [marksCh_at k n j hlt]
          refine ⟨?_, ?_⟩
          · rw [List.getElem?_set_ne (by omega), List.getElem?_set_self (by first | omega | (simp; omega))]
          · rw [List.getElem?_set_self (by first | omega | (simp; omega))]
        · have := unhide hrow j (by omega)
          refine ⟨?_, ?_⟩
          · rw [List.getElem?_set_ne (by omega), List.getElem?_set_ne (by omega)]; exact this.1
          · rw [List.getElem?_set_ne (by omega), List.getElem?_set_ne (by omega)]; exact this.2
      have hv0 : ((k + 2 * t : Nat) : Int) = (k : Int) + 2 * (t : Int) := by omega
      have hv1 : ((k + 2 * t + 1 : Nat) : Int) = (k : Int) + 2 * (t : Int) + 1 := by omega
      rw [hv0, hv1] at hrow2
      clear hv0 hv1
      replace hlen := hide hlen
      clear hown hupd hrow
      go_wp2
      go_roundw
      case rel => exact ⟨t + 1, _, by omega, by go_num, by go_num, unhide hst _ _, hrow2, unhide ho2 _ _⟩
      case measure => simp [intOf]; omega
    · have htn : t = n := by omega
      subst htn
      have he := cellsCh_of (ps := marksCh k t) (by rw [marksCh_length]; exact hlen) (by rw [marksCh_length]; exact unhide hrow)
      rw [he] at hown
      replace hown := hide hown
      clear hrow he hlen
      go_wp2
      go_ret
      exact ⟨rfl, unhide hown, hupd⟩
theorem markChoiceS_own (a b : Nat) (v : Value) (k : Nat) (ps : List Ch) (w : World) (hn : ps.length ≤ 1048576) (hk : k ≤ 1099511627776) (h : OwnCh w a b v ps) :
    Calls Try.prog 44 #[v, .int .i64 k] w fun e w' => e = .returned (.int .i64 ((k + 2 * ps.length : Nat) : Int)) ∧ OwnCh w' a b v (marksCh k ps.length) ∧ Upd a b w w' := by
  rcases h.1.2 with ⟨rfl, h0⟩ | ⟨g, cap, cur, rfl, h1, h2, h3⟩
  · refine (markChoiceS_none k w).mono ?_
    rintro e w' ⟨rfl, rfl⟩
    rw [h0]
    exact ⟨rfl, ⟨World.ownsRow_nil _ _ _ _, fun k hk => by simp [Value.ownBlock] at hk⟩, Upd.refl _ _ _⟩
  · have hb := h.2 g rfl
    refine (markChoiceS_some a g cap ps.length k _ w hn hk h.1).mono ?_
    rintro e w' ⟨rfl, ho, hu⟩
    refine ⟨rfl, ⟨?_, h.2⟩, ⟨hu.os, hu.tape, hu.output, hu.size, fun i hi hn => hu.block i hi (by omega)⟩⟩
    rw [marksCh_length]; exact ho

set_option maxHeartbeats 4000000 in
theorem heldChoiceS_own (a b : Nat) (v : Value) (k n : Nat) (w : World) (hn : n ≤ 1048576) (hk : k ≤ 1099511627776) (h : OwnCh w a b v (marksCh k n)) :
    Calls Try.prog 53 #[v, .int .i64 k] w fun e w' => e = .returned (.int .i64 ((k + 2 * n : Nat) : Int)) ∧ w' = w := by
  obtain ⟨ad, cap, rfl, hA⟩ := h.rd
  rw [marksCh_length]
  replace hA := hide hA
  clear h
  go_enter Try.func53, Try.ntmps53
  go_wp2
  go_loop [1, 5] (fun a i => ∃ t : Nat, t ≤ n ∧ a = .int .i64 ((k + 2 * t : Nat) : Int) ∧ i = .int .i64 t) (fun _ i => n - (intOf i).toNat)
  case atStart => exact ⟨0, Nat.zero_le _, rfl, rfl⟩
  case round =>
    obtain ⟨t, ht, rfl, rfl⟩ := hrel
    by_cases hlt : t < n
    · obtain ⟨b', off, rfl, hbl, hc⟩ := (unhide hA) (ne_of_lt_length (k := t) (by simpa using hlt))
      obtain ⟨d0, d1⟩ := hc t (by simpa using hlt)
      rw [marksCh_at k n t hlt] at d0 d1
      simp only at d0 d1
      have hv0 : ((k + 2 * t : Nat) : Int) = (k : Int) + 2 * (t : Int) := by omega
      have hv1 : ((k + 2 * t + 1 : Nat) : Int) = (k : Int) + 2 * (t : Int) + 1 := by omega
      rw [hv0] at d0
      rw [hv1] at d1
      clear hc hA hv0 hv1
      go_wp2
      go_round
      case rel => exact ⟨t + 1, by omega, by go_num, by go_num⟩
      case measure => simp [intOf]; omega
    · have htn : t = n := by omega
      subst htn
      go_wp2
      go_ret
      exact ⟨rfl, rfl⟩
end Go.Proofs.Ytocoeodoihdkgaa

/- The law on OddsPack, walked: what it calls is told by the walks of the specification and of the program. -/
namespace Go.Proofs.Ytocoeodoihdkgaa
open Go.RowKit

set_option maxHeartbeats 1000000 in
theorem lawOddsPack_long1 (n0 : Int) (ad1 : Option Addr) (cap1 : Nat) (zs1 : List Ch) (w : World) (hz1 : zs1.length ≤ 9223372036854775807)  (_hn1 : 1048576 < zs1.length)  :
    Calls Try.prog 9 #[.int .i64 n0, .slice ad1 zs1.length cap1] w fun e w' => e = .returned (.bool true) ∧ Below w.heap.size w w' := by
  have hB := hide (Below.refl w.heap.size w)
  go_enter Try.func9, Try.ntmps9
  go_wp2_with fail
  refine (upd_of_same (szChoiceS_any ad1 zs1.length cap1 (1048576) w (by omega) (by omega) hz1)).mono ?_
  rintro e w1 ⟨rfl, hu⟩
  replace hB := hide (below_upd (unhide hB) hu (Nat.le_refl _) (.inr (Nat.le_refl _)))
  have hs1 : Hid (w.heap.size ≤ w1.heap.size) := hide hu.size
  clear hu
  rw [if_pos (by omega)]
  go_wp2
  go_ret
  exact ⟨rfl, unhide hB⟩

set_option maxHeartbeats 4000000 in
set_option maxRecDepth 100000 in
theorem lawOddsPack_short (n0 : Int) (ad1 : Option Addr) (cap1 : Nat) (zs1 : List Ch) (w : World)  (hz1 : zs1.length ≤ 9223372036854775807) (hn : zs1.length ≤ 1048576) (hl0 : -9223372036854775808 ≤ n0) (hh0 : n0 ≤ 9223372036854775807) (hA1 : ArgCh w ad1 zs1) (hR1 : InCh zs1) :
    Calls Try.prog 9 #[.int .i64 n0, .slice ad1 zs1.length cap1] w fun e w' => e = .returned (.bool true) ∧ Below w.heap.size w w' := by
  have hn1 : zs1.length ≤ 1048576 := by omega
  replace hA1 := hide hA1
  replace hR1 := hide hR1
  have hL := hide (oddsPack_big n0 zs1)
  have hB := hide (Below.refl w.heap.size w)
  go_enter Try.func9, Try.ntmps9
  have hleft0 : (0 : Int) ≤ 1048576 := by omega
  go_wp2_with fail
  refine (upd_of_same (szChoiceS_any ad1 zs1.length cap1 (1048576) w (by omega) (by omega) hz1)).mono ?_
  rintro e w1 ⟨rfl, hu⟩
  replace hB := hide (below_upd (unhide hB) hu (Nat.le_refl _) (.inr (Nat.le_refl _)))
  have hs1 : Hid (w.heap.size ≤ w1.heap.size) := hide hu.size
  clear hu
  rw [if_neg (by omega)]
  have hleft1 : ¬ (1048576 - (zs1.length : Int) < 0) := by omega
  go_wp2_with fail
  refine (toChoiceS_own ad1 cap1 zs1 w1 hn1 ((unhide hA1).below (unhide hB))).mono ?_
  rintro e w2 ⟨vy1_w0, rfl, ho, hu⟩
  replace hB := hide (below_upd (unhide hB) hu (Nat.le_refl _) (.inr (Nat.le_refl _)))
  have hs2 : Hid (w1.heap.size ≤ w2.heap.size) := hide hu.size
  have y1_w0 := hide ho
  clear hu ho
  go_wp2_with fail
  refine (specOddsPack n0 vy1_w0 zs1 w2  hl0 hh0 hn1 (unhide hR1) (OwnCh.rd (unhide y1_w0))).mono ?_
  rintro e w3 ⟨vr0, rfl, ho, hu⟩
  replace y1_w0 := hide ((unhide y1_w0).keep hu)
  replace hB := hide (below_upd (unhide hB) hu (Nat.le_refl _) (.inr (Nat.le_refl _)))
  have hs3 : Hid (w2.heap.size ≤ w3.heap.size) := hide hu.size
  have r0 := hide ho
  clear hu ho
  clear y1_w0
  go_wp2_with fail
  refine (toChoiceS_own ad1 cap1 zs1 w3 hn1 ((unhide hA1).below (unhide hB))).mono ?_
  rintro e w4 ⟨vx1, rfl, ho, hu⟩
  replace r0 := hide ((unhide r0).keep hu)
  replace hB := hide (below_upd (unhide hB) hu (Nat.le_refl _) (.inr (Nat.le_refl _)))
  have hs4 : Hid (w3.heap.size ≤ w4.heap.size) := hide hu.size
  have x1 := hide ho
  clear hu ho
  go_wp2_with fail
  refine (implOddsPack n0 vx1 zs1 w4  hl0 hh0 hn1 (unhide hR1) (OwnCh.rd (unhide x1))).mono ?_
  rintro e w5 ⟨vr1, rfl, ho, hu⟩
  replace r0 := hide ((unhide r0).keep hu)
  replace x1 := hide ((unhide x1).keep hu)
  replace hB := hide (below_upd (unhide hB) hu (Nat.le_refl _) (.inr (Nat.le_refl _)))
  have hs5 : Hid (w4.heap.size ≤ w5.heap.size) := hide hu.size
  have r1 := hide ho
  clear hu ho
  go_wp2_with fail
  refine (eqByteY_rd vr1 vr0 (oddsPack n0 zs1) w5 (unhide hL) (OwnY.rd (unhide r1)) (OwnY.rd (unhide r0))).mono ?_
  rintro e w6 ⟨rfl, hu⟩
  replace r0 := hide ((unhide r0).keep hu)
  replace x1 := hide ((unhide x1).keep hu)
  replace r1 := hide ((unhide r1).keep hu)
  replace hB := hide (below_upd (unhide hB) hu (Nat.le_refl _) (.inr (Nat.le_refl _)))
  have hs6 : Hid (w5.heap.size ≤ w6.heap.size) := hide hu.size
  clear hu
  go_wp2_with fail
  refine (toChoiceS_own ad1 cap1 zs1 w6 hn1 ((unhide hA1).below (unhide hB))).mono ?_
  rintro e w7 ⟨vz1, rfl, ho, hu⟩
  replace r0 := hide ((unhide r0).keep hu)
  replace x1 := hide ((unhide x1).keep hu)
  replace r1 := hide ((unhide r1).keep hu)
  replace hB := hide (below_upd (unhide hB) hu (Nat.le_refl _) (.inr (Nat.le_refl _)))
  have hs7 : Hid (w6.heap.size ≤ w7.heap.size) := hide hu.size
  have z1 := hide ho
  clear hu ho
  go_wp2_with fail
  refine (eqChoiceS_rd vx1 vz1 zs1 w7 hn1 (OwnCh.rd (unhide x1)) (OwnCh.rd (unhide z1))).mono ?_
  rintro e w8 ⟨rfl, hu⟩
  replace r0 := hide ((unhide r0).keep hu)
  replace x1 := hide ((unhide x1).keep hu)
  replace r1 := hide ((unhide r1).keep hu)
  replace z1 := hide ((unhide z1).keep hu)
  replace hB := hide (below_upd (unhide hB) hu (Nat.le_refl _) (.inr (Nat.le_refl _)))
  have hs8 : Hid (w7.heap.size ≤ w8.heap.size) := hide hu.size
  clear hu
  clear z1
  go_wp2_with fail
  refine (markChoiceS_own (w3.heap.size) (w4.heap.size) vx1 (1) zs1 w8 hn1 (by omega) (unhide x1)).mono ?_
  rintro e w9 ⟨rfl, ho, hu⟩
  replace r0 := hide ((unhide r0).upd hu (by have := unhide hs1; have := unhide hs2; have := unhide hs3; have := unhide hs4; have := unhide hs5; have := unhide hs6; have := unhide hs7; have := unhide hs8; omega))
  replace r1 := hide ((unhide r1).upd hu (by have := unhide hs1; have := unhide hs2; have := unhide hs3; have := unhide hs4; have := unhide hs5; have := unhide hs6; have := unhide hs7; have := unhide hs8; omega))
  replace hB := hide (below_upd (unhide hB) hu (Nat.le_refl _) (by have := unhide hs1; have := unhide hs2; have := unhide hs3; have := unhide hs4; have := unhide hs5; have := unhide hs6; have := unhide hs7; have := unhide hs8; omega))
  replace x1 := hide ho
  have hs9 : Hid (w8.heap.size ≤ w9.heap.size) := hide hu.size
  clear hu ho
  have hk0 : ¬ (((1 + 2 * zs1.length : Nat) : Int) < 0) := by omega
  go_wp2_with fail
  refine (eqByteY_rd vr1 vr0 (oddsPack n0 zs1) w9 (unhide hL) (OwnY.rd (unhide r1)) (OwnY.rd (unhide r0))).mono ?_
  rintro e w10 ⟨rfl, hu⟩
  replace r0 := hide ((unhide r0).keep hu)
  replace x1 := hide ((unhide x1).keep hu)
  replace r1 := hide ((unhide r1).keep hu)
  replace hB := hide (below_upd (unhide hB) hu (Nat.le_refl _) (.inr (Nat.le_refl _)))
  have hs10 : Hid (w9.heap.size ≤ w10.heap.size) := hide hu.size
  clear hu
  clear x1
  go_wp2_with fail
  refine (markByteY_own (w4.heap.size) (w5.heap.size) vr1 (1) (oddsPack n0 zs1) w10 (unhide hL) (by omega) (unhide r1)).mono ?_
  rintro e w11 ⟨rfl, ho, hu⟩
  replace r0 := hide ((unhide r0).upd hu (by have := unhide hs1; have := unhide hs2; have := unhide hs3; have := unhide hs4; have := unhide hs5; have := unhide hs6; have := unhide hs7; have := unhide hs8; have := unhide hs9; have := unhide hs10; omega))
  replace hB := hide (below_upd (unhide hB) hu (Nat.le_refl _) (by have := unhide hs1; have := unhide hs2; have := unhide hs3; have := unhide hs4; have := unhide hs5; have := unhide hs6; have := unhide hs7; have := unhide hs8; have := unhide hs9; have := unhide hs10; omega))
  replace r1 := hide ho
  have hs11 : Hid (w10.heap.size ≤ w11.heap.size) := hide hu.size
  clear hu ho
  go_wp2_with fail
  refine (upd_of_same (heldByteY_own (w4.heap.size) (w5.heap.size) vr1 1 (oddsPack n0 zs1).length w11 (unhide hL) (by omega) (unhide r1))).mono ?_
  rintro e w12 ⟨rfl, hu⟩
  replace r0 := hide ((unhide r0).keep hu)
  replace r1 := hide ((unhide r1).keep hu)
  replace hB := hide (below_upd (unhide hB) hu (Nat.le_refl _) (.inr (Nat.le_refl _)))
  have hs12 : Hid (w11.heap.size ≤ w12.heap.size) := hide hu.size
  clear hu
  have hq0 : ¬ (((1 + (oddsPack n0 zs1).length : Nat) : Int) < 0) := by omega
  go_wp2_with fail
  refine (toChoiceS_own ad1 cap1 zs1 w12 hn1 ((unhide hA1).below (unhide hB))).mono ?_
  rintro e w13 ⟨vy1_h0, rfl, ho, hu⟩
  replace r0 := hide ((unhide r0).keep hu)
  replace r1 := hide ((unhide r1).keep hu)
  replace hB := hide (below_upd (unhide hB) hu (Nat.le_refl _) (.inr (Nat.le_refl _)))
  have hs13 : Hid (w12.heap.size ≤ w13.heap.size) := hide hu.size
  have y1_h0 := hide ho
  clear hu ho
  go_wp2_with fail
  refine (implOddsPack n0 vy1_h0 zs1 w13  hl0 hh0 hn1 (unhide hR1) (OwnCh.rd (unhide y1_h0))).mono ?_
  rintro e w14 ⟨vr2, rfl, ho, hu⟩
  replace r0 := hide ((unhide r0).keep hu)
  replace r1 := hide ((unhide r1).keep hu)
  replace y1_h0 := hide ((unhide y1_h0).keep hu)
  replace hB := hide (below_upd (unhide hB) hu (Nat.le_refl _) (.inr (Nat.le_refl _)))
  have hs14 : Hid (w13.heap.size ≤ w14.heap.size) := hide hu.size
  have r2 := hide ho
  clear hu ho
  clear y1_h0
  go_wp2_with fail
  refine (eqByteY_rd vr2 vr0 (oddsPack n0 zs1) w14 (unhide hL) (OwnY.rd (unhide r2)) (OwnY.rd (unhide r0))).mono ?_
  rintro e w15 ⟨rfl, hu⟩
  replace r0 := hide ((unhide r0).keep hu)
  replace r1 := hide ((unhide r1).keep hu)
  replace r2 := hide ((unhide r2).keep hu)
  replace hB := hide (below_upd (unhide hB) hu (Nat.le_refl _) (.inr (Nat.le_refl _)))
  have hs15 : Hid (w14.heap.size ≤ w15.heap.size) := hide hu.size
  clear hu
  go_wp2_with fail
  refine (upd_of_same (heldByteY_own (w4.heap.size) (w5.heap.size) vr1 1 (oddsPack n0 zs1).length w15 (unhide hL) (by omega) (unhide r1))).mono ?_
  rintro e w16 ⟨rfl, hu⟩
  replace r0 := hide ((unhide r0).keep hu)
  replace r1 := hide ((unhide r1).keep hu)
  replace r2 := hide ((unhide r2).keep hu)
  replace hB := hide (below_upd (unhide hB) hu (Nat.le_refl _) (.inr (Nat.le_refl _)))
  have hs16 : Hid (w15.heap.size ≤ w16.heap.size) := hide hu.size
  clear hu
  go_wp2_with fail
  go_ret
  exact ⟨rfl, unhide hB⟩

theorem lawOddsPack (n0 : Int) (ad1 : Option Addr) (cap1 : Nat) (zs1 : List Ch) (w : World)  (hz1 : zs1.length ≤ 9223372036854775807) (hl0 : -9223372036854775808 ≤ n0) (hh0 : n0 ≤ 9223372036854775807) (hA1 : ArgCh w ad1 zs1) (hR1 : InCh zs1) :
    Calls Try.prog 9 #[.int .i64 n0, .slice ad1 zs1.length cap1] w fun e w' => e = .returned (.bool true) ∧ Below w.heap.size w w' := by
  by_cases h1 : 1048576 < zs1.length
  · exact lawOddsPack_long1 n0 ad1 cap1 zs1 w hz1 h1 
  exact lawOddsPack_short n0 ad1 cap1 zs1 w  hz1 (by omega) hl0 hh0 hA1 hR1
end Go.Proofs.Ytocoeodoihdkgaa

/- Opening an argument that is a byte string or a list of ints: what the form's reading of it says of cells. -/
namespace Go.Proofs.Ytocoeodoihdkgaa
open Go.ChangeShapes Go.WideShapes Go.ChangeAt Go.RowKit

theorem Try.own : ownKnob Try.prog.godebug = none := by kernel_rfl
theorem Try.laidOut : laidOutB Try.prog = true := by kernel_rfl
theorem cellsY : Try.prog.cellsOf 5 = 1 := by kernel_rfl
theorem cellsI : Try.prog.cellsOf 3 = 1 := by kernel_rfl
theorem i64_of_wf {x : Int} (h : (Lit.int .i64 x).wf = true) : -9223372036854775808 ≤ x ∧ x ≤ 9223372036854775807 := by
  simp [Lit.wf, IntKind.min, IntKind.max, IntKind.signed, IntKind.bits] at h
  exact ⟨by omega, by omega⟩
theorem u64_of_wf {x : Int} (h : (Lit.int .u64 x).wf = true) : 0 ≤ x ∧ x ≤ 18446744073709551615 := by
  simp [Lit.wf, IntKind.min, IntKind.max, IntKind.signed, IntKind.bits] at h
  exact ⟨by omega, by omega⟩
theorem u8_of_wf {x : Int} (h : (Lit.int .u8 x).wf = true) : 0 ≤ x ∧ x < 256 := by
  simp [Lit.wf, IntKind.min, IntKind.max, IntKind.signed, IntKind.bits] at h
  exact ⟨by omega, by omega⟩

set_option maxRecDepth 100000 in
theorem open_byts {H : Type} {enc : TypeId × Value → H} {W : World} {base : Nat} {v : Value} {d : DataW H} {p : List MemPlace}
    (hv : Value.okWide Try.prog W .any base 22 v) (h0 : DataW.Trod enc Try.prog W 0 (fun _ => true) true 22 v d p) (hlt : ∀ x ∈ p, x.block < W.heap.size) :
    ∃ ad cap zs, v = .slice ad zs.length cap ∧ ArgY W ad zs ∧ InB zs := by
  obtain ⟨a0, len, cap, rfl⟩ := okWide_slice Try.underlying22 hv
  obtain ⟨fuel, hf⟩ := h0
  rcases open_ints Try.underlying22 Try.underlying5 cellsY hf with ⟨hcs, hx⟩ | ⟨a, len', cap', zs, hcs, _, hl, hm, hz, hx, hcell, hwz⟩
  · simp [Value.cells] at hcs
    obtain ⟨rfl, rfl, rfl⟩ := hcs
    exact ⟨none, 0, [], rfl, fun h => absurd rfl h, fun j => by simp⟩
  · simp [Value.cells] at hcs
    obtain ⟨rfl, rfl, rfl⟩ := hcs
    simp only [Prod.mk.injEq] at hx
    obtain ⟨rfl, rfl⟩ := hx
    simp only [if_true] at hz
    have hlen : (zs.take len).length = len := by rw [List.length_take]; omega
    have hget : ∀ j, j < len → (zs.take len).getD j 0 = zs.getD j 0 := fun j hj => by
      rw [List.getD_eq_getElem?_getD, List.getD_eq_getElem?_getD, List.getElem?_take, if_pos hj]
    refine ⟨some a, cap, zs.take len, by rw [hlen], ?_, ?_⟩
    · intro hne
      have hpos : 0 < len := by
        rcases Nat.eq_zero_or_pos len with h | h
        · subst h; simp at hne
        · exact h
      obtain ⟨b, off, spot⟩ := a
      have hspot : spot = none := by simpa [Addr.add] using World.cell?_spot (hcell 0 (by omega))
      subst hspot
      refine ⟨b, off, rfl, hlt (.cell b off) (MemPlace.mem_row.2 ⟨0, by omega, by simp⟩), fun j hj => ?_⟩
      rw [hget j (by omega), ← add_plain]
      exact hcell j (by omega)
    · intro j
      by_cases hj : j < len
      · rw [hget j hj, List.getD_eq_getElem?_getD, List.getElem?_eq_getElem (by omega)]
        exact u8_of_wf (hwz _ (List.getElem_mem _))
      · rw [List.getD_eq_getElem?_getD, List.getElem?_eq_none (by omega)]; simp

set_option maxRecDepth 100000 in
theorem open_intl {H : Type} {enc : TypeId × Value → H} {W : World} {base : Nat} {v : Value} {d : DataW H} {p : List MemPlace}
    (hv : Value.okWide Try.prog W .any base 23 v) (h0 : DataW.Trod enc Try.prog W 0 (fun _ => true) true 23 v d p) (hlt : ∀ x ∈ p, x.block < W.heap.size) :
    ∃ ad cap zs, v = .slice ad zs.length cap ∧ ArgI W ad zs ∧ InI zs := by
  obtain ⟨a0, len, cap, rfl⟩ := okWide_slice Try.underlying23 hv
  obtain ⟨fuel, hf⟩ := h0
  rcases open_ints Try.underlying23 Try.underlying3 cellsI hf with ⟨hcs, hx⟩ | ⟨a, len', cap', zs, hcs, _, hl, hm, hz, hx, hcell, hwz⟩
  · simp [Value.cells] at hcs
    obtain ⟨rfl, rfl, rfl⟩ := hcs
    exact ⟨none, 0, [], rfl, fun h => absurd rfl h, fun j => by simp⟩
  · simp [Value.cells] at hcs
    obtain ⟨rfl, rfl, rfl⟩ := hcs
    simp only [Prod.mk.injEq] at hx
    obtain ⟨rfl, rfl⟩ := hx
    simp only [if_true] at hz
    have hlen : (zs.take len).length = len := by rw [List.length_take]; omega
    have hget : ∀ j, j < len → (zs.take len).getD j 0 = zs.getD j 0 := fun j hj => by
      rw [List.getD_eq_getElem?_getD, List.getD_eq_getElem?_getD, List.getElem?_take, if_pos hj]
    refine ⟨some a, cap, zs.take len, by rw [hlen], ?_, ?_⟩
    · intro hne
      have hpos : 0 < len := by
        rcases Nat.eq_zero_or_pos len with h | h
        · subst h; simp at hne
        · exact h
      obtain ⟨b, off, spot⟩ := a
      have hspot : spot = none := by simpa [Addr.add] using World.cell?_spot (hcell 0 (by omega))
      subst hspot
      refine ⟨b, off, rfl, hlt (.cell b off) (MemPlace.mem_row.2 ⟨0, by omega, by simp⟩), fun j hj => ?_⟩
      rw [hget j (by omega), ← add_plain]
      exact hcell j (by omega)
    · intro j
      by_cases hj : j < len
      · rw [hget j hj, List.getD_eq_getElem?_getD, List.getElem?_eq_getElem (by omega)]
        exact i64_of_wf (hwz _ (List.getElem_mem _))
      · rw [List.getD_eq_getElem?_getD, List.getElem?_eq_none (by omega)]; simp
end Go.Proofs.Ytocoeodoihdkgaa

/- Opening a list of Choices: what the form's reading of it says of cells. -/
namespace Go.Proofs.Ytocoeodoihdkgaa
open Go.ChangeShapes Go.WideShapes Go.ChangeAt Go.RowKit

theorem cellsRCh : Try.prog.cellsOf 113 = 2 := by kernel_rfl
theorem cellsRCht0 : Try.prog.cellsOf 3 = 1 := by kernel_rfl
theorem list_of_eachCh {α : Type} (d : α) (p : Nat → α → Prop) (n : Nat) (h : ∀ i, i < n → ∃ x, p i x) : ∃ l : List α, l.length = n ∧ ∀ i, i < n → p i (l.getD i d) := by
  induction n with
  | zero => exact ⟨[], rfl, fun i hi => by omega⟩
  | succ n ih =>
    obtain ⟨l, hl, hp⟩ := ih (fun i hi => h i (by omega))
    obtain ⟨x, hx⟩ := h n (by omega)
    refine ⟨l ++ [x], by simp [hl], fun i hi => ?_⟩
    rw [List.getD_eq_getElem?_getD]
    by_cases e : i < n
    · rw [List.getElem?_append_left (by omega), ← List.getD_eq_getElem?_getD]; exact hp i e
    · have : i = l.length := by omega
      subst this
      rw [List.getElem?_append_right (Nat.le_refl _), Nat.sub_self]
      rw [hl]; exact hx

set_option maxRecDepth 100000 in
theorem open_Ch_row {H : Type} {enc : TypeId × Value → H} {W : World} {fuel : Nat} {v : Value} {x : DataW H × List MemPlace}
    (hf : DataW.trod enc Try.prog W 0 (fun _ => true) true fuel 61 [v] = some x) (hlt : ∀ y ∈ x.2, y.block < W.heap.size) :
    ∃ ad cap ps, v = .slice ad ps.length cap ∧ ArgCh W ad ps ∧ ps.length ≤ 9223372036854775807 ∧ InCh ps := by
  rcases Go.Deep.open_slice Try.underlying61 hf with ⟨hcs, hx⟩ | ⟨a, len, cap, m, n, D, Pl, hcs, _, hl, hm, hmm, hx, hcell⟩
  · simp only [List.cons.injEq, and_true] at hcs
    subst hcs
    exact ⟨none, 0, [], rfl, fun h => absurd rfl h, by simp, fun j => by simp [Ch0]⟩
  · simp only [List.cons.injEq, and_true] at hcs
    subst hcs hx
    simp only [if_true] at hmm
    have each : ∀ i, i < len → ∃ x : Ch, W.cell? (a.add (i * 2)) = some (.int .i64 x.1) ∧ W.cell? (a.add (i * 2 + 1)) = some (.int .i64 x.2) ∧ (-9223372036854775808 ≤ x.1 ∧ x.1 ≤ 9223372036854775807) ∧ (-9223372036854775808 ≤ x.2 ∧ x.2 ≤ 9223372036854775807) := by
      intro i hi
      obtain ⟨cs', h1, h2⟩ := hcell i (by omega)
      rw [cellsRCh] at h1
      obtain ⟨_, hlen, hc⟩ := World.cells?_some h1
      obtain ⟨xs, k, hk, hxy, _, hxl, hfl⟩ := DataW.trod_struct Try.underlying113 h2
      match xs, hxl, cs', hlen with
      | [y0, y1], _, [v0, v1], _ =>
        have g0 := hfl 0 _ rfl
        have g1 := hfl 1 _ rfl
        simp [cellsRCht0] at g0 g1
        have e0 := hc 0 (by omega)
        have e1 := hc 1 (by omega)
        rw [Go.Deep.add_add] at e0 e1
        obtain ⟨n0, q0, _, w0⟩ := DataW.trod_int Try.underlying3 g0
        obtain ⟨n1, q1, _, w1⟩ := DataW.trod_int Try.underlying3 g1
        simp only [List.cons.injEq, and_true] at q0 q1
        subst q0 q1
        exact ⟨(n0, n1), by simpa using e0, by simpa using e1, i64_of_wf w0, i64_of_wf w1⟩
    obtain ⟨ps, hpl, hps⟩ := list_of_eachCh Ch0 _ len each
    refine ⟨some a, cap, ps, by rw [hpl], ?_, by rw [hpl]; unfold maxLen at hm; omega, ?_⟩
    · intro hne
      have hpos : 0 < len := by
        rcases Nat.eq_zero_or_pos len with h | h
        · subst h; exact absurd (List.length_eq_zero_iff.1 hpl) hne
        · exact h
      obtain ⟨b, off, spot⟩ := a
      have hspot : spot = none := by simpa [Addr.add] using World.cell?_spot (hps 0 hpos).1
      subst hspot
      refine ⟨b, off, rfl, hlt (.cell b off) (List.mem_append_left _ (MemPlace.mem_row.2 ⟨0, by rw [cellsRCh]; omega, by simp⟩)), fun j hj => ?_⟩
      rw [hpl] at hj
      have := hps j hj
      rw [add_plain, add_plain, ← Nat.add_assoc] at this
      exact ⟨this.1, this.2.1⟩
    · intro j
      by_cases hj : j < len
      · exact (hps j hj).2.2
      · rw [List.getD_eq_getElem?_getD, List.getElem?_eq_none (by omega)]; simp
set_option maxRecDepth 100000 in
theorem open_Chs {H : Type} {enc : TypeId × Value → H} {W : World} {base : Nat} {v : Value} {d : DataW H} {p : List MemPlace}
    (hv : Value.okWide Try.prog W .any base 61 v) (h0 : DataW.Trod enc Try.prog W 0 (fun _ => true) true 61 v d p) (hlt : ∀ x ∈ p, x.block < W.heap.size) :
    ∃ ad cap ps, v = .slice ad ps.length cap ∧ ArgCh W ad ps ∧ InCh ps ∧ ps.length ≤ 9223372036854775807 := by
  obtain ⟨a0, len, cap, rfl⟩ := okWide_slice Try.underlying61 hv
  obtain ⟨fuel, hf⟩ := h0
  obtain ⟨ad, cap', ps, e, hA, hl, hR⟩ := open_Ch_row (v := .slice a0 len cap) (by simpa [Value.cells] using hf) hlt
  exact ⟨ad, cap', ps, e, hA, hR, hl⟩
end Go.Proofs.Ytocoeodoihdkgaa
