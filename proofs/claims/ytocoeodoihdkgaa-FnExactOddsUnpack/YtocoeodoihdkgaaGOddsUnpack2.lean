/- The texts behind FnExactOddsUnpack, part 2: what each of them says stands at its head. -/
import Derived.Test.YtocoeodoihdkgaaGOddsUnpack1
import Derived.Great.BuildSlice
import Derived.Deep.DeepCutAuto
import Derived.ProofKit
/- Odds: the program's writer: a carry, a byte told. -/
namespace Go.Proofs.Ytocoeodoihdkgaa
open Go.RowKit

theorem carryTo_stepI (xs : List Int) (k : Nat) (y : Int) (hy : y = (xs.getD k 0 + 1) % 256) : carryTo xs (k + 1) = if y ≠ 0 then xs.set k y else carryTo (xs.set k y) k := by
  subst hy; rfl
theorem wrap_u8I (n : Int) : IntKind.u8.wrap n = n % 256 := by simp [IntKind.wrap, IntKind.bits, IntKind.signed]
theorem OdAt.kpO {w w' : World} {g c : Nat} {v : Value} {s : Int → Int} {rest : List Value} (h : OdAt w c s rest) (k : KpO g v w w') (hc : c ≠ g) (hv : some c ≠ v.ownBlock) : OdAt w' c s rest := HeldF.kpO h k hc hv
theorem KpO.updG {g : Nat} {v : Value} {w w' : World} (u : Upd g (g + 1) w w') : KpO g v w w' := ⟨u.os, u.tape, u.output, u.size, fun k hk hg _ => u.block k hk (by omega)⟩
/-- The program's writer. -/
def WrAt (W : World) (g base : Nat) (s : Int → Int) (rng low : Int) (v : Value) (xs : List Int) : Prop := OdAt W g s [.int .u32 rng, .int .u32 low, v] ∧ TRow W base v xs
theorem TRow.updG {w w' : World} {g base : Nat} {v : Value} {xs : List Int} (h : TRow w base v xs) (u : Upd g (g + 1) w w') (hg : g < base) : TRow w' base v xs := h.kept fun b hb => u.block b (h.block b hb).2 (by have := (h.block b hb).1; omega)
set_option maxHeartbeats 16000000 in
set_option maxRecDepth 100000 in
theorem implCarry (g base : Nat) (s : Int → Int) (rng low : Int) (v : Value) (out : List Int) (W : World) (hg : g < base) (h : WrAt W g base s rng low v out) (hn : out.length ≤ 30000) :
    Calls Try.prog 101 #[.pointer (some ⟨g, 0, none⟩)] W fun e w' => e = .returned (.tuple #[]) ∧ WrAt w' g base s rng low v (carryF out) ∧ KpO g v W w' := by
  obtain ⟨hh, hrow⟩ := h
  have c0 : W.cell? ⟨g, 514, none⟩ = some v := hh.back 2 _ rfl
  replace hh := hide hh
  replace hrow := hide hrow
  have hci : Hid (carryF out = carryTo out out.length) := hide rfl
  obtain ⟨ad, cp, rfl⟩ : ∃ ad cp, v = .slice ad out.length cp := by
    rcases (unhide hrow).2 with ⟨rfl, hz⟩ | ⟨b, cap, cur, rfl, _⟩
    · exact ⟨none, 0, by rw [hz]⟩
    · exact ⟨_, cap, rfl⟩
  go_enter Try.func101, Try.ntmps101
  go_wp2_with fail
  clear c0
  go_loopw [2] (fun i wr => ∃ (k : Nat) (xs : List Int), i = .int .i64 ((k : Int) - 1) ∧ k ≤ out.length ∧ xs.length = out.length ∧ Hid (carryTo xs k = carryTo out out.length) ∧ Hid (OdAt wr g s [.int .u32 rng, .int .u32 low, .slice ad out.length cp]) ∧ Hid (TRow wr base (.slice ad out.length cp) xs) ∧ Hid (KpO g (.slice ad out.length cp) W wr)) (fun i _ => (intOf i + 1).toNat)
  case atStart => exact ⟨out.length, out, rfl, Nat.le_refl _, rfl, hide rfl, hh, hrow, hide (KpO.refl _ _ _)⟩
  case round =>
    clear hh hrow
    obtain ⟨k, xs, rfl, hk, hxl, hca, hh, hrow, hkp⟩ := hrel
    cases k with
    | zero =>
      have tz : decide ((0 : Int) ≤ ((0 : Nat) : Int) - 1) = false := by decide
      have hcx := hide ((unhide hca).trans (unhide hci).symm)
      clear hca
      go_wp2
      go_end0
      exact ⟨rfl, ⟨unhide hh, by rw [← unhide hcx]; exact unhide hrow⟩, unhide hkp⟩
    | succ k =>
      have e1 : ((k + 1 : Nat) : Int) - 1 = (k : Int) := by omega
      rw [e1]
      clear e1
      have hxne : xs ≠ [] := ne_of_lt_length (show k < xs.length by omega)
      obtain ⟨b, cap, hv, hbb, hbl, hcells, hfz, hset⟩ := (unhide hrow).at hxne
      have hck := hcells k (by omega)
      have hfk := hfz k
      obtain ⟨y, hy⟩ : ∃ y, y = (xs.getD k 0 + 1) % 256 := ⟨_, rfl⟩
      have hwy : IntKind.u8.wrap (xs.getD k 0 + 1) = y := by rw [wrap_u8I, hy]
      have hst := hide (carryTo_stepI xs k y hy)
      have hs := hset k y
      have hbg : b ≠ g := by omega
      obtain ⟨rfl, rfl⟩ : ad = some ⟨b, 0, none⟩ ∧ cp = cap := by
        simp only [Value.slice.injEq] at hv; exact ⟨hv.1, hv.2.2⟩
      have hrow2 := hide hs.1
      have hkp2 := hide ((unhide hkp).trans (FreshV.refl _ _) (KpO.grown (g := g) hs.2))
      have hh2 := hide ((unhide hh).other (g' := b) hbg k (.int .u8 y))
      have c0 : wr.cell? ⟨g, 514, none⟩ = some _ := (unhide hh).back 2 _ rfl
      have kI : (k : Int) < (out.length : Int) := by omega
      have kD : decide ((0 : Int) ≤ (k : Int)) = true := decide_eq_true (by omega)
      generalize xs.getD k 0 = x at hck hwy hy
      clear hy hv hs hset hcells hfz
      go_upto_region 4 with fail
      have ck2 : (wr.setCell ⟨b, k, none⟩ (.int .u8 y)).cell? ⟨b, k, none⟩ = some (.int .u8 y) := World.cell?_setCell_same _ _ _ hck
      have c02 : (wr.setCell ⟨b, k, none⟩ (.int .u8 y)).cell? ⟨g, 514, none⟩ = some _ := (unhide hh2).back 2 _ rfl
      have hxl2 : (xs.set k y).length = out.length := by rw [List.length_set]; exact hxl
      generalize xs.set k y = ys at hrow2 hst hxl2
      generalize wr.setCell ⟨b, k, none⟩ (.int .u8 y) = w2 at hrow2 hkp2 hh2 ck2 c02 ⊢
      clear c0 hck hfk hwy hrow hkp hh
      by_cases hy0 : y = 0
      · have ty : (y == 0) = true := by simpa using hy0
        have hca2 := hide (show carryTo ys k = carryTo out out.length by rw [← unhide hca, unhide hst, if_neg (by simpa using hy0)])
        clear hy0 hst hca
        go_wp2_with fail
        go_roundw
        case rel => exact ⟨k, ys, by go_num, by omega, hxl2, hca2, hh2, hrow2, hkp2⟩
        case measure => first | (simp [intOf]; done) | (simp [intOf]; omega)
      · have ty : (y == 0) = false := by simpa using hy0
        have hcx := hide (show ys = carryF out by rw [unhide hci, ← unhide hca, unhide hst, if_pos hy0])
        clear hy0 hst hca
        go_wp2
        (try simp only [Exit.inBlock, Exit.then])
        refine bodyPost_ret (results_none rfl _ _ _) rfl ?_
        exact ⟨rfl, ⟨unhide hh2, by rw [← unhide hcx]; exact unhide hrow2⟩, unhide hkp2⟩
set_option maxHeartbeats 16000000 in
set_option maxRecDepth 100000 in
theorem implWShift (g base : Nat) (s : Int → Int) (rng low : Int) (v : Value) (xs : List Int) (wc : World) (hg : g < base) (hbb : base ≤ wc.heap.size) (h : WrAt wc g base s rng low v xs) (l0 : 0 ≤ low) (l1 : low ≤ 4294967295) (hn : xs.length ≤ 30000) :
    Calls Try.prog 104 #[.pointer (some ⟨g, 0, none⟩)] wc fun e w' => e = .returned (.tuple #[]) ∧ ∃ v', WrAt w' g base s rng (low * 256 % 4294967296) v' (xs ++ [low / 16777216]) ∧ KpO g v wc w' ∧ FreshV wc v v' := by
  obtain ⟨hh, hrow⟩ := h
  obtain ⟨bt, hbt⟩ : ∃ bt, low / 16777216 = bt := ⟨_, rfl⟩
  have hwb : IntKind.u8.wrap bt = bt := by rw [wrap_u8I]; omega
  obtain ⟨nl, hnl⟩ : ∃ nl, low * 256 % 4294967296 = nl := ⟨_, rfl⟩
  have hwr : IntKind.u32.wrap (low * 256) = nl := by rw [← hnl]; simp [IntKind.wrap, IntKind.bits, IntKind.signed]
  rw [hbt, hnl]
  replace hnl := hide hnl
  have q2 : wc.cell? ⟨g, 514, none⟩ = some v := hh.back 2 _ rfl
  have q1 : wc.cell? ⟨g, 513, none⟩ = some (.int .u32 low) := hh.back 1 _ rfl
  have hgw : g < wc.heap.size := hh.lt
  replace hh := hide hh
  replace hrow := hide hrow
  go_enter Try.func104, Try.ntmps104
  go_wp2_with fail
  go_region_law (refine step_appT rfl (.tmp 6) (.tmp 13) rfl g base v xs (oddsV s ++ [.int .u32 rng, .int .u32 low, v]) bt (unhide hh) (unhide hrow) hg (by omega) hbb (Upd.of_below (by repeat (first | exact Below.refl _ _ | refine Below.alloc ?_ (by simp) _ | refine Below.drew ?_)) 0 0) rfl _ _ rfl (by simp) ?_; intro ad6 cp6 w6 hrow6 hh6 hkp6 hfr6; have c60 : w6.cell? ⟨g, 514, none⟩ = some v := OdAt.back (rest := [.int .u32 rng, .int .u32 low, v]) hh6 2 _ rfl; have f60 := hh6.2 514; replace hrow6 := hide hrow6; replace hkp6 := hide hkp6; replace hfr6 := hide hfr6; replace hh6 := hide (show OdAt w6 g s [.int .u32 rng, .int .u32 low, v] from hh6))
  all_goals
    have hh7 := hide (show OdAt (w6.setCell ⟨g, 514, none⟩ (.slice ad6 (xs.length + 1) cp6)) g s [.int .u32 rng, .int .u32 low, .slice ad6 (xs.length + 1) cp6] from (unhide hh6).setBack 2 (by simp) (.slice ad6 (xs.length + 1) cp6))
    have hrow7 := hide ((unhide hrow6).head (j := 514) (u := .slice ad6 (xs.length + 1) cp6) hg)
    have hkp7 := hide ((unhide hkp6).trans (unhide hfr6) (KpO.head g 514 _ (.slice ad6 (xs.length + 1) cp6) w6))
    clear hh6 hrow6 hkp6 c60 f60 q1 q2 hh hrow
    go_upto_region 1 with fail
    generalize w6.setCell ⟨g, 514, none⟩ (.slice ad6 (xs.length + 1) cp6) = w7 at hh7 hrow7 hkp7 ⊢
    have q1 : w7.cell? ⟨g, 513, none⟩ = some (.int .u32 low) := (unhide hh7).back 1 _ rfl
    have f1 := (unhide hh7).frozen 513
    have hh8 := hide (show OdAt (w7.setCell ⟨g, 513, none⟩ (.int .u32 nl)) g s [.int .u32 rng, .int .u32 nl, .slice ad6 (xs.length + 1) cp6] from (unhide hh7).setBack 1 (by simp) (.int .u32 nl))
    have hrow8 := hide ((unhide hrow7).head (j := 513) (u := .int .u32 nl) hg)
    have hkp8 := hide ((unhide hkp7).trans (unhide hfr6) (KpO.head g 513 _ (.int .u32 nl) w7))
    clear hh7 hrow7 hkp7
    replace hrow8 := hide (show TRow (w7.setCell ⟨g, 513, none⟩ (.int .u32 nl)) base (.slice ad6 (xs.length + 1) cp6) (xs ++ [bt]) from unhide hrow8)
    go_wp2
    go_end0
    exact ⟨rfl, .slice ad6 (xs.length + 1) cp6, ⟨unhide hh8, unhide hrow8⟩, unhide hkp8, unhide hfr6⟩
end Go.Proofs.Ytocoeodoihdkgaa

/- Odds: the program's reader: a byte taken. -/
namespace Go.Proofs.Ytocoeodoihdkgaa
open Go.RowKit

/-- The program's reader. -/
def RrAt (W : World) (g : Nat) (s : Int → Int) (dv : Value) (r : Rd) : Prop := OdAt W g s [.int .u32 r.rng, dv, .int .i64 (r.at_ : Int), .int .u32 r.code, .int .i64 r.err]
/-- A block that is a row of so many cells. -/
def RowOf (W : World) (g : Nat) (t : TypeId) (n : Nat) : Prop := ∃ cs, W.heap[g]? = some (.cells cs t (0, 0)) ∧ cs.size = n
/-- One block changes, and stays a row. -/
structure UpdR (g : Nat) (w w' : World) : Prop where
  u : Upd g (g + 1) w w'
  row : ∀ t n, RowOf w g t n → RowOf w' g t n
theorem UpdR.trans {g : Nat} {w w1 w2 : World} (h1 : UpdR g w w1) (h2 : UpdR g w1 w2) : UpdR g w w2 := ⟨h1.u.trans h2.u, fun t n h => h2.row t n (h1.row t n h)⟩
theorem updR_in {g : Nat} {w w' : World} (u : Upd 0 0 w w') : UpdR g w w' := ⟨⟨u.os, u.tape, u.output, u.size, fun k hk _ => u.block k hk (.inr (Nat.zero_le _))⟩, fun _ _ ⟨cs, h1, h2⟩ => ⟨cs, (u.block g (Array.getElem?_eq_some_iff.1 h1).1 (.inr (Nat.zero_le _))).trans h1, h2⟩⟩
theorem updR_set (w : World) (g j : Nat) (v : Value) : UpdR g w (w.setCell ⟨g, j, none⟩ v) := ⟨upd_setCell w g j v, fun t _ ⟨cs, h1, h2⟩ => ⟨_, heap_setCell_same w g j cs t v h1, by simpa using h2⟩⟩
theorem or_byte (c y : Nat) (hc : c ≤ 16777215) (hy : y ≤ 255) : bits .or .u32 ((c * 256 : Nat) : Int) (y : Int) = ((c * 256 + y : Nat) : Int) := by
  have h : c * 256 ||| y = c * 256 + y := by
    have h1 := Nat.shiftLeft_add_eq_or_of_lt (show y < 2 ^ 8 by omega) c
    rw [Nat.shiftLeft_eq] at h1
    exact h1.symm
  go_bits2
set_option maxHeartbeats 16000000 in
set_option maxRecDepth 100000 in
theorem implRShift (g : Nat) (s : Int → Int) (ad : Option Addr) (cap : Nat) (ds : List Int) (r : Rd) (W : World) (h : RrAt W g s (.slice ad ds.length cap) r) (hA : ArgY W ad ds) (hd : ByteOk ds) (hn : ds.length ≤ 1048576) (ha : r.at_ ≤ ds.length) (c0 : 0 ≤ r.code) (c1 : r.code ≤ 16777215 ∨ ds.length ≤ r.at_) (he : r.err = 0 ∨ r.err = 2) :
    Calls Try.prog 109 #[.pointer (some ⟨g, 0, none⟩)] W fun e w' => e = .returned (.tuple #[]) ∧ RrAt w' g s (.slice ad ds.length cap) (byteF ds r) ∧ UpdR g W w' := by
  obtain ⟨rng, code, at_, err⟩ := r
  simp only at ha c0 c1 he
  have hh := hide (show OdAt W g s [.int .u32 rng, .slice ad ds.length cap, .int .i64 (at_ : Int), .int .u32 code, .int .i64 err] from h)
  have hgl := h.lt
  clear h
  unfold byteF
  simp only
  by_cases hl : ds.length ≤ at_
  · rw [if_pos hl]
    have hal : at_ = ds.length := by omega
    have t1 : ((at_ : Int) == (ds.length : Int)) = true := by simp; omega
    have hE : (if err = 0 then (2 : Int) else err) = 2 := by rcases he with rfl | rfl <;> rfl
    rw [hE]
    clear hE he
    have g1 := odds_back s [.int .u32 rng, .slice ad ds.length cap, .int .i64 (at_ : Int), .int .u32 code, .int .i64 err] 1 _ rfl
    have g2 := odds_back s [.int .u32 rng, .slice ad ds.length cap, .int .i64 (at_ : Int), .int .u32 code, .int .i64 err] 2 _ rfl
    have k1 := fun X : UpdT W => (((unhide hh).1.updT X).2 513 _ g1)
    have k2 := fun X : UpdT W => (((unhide hh).1.updT X).2 514 _ g2)
    clear hl hA g1 g2
    subst hal
    go_enter Try.func109, Try.ntmps109
    go_wp2_with fail
    refine wq_region_tail 9 (by kernel_rfl) (by kernel_rfl) ?_
    simp only [List.take_succ_cons, List.take_zero, List.drop_succ_cons, List.drop_zero]
    iterate 9
      refine WQ.step (fun K hK => ?_)
      go_simp
      refine hK _ ?_
      clear hK K
    refine WQ.nil ?_
    rintro _ ⟨X, rfl⟩
    clear k1 k2
    have hX := X.upd
    generalize X.to = wt at hX ⊢
    have hh2 := hide ((unhide hh).keep hX)
    have hu : Hid (UpdR g W wt) := hide (updR_in hX)
    clear hX hh
    have e5 : wt.cell? ⟨g, 516, none⟩ = some (.int .i64 err) := (unhide hh2).back 4 _ rfl
    have f5 := (unhide hh2).frozen 516
    have hh3 := hide (show OdAt (wt.setCell ⟨g, 516, none⟩ (.int .i64 2)) g s [.int .u32 rng, .slice ad ds.length cap, .int .i64 (ds.length : Int), .int .u32 code, .int .i64 2] from (unhide hh2).setBack 4 (by simp) (.int .i64 2))
    have hu3 := hide ((unhide hu).trans (updR_set wt g 516 (.int .i64 2)))
    clear hh2 hu
    go_wp2
    (try simp only [Exit.inBlock, Exit.then])
    refine bodyPost_ret (results_none rfl _ _ _) rfl ?_
    exact ⟨rfl, unhide hh3, unhide hu3⟩
  · rw [if_neg hl]
    obtain ⟨bb, off, rfl, hbl, hcl⟩ := hA (ne_of_lt_length (show at_ < ds.length by omega))
    have hbyte := hcl at_ (by omega)
    have hd1 := hd at_
    have c16 : code ≤ 16777215 := by omega
    generalize ds.getD at_ 0 = y at hbyte hd1 ⊢
    obtain ⟨y0, y1⟩ := hd1
    obtain ⟨c, rfl⟩ := Int.eq_ofNat_of_zero_le c0
    obtain ⟨b, rfl⟩ := Int.eq_ofNat_of_zero_le y0
    have t1 : ((at_ : Int) == (ds.length : Int)) = false := by simp; omega
    have hai : (at_ : Int) < (ds.length : Int) := by omega
    have hw1 : IntKind.u32.wrap ((c : Int) * 256) = ((c * 256 : Nat) : Int) := by simp [IntKind.wrap, IntKind.bits, IntKind.signed]; omega
    have hw3 : IntKind.u32.wrap (b : Int) = (b : Int) := by simp [IntKind.wrap, IntKind.bits, IntKind.signed]; omega
    have hor := or_byte c b (by omega) (by omega)
    have hnc : ((c : Int) * 256 + (b : Int)) = ((c * 256 + b : Nat) : Int) := by simp
    rw [hnc]
    generalize c * 256 + b = nc at hor hnc ⊢
    generalize c * 256 = c2 at hor hw1
    replace hnc := hide hnc
    have g1 := odds_back s [.int .u32 rng, .slice (some ⟨bb, off, none⟩) ds.length cap, .int .i64 (at_ : Int), .int .u32 (c : Int), .int .i64 err] 1 _ rfl
    have g2 := odds_back s [.int .u32 rng, .slice (some ⟨bb, off, none⟩) ds.length cap, .int .i64 (at_ : Int), .int .u32 (c : Int), .int .i64 err] 2 _ rfl
    have g3 := odds_back s [.int .u32 rng, .slice (some ⟨bb, off, none⟩) ds.length cap, .int .i64 (at_ : Int), .int .u32 (c : Int), .int .i64 err] 3 _ rfl
    have k1 := fun X : UpdT W => (((unhide hh).1.updT X).2 513 _ g1)
    have k2 := fun X : UpdT W => (((unhide hh).1.updT X).2 514 _ g2)
    replace g1 := hide g1
    replace g2 := hide g2
    replace g3 := hide g3
    clear hl hcl
    go_enter Try.func109, Try.ntmps109
    go_wp2_with fail
    refine wq_region_tail 9 (by kernel_rfl) (by kernel_rfl) ?_
    simp only [List.take_succ_cons, List.take_zero, List.drop_succ_cons, List.drop_zero]
    iterate 9
      refine WQ.step (fun K hK => ?_)
      go_simp
      refine hK _ ?_
      clear hK K
    refine WQ.nil ?_
    rintro _ ⟨X, rfl⟩
    clear k1 k2
    have hX := X.upd
    generalize X.to = wt at hX ⊢
    have hh2 := hide ((unhide hh).keep hX)
    have hu : Hid (UpdR g W wt) := hide (updR_in hX)
    have hby2 : Hid (bb < wt.heap.size ∧ wt.cell? ⟨bb, off + at_, none⟩ = some (.int .u8 (b : Int))) := hide ⟨Nat.lt_of_lt_of_le hbl hX.size, (hX.none.cell (by simpa using hbl)).trans hbyte⟩
    clear hX hh hbyte
    go_wp2_with fail
    have k1 := fun X : UpdT wt => (((unhide hh2).1.updT X).2 513 _ (unhide g1))
    have k2 := fun X : UpdT wt => (((unhide hh2).1.updT X).2 514 _ (unhide g2))
    have k3 := fun X : UpdT wt => (((unhide hh2).1.updT X).2 515 _ (unhide g3))
    have kb := fun X : UpdT wt => ((X.upd.none.cell (p := ⟨bb, off + at_, none⟩) (unhide hby2).1).trans (unhide hby2).2)
    refine wq_region_tail 20 (by kernel_rfl) (by kernel_rfl) ?_
    simp only [List.take_succ_cons, List.take_zero, List.drop_succ_cons, List.drop_zero]
    iterate 20
      refine WQ.step (fun K hK => ?_)
      go_simp
      refine hK _ ?_
      clear hK K
    refine WQ.nil ?_
    rintro _ ⟨X, rfl⟩
    clear k1 k2 k3 kb
    have hX := X.upd
    generalize X.to = wx at hX ⊢
    have hh3 := (unhide hh2).keep hX
    have e2 : wx.cell? ⟨g, 515, none⟩ = some (.int .u32 (c : Int)) := hh3.back 3 _ rfl
    have f2 := hh3.frozen 515
    have hh4 := hide (show OdAt (wx.setCell ⟨g, 515, none⟩ (.int .u32 (nc : Int))) g s [.int .u32 rng, .slice (some ⟨bb, off, none⟩) ds.length cap, .int .i64 (at_ : Int), .int .u32 (nc : Int), .int .i64 err] from hh3.setBack 3 (by simp) (.int .u32 (nc : Int)))
    have hu4 := hide (((unhide hu).trans (updR_in hX)).trans (updR_set wx g 515 (.int .u32 (nc : Int))))
    clear hX hh2 hh3 hu hby2
    go_upto_region 3 with fail
    generalize wx.setCell ⟨g, 515, none⟩ (.int .u32 (nc : Int)) = w5 at hh4 hu4 ⊢
    clear e2 f2
    have e1 : w5.cell? ⟨g, 514, none⟩ = some (.int .i64 (at_ : Int)) := (unhide hh4).back 2 _ rfl
    have f1 := (unhide hh4).frozen 514
    have hh5 := hide (show OdAt (w5.setCell ⟨g, 514, none⟩ (.int .i64 ((at_ : Int) + 1))) g s [.int .u32 rng, .slice (some ⟨bb, off, none⟩) ds.length cap, .int .i64 ((at_ : Int) + 1), .int .u32 (nc : Int), .int .i64 err] from (unhide hh4).setBack 2 (by simp) (.int .i64 ((at_ : Int) + 1)))
    have hu5 := hide ((unhide hu4).trans (updR_set w5 g 514 (.int .i64 ((at_ : Int) + 1))))
    clear hh4 hu4
    go_wp2
    go_end0
    exact ⟨rfl, unhide hh5, unhide hu5⟩
end Go.Proofs.Ytocoeodoihdkgaa

/- Odds: the program's reader of one bit. -/
namespace Go.Proofs.Ytocoeodoihdkgaa
open Go.RowKit

def rngLeftR (wr : World) (g : Nat) : Nat := match wr.cell? ⟨g, 512, none⟩ with | some (.int _ n) => if n < 16777216 then 1 else 0 | _ => 0
theorem rngLeftR_of {wr : World} {g : Nat} {s : Int → Int} {rng : Int} {tl : List Value} (h : OdAt wr g s (.int .u32 rng :: tl)) : rngLeftR wr g = if rng < 16777216 then 1 else 0 := by
  have c : wr.cell? ⟨g, 512, none⟩ = some (.int .u32 rng) := h.back 0 _ rfl
  unfold rngLeftR; rw [c]
theorem upd_in {g : Nat} {w w' : World} (u : Upd 0 0 w w') : Upd g (g + 1) w w' := ⟨u.os, u.tape, u.output, u.size, fun k hk _ => u.block k hk (.inr (Nat.zero_le _))⟩
set_option maxHeartbeats 4000000 in
theorem implTakeBad (g : Nat) (s : Int → Int) (dv : Value) (r : Rd) (p : Int) (W : World) (h : RrAt W g s dv r) (he : r.err ≠ 0) :
    Calls Try.prog 70 #[.pointer (some ⟨g, 0, none⟩), .int .i64 p] W fun e w' => e = .returned (.int .i64 0) ∧ w' = W := by
  have e5 : W.cell? ⟨g, 516, none⟩ = some (.int .i64 r.err) := h.back 4 _ rfl
  have t : (r.err != 0) = true := by simpa using he
  generalize r.err = e at e5 t
  clear h he
  go_enter Try.func70, Try.ntmps70
  go_wp2
  go_ret
  exact ⟨rfl, rfl⟩
set_option maxHeartbeats 32000000 in
set_option maxRecDepth 100000 in
theorem implTake (g : Nat) (ad : Option Addr) (cap : Nat) (ds : List Int) (s : Int → Int) (r : Rd) (p : Nat) (W : World) (h : RrAt W g s (.slice ad ds.length cap) r) (hr : RdOk ds r) (he : r.err = 0) (hs : SOk s) (hp : p < 512)
    (hA : ∀ X, Upd g (g + 1) W X → ArgY X ad ds) (hd : ByteOk ds) (hn : ds.length ≤ 1048576) :
    Calls Try.prog 70 #[.pointer (some ⟨g, 0, none⟩), .int .i64 (p : Int)] W fun e w' => e = .returned (.int .i64 (bitOf r (s p))) ∧ RrAt w' g (oddsSet s ((p : Int), bitOf r (s p))) (.slice ad ds.length cap) (takeR ds r (s p)) ∧ Upd g (g + 1) W w' := by
  obtain ⟨b1, b2, b3, b4, b5, b6⟩ := halfR_bd ds r (s p) hr he (hs p)
  have ha := hr.at0
  have hco := hr.code0
  have hc1 := hr.code1
  obtain ⟨g0, g1⟩ := hr.good he
  have hr1 := hr.rng1
  have hsp := split_bd r.rng (s p) (hs p) g0
  have htk : takeR ds r (s p) = wideR ds (halfR r (s p)) := rfl
  rw [htk]
  have hhf : halfR r (s p) = if r.code < splitF r.rng (s p) then ⟨splitF r.rng (s p), r.code, r.at_, r.err⟩ else ⟨r.rng - splitF r.rng (s p), r.code - splitF r.rng (s p), r.at_, r.err⟩ := rfl
  have hbt : bitOf r (s p) = if r.code < splitF r.rng (s p) then 0 else 1 := rfl
  have hSpl := hide (fun X tl (hX : OdAt X g s (.int .u32 r.rng :: tl)) => implSplit g p s r.rng tl X hX hp hs g0 hr1)
  have hNar := hide (fun b X tl (hX : OdAt X g s (.int .u32 r.rng :: tl)) => implNarrow g p b s r.rng (splitF r.rng (s p)) tl X hX hp hs hr1 (by omega) (by omega))
  generalize halfR r (s p) = r1 at b1 b2 b3 b4 b5 b6 hhf ⊢
  generalize bitOf r (s p) = bt at hbt ⊢
  generalize splitF r.rng (s p) = sv at hsp hhf hbt hSpl hNar
  clear htk hr hs
  obtain ⟨rng, code, at_, err⟩ := r
  simp only at ha hco hc1 he g0 g1 hr1 hsp hhf hbt b5 hSpl hNar
  subst he
  have hh := hide (show OdAt W g s [.int .u32 rng, .slice ad ds.length cap, .int .i64 (at_ : Int), .int .u32 code, .int .i64 0] from h)
  have e5 : W.cell? ⟨g, 516, none⟩ = some (.int .i64 0) := (unhide hh).back 4 _ rfl
  have hgW := (unhide hh).lt
  replace hA := hide hA
  replace hd := hide hd
  clear h
  go_enter Try.func70, Try.ntmps70
  go_wp2_with fail
  refine (unhide hSpl W _ (unhide hh)).mono ?_
  rintro e w1 ⟨rfl, hu1⟩
  have hh1 := (unhide hh).keep hu1
  have hgc := hh1.lt
  have hcW := hu1.size
  have hal := Upd.of_below ((Below.refl w1.heap.size w1).alloc (Nat.le_refl _) (.cells #[.int .i64 (p : Int), .int .i64 0] 38)) 0 0
  have hcc := hide (heldF_new w1 [.int .i64 (p : Int), .int .i64 0] 38)
  have hh2 := hide (hh1.keep hal)
  have hk2 := hide (upd_in (g := g) (hu1.trans hal))
  clear hu1 hh1 hal hh hSpl e5
  go_upto_region 4 with fail
  simp only [List.toArray] at hcc
  generalize w1.alloc (.cells #[.int .i64 (p : Int), .int .i64 0] 38) = w2 at hcc hh2 hk2 ⊢
  generalize w1.heap.size = c at hcc hgc hcW ⊢
  have e3 : w2.cell? ⟨g, 515, none⟩ = some (.int .u32 code) := (unhide hh2).back 3 _ rfl
  have f3 := (unhide hh2).frozen 515
  by_cases hc : code < sv
  · have t : decide (sv ≤ code) = false := decide_eq_false (by omega)
    rw [if_pos hc] at hhf hbt
    have hR := hide hhf
    have hB := hide hbt
    clear hhf hbt hc
    go_upto_region 7 with fail
    generalize hww : w2 = w3 at hh2 hcc hk2 ⊢
    clear hww
    have hh3 := hh2
    have hcc3 := hcc
    have hk3 := hk2
    clear hh2 hcc hk2
    clear e3 f3
    have k0 := fun X : UpdT w3 => (((unhide hcc3).1.updT X).2 0 _ rfl)
    have k1 := fun X : UpdT w3 => (((unhide hcc3).1.updT X).2 1 _ rfl)
    go_wp2_with fail
    refine wq_region_tail 5 (by kernel_rfl) (by kernel_rfl) ?_
    simp only [List.take_succ_cons, List.take_zero, List.drop_succ_cons, List.drop_zero]
    iterate 5
      refine WQ.step (fun K hK => ?_)
      go_simp
      refine hK _ ?_
      clear hK K
    refine WQ.nil ?_
    rintro _ ⟨X, rfl⟩
    clear k0 k1
    have hX := X.upd
    generalize X.to = w4 at hX ⊢
    have hh4 := (unhide hh3).keep hX
    have hcc4 := (unhide hcc3).keep hX
    have hk4 := (unhide hk3).trans (upd_in (g := g) hX)
    clear hX hh3 hcc3 hk3
    go_wp2_with fail
    refine (unhide hNar 0 w4 _ hh4).mono ?_
    rintro e w5 ⟨rfl, hh5, hu5⟩
    have hcc5 := hide (hcc4.upd hu5 (by omega))
    have hk5 := hide (hk4.trans hu5)
    have hIn : Hid (RrAt w5 g (oddsSet s ((p : Int), 0)) (.slice ad ds.length cap) r1) := hide (by
      rw [unhide hR]; exact hh5)
    clear hu5 hk4 hcc4 hh4 hh5 hNar
    obtain ⟨s2, hs2⟩ : ∃ s2, oddsSet s ((p : Int), 0) = s2 := ⟨_, rfl⟩
    rw [hs2] at hIn
    replace hs2 := hide hs2
    go_wp2_with fail
    go_loopw [40] (fun _ wr => ∃ (rr : Rd), (rr = r1 ∨ (r1.rng < 16777216 ∧ rr = wideR ds r1)) ∧ Hid (RrAt wr g s2 (.slice ad ds.length cap) rr) ∧ Hid (HeldF wr c [.int .i64 (p : Int), .int .i64 0]) ∧ Hid (Upd g (g + 1) W wr)) (fun _ wr => rngLeftR wr g)
    case atStart => exact ⟨r1, .inl rfl, hIn, hcc5, hk5⟩
    case round =>
      clear hIn hcc5 hk5
      obtain ⟨rr, hrr, hO, hch, hkp⟩ := hrel
      have hm0 := hide (rngLeftR_of (unhide hO))
      by_cases hlt : r1.rng < 16777216
      · rcases hrr with rfl | ⟨_, rfl⟩
        · have hwd : Hid (byteF ds ⟨rr.rng * 256, rr.code, rr.at_, rr.err⟩ = wideR ds rr) := hide (by unfold wideR; rw [if_pos hlt])
          have hwl : Hid (rngLeftR wr g = 1) := hide (by rw [unhide hm0, if_pos hlt])
          have hw2 : Hid (16777216 ≤ (wideR ds rr).rng) := hide (by unfold wideR; rw [if_pos hlt]; unfold byteF; split <;> (simp only; omega))
          have hWy := hide (implWidenYes g s2 rr.rng _ wr (unhide hO) (by omega) hlt)
          have hcl : rr.code ≤ 16777215 := by omega
          have hltH := hide hlt
          have b6H := hide b6
          have hb5 : rr.at_ ≤ ds.length := by omega
          clear hm0 hlt b6
          go_wp2_with fail
          refine (unhide hWy).mono ?_
          rintro e w6 ⟨rfl, ho6, hu6⟩
          have hO6 := hide (show RrAt w6 g s2 (.slice ad ds.length cap) ⟨rr.rng * 256, rr.code, rr.at_, rr.err⟩ from ho6)
          have hch6 := hide ((unhide hch).upd hu6 (by omega))
          have hk6 := hide ((unhide hkp).trans hu6)
          clear ho6 hu6 hO hch hkp hWy
          have hBy := hide (implRShift g s2 ad cap ds _ w6 (unhide hO6) (unhide hA _ (unhide hk6)) (unhide hd) hn hb5 b3 (.inl hcl) (.inl (unhide b6H)))
          rw [unhide hwd] at hBy
          go_wp2_with fail
          refine (unhide hBy).mono ?_
          rintro e w7 ⟨rfl, hO7, hu7r⟩
          have hu7 := hu7r.u
          have hch7 := hide ((unhide hch6).upd hu7 (by omega))
          have hk7 := hide ((unhide hk6).trans hu7)
          have hmm : Hid (rngLeftR w7 g = 0) := hide (by rw [rngLeftR_of hO7, if_neg (Int.not_lt.2 (unhide hw2))])
          replace hO7 := hide hO7
          have b6 := unhide b6H
          clear hu7 hu7r hO6 hch6 hk6 hBy hw2 hwd
          go_wp2_with fail
          go_roundw
          case rel => exact ⟨wideR ds rr, .inr ⟨unhide hltH, rfl⟩, hO7, hch7, hk7⟩
          case measure => rw [unhide hmm, unhide hwl]; omega
        · have hw2 : 16777216 ≤ (wideR ds r1).rng := by unfold wideR; rw [if_pos hlt]; unfold byteF; split <;> (simp only; omega)
          have hWn := hide (implWidenNo g s2 _ _ wr (unhide hO) hw2)
          have d1 := (unhide hch).1.2 1 _ rfl
          clear hm0 hlt hw2
          go_wp2_with fail
          refine (unhide hWn).mono ?_
          rintro e w6 ⟨rfl, hw6⟩
          obtain rfl : wr = w6 := hw6.symm
          clear hWn
          go_wp2
          go_ret
          exact ⟨by rw [unhide hB]; rfl, by rw [unhide hB, unhide hs2]; exact unhide hO, unhide hkp⟩
      · have hrr2 : rr = r1 := by
          rcases hrr with h | ⟨h, _⟩
          · exact h
          · exact absurd h hlt
        subst hrr2
        have hwd : Hid (wideR ds rr = rr) := hide (by unfold wideR; rw [if_neg hlt])
        have hWn := hide (implWidenNo g s2 _ _ wr (unhide hO) (by omega))
        have d1 := (unhide hch).1.2 1 _ rfl
        clear hm0 hlt hrr
        go_wp2_with fail
        refine (unhide hWn).mono ?_
        rintro e w6 ⟨rfl, hw6⟩
        obtain rfl : wr = w6 := hw6.symm
        clear hWn
        go_wp2
        go_ret
        exact ⟨by rw [unhide hB]; rfl, by rw [unhide hwd, unhide hB, unhide hs2]; exact unhide hO, unhide hkp⟩
  · have t : decide (sv ≤ code) = true := decide_eq_true (by omega)
    rw [if_neg hc] at hhf hbt
    have hR := hide hhf
    have hB := hide hbt
    have hwc : IntKind.u32.wrap (code - sv) = code - sv := by simp [IntKind.wrap, IntKind.bits, IntKind.signed]; omega
    have d1 := (unhide hcc).1.2 1 _ rfl
    have f1 := (unhide hcc).2 1
    clear hhf hbt hc
    go_upto_region 6 with fail
    have hcc2 := hide (show HeldF (w2.setCell ⟨c, 1, none⟩ (.int .i64 1)) c [.int .i64 (p : Int), .int .i64 1] from (unhide hcc).set 1 (.int .i64 1) (by simp))
    have hh2b := hide ((unhide hh2).other (g' := c) (by omega) 1 (.int .i64 1))
    have hk2b : Hid (Upd g (g + 1) W (w2.setCell ⟨c, 1, none⟩ (.int .i64 1))) := hide ⟨(unhide hk2).os, (unhide hk2).tape, (unhide hk2).output, by have := (unhide hk2).size; simpa using this, fun k hk hkk => (Below.heap_setCell w2 ⟨c, 1, none⟩ (.int .i64 1) k (by simp; omega)).trans ((unhide hk2).block k hk hkk)⟩
    clear hcc hh2 hk2 d1 f1 e3 f3
    generalize w2.setCell ⟨c, 1, none⟩ (.int .i64 1) = w2b at hcc2 hh2b hk2b ⊢
    have e3 : w2b.cell? ⟨g, 515, none⟩ = some (.int .u32 code) := (unhide hh2b).back 3 _ rfl
    have f3 := (unhide hh2b).frozen 515
    go_upto_region 7 with fail
    have hh3 := hide (show OdAt (w2b.setCell ⟨g, 515, none⟩ (.int .u32 (code - sv))) g s [.int .u32 rng, .slice ad ds.length cap, .int .i64 (at_ : Int), .int .u32 (code - sv), .int .i64 0] from (unhide hh2b).setBack 3 (by simp) (.int .u32 (code - sv)))
    have hcc3 := hide ((unhide hcc2).other (g' := g) (by omega) 515 (.int .u32 (code - sv)))
    have hk3 := hide ((unhide hk2b).trans (upd_setCell w2b g 515 (.int .u32 (code - sv))))
    clear hh2b hcc2 hk2b
    generalize w2b.setCell ⟨g, 515, none⟩ (.int .u32 (code - sv)) = w3 at hh3 hcc3 hk3 ⊢
    clear e3 f3
    have k0 := fun X : UpdT w3 => (((unhide hcc3).1.updT X).2 0 _ rfl)
    have k1 := fun X : UpdT w3 => (((unhide hcc3).1.updT X).2 1 _ rfl)
    go_wp2_with fail
    refine wq_region_tail 5 (by kernel_rfl) (by kernel_rfl) ?_
    simp only [List.take_succ_cons, List.take_zero, List.drop_succ_cons, List.drop_zero]
    iterate 5
      refine WQ.step (fun K hK => ?_)
      go_simp
      refine hK _ ?_
      clear hK K
    refine WQ.nil ?_
    rintro _ ⟨X, rfl⟩
    clear k0 k1
    have hX := X.upd
    generalize X.to = w4 at hX ⊢
    have hh4 := (unhide hh3).keep hX
    have hcc4 := (unhide hcc3).keep hX
    have hk4 := (unhide hk3).trans (upd_in (g := g) hX)
    clear hX hh3 hcc3 hk3
    go_wp2_with fail
    refine (unhide hNar 1 w4 _ hh4).mono ?_
    rintro e w5 ⟨rfl, hh5, hu5⟩
    have hcc5 := hide (hcc4.upd hu5 (by omega))
    have hk5 := hide (hk4.trans hu5)
    have hIn : Hid (RrAt w5 g (oddsSet s ((p : Int), 1)) (.slice ad ds.length cap) r1) := hide (by
      rw [unhide hR]; exact hh5)
    clear hu5 hk4 hcc4 hh4 hh5 hNar
    obtain ⟨s2, hs2⟩ : ∃ s2, oddsSet s ((p : Int), 1) = s2 := ⟨_, rfl⟩
    rw [hs2] at hIn
    replace hs2 := hide hs2
    go_wp2_with fail
    go_loopw [40] (fun _ wr => ∃ (rr : Rd), (rr = r1 ∨ (r1.rng < 16777216 ∧ rr = wideR ds r1)) ∧ Hid (RrAt wr g s2 (.slice ad ds.length cap) rr) ∧ Hid (HeldF wr c [.int .i64 (p : Int), .int .i64 1]) ∧ Hid (Upd g (g + 1) W wr)) (fun _ wr => rngLeftR wr g)
    case atStart => exact ⟨r1, .inl rfl, hIn, hcc5, hk5⟩
    case round =>
      clear hIn hcc5 hk5
      obtain ⟨rr, hrr, hO, hch, hkp⟩ := hrel
      have hm0 := hide (rngLeftR_of (unhide hO))
      by_cases hlt : r1.rng < 16777216
      · rcases hrr with rfl | ⟨_, rfl⟩
        · have hwd : Hid (byteF ds ⟨rr.rng * 256, rr.code, rr.at_, rr.err⟩ = wideR ds rr) := hide (by unfold wideR; rw [if_pos hlt])
          have hwl : Hid (rngLeftR wr g = 1) := hide (by rw [unhide hm0, if_pos hlt])
          have hw2 : Hid (16777216 ≤ (wideR ds rr).rng) := hide (by unfold wideR; rw [if_pos hlt]; unfold byteF; split <;> (simp only; omega))
          have hWy := hide (implWidenYes g s2 rr.rng _ wr (unhide hO) (by omega) hlt)
          have hcl : rr.code ≤ 16777215 := by omega
          have hltH := hide hlt
          have b6H := hide b6
          have hb5 : rr.at_ ≤ ds.length := by omega
          clear hm0 hlt b6
          go_wp2_with fail
          refine (unhide hWy).mono ?_
          rintro e w6 ⟨rfl, ho6, hu6⟩
          have hO6 := hide (show RrAt w6 g s2 (.slice ad ds.length cap) ⟨rr.rng * 256, rr.code, rr.at_, rr.err⟩ from ho6)
          have hch6 := hide ((unhide hch).upd hu6 (by omega))
          have hk6 := hide ((unhide hkp).trans hu6)
          clear ho6 hu6 hO hch hkp hWy
          have hBy := hide (implRShift g s2 ad cap ds _ w6 (unhide hO6) (unhide hA _ (unhide hk6)) (unhide hd) hn hb5 b3 (.inl hcl) (.inl (unhide b6H)))
          rw [unhide hwd] at hBy
          go_wp2_with fail
          refine (unhide hBy).mono ?_
          rintro e w7 ⟨rfl, hO7, hu7r⟩
          have hu7 := hu7r.u
          have hch7 := hide ((unhide hch6).upd hu7 (by omega))
          have hk7 := hide ((unhide hk6).trans hu7)
          have hmm : Hid (rngLeftR w7 g = 0) := hide (by rw [rngLeftR_of hO7, if_neg (Int.not_lt.2 (unhide hw2))])
          replace hO7 := hide hO7
          have b6 := unhide b6H
          clear hu7 hu7r hO6 hch6 hk6 hBy hw2 hwd
          go_wp2_with fail
          go_roundw
          case rel => exact ⟨wideR ds rr, .inr ⟨unhide hltH, rfl⟩, hO7, hch7, hk7⟩
          case measure => rw [unhide hmm, unhide hwl]; omega
        · have hw2 : 16777216 ≤ (wideR ds r1).rng := by unfold wideR; rw [if_pos hlt]; unfold byteF; split <;> (simp only; omega)
          have hWn := hide (implWidenNo g s2 _ _ wr (unhide hO) hw2)
          have d1 := (unhide hch).1.2 1 _ rfl
          clear hm0 hlt hw2
          go_wp2_with fail
          refine (unhide hWn).mono ?_
          rintro e w6 ⟨rfl, hw6⟩
          obtain rfl : wr = w6 := hw6.symm
          clear hWn
          go_wp2
          go_ret
          exact ⟨by rw [unhide hB]; rfl, by rw [unhide hB, unhide hs2]; exact unhide hO, unhide hkp⟩
      · have hrr2 : rr = r1 := by
          rcases hrr with h | ⟨h, _⟩
          · exact h
          · exact absurd h hlt
        subst hrr2
        have hwd : Hid (wideR ds rr = rr) := hide (by unfold wideR; rw [if_neg hlt])
        have hWn := hide (implWidenNo g s2 _ _ wr (unhide hO) (by omega))
        have d1 := (unhide hch).1.2 1 _ rfl
        clear hm0 hlt hrr
        go_wp2_with fail
        refine (unhide hWn).mono ?_
        rintro e w6 ⟨rfl, hw6⟩
        obtain rfl : wr = w6 := hw6.symm
        clear hWn
        go_wp2
        go_ret
        exact ⟨by rw [unhide hB]; rfl, by rw [unhide hwd, unhide hB, unhide hs2]; exact unhide hO, unhide hkp⟩
end Go.Proofs.Ytocoeodoihdkgaa

/- Odds: the program's writer: a choice put. -/
namespace Go.Proofs.Ytocoeodoihdkgaa
open Go.RowKit

/-- Is a round of widening to come? -/
def rngLeftW (wr : World) (g : Nat) : Nat := match wr.cell? ⟨g, 512, none⟩ with | some (.int _ n) => if n < 16777216 then 1 else 0 | _ => 0
theorem rngLeftW_of {wr : World} {g : Nat} {s : Int → Int} {rng : Int} {tl : List Value} (h : OdAt wr g s (.int .u32 rng :: tl)) : rngLeftW wr g = if rng < 16777216 then 1 else 0 := by
  have c : wr.cell? ⟨g, 512, none⟩ = some (.int .u32 rng) := h.back 0 _ rfl
  unfold rngLeftW; rw [c]
/-- The writer stands at a range. -/
def WrR (W : World) (g base : Nat) (s : Int → Int) (v : Value) (r : Rg) : Prop := WrAt W g base s r.rng (lowF r) v (toldF r)
theorem toldF_len (r : Rg) : (toldF r).length = r.out.length := carryIf_len _ _
theorem WrR.keep {W W' : World} {g base : Nat} {s : Int → Int} {v : Value} {r : Rg} (h : WrR W g base s v r) (u : Upd 0 0 W W') : WrR W' g base s v r := ⟨h.1.keep u, h.2.upd u⟩
theorem lowF_bd (r : Rg) : 0 ≤ lowF r ∧ lowF r ≤ 4294967295 := by unfold lowF; omega
theorem implShiftR (g base : Nat) (s : Int → Int) (v : Value) (r : Rg) (W : World) (hg : g < base) (hbb : base ≤ W.heap.size) (h : WrR W g base s v r) (hn : r.out.length ≤ 30000) :
    Calls Try.prog 104 #[.pointer (some ⟨g, 0, none⟩)] W fun e w' => e = .returned (.tuple #[]) ∧ ∃ v', WrR w' g base s v' (shiftF r) ∧ KpO g v W w' ∧ FreshV W v v' := by
  have hb := lowF_bd r
  refine (implWShift g base s r.rng (lowF r) v (toldF r) W hg hbb h hb.1 hb.2 (by rw [toldF_len]; exact hn)).mono ?_
  rintro e w' ⟨rfl, v', hw, hk, hf⟩
  have ht := shiftF_told r
  refine ⟨rfl, v', ?_, hk, hf⟩
  unfold WrR
  rw [ht.1, ht.2]
  exact hw
set_option maxHeartbeats 32000000 in
set_option maxRecDepth 100000 in
/-- What follows the choice's own part: the range is narrowed, then widened. -/
theorem implPut (g base p : Nat) (b : Int) (s : Int → Int) (v : Value) (r : Rg) (W : World) (hg : g < base) (hbb : base ≤ W.heap.size) (h : WrR W g base s v r) (hr : RgOk r) (hs : SOk s) (hp : p < 512) (hb0 : 0 ≤ b) (hb1 : b ≤ 1) (hn : r.out.length ≤ 29999) :
    Calls Try.prog 60 #[.pointer (some ⟨g, 0, none⟩), .agg #[.int .i64 (p : Int), .int .i64 b]] W fun e w' => e = .returned (.tuple #[]) ∧ ∃ v', WrR w' g base (oddsSet s ((p : Int), b)) v' (putF r (s p) b) ∧ KpO g v W w' ∧ FreshV W v v' := by
  have hbd := bitF_bd r (s p) b hr (hs p)
  have hsp := split_bd r.rng (s p) (hs p) hr.rng0
  have htold := bitF_told r (s p) b hr (hs p)
  have hr0 := hr.rng0
  have hr1 := hr.rng1
  have hout := bitF_out r (s p) b
  have hpf : putF r (s p) b = widenF (bitF r (s p) b) := rfl
  have hSpl := hide (fun X (hX : OdAt X g s [.int .u32 r.rng, .int .u32 (lowF r), v]) => implSplit g p s r.rng [.int .u32 (lowF r), v] X hX hp hs hr0 hr1)
  have hNar := hide (fun X low u (hX : OdAt X g s [.int .u32 r.rng, .int .u32 low, u]) => implNarrow g p b s r.rng (splitF r.rng (s p)) [.int .u32 low, u] X hX hp hs hr1 (by omega) (by omega))
  have hrb : rngF r.rng (splitF r.rng (s p)) b = (bitF r (s p) b).rng := by unfold rngF bitF; split <;> rfl
  rw [hrb] at hNar
  rw [hpf]
  clear hpf hrb
  generalize splitF r.rng (s p) = sv at hsp htold hSpl hNar
  generalize hR1 : bitF r (s p) b = r1 at hbd htold hout hNar ⊢
  have hvb := hide (h.2.block)
  have hlow := lowF_bd r
  have hu0 := Upd.of_below ((Below.refl W.heap.size W).alloc (Nat.le_refl _) (.cells #[.int .i64 (p : Int), .int .i64 b] 38)) 0 0
  have hch := heldF_new W [.int .i64 (p : Int), .int .i64 b] 38
  have hw1 := h.keep hu0
  have hgW := h.1.lt
  have hol : r1.out.length ≤ 29999 := by rw [hout]; exact hn
  have htl : (toldF r).length ≤ 29999 := by rw [toldF_len]; exact hn
  obtain ⟨q0, q1, q2, q3⟩ := hbd
  replace hR1 := hide hR1
  replace hout := hide hout
  replace hu0 := hide hu0
  replace hch := hide hch
  replace hw1 := hide hw1
  have hkp1 := hide (KpO.upd (g := g) (v := v) (unhide hu0))
  clear h hr hs
  by_cases hb : b = 0
  · obtain ⟨ht1, ht2⟩ := htold.1 hb
    subst hb
    have t : ((0 : Int) == 1) = false := by decide
    replace ht1 := hide ht1
    replace ht2 := hide ht2
    clear htold
    go_enter Try.func60, Try.ntmps60
    go_wp2_with fail
    simp only [List.toArray] at hch
    generalize hW0 : W.alloc (.cells #[.int .i64 (p : Int), .int .i64 0] 38) = w0 at hch hw1 hu0 hkp1 ⊢
    have hs0 : W.heap.size < w0.heap.size := by rw [← hW0]; simp
    clear hW0 hu0
    obtain ⟨c, hc⟩ : ∃ c, W.heap.size = c := ⟨_, rfl⟩
    rw [hc] at hch hs0 hbb hgW hvb ⊢
    have hn2 : Hid (some c ≠ v.ownBlock) := hide (fun e => by have := (unhide hvb _ e.symm).2; omega)
    have k0 := fun X : UpdT w0 => (((unhide hch).1.updT X).2 0 _ rfl)
    refine wq_region_tail 6 (by kernel_rfl) (by kernel_rfl) ?_
    simp only [List.take_succ_cons, List.take_zero, List.drop_succ_cons, List.drop_zero]
    iterate 5
      refine WQ.step (fun K hK => ?_)
      go_simp
      refine hK _ ?_
      clear hK K
    refine WQ.step (fun K hK => ?_)
    go_simp
    refine ⟨_, fun X => Calls.updT X (unhide hSpl X.to ((unhide hw1).1.keep X.upd)), hK _ ?_⟩
    clear hK K
    refine WQ.nil ?_
    rintro _ ⟨X, rfl⟩
    clear k0
    have hX := X.upd
    generalize X.to = w2 at hX ⊢
    have hw2 := hide ((unhide hw1).keep hX)
    have hch2 := hide ((unhide hch).keep hX)
    have hkp2 := hide ((unhide hkp1).trans (FreshV.refl _ _) (KpO.upd (g := g) hX))
    have hs2 : c < w2.heap.size := by have := hX.size; omega
    clear hX hw1 hch hkp1 hSpl hs0
    have d1 := (unhide hch2).1.2 1 _ rfl
    go_upto_region 6 with fail
    clear d1
    have hw3 : Hid (WrAt w2 g base s r.rng (lowF r1) v (toldF r1)) := hide (by rw [unhide ht1, unhide ht2]; exact unhide hw2)
    generalize w2 = w3 at hw3 hch2 hkp2 hs2 ⊢
    have hch3 := hch2
    have hkp3 := hkp2
    clear hw2 hch2 hkp2
    have k0 := fun X : UpdT w3 => (((unhide hch3).1.updT X).2 0 _ rfl)
    have k1 := fun X : UpdT w3 => (((unhide hch3).1.updT X).2 1 _ rfl)
    refine wq_region_tail 5 (by kernel_rfl) (by kernel_rfl) ?_
    simp only [List.take_succ_cons, List.take_zero, List.drop_succ_cons, List.drop_zero]
    iterate 5
      refine WQ.step (fun K hK => ?_)
      go_simp
      refine hK _ ?_
      clear hK K
    refine WQ.nil ?_
    rintro _ ⟨X, rfl⟩
    clear k0 k1
    have hX := X.upd
    generalize X.to = w4 at hX ⊢
    have ho4 := (unhide hw3).1.keep hX
    have hr4 := (unhide hw3).2.upd hX
    have hkp4 := hide ((unhide hkp3).trans (FreshV.refl _ _) (KpO.upd (g := g) hX))
    clear hX hw3 hkp3 hch3
    go_wp2_with fail
    refine (unhide hNar w4 _ _ ho4).mono ?_
    rintro e w5 ⟨rfl, ho5, hu5⟩
    have hw5 : Hid (WrR w5 g base (oddsSet s ((p : Int), 0)) v r1) := hide ⟨ho5, hr4.updG hu5 hg⟩
    have hkp5 := hide ((unhide hkp4).trans (FreshV.refl _ _) (KpO.updG hu5))
    clear ho5 hu5 hr4 ho4 hkp4 hNar hvb hn2
    obtain ⟨s2, hs2e⟩ : ∃ s2, oddsSet s ((p : Int), 0) = s2 := ⟨_, rfl⟩
    rw [hs2e] at hw5
    replace hs2e := hide hs2e
    go_wp2_with fail
    go_loopw [36] (fun _ wr => ∃ (rr : Rg) (v' : Value), (rr = r1 ∨ (r1.rng < 16777216 ∧ rr = widenF r1)) ∧ Hid (WrR wr g base s2 v' rr) ∧ Hid (KpO g v W wr) ∧ Hid (FreshV W v v')) (fun _ wr => rngLeftW wr g)
    case atStart => exact ⟨r1, v, .inl rfl, hw5, hkp5, hide (FreshV.refl _ _)⟩
    case round =>
      clear hw5 hkp5
      obtain ⟨rr, v', hrr, hO, hkp, hfr⟩ := hrel
      have hsz := (unhide hkp).size
      have hm0 := hide (rngLeftW_of (unhide hO).1)
      by_cases hlt : r1.rng < 16777216
      · rcases hrr with rfl | ⟨_, rfl⟩
        · have hwd : Hid (shiftF ⟨rr.low, rr.rng * 256, rr.out⟩ = widenF rr) := hide (by unfold widenF; rw [if_pos hlt])
          have hwl : Hid (rngLeftW wr g = 1) := hide (by rw [unhide hm0, if_pos hlt])
          have hw2' : Hid (16777216 ≤ (widenF rr).rng) := hide (by unfold widenF; rw [if_pos hlt]; unfold shiftF; simp only; omega)
          have hWy := hide (implWidenYes g s2 rr.rng _ wr (unhide hO).1 (by omega) hlt)
          have hltH := hide hlt
          have hout1 : rr.out.length ≤ 30000 := by omega
          clear hm0 hlt
          go_wp2_with fail
          refine (unhide hWy).mono ?_
          rintro e w6 ⟨rfl, ho6, hu6⟩
          have hw6 : Hid (WrR w6 g base s2 v' ⟨rr.low, rr.rng * 256, rr.out⟩) := hide ⟨ho6, (unhide hO).2.updG hu6 hg⟩
          have hkp6 := hide ((unhide hkp).trans (unhide hfr) (KpO.updG hu6))
          have hs6 : wr.heap.size ≤ w6.heap.size := hu6.size
          clear ho6 hu6 hO hkp hWy
          go_wp2_with fail
          refine (implShiftR g base s2 v' _ w6 hg (by omega) (unhide hw6) hout1).mono ?_
          rintro e w7 ⟨rfl, v7, hO7, hkp7, hfr7⟩
          rw [unhide hwd] at hO7
          have hkp8 := hide ((unhide hkp6).trans (unhide hfr) hkp7)
          have hfr8 := hide ((unhide hfr).trans hfr7 (by omega))
          have hmm : Hid (rngLeftW w7 g = 0) := hide (by rw [rngLeftW_of hO7.1, if_neg (Int.not_lt.2 (unhide hw2'))])
          replace hO7 := hide hO7
          clear hkp7 hfr7 hkp6 hfr hw6 hwd hw2'
          go_wp2_with fail
          go_roundw
          case rel => exact ⟨widenF rr, v7, .inr ⟨unhide hltH, rfl⟩, hO7, hkp8, hfr8⟩
          case measure => rw [unhide hmm, unhide hwl]; omega
        · have hw2' : 16777216 ≤ (widenF r1).rng := by unfold widenF; rw [if_pos hlt]; unfold shiftF; simp only; omega
          have hWn := hide (implWidenNo g s2 _ _ wr (unhide hO).1 hw2')
          clear hm0 hlt hw2'
          go_wp2_with fail
          refine (unhide hWn).mono ?_
          rintro e w6 ⟨rfl, hw6⟩
          obtain rfl : wr = w6 := hw6.symm
          clear hWn
          go_wp2
          go_end0
          exact ⟨rfl, v', by rw [unhide hs2e]; exact unhide hO, unhide hkp, unhide hfr⟩
      · have hrr2 : rr = r1 := by
          rcases hrr with h | ⟨h, _⟩
          · exact h
          · exact absurd h hlt
        subst hrr2
        have hwd : Hid (widenF rr = rr) := hide (by unfold widenF; rw [if_neg hlt])
        have hWn := hide (implWidenNo g s2 _ _ wr (unhide hO).1 (by omega))
        clear hm0 hlt hrr
        go_wp2_with fail
        refine (unhide hWn).mono ?_
        rintro e w6 ⟨rfl, hw6⟩
        obtain rfl : wr = w6 := hw6.symm
        clear hWn
        go_wp2
        go_end0
        exact ⟨rfl, v', by rw [unhide hwd, unhide hs2e]; exact unhide hO, unhide hkp, unhide hfr⟩
  · have hb2 : b = 1 := by omega
    obtain ⟨ht2, ht1⟩ := htold.2 hb
    subst hb2
    have t : ((1 : Int) == 1) = true := by decide
    clear htold hb
    obtain ⟨nl, hnl⟩ : ∃ nl, (lowF r + sv) % 4294967296 = nl := ⟨_, rfl⟩
    have hwr : IntKind.u32.wrap (lowF r + sv) = nl := by rw [← hnl]; simp [IntKind.wrap, IntKind.bits, IntKind.signed]
    rw [hnl] at ht1 ht2
    replace hnl := hide hnl
    replace ht2 := hide ht2
    by_cases hcy : nl < sv
    · have t2 : decide (nl < sv) = true := decide_eq_true hcy
      rw [if_pos hcy] at ht1
      replace ht1 := hide ht1
      clear hcy
      go_enter Try.func60, Try.ntmps60
      go_wp2_with fail
      simp only [List.toArray] at hch
      generalize hW0 : W.alloc (.cells #[.int .i64 (p : Int), .int .i64 1] 38) = w0 at hch hw1 hu0 hkp1 ⊢
      have hs0 : W.heap.size < w0.heap.size := by rw [← hW0]; simp
      clear hW0 hu0
      obtain ⟨c, hc⟩ : ∃ c, W.heap.size = c := ⟨_, rfl⟩
      rw [hc] at hch hs0 hbb hgW hvb ⊢
      have hn2 : Hid (some c ≠ v.ownBlock) := hide (fun e => by have := (unhide hvb _ e.symm).2; omega)
      have k0 := fun X : UpdT w0 => (((unhide hch).1.updT X).2 0 _ rfl)
      refine wq_region_tail 6 (by kernel_rfl) (by kernel_rfl) ?_
      simp only [List.take_succ_cons, List.take_zero, List.drop_succ_cons, List.drop_zero]
      iterate 5
        refine WQ.step (fun K hK => ?_)
        go_simp
        refine hK _ ?_
        clear hK K
      refine WQ.step (fun K hK => ?_)
      go_simp
      refine ⟨_, fun X => Calls.updT X (unhide hSpl X.to ((unhide hw1).1.keep X.upd)), hK _ ?_⟩
      clear hK K
      refine WQ.nil ?_
      rintro _ ⟨X, rfl⟩
      clear k0
      have hX := X.upd
      generalize X.to = w2 at hX ⊢
      have hw2 := hide ((unhide hw1).keep hX)
      have hch2 := hide ((unhide hch).keep hX)
      have hkp2 := hide ((unhide hkp1).trans (FreshV.refl _ _) (KpO.upd (g := g) hX))
      have hs2 : c < w2.heap.size := by have := hX.size; omega
      clear hX hw1 hch hkp1 hSpl hs0
      have d1 := (unhide hch2).1.2 1 _ rfl
      replace hw2 := hide (show WrAt w2 g base s r.rng (lowF r) v (toldF r) from unhide hw2)
      replace hNar := hNar
      generalize lowF r = lw at hw2 hwr hnl hlow ⊢
      have q1 : w2.cell? ⟨g, 513, none⟩ = some (.int .u32 lw) := (unhide hw2).1.back 1 _ rfl
      have f1 := (unhide hw2).1.frozen 513
      go_upto_region 4 with fail
      have hw2b : Hid (WrAt (w2.setCell ⟨g, 513, none⟩ (.int .u32 nl)) g base s r.rng nl v (toldF r)) := hide ⟨(unhide hw2).1.setBack 1 (by simp) (.int .u32 nl), (unhide hw2).2.head hg⟩
      have hch2b := hide ((unhide hch2).other (g' := g) (by omega) 513 (.int .u32 nl))
      have hkp2b := hide ((unhide hkp2).trans (FreshV.refl _ _) (KpO.head g 513 v (.int .u32 nl) w2))
      have hs2b : c < (w2.setCell ⟨g, 513, none⟩ (.int .u32 nl)).heap.size := by simpa using hs2
      clear q1 f1 d1 hw2 hch2 hkp2 hs2
      generalize w2.setCell ⟨g, 513, none⟩ (.int .u32 nl) = w2b at hw2b hch2b hkp2b hs2b ⊢
      have q1 : w2b.cell? ⟨g, 513, none⟩ = some (.int .u32 nl) := (unhide hw2b).1.back 1 _ rfl
      have hCy := hide (implCarry g base s r.rng nl v (toldF r) w2b hg (unhide hw2b) (by omega))
      go_wp2_with fail
      refine (unhide hCy).mono ?_
      rintro e w3 ⟨rfl, hwc, hkc⟩
      have hw3 : Hid (WrAt w3 g base s r.rng (lowF r1) v (toldF r1)) := hide (by rw [unhide ht1, unhide ht2]; exact hwc)
      have hch3 := hide ((unhide hch2b).kpO hkc (by omega) (unhide hn2))
      have hkp3 := hide ((unhide hkp2b).trans (FreshV.refl _ _) hkc)
      have hs2 : c < w3.heap.size := by have := hkc.size; omega
      clear hwc hkc hCy hw2b hch2b hkp2b hs2b q1
      go_upto_region 6 with fail
      have k0 := fun X : UpdT w3 => (((unhide hch3).1.updT X).2 0 _ rfl)
      have k1 := fun X : UpdT w3 => (((unhide hch3).1.updT X).2 1 _ rfl)
      refine wq_region_tail 5 (by kernel_rfl) (by kernel_rfl) ?_
      simp only [List.take_succ_cons, List.take_zero, List.drop_succ_cons, List.drop_zero]
      iterate 5
        refine WQ.step (fun K hK => ?_)
        go_simp
        refine hK _ ?_
        clear hK K
      refine WQ.nil ?_
      rintro _ ⟨X, rfl⟩
      clear k0 k1
      have hX := X.upd
      generalize X.to = w4 at hX ⊢
      have ho4 := (unhide hw3).1.keep hX
      have hr4 := (unhide hw3).2.upd hX
      have hkp4 := hide ((unhide hkp3).trans (FreshV.refl _ _) (KpO.upd (g := g) hX))
      clear hX hw3 hkp3 hch3
      go_wp2_with fail
      refine (unhide hNar w4 _ _ ho4).mono ?_
      rintro e w5 ⟨rfl, ho5, hu5⟩
      have hw5 : Hid (WrR w5 g base (oddsSet s ((p : Int), 1)) v r1) := hide ⟨ho5, hr4.updG hu5 hg⟩
      have hkp5 := hide ((unhide hkp4).trans (FreshV.refl _ _) (KpO.updG hu5))
      clear ho5 hu5 hr4 ho4 hkp4 hNar hvb hn2
      obtain ⟨s2, hs2e⟩ : ∃ s2, oddsSet s ((p : Int), 1) = s2 := ⟨_, rfl⟩
      rw [hs2e] at hw5
      replace hs2e := hide hs2e
      go_wp2_with fail
      go_loopw [36] (fun _ wr => ∃ (rr : Rg) (v' : Value), (rr = r1 ∨ (r1.rng < 16777216 ∧ rr = widenF r1)) ∧ Hid (WrR wr g base s2 v' rr) ∧ Hid (KpO g v W wr) ∧ Hid (FreshV W v v')) (fun _ wr => rngLeftW wr g)
      case atStart => exact ⟨r1, v, .inl rfl, hw5, hkp5, hide (FreshV.refl _ _)⟩
      case round =>
        clear hw5 hkp5
        obtain ⟨rr, v', hrr, hO, hkp, hfr⟩ := hrel
        have hsz := (unhide hkp).size
        have hm0 := hide (rngLeftW_of (unhide hO).1)
        by_cases hlt : r1.rng < 16777216
        · rcases hrr with rfl | ⟨_, rfl⟩
          · have hwd : Hid (shiftF ⟨rr.low, rr.rng * 256, rr.out⟩ = widenF rr) := hide (by unfold widenF; rw [if_pos hlt])
            have hwl : Hid (rngLeftW wr g = 1) := hide (by rw [unhide hm0, if_pos hlt])
            have hw2' : Hid (16777216 ≤ (widenF rr).rng) := hide (by unfold widenF; rw [if_pos hlt]; unfold shiftF; simp only; omega)
            have hWy := hide (implWidenYes g s2 rr.rng _ wr (unhide hO).1 (by omega) hlt)
            have hltH := hide hlt
            have hout1 : rr.out.length ≤ 30000 := by omega
            clear hm0 hlt
            go_wp2_with fail
            refine (unhide hWy).mono ?_
            rintro e w6 ⟨rfl, ho6, hu6⟩
            have hw6 : Hid (WrR w6 g base s2 v' ⟨rr.low, rr.rng * 256, rr.out⟩) := hide ⟨ho6, (unhide hO).2.updG hu6 hg⟩
            have hkp6 := hide ((unhide hkp).trans (unhide hfr) (KpO.updG hu6))
            have hs6 : wr.heap.size ≤ w6.heap.size := hu6.size
            clear ho6 hu6 hO hkp hWy
            go_wp2_with fail
            refine (implShiftR g base s2 v' _ w6 hg (by omega) (unhide hw6) hout1).mono ?_
            rintro e w7 ⟨rfl, v7, hO7, hkp7, hfr7⟩
            rw [unhide hwd] at hO7
            have hkp8 := hide ((unhide hkp6).trans (unhide hfr) hkp7)
            have hfr8 := hide ((unhide hfr).trans hfr7 (by omega))
            have hmm : Hid (rngLeftW w7 g = 0) := hide (by rw [rngLeftW_of hO7.1, if_neg (Int.not_lt.2 (unhide hw2'))])
            replace hO7 := hide hO7
            clear hkp7 hfr7 hkp6 hfr hw6 hwd hw2'
            go_wp2_with fail
            go_roundw
            case rel => exact ⟨widenF rr, v7, .inr ⟨unhide hltH, rfl⟩, hO7, hkp8, hfr8⟩
            case measure => rw [unhide hmm, unhide hwl]; omega
          · have hw2' : 16777216 ≤ (widenF r1).rng := by unfold widenF; rw [if_pos hlt]; unfold shiftF; simp only; omega
            have hWn := hide (implWidenNo g s2 _ _ wr (unhide hO).1 hw2')
            clear hm0 hlt hw2'
            go_wp2_with fail
            refine (unhide hWn).mono ?_
            rintro e w6 ⟨rfl, hw6⟩
            obtain rfl : wr = w6 := hw6.symm
            clear hWn
            go_wp2
            go_end0
            exact ⟨rfl, v', by rw [unhide hs2e]; exact unhide hO, unhide hkp, unhide hfr⟩
        · have hrr2 : rr = r1 := by
            rcases hrr with h | ⟨h, _⟩
            · exact h
            · exact absurd h hlt
          subst hrr2
          have hwd : Hid (widenF rr = rr) := hide (by unfold widenF; rw [if_neg hlt])
          have hWn := hide (implWidenNo g s2 _ _ wr (unhide hO).1 (by omega))
          clear hm0 hlt hrr
          go_wp2_with fail
          refine (unhide hWn).mono ?_
          rintro e w6 ⟨rfl, hw6⟩
          obtain rfl : wr = w6 := hw6.symm
          clear hWn
          go_wp2
          go_end0
          exact ⟨rfl, v', by rw [unhide hwd, unhide hs2e]; exact unhide hO, unhide hkp, unhide hfr⟩
    · have t2 : decide (nl < sv) = false := decide_eq_false hcy
      rw [if_neg hcy] at ht1
      replace ht1 := hide ht1
      clear hcy
      go_enter Try.func60, Try.ntmps60
      go_wp2_with fail
      simp only [List.toArray] at hch
      generalize hW0 : W.alloc (.cells #[.int .i64 (p : Int), .int .i64 1] 38) = w0 at hch hw1 hu0 hkp1 ⊢
      have hs0 : W.heap.size < w0.heap.size := by rw [← hW0]; simp
      clear hW0 hu0
      obtain ⟨c, hc⟩ : ∃ c, W.heap.size = c := ⟨_, rfl⟩
      rw [hc] at hch hs0 hbb hgW hvb ⊢
      have hn2 : Hid (some c ≠ v.ownBlock) := hide (fun e => by have := (unhide hvb _ e.symm).2; omega)
      have k0 := fun X : UpdT w0 => (((unhide hch).1.updT X).2 0 _ rfl)
      refine wq_region_tail 6 (by kernel_rfl) (by kernel_rfl) ?_
      simp only [List.take_succ_cons, List.take_zero, List.drop_succ_cons, List.drop_zero]
      iterate 5
        refine WQ.step (fun K hK => ?_)
        go_simp
        refine hK _ ?_
        clear hK K
      refine WQ.step (fun K hK => ?_)
      go_simp
      refine ⟨_, fun X => Calls.updT X (unhide hSpl X.to ((unhide hw1).1.keep X.upd)), hK _ ?_⟩
      clear hK K
      refine WQ.nil ?_
      rintro _ ⟨X, rfl⟩
      clear k0
      have hX := X.upd
      generalize X.to = w2 at hX ⊢
      have hw2 := hide ((unhide hw1).keep hX)
      have hch2 := hide ((unhide hch).keep hX)
      have hkp2 := hide ((unhide hkp1).trans (FreshV.refl _ _) (KpO.upd (g := g) hX))
      have hs2 : c < w2.heap.size := by have := hX.size; omega
      clear hX hw1 hch hkp1 hSpl hs0
      have d1 := (unhide hch2).1.2 1 _ rfl
      replace hw2 := hide (show WrAt w2 g base s r.rng (lowF r) v (toldF r) from unhide hw2)
      replace hNar := hNar
      generalize lowF r = lw at hw2 hwr hnl hlow ⊢
      have q1 : w2.cell? ⟨g, 513, none⟩ = some (.int .u32 lw) := (unhide hw2).1.back 1 _ rfl
      have f1 := (unhide hw2).1.frozen 513
      go_upto_region 4 with fail
      have hw2b : Hid (WrAt (w2.setCell ⟨g, 513, none⟩ (.int .u32 nl)) g base s r.rng nl v (toldF r)) := hide ⟨(unhide hw2).1.setBack 1 (by simp) (.int .u32 nl), (unhide hw2).2.head hg⟩
      have hch2b := hide ((unhide hch2).other (g' := g) (by omega) 513 (.int .u32 nl))
      have hkp2b := hide ((unhide hkp2).trans (FreshV.refl _ _) (KpO.head g 513 v (.int .u32 nl) w2))
      have hs2b : c < (w2.setCell ⟨g, 513, none⟩ (.int .u32 nl)).heap.size := by simpa using hs2
      clear q1 f1 d1 hw2 hch2 hkp2 hs2
      generalize w2.setCell ⟨g, 513, none⟩ (.int .u32 nl) = w2b at hw2b hch2b hkp2b hs2b ⊢
      have q1 : w2b.cell? ⟨g, 513, none⟩ = some (.int .u32 nl) := (unhide hw2b).1.back 1 _ rfl
      go_upto_region 6 with fail
      clear q1
      have hw3 : Hid (WrAt w2b g base s r.rng (lowF r1) v (toldF r1)) := hide (by rw [unhide ht1, unhide ht2]; exact unhide hw2b)
      generalize w2b = w3 at hw3 hch2b hkp2b hs2b ⊢
      have hch3 := hch2b
      have hkp3 := hkp2b
      have hs2 := hs2b
      clear hw2b hch2b hkp2b hs2b
      have k0 := fun X : UpdT w3 => (((unhide hch3).1.updT X).2 0 _ rfl)
      have k1 := fun X : UpdT w3 => (((unhide hch3).1.updT X).2 1 _ rfl)
      refine wq_region_tail 5 (by kernel_rfl) (by kernel_rfl) ?_
      simp only [List.take_succ_cons, List.take_zero, List.drop_succ_cons, List.drop_zero]
      iterate 5
        refine WQ.step (fun K hK => ?_)
        go_simp
        refine hK _ ?_
        clear hK K
      refine WQ.nil ?_
      rintro _ ⟨X, rfl⟩
      clear k0 k1
      have hX := X.upd
      generalize X.to = w4 at hX ⊢
      have ho4 := (unhide hw3).1.keep hX
      have hr4 := (unhide hw3).2.upd hX
      have hkp4 := hide ((unhide hkp3).trans (FreshV.refl _ _) (KpO.upd (g := g) hX))
      clear hX hw3 hkp3 hch3
      go_wp2_with fail
      refine (unhide hNar w4 _ _ ho4).mono ?_
      rintro e w5 ⟨rfl, ho5, hu5⟩
      have hw5 : Hid (WrR w5 g base (oddsSet s ((p : Int), 1)) v r1) := hide ⟨ho5, hr4.updG hu5 hg⟩
      have hkp5 := hide ((unhide hkp4).trans (FreshV.refl _ _) (KpO.updG hu5))
      clear ho5 hu5 hr4 ho4 hkp4 hNar hvb hn2
      obtain ⟨s2, hs2e⟩ : ∃ s2, oddsSet s ((p : Int), 1) = s2 := ⟨_, rfl⟩
      rw [hs2e] at hw5
      replace hs2e := hide hs2e
      go_wp2_with fail
      go_loopw [36] (fun _ wr => ∃ (rr : Rg) (v' : Value), (rr = r1 ∨ (r1.rng < 16777216 ∧ rr = widenF r1)) ∧ Hid (WrR wr g base s2 v' rr) ∧ Hid (KpO g v W wr) ∧ Hid (FreshV W v v')) (fun _ wr => rngLeftW wr g)
      case atStart => exact ⟨r1, v, .inl rfl, hw5, hkp5, hide (FreshV.refl _ _)⟩
      case round =>
        clear hw5 hkp5
        obtain ⟨rr, v', hrr, hO, hkp, hfr⟩ := hrel
        have hsz := (unhide hkp).size
        have hm0 := hide (rngLeftW_of (unhide hO).1)
        by_cases hlt : r1.rng < 16777216
        · rcases hrr with rfl | ⟨_, rfl⟩
          · have hwd : Hid (shiftF ⟨rr.low, rr.rng * 256, rr.out⟩ = widenF rr) := hide (by unfold widenF; rw [if_pos hlt])
            have hwl : Hid (rngLeftW wr g = 1) := hide (by rw [unhide hm0, if_pos hlt])
            have hw2' : Hid (16777216 ≤ (widenF rr).rng) := hide (by unfold widenF; rw [if_pos hlt]; unfold shiftF; simp only; omega)
            have hWy := hide (implWidenYes g s2 rr.rng _ wr (unhide hO).1 (by omega) hlt)
            have hltH := hide hlt
            have hout1 : rr.out.length ≤ 30000 := by omega
            clear hm0 hlt
            go_wp2_with fail
            refine (unhide hWy).mono ?_
            rintro e w6 ⟨rfl, ho6, hu6⟩
            have hw6 : Hid (WrR w6 g base s2 v' ⟨rr.low, rr.rng * 256, rr.out⟩) := hide ⟨ho6, (unhide hO).2.updG hu6 hg⟩
            have hkp6 := hide ((unhide hkp).trans (unhide hfr) (KpO.updG hu6))
            have hs6 : wr.heap.size ≤ w6.heap.size := hu6.size
            clear ho6 hu6 hO hkp hWy
            go_wp2_with fail
            refine (implShiftR g base s2 v' _ w6 hg (by omega) (unhide hw6) hout1).mono ?_
            rintro e w7 ⟨rfl, v7, hO7, hkp7, hfr7⟩
            rw [unhide hwd] at hO7
            have hkp8 := hide ((unhide hkp6).trans (unhide hfr) hkp7)
            have hfr8 := hide ((unhide hfr).trans hfr7 (by omega))
            have hmm : Hid (rngLeftW w7 g = 0) := hide (by rw [rngLeftW_of hO7.1, if_neg (Int.not_lt.2 (unhide hw2'))])
            replace hO7 := hide hO7
            clear hkp7 hfr7 hkp6 hfr hw6 hwd hw2'
            go_wp2_with fail
            go_roundw
            case rel => exact ⟨widenF rr, v7, .inr ⟨unhide hltH, rfl⟩, hO7, hkp8, hfr8⟩
            case measure => rw [unhide hmm, unhide hwl]; omega
          · have hw2' : 16777216 ≤ (widenF r1).rng := by unfold widenF; rw [if_pos hlt]; unfold shiftF; simp only; omega
            have hWn := hide (implWidenNo g s2 _ _ wr (unhide hO).1 hw2')
            clear hm0 hlt hw2'
            go_wp2_with fail
            refine (unhide hWn).mono ?_
            rintro e w6 ⟨rfl, hw6⟩
            obtain rfl : wr = w6 := hw6.symm
            clear hWn
            go_wp2
            go_end0
            exact ⟨rfl, v', by rw [unhide hs2e]; exact unhide hO, unhide hkp, unhide hfr⟩
        · have hrr2 : rr = r1 := by
            rcases hrr with h | ⟨h, _⟩
            · exact h
            · exact absurd h hlt
          subst hrr2
          have hwd : Hid (widenF rr = rr) := hide (by unfold widenF; rw [if_neg hlt])
          have hWn := hide (implWidenNo g s2 _ _ wr (unhide hO).1 (by omega))
          clear hm0 hlt hrr
          go_wp2_with fail
          refine (unhide hWn).mono ?_
          rintro e w6 ⟨rfl, hw6⟩
          obtain rfl : wr = w6 := hw6.symm
          clear hWn
          go_wp2
          go_end0
          exact ⟨rfl, v', by rw [unhide hwd, unhide hs2e]; exact unhide hO, unhide hkp, unhide hfr⟩
end Go.Proofs.Ytocoeodoihdkgaa

/- Structs with a long row inside, built. -/
namespace Go.Proofs.Ytocoeodoihdkgaa
open Go.RowKit

theorem fold_fill : ∀ (xs : List Value) (off i : Nat) (cs : Array Value), off + i + xs.length ≤ cs.size →
    ((xs.zipIdx i).foldl (fun cs (p : Value × Nat) => cs.setIfInBounds (off + p.2) p.1) cs).toList = cs.toList.take (off + i) ++ xs ++ cs.toList.drop (off + i + xs.length)
  | [], off, i, cs, _ => by simp
  | x :: xs, off, i, cs, h => by
    simp only [List.length_cons] at h
    rw [List.zipIdx_cons, List.foldl_cons, fold_fill xs off (i + 1) _ (by simp; omega)]
    have hlt : off + i < cs.toList.length := by simp; omega
    simp only [Array.toList_setIfInBounds, List.length_cons]
    rw [show off + (i + 1) = off + i + 1 by omega]
    have e1 : (cs.toList.set (off + i) x).take (off + i + 1) = cs.toList.take (off + i) ++ [x] := by
      rw [List.take_succ_eq_append_getElem (by simpa using hlt)]
      rw [List.getElem_set_self, List.take_set_of_le (Nat.le_refl _)]
    have e2 : (cs.toList.set (off + i) x).drop (off + i + 1 + xs.length) = cs.toList.drop (off + i + (xs.length + 1)) := by
      rw [List.drop_set_of_lt (by omega)]; congr 1; omega
    rw [e1, e2, List.append_assoc, List.append_assoc, List.append_assoc]; rfl
theorem built_struct {P : Program} {t : TypeId} {it : TypeInfo} {z : Value} {fields : Array Field} {places : List (Nat × Nat)} {parts : List (Nat × Value)} (hi : P.info? t = some it) (hz : it.zero = some z) (hu : P.underlying t = some (.struct fields))
    (hp : fields.toList.mapM (fun f => (P.info? f.type).map fun i => (f.offset, i.size)) = some places) : P.built t parts = Instr.fill (places.toArray[·]?) z.cells parts := by
  unfold Program.built; simp [hi, hz, hu, hp]
theorem fill_step {place : Nat → Option (Nat × Nat)} {xs : List Value} {v : Value} {i off : Nat} {cs : List Value} {rest : List (Nat × Value)} (hv : v.cells = xs.toArray) (hp : place i = some (off, xs.length)) (hl : off + xs.length ≤ cs.length) :
    Instr.fill place cs.toArray ((i, v) :: rest) = Instr.fill place (cs.take off ++ xs ++ cs.drop (off + xs.length)).toArray rest := by
  have h := fold_fill xs off 0 cs.toArray (by simpa using hl)
  rw [Nat.add_zero] at h
  have e : ((xs.zipIdx 0).foldl (fun cs (p : Value × Nat) => cs.setIfInBounds (off + p.2) p.1) cs.toArray) = (cs.take off ++ xs ++ cs.drop (off + xs.length)).toArray := by
    apply Array.ext'
    rw [h]
  rw [Instr.fill]
  simp only [hp, hv]
  rw [if_neg (by simp; omega)]
  rw [← e]
  congr 1
  simp
theorem fillOne {place : Nat → Option (Nat × Nat)} {cs : Array Value} : Instr.fill place cs [] = some cs := rfl
theorem info_at {t : TypeId} {z : Value} {n : Nat} (h : (Try.prog.info? t).map (fun i => (i.zero, i.size)) = some (some z, n)) : ∃ it, Try.prog.info? t = some it ∧ it.zero = some z := by
  cases he : Try.prog.info? t with
  | none => rw [he] at h; cases h
  | some it => rw [he] at h; simp only [Option.map_some, Option.some.injEq, Prod.mk.injEq] at h; exact ⟨it, rfl, h.1⟩
theorem infoOr : (Try.prog.info? 89).map (fun i => (i.zero, i.size)) = some (some (.agg (List.replicate 512 (Value.int .u16 0) ++ [Value.int .u32 0]).toArray), 513) := by kernel_rfl
def rngV (s : Int → Int) (n : Int) : List Value := oddsV s ++ [.int .u32 n]
theorem rngV_len (s : Int → Int) (n : Int) : (rngV s n).length = 513 := by simp [rngV]
theorem fill_two (L M : List Value) (m : Nat) (hL : L.length = m) (hM : M.length = m) (a b : Value) (hb : b.cells = [b].toArray) (place : Nat → Option (Nat × Nat)) (h0 : place 0 = some (0, m)) (h1 : place 1 = some (m, 1)) :
    Instr.fill place (L ++ [a]).toArray [(0, .agg M.toArray), (1, b)] = some (M ++ [b]).toArray := by
  rw [fill_step (xs := M) (off := 0) rfl (by rw [h0, hM]) (by simp; omega)]
  rw [List.take_zero, List.nil_append, Nat.zero_add, hM, ← hL, List.drop_left]
  rw [fill_step (xs := [b]) (off := m) hb h1 (by simp; omega), fillOne]
  rw [List.take_left' hM, List.drop_eq_nil_of_le (by simp; omega), List.append_nil]
theorem fill_first (L M T : List Value) (m : Nat) (hL : L.length = m) (hM : M.length = m) (place : Nat → Option (Nat × Nat)) (h0 : place 0 = some (0, m)) :
    Instr.fill place (L ++ T).toArray [(0, .agg M.toArray)] = some (M ++ T).toArray := by
  rw [fill_step (xs := M) (off := 0) rfl (by rw [h0, hM]) (by simp; omega), fillOne]
  rw [List.take_zero, List.nil_append, Nat.zero_add, hM, ← hL, List.drop_left]
theorem builtOr (s : Int → Int) (n : Int) : Try.prog.built 89 [(0, .agg (oddsV s).toArray), (1, .int .u32 n)] = some (rngV s n).toArray := by
  obtain ⟨it, h1, h2⟩ := info_at infoOr
  rw [built_struct (places := [(0, 512), (512, 1)]) h1 h2 Try.underlying89 (by kernel_rfl)]
  exact fill_two _ (oddsV s) 512 (List.length_replicate ..) (oddsV_length s) _ _ rfl _ rfl rfl
theorem infoOw : (Try.prog.info? 92).map (fun i => (i.zero, i.size)) = some (some (.agg ((List.replicate 512 (Value.int .u16 0) ++ [Value.int .u32 0]) ++ [Value.int .u32 0, Value.slice none 0 0]).toArray), 515) := by kernel_rfl
theorem builtOw (s : Int → Int) (n : Int) : Try.prog.built 92 [(0, .agg (rngV s n).toArray)] = some (oddsV s ++ [Value.int .u32 n, Value.int .u32 0, Value.slice none 0 0]).toArray := by
  obtain ⟨it, h1, h2⟩ := info_at infoOw
  rw [built_struct (places := [(0, 513), (513, 1), (514, 1)]) h1 h2 Try.underlying92 (by kernel_rfl)]
  refine (fill_first _ (rngV s n) _ 513 (by rw [List.length_append, List.length_replicate]; rfl) (rngV_len s n) _ rfl).trans ?_
  unfold rngV
  rw [List.append_assoc]; rfl
end Go.Proofs.Ytocoeodoihdkgaa

/- Odds: the program's OddsPack. -/
namespace Go.Proofs.Ytocoeodoihdkgaa
open Go.RowKit

def rng0 : List Value := rngV odds0 4294967295
theorem sizeOr : (Try.prog.info? 89).map (·.size) = some 513 := (zero_of_info infoOr).2
theorem sizeOw : (Try.prog.info? 92).map (·.size) = some 515 := (zero_of_info infoOw).2
theorem oneRow (s : Int → Int) (tl : List Value) (ht : ∀ v ∈ tl, v.oneCell' = true) : (oddsV s ++ tl).toArray.all (·.oneCell') = true := by
  rw [Array.all_eq_true_iff_forall_mem]
  intro v hv
  simp only [List.mem_toArray, List.mem_append] at hv
  rcases hv with hv | hv
  · simp only [oddsV, List.mem_map] at hv
    obtain ⟨x, _, rfl⟩ := hv
    rfl
  · exact ht v hv
set_option maxHeartbeats 4000000 in
set_option maxRecDepth 1000000 in
theorem implStartRange (w : World) :
    Calls Try.prog 59 #[] w fun e w' => e = .returned (.agg rng0.toArray) ∧ Upd 0 0 w w' := by
  obtain ⟨z, hz0, hz⟩ : ∃ z : Array Value, z.size = 513 ∧ ∀ w, (zeroValue 89).run Try.prog w = .ok (.agg z) w := ⟨_, by rw [List.size_toArray, List.length_append, List.length_replicate]; rfl, (zero_of_info infoOr).1⟩
  have hsz : (Try.prog.info? 89).map (·.size) = some 513 := sizeOr
  have hS := hide (fun X => implStartOdds X)
  have hone : Hid (rng0.toArray.all (·.oneCell') = true) := hide (by unfold rng0 rngV; exact oneRow odds0 [Value.int .u32 4294967295] (fun v hv => by rw [List.mem_singleton] at hv; rw [hv]; rfl))
  have hcs : Hid ((Try.prog.info? 89).map (·.size) = some rng0.toArray.size) := hide (hsz.trans (by unfold rng0; rw [List.size_toArray, rngV_len]))
  have hcz : Hid (z.size = rng0.toArray.size) := hide (hz0.trans (by unfold rng0; rw [List.size_toArray, rngV_len]))
  have hbt : Try.prog.built 89 [(0, .agg (oddsV odds0).toArray), (1, .int .u32 4294967295)] = some rng0.toArray := builtOr odds0 4294967295
  have hB0 := hide ((Below.refl w.heap.size w).alloc (Nat.le_refl _) (.cells z 89))
  have hr0 := hide (heap_alloc_new w (.cells z 89))
  generalize hRR : rng0.toArray = R at hone hcs hcz hbt ⊢
  clear hz0 hsz hRR
  replace hbt := hide hbt
  go_enter Try.func59, Try.ntmps59
  go_wp2_with fail
  generalize w.alloc (.cells z 89) = w0 at hB0 hr0 ⊢
  refine (unhide hS _).mono ?_
  rintro e w1 ⟨rfl, hu1⟩
  have hr1 := hide ((hu1.block w.heap.size (by have := (Array.getElem?_eq_some_iff.1 (unhide hr0)).1; omega) (.inr (Nat.zero_le _))).trans (unhide hr0))
  have hB1 := hide (below_upd (unhide hB0) hu1 (Nat.le_refl _) (.inr (Nat.le_refl _)))
  clear hu1 hr0 hB0 hz
  rename_i aK
  refine aK _ _ ?_
  refine wpList_buildTo rfl 89 _ rfl _ rfl R ?hf ?_
  case hf =>
    simp only [List.map_toArray, List.map_cons, List.map_nil]
    exact unhide hbt
  refine wpList_store_row rfl 89 (.tmp 0) (.tmp 2) rfl w.heap.size R rfl rfl 89 z (unhide hr1) (unhide hcs) (unhide hcz) (unhide hone) ?_
  have hres := hide (setRow_heap w1 w.heap.size z R 89 (0, 0) (unhide hr1))
  have hb2 := hide (below_setRow (unhide hB1) (Nat.le_refl _) R)
  generalize w1.setRow w.heap.size R = w2 at hres hb2 ⊢
  clear hr1 hB1 hbt hone aK
  go_wp2_with fail
  refine bodyPost_ret (v := .agg R) (results_cell_row rfl _ _ w.heap.size 89 R (0, 0) _ rfl (unhide hres) Try.underlying89 rfl (unhide hcs)) rfl ⟨rfl, Upd.of_below (unhide hb2) 0 0⟩
end Go.Proofs.Ytocoeodoihdkgaa

/- The program's reader of odds, built. -/
namespace Go.Proofs.Ytocoeodoihdkgaa
open Go.RowKit

theorem fill_head (L M T : List Value) (m : Nat) (hL : L.length = m) (hM : M.length = m) (a b : Value) (hb : b.cells = [b].toArray) (place : Nat → Option (Nat × Nat)) (h0 : place 0 = some (0, m)) (h1 : place 1 = some (m, 1)) :
    Instr.fill place (L ++ a :: T).toArray [(0, .agg M.toArray), (1, b)] = some (M ++ b :: T).toArray := by
  rw [fill_step (xs := M) (off := 0) rfl (by rw [h0, hM]) (by simp; omega)]
  rw [List.take_zero, List.nil_append, Nat.zero_add, hM, ← hL, List.drop_left]
  rw [fill_step (xs := [b]) (off := m) hb h1 (by simp; omega), fillOne]
  rw [List.take_left' hM]
  have hd : (M ++ a :: T).drop (m + [b].length) = T := by
    show List.drop (m + 1) _ = _
    rw [← hM, ← List.drop_drop, List.drop_left]; rfl
  rw [hd, List.append_assoc]; rfl
theorem infoRd : (Try.prog.info? 100).map (fun i => (i.zero, i.size)) = some (some (.agg ((List.replicate 512 (Value.int .u16 0) ++ [Value.int .u32 0]) ++ [Value.slice none 0 0, Value.int .i64 0, Value.int .u32 0, Value.int .i64 0]).toArray), 517) := by kernel_rfl
theorem sizeRd : (Try.prog.info? 100).map (·.size) = some 517 := (zero_of_info infoRd).2
theorem builtRd (s : Int → Int) (n : Int) (ad : Option Addr) (l c : Nat) : Try.prog.built 100 [(0, .agg (rngV s n).toArray), (1, .slice ad l c)] = some (oddsV s ++ [Value.int .u32 n, Value.slice ad l c, Value.int .i64 0, Value.int .u32 0, Value.int .i64 0]).toArray := by
  obtain ⟨it, h1, h2⟩ := info_at infoRd
  rw [built_struct (places := [(0, 513), (513, 1), (514, 1), (515, 1), (516, 1)]) h1 h2 Try.underlying100 (by kernel_rfl)]
  refine (fill_head _ (rngV s n) _ 513 (by rw [List.length_append, List.length_replicate]; rfl) (rngV_len s n) _ _ rfl _ rfl rfl).trans ?_
  unfold rngV
  rw [List.append_assoc]; rfl
end Go.Proofs.Ytocoeodoihdkgaa

/- Odds: the program's reader opened. -/
namespace Go.Proofs.Ytocoeodoihdkgaa
open Go.RowKit

def rdV (s : Int → Int) (dv : Value) (r : Rd) : List Value := oddsV s ++ [.int .u32 r.rng, dv, .int .i64 (r.at_ : Int), .int .u32 r.code, .int .i64 r.err]
theorem rdV_len (s : Int → Int) (dv : Value) (r : Rd) : (rdV s dv r).length = 517 := by simp [rdV]
theorem odAt_rowH {W : World} {g : Nat} {s : Int → Int} {t : TypeId} {rest : List Value} (h : W.heap[g]? = some (.cells (oddsV s ++ rest).toArray t (0, 0))) : OdAt W g s rest := by
  refine ⟨⟨(Array.getElem?_eq_some_iff.1 h).1, fun j v hj => ?_⟩, fun j => frozen_of_row _ _ _ _ _ h⟩
  rw [cell_of_row _ _ _ _ _ _ h, List.getElem?_toArray]
  exact hj
/-- A row of cells that are all known. -/
theorem row_known {W : World} {g : Nat} {t : TypeId} {L : List Value} (h : HeldF W g L) (hr : RowOf W g t L.length) : W.heap[g]? = some (.cells L.toArray t (0, 0)) := by
  obtain ⟨cs, h1, h2⟩ := hr
  rw [h1]
  have e : cs = L.toArray := by
    apply Array.ext_getElem?
    intro j
    by_cases hj : j < L.length
    · have hc := h.1.2 j _ (List.getElem?_eq_getElem hj)
      rw [cell_of_row _ _ _ _ _ _ h1] at hc
      rw [hc, List.getElem?_toArray, List.getElem?_eq_getElem hj]
    · rw [Array.getElem?_eq_none (by omega), List.getElem?_toArray, List.getElem?_eq_none (by omega)]
  rw [e]
set_option maxHeartbeats 16000000 in
set_option maxRecDepth 1000000 in
theorem implReadOdds (ad : Option Addr) (cap : Nat) (ds : List Int) (w : World) (hA : ArgY w ad ds) (hd : ByteOk ds) (hn : ds.length ≤ 1048576) :
    Calls Try.prog 69 #[.slice ad ds.length cap] w fun e w' => e = .returned (.agg (rdV odds0 (.slice ad ds.length cap) (openR ds)).toArray) ∧ Upd 0 0 w w' := by
  obtain ⟨z, hz0, hz⟩ : ∃ z : Array Value, z.size = 517 ∧ ∀ w, (zeroValue 100).run Try.prog w = .ok (.agg z) w := ⟨_, by rw [List.size_toArray, List.length_append, List.length_append, List.length_replicate]; rfl, (zero_of_info infoRd).1⟩
  have hok := hide (openK_ok ds hd)
  have hS := hide (fun X => implStartRange X)
  obtain ⟨R, hRR⟩ : ∃ R, (rdV odds0 (.slice ad ds.length cap) rd0).toArray = R := ⟨_, rfl⟩
  have hRl : R.size = 517 := by rw [← hRR, List.size_toArray, rdV_len]
  have hbt := hide (show Try.prog.built 100 [(0, .agg rng0.toArray), (1, .slice ad ds.length cap)] = some R from (builtRd odds0 4294967295 ad ds.length cap).trans (by rw [← hRR]; rfl))
  have hoV : ∀ v ∈ (rdV odds0 (.slice ad ds.length cap) rd0), v.oneCell' = true := by
    intro v hv
    have h := oneRow odds0 [.int .u32 4294967295, .slice ad ds.length cap, .int .i64 0, .int .u32 0, .int .i64 0] (fun v hv => by simp only [List.mem_cons, List.not_mem_nil, or_false] at hv; rcases hv with rfl | rfl | rfl | rfl | rfl <;> rfl)
    rw [Array.all_eq_true_iff_forall_mem] at h
    exact h v (by simpa [rdV, rd0] using hv)
  have hone : Hid (R.all (·.oneCell') = true) := hide (by
    rw [← hRR, Array.all_eq_true_iff_forall_mem]
    intro v hv
    exact hoV v (by simpa using hv))
  have hcs : Hid ((Try.prog.info? 100).map (·.size) = some R.size) := hide (sizeRd.trans (by rw [hRl]))
  have hcz : Hid (z.size = R.size) := hide (hz0.trans hRl.symm)
  clear hoV hRl
  replace hRR := hide hRR
  generalize hrr : rng0.toArray = RR at hS hbt
  have hB0 := hide ((Below.refl w.heap.size w).alloc (Nat.le_refl _) (.cells z 100))
  have hr0 := hide (heap_alloc_new w (.cells z 100))
  have hz517 := hide hz0
  clear hrr hz0
  replace hA := hide hA
  replace hd := hide hd
  go_enter Try.func69, Try.ntmps69
  go_wp2_with fail
  generalize w.alloc (.cells z 100) = w0 at hB0 hr0 ⊢
  refine (unhide hS _).mono ?_
  rintro e w1 ⟨rfl, hu1⟩
  have hlt0 := (Array.getElem?_eq_some_iff.1 (unhide hr0)).1
  have hr1 := hide ((hu1.block w.heap.size hlt0 (.inr (Nat.zero_le _))).trans (unhide hr0))
  have hB1 := hide (below_upd (unhide hB0) hu1 (Nat.le_refl _) (.inr (Nat.le_refl _)))
  have hs1 : w.heap.size < w1.heap.size := by have := hu1.size; omega
  clear hu1 hr0 hB0 hS hlt0
  rename_i aK
  refine aK _ _ ?_
  refine wpList_plain rfl (fun K hK => ?_)
  go_simp
  refine hK _ _ ?_
  clear hK K
  refine wpList_buildTo rfl 100 _ rfl _ rfl R ?hf ?_
  case hf =>
    simp only [List.map_toArray, List.map_cons, List.map_nil]
    exact unhide hbt
  clear aK
  go_upto_region 2 with (first | (refine wpList_store_row rfl 100 (.tmp 3) (.tmp 6) rfl w1.heap.size R rfl rfl 100 z (heap_alloc_new w1 _) (unhide hcs) (unhide hcz) (unhide hone) ?_))
  have hb3 : Below w1.heap.size w1 ((w1.alloc (.cells z 100)).setRow w1.heap.size R) := below_setRow ((Below.refl w1.heap.size w1).alloc (Nat.le_refl _) _) (Nat.le_refl _) _
  have hrow := setRow_heap (w1.alloc (.cells z 100)) w1.heap.size z R 100 (0, 0) (heap_alloc_new w1 _)
  generalize (w1.alloc (.cells z 100)).setRow w1.heap.size R = W3 at hrow hb3 ⊢
  have hr3 := hide ((hb3.block w.heap.size hs1).trans (unhide hr1))
  have hB3 := hide ((unhide hB1).trans (hb3.mono (Nat.le_of_lt hs1)))
  rw [← unhide hRR] at hrow
  have hod : Hid (RrAt W3 w1.heap.size odds0 (.slice ad ds.length cap) (openK ds 0)) := hide (odAt_rowH hrow)
  have hro : Hid (RowOf W3 w1.heap.size 100 517) := hide ⟨_, hrow, by rw [List.size_toArray, rdV_len]⟩
  generalize w1.heap.size = g at hs1 hod hro ⊢
  clear hb3 hrow hr1 hB1 hz hone hbt hRR hcs hcz
  go_wp2_with fail
  go_loopw [7] (fun i wx => ∃ m : Nat, i = .int .i64 (m : Int) ∧ m ≤ 4 ∧ Hid (RrAt wx g odds0 (.slice ad ds.length cap) (openK ds m)) ∧ Hid (RowOf wx g 100 517) ∧ Hid (wx.heap[w.heap.size]? = some (.cells z 100 (0, 0))) ∧ Hid (Below w.heap.size w wx)) (fun i _ => 4 - (intOf i).toNat)
  case atStart => exact ⟨0, rfl, by omega, hod, hro, hr3, hB3⟩
  case round =>
    clear hod hro hr3 hB3
    obtain ⟨m, rfl, hm, hod, hro, hr3, hB⟩ := hrel
    by_cases hm4 : m < 4
    · have t4 : decide ((m : Int) < 4) = true := decide_eq_true (by omega)
      obtain ⟨o1, o2, o3, o4, o5⟩ := unhide hok m (by omega)
      have o6 : (2 : Int) ^ (8 * m) ≤ 16777216 := by
        rcases (show m = 0 ∨ m = 1 ∨ m = 2 ∨ m = 3 by omega) with rfl | rfl | rfl | rfl <;> decide
      have hby := hide (implRShift g odds0 ad cap ds (openK ds m) wr (unhide hod) ((unhide hA).below (unhide hB)) (unhide hd) hn o1 o2 (.inl (by omega)) o5)
      rw [← openK_succ] at hby
      clear o1 o2 o3 o4 o5 o6
      go_wp2_with fail
      refine (unhide hby).mono ?_
      rintro e w4 ⟨rfl, hO4, hu4⟩
      have hro4 := hide (hu4.row _ _ (unhide hro))
      have hr4 := hide ((hu4.u.block w.heap.size (Array.getElem?_eq_some_iff.1 (unhide hr3)).1 (by omega)).trans (unhide hr3))
      have hB4 := hide (below_upd (unhide hB) hu4.u (Nat.le_refl _) (.inl (by omega)))
      replace hO4 := hide hO4
      clear hod hro hr3 hB hu4 hby
      go_wp2_with fail
      go_roundw
      case rel => exact ⟨m + 1, by go_num, by omega, hO4, hro4, hr4, hB4⟩
      case measure => simp [intOf]; omega
    · obtain rfl : m = 4 := by omega
      obtain ⟨o1, o2, o3, o4, o5⟩ := unhide hok 4 (by omega)
      have hE : Hid (openR ds = codeF (openK ds 4)) := hide rfl
      generalize openK ds 4 = r at hod o1 o2 o3 o4 o5 hE
      obtain ⟨rng, code, at_, err⟩ := r
      simp only at o1 o2 o3 o4 o5
      subst o4
      have hgl := (unhide hod).lt
      have e0 : wr.cell? ⟨g, 512, none⟩ = some (.int .u32 4294967295) := (unhide hod).back 0 _ rfl
      have e3 : wr.cell? ⟨g, 515, none⟩ = some (.int .u32 code) := (unhide hod).back 3 _ rfl
      have e4 : wr.cell? ⟨g, 516, none⟩ = some (.int .i64 err) := (unhide hod).back 4 _ rfl
      have f4 := (unhide hod).frozen 516
      have hne : g ≠ w.heap.size := by omega
      clear hok o3
      by_cases hbad : err = 0 ∧ 4294967295 ≤ code
      · obtain ⟨he, hc⟩ := hbad
        subst he
        have t1 : decide (4294967295 ≤ code) = true := decide_eq_true hc
        have hE2 := hide (show openR ds = ⟨4294967295, code, at_, 4⟩ by rw [unhide hE]; unfold codeF; rw [if_pos ⟨rfl, hc⟩])
        have hod5 := hide (show OdAt (wr.setCell ⟨g, 516, none⟩ (.int .i64 4)) g odds0 [.int .u32 4294967295, .slice ad ds.length cap, .int .i64 (at_ : Int), .int .u32 code, .int .i64 4] from (unhide hod).setBack 4 (by simp) (.int .i64 4))
        have hu5 := updR_set wr g 516 (.int .i64 4)
        have hro5 := hide (hu5.row _ _ (unhide hro))
        have hr5 := hide ((hu5.u.block w.heap.size (Array.getElem?_eq_some_iff.1 (unhide hr3)).1 (by omega)).trans (unhide hr3))
        have hB5 := hide (below_upd (unhide hB) hu5.u (Nat.le_refl _) (.inl (by omega)))
        clear hE hc hu5 hod hro hr3 hB
        go_upto_region 8 with fail
        generalize wr.setCell ⟨g, 516, none⟩ (.int .i64 4) = w5 at hod5 hro5 hr5 hB5 ⊢
        clear e0 e3 e4 f4
        have hfull := hide (show w5.heap[g]? = some (.cells (rdV odds0 (.slice ad ds.length cap) (openR ds)).toArray 100 (0, 0)) from row_known (by rw [unhide hE2]; exact unhide hod5) (by rw [rdV_len]; exact unhide hro5))
        have hdv : ∀ u ∈ (rdV odds0 (.slice ad ds.length cap) (openR ds)), u.oneCell' = true := by
          rw [unhide hE2]
          intro u hv
          have h := oneRow odds0 [.int .u32 4294967295, .slice ad ds.length cap, .int .i64 (at_ : Int), .int .u32 code, .int .i64 4] (fun v hv => by simp only [List.mem_cons, List.not_mem_nil, or_false] at hv; rcases hv with rfl | rfl | rfl | rfl | rfl <;> rfl)
          rw [Array.all_eq_true_iff_forall_mem] at h
          exact h u (by simpa [rdV] using hv)
        have hlen := rdV_len odds0 (.slice ad ds.length cap) (openR ds)
        obtain ⟨L, hL⟩ : ∃ L, rdV odds0 (.slice ad ds.length cap) (openR ds) = L := ⟨_, rfl⟩
        rw [hL] at hfull hdv hlen
        replace hL := hide hL
        have hLo : Hid (L.toArray.all (·.oneCell') = true) := hide (by rw [Array.all_eq_true_iff_forall_mem]; intro v hv; exact hdv v (by simpa using hv))
        have hLs : Hid ((Try.prog.info? 100).map (·.size) = some L.toArray.size) := hide (sizeRd.trans (by rw [List.size_toArray, hlen]))
        have hLz : Hid (z.size = L.toArray.size) := hide ((unhide hz517).trans (by rw [List.size_toArray, hlen]))
        clear hdv hlen hod5 hro5 hE2
        go_wp2_with fail
        refine wp_load_row 100 (.tmp 3) rfl g rfl 100 L.toArray (0, 0) _ (unhide hfull) Try.underlying100 rfl (unhide hLs) ?_
        rename_i aK
        refine aK _ _ ?_
        refine wpList_store_row rfl 100 (.tmp 2) (.tmp 23) rfl w.heap.size L.toArray rfl rfl 100 z (unhide hr5) (unhide hLs) (unhide hLz) (unhide hLo) ?_
        have hres := hide (setRow_heap w5 w.heap.size z L.toArray 100 (0, 0) (unhide hr5))
        have hb6 := hide (below_setRow (unhide hB5) (Nat.le_refl _) L.toArray)
        generalize w5.setRow w.heap.size L.toArray = w6 at hres hb6 ⊢
        clear hr5 hB5 hfull aK
        go_wp2_with fail
        refine bodyPost_ret (v := .agg L.toArray) (results_cell_row rfl _ _ w.heap.size 100 L.toArray (0, 0) _ rfl (unhide hres) Try.underlying100 rfl (unhide hLs)) rfl ⟨by rw [unhide hL], Upd.of_below (unhide hb6) 0 0⟩
      · have hE2 := hide (show openR ds = ⟨4294967295, code, at_, err⟩ by rw [unhide hE]; unfold codeF; rw [if_neg hbad])
        have hod5 := hide (show OdAt wr g odds0 [.int .u32 4294967295, .slice ad ds.length cap, .int .i64 (at_ : Int), .int .u32 code, .int .i64 err] from unhide hod)
        have hro5 := hro
        have hr5 := hr3
        have hB5 := hB
        clear hE hod hro hr3 hB
        rcases (show err = 0 ∧ code < 4294967295 ∨ err = 2 by rcases o5 with h | h
                                                              · exact .inl ⟨h, by rcases Int.lt_or_le code 4294967295 with h2 | h2
                                                                                  · exact h2
                                                                                  · exact absurd ⟨h, h2⟩ hbad⟩
                                                              · exact .inr h) with ⟨rfl, hc⟩ | rfl
        · have t1 : decide (4294967295 ≤ code) = false := decide_eq_false (by omega)
          clear hbad hc
          go_upto_region 8 with fail
          generalize wr = w5 at hod5 hro5 hr5 hB5 ⊢
          clear e0 e3 e4 f4
          have hfull := hide (show w5.heap[g]? = some (.cells (rdV odds0 (.slice ad ds.length cap) (openR ds)).toArray 100 (0, 0)) from row_known (by rw [unhide hE2]; exact unhide hod5) (by rw [rdV_len]; exact unhide hro5))
          have hdv : ∀ u ∈ (rdV odds0 (.slice ad ds.length cap) (openR ds)), u.oneCell' = true := by
            rw [unhide hE2]
            intro u hv
            have h := oneRow odds0 [.int .u32 4294967295, .slice ad ds.length cap, .int .i64 (at_ : Int), .int .u32 code, .int .i64 0] (fun v hv => by simp only [List.mem_cons, List.not_mem_nil, or_false] at hv; rcases hv with rfl | rfl | rfl | rfl | rfl <;> rfl)
            rw [Array.all_eq_true_iff_forall_mem] at h
            exact h u (by simpa [rdV] using hv)
          have hlen := rdV_len odds0 (.slice ad ds.length cap) (openR ds)
          obtain ⟨L, hL⟩ : ∃ L, rdV odds0 (.slice ad ds.length cap) (openR ds) = L := ⟨_, rfl⟩
          rw [hL] at hfull hdv hlen
          replace hL := hide hL
          have hLo : Hid (L.toArray.all (·.oneCell') = true) := hide (by rw [Array.all_eq_true_iff_forall_mem]; intro v hv; exact hdv v (by simpa using hv))
          have hLs : Hid ((Try.prog.info? 100).map (·.size) = some L.toArray.size) := hide (sizeRd.trans (by rw [List.size_toArray, hlen]))
          have hLz : Hid (z.size = L.toArray.size) := hide ((unhide hz517).trans (by rw [List.size_toArray, hlen]))
          clear hdv hlen hod5 hro5 hE2
          go_wp2_with fail
          refine wp_load_row 100 (.tmp 3) rfl g rfl 100 L.toArray (0, 0) _ (unhide hfull) Try.underlying100 rfl (unhide hLs) ?_
          rename_i aK
          refine aK _ _ ?_
          refine wpList_store_row rfl 100 (.tmp 2) (.tmp 23) rfl w.heap.size L.toArray rfl rfl 100 z (unhide hr5) (unhide hLs) (unhide hLz) (unhide hLo) ?_
          have hres := hide (setRow_heap w5 w.heap.size z L.toArray 100 (0, 0) (unhide hr5))
          have hb6 := hide (below_setRow (unhide hB5) (Nat.le_refl _) L.toArray)
          generalize w5.setRow w.heap.size L.toArray = w6 at hres hb6 ⊢
          clear hr5 hB5 hfull aK
          go_wp2_with fail
          refine bodyPost_ret (v := .agg L.toArray) (results_cell_row rfl _ _ w.heap.size 100 L.toArray (0, 0) _ rfl (unhide hres) Try.underlying100 rfl (unhide hLs)) rfl ⟨by rw [unhide hL], Upd.of_below (unhide hb6) 0 0⟩
        · clear hbad
          go_upto_region 8 with fail
          generalize wr = w5 at hod5 hro5 hr5 hB5 ⊢
          clear e0 e3 e4 f4
          have hfull := hide (show w5.heap[g]? = some (.cells (rdV odds0 (.slice ad ds.length cap) (openR ds)).toArray 100 (0, 0)) from row_known (by rw [unhide hE2]; exact unhide hod5) (by rw [rdV_len]; exact unhide hro5))
          have hdv : ∀ u ∈ (rdV odds0 (.slice ad ds.length cap) (openR ds)), u.oneCell' = true := by
            rw [unhide hE2]
            intro u hv
            have h := oneRow odds0 [.int .u32 4294967295, .slice ad ds.length cap, .int .i64 (at_ : Int), .int .u32 code, .int .i64 2] (fun v hv => by simp only [List.mem_cons, List.not_mem_nil, or_false] at hv; rcases hv with rfl | rfl | rfl | rfl | rfl <;> rfl)
            rw [Array.all_eq_true_iff_forall_mem] at h
            exact h u (by simpa [rdV] using hv)
          have hlen := rdV_len odds0 (.slice ad ds.length cap) (openR ds)
          obtain ⟨L, hL⟩ : ∃ L, rdV odds0 (.slice ad ds.length cap) (openR ds) = L := ⟨_, rfl⟩
          rw [hL] at hfull hdv hlen
          replace hL := hide hL
          have hLo : Hid (L.toArray.all (·.oneCell') = true) := hide (by rw [Array.all_eq_true_iff_forall_mem]; intro v hv; exact hdv v (by simpa using hv))
          have hLs : Hid ((Try.prog.info? 100).map (·.size) = some L.toArray.size) := hide (sizeRd.trans (by rw [List.size_toArray, hlen]))
          have hLz : Hid (z.size = L.toArray.size) := hide ((unhide hz517).trans (by rw [List.size_toArray, hlen]))
          clear hdv hlen hod5 hro5 hE2
          go_wp2_with fail
          refine wp_load_row 100 (.tmp 3) rfl g rfl 100 L.toArray (0, 0) _ (unhide hfull) Try.underlying100 rfl (unhide hLs) ?_
          rename_i aK
          refine aK _ _ ?_
          refine wpList_store_row rfl 100 (.tmp 2) (.tmp 23) rfl w.heap.size L.toArray rfl rfl 100 z (unhide hr5) (unhide hLs) (unhide hLz) (unhide hLo) ?_
          have hres := hide (setRow_heap w5 w.heap.size z L.toArray 100 (0, 0) (unhide hr5))
          have hb6 := hide (below_setRow (unhide hB5) (Nat.le_refl _) L.toArray)
          generalize w5.setRow w.heap.size L.toArray = w6 at hres hb6 ⊢
          clear hr5 hB5 hfull aK
          go_wp2_with fail
          refine bodyPost_ret (v := .agg L.toArray) (results_cell_row rfl _ _ w.heap.size 100 L.toArray (0, 0) _ rfl (unhide hres) Try.underlying100 rfl (unhide hLs)) rfl ⟨by rw [unhide hL], Upd.of_below (unhide hb6) 0 0⟩
end Go.Proofs.Ytocoeodoihdkgaa

/- Plain: blocks of eight by eight: what is one, scales, coarse and fine numbers, waves. -/
namespace Go.Proofs.Ytocoeodoihdkgaa
open Go.RowKit

/-- All numbers lie within two ends. -/
def InR (lo hi : Int) (zs : List Int) : Prop := ∀ j, j < zs.length → lo ≤ zs.getD j 0 ∧ zs.getD j 0 ≤ hi
def inRB (lo hi : Int) (zs : List Int) : Bool := (List.range zs.length).all fun j => decide (lo ≤ zs.getD j 0 ∧ zs.getD j 0 ≤ hi)
theorem inRB_iff0 {lo hi : Int} {zs : List Int} : inRB lo hi zs = true ↔ InR lo hi zs := by
  unfold inRB InR
  rw [List.all_eq_true]
  exact ⟨fun h j hj => of_decide_eq_true (h j (List.mem_range.2 hj)), fun h j hj => decide_eq_true (h j (List.mem_range.1 hj))⟩
theorem inRB_yes {lo hi : Int} {zs : List Int} (h : InR lo hi zs) : inRB lo hi zs = true := inRB_iff0.2 h
theorem inRB_no {lo hi : Int} {zs : List Int} (h : ¬ InR lo hi zs) : inRB lo hi zs = false := Bool.eq_false_iff.2 (fun h' => h (inRB_iff0.1 h'))
def BlOk (zs : List Int) : Prop := zs.length = 64 ∧ InR (-32768) 32767 zs
noncomputable def blB (zs : List Int) : Bool := open Classical in decide (BlOk zs)
theorem blB_yes {zs : List Int} (h : BlOk zs) : blB zs = true := by unfold blB; simpa using h
theorem blB_no {zs : List Int} (h : ¬ BlOk zs) : blB zs = false := by unfold blB; simpa using h
def ScOk (zs : List Int) : Prop := zs.length = 64 ∧ InR 1 255 zs
noncomputable def scB (zs : List Int) : Bool := open Classical in decide (ScOk zs)
theorem scB_yes {zs : List Int} (h : ScOk zs) : scB zs = true := by unfold scB; simpa using h
theorem scB_no {zs : List Int} (h : ¬ ScOk zs) : scB zs = false := by unfold scB; simpa using h

/-- 64 numbers told by their places. -/
def tab (f : Nat → Int) : List Int := (List.range 64).map f
@[simp] theorem tab_length (f : Nat → Int) : (tab f).length = 64 := by simp [tab]
theorem tab_getD (f : Nat → Int) (k : Nat) (h : k < 64) : (tab f).getD k 0 = f k := by
  unfold tab
  rw [List.getD_eq_getElem?_getD, List.getElem?_map, List.getElem?_range h]; rfl
theorem tab_inR (f : Nat → Int) (lo hi : Int) (h : ∀ k, k < 64 → lo ≤ f k ∧ f k ≤ hi) : InR lo hi (tab f) := by
  intro j hj
  rw [tab_length] at hj
  rw [tab_getD f j hj]; exact h j hj

/-! ### Scales -/
def baseZ (v u : Nat) (c : Bool) : Int := if c then 10 + 6 * ((u : Int) + v) else 8 + 3 * ((u : Int) + v) + ((u * v / 2 : Nat) : Int)
def percZ (q : Int) : Int := if q < 50 then 5000 / q else 200 - 2 * q
def cutZ (a b n : Int) : Int := if n < a then a else if b < n then b else n
def scaleZ (q : Int) (c : Bool) (i : Nat) : Int := cutZ 1 255 ((baseZ (i / 8) (i % 8) c * percZ q + 50) / 100)
def scalesF (q : Int) (c : Bool) : List Int := if 1 ≤ q ∧ q ≤ 100 then tab (scaleZ q c) else []
theorem scalesF_len (q : Int) (c : Bool) : (scalesF q c).length ≤ 1048576 := by unfold scalesF; split <;> simp
theorem baseZ_bd (v u : Nat) (c : Bool) (hv : v < 8) (hu : u < 8) : 8 ≤ baseZ v u c ∧ baseZ v u c ≤ 94 := by
  unfold baseZ
  have h : u * v ≤ 7 * 7 := Nat.mul_le_mul (by omega) (by omega)
  split <;> omega
theorem percZ_bd (q : Int) (h1 : 1 ≤ q) (h2 : q ≤ 100) : 0 ≤ percZ q ∧ percZ q ≤ 5000 := by
  unfold percZ
  split
  · have h0 : 5000 / q ≤ 5000 := Int.ediv_le_self _ (by omega)
    have h3 : 0 ≤ 5000 / q := Int.ediv_nonneg (by omega) (by omega)
    omega
  · omega
theorem cutZ_bd (a b n : Int) (h : a ≤ b) : a ≤ cutZ a b n ∧ cutZ a b n ≤ b := by unfold cutZ; split <;> (try split) <;> omega
theorem cutZ_max (a b n : Int) (h : a ≤ b) : max a (min b n) = cutZ a b n := by unfold cutZ; split <;> (try split) <;> omega
theorem scalesF_ok (q : Int) (c : Bool) (h : 1 ≤ q ∧ q ≤ 100) : ScOk (scalesF q c) := by
  unfold scalesF
  rw [if_pos h]
  exact ⟨by simp, tab_inR _ _ _ (fun k _ => cutZ_bd _ _ _ (by omega))⟩

/-! ### Coarse and fine numbers -/
def coarseZ (n t : Int) : Int := if n < 0 then -((-n + t / 2) / t) else (n + t / 2) / t
def fineZ (n t : Int) : Int := cutZ (-32768) 32767 (n * t)
noncomputable def twoF (g : Int → Int → Int) (zs ts : List Int) : List Int := if blB zs && scB ts then tab (fun i => g (zs.getD i 0) (ts.getD i 0)) else []
theorem twoF_len (g : Int → Int → Int) (zs ts : List Int) : (twoF g zs ts).length ≤ 1048576 := by unfold twoF; split <;> simp
theorem twoF_no {g : Int → Int → Int} {zs ts : List Int} (h : ¬ (BlOk zs ∧ ScOk ts)) : twoF g zs ts = [] := by
  unfold twoF
  by_cases h1 : BlOk zs
  · rw [blB_yes h1, scB_no (fun h2 => h ⟨h1, h2⟩)]; rfl
  · rw [blB_no h1]; rfl
theorem twoF_yes {g : Int → Int → Int} {zs ts : List Int} (h1 : BlOk zs) (h2 : ScOk ts) : twoF g zs ts = tab (fun i => g (zs.getD i 0) (ts.getD i 0)) := by
  unfold twoF; rw [blB_yes h1, scB_yes h2]; rfl
theorem quot_bd (n t : Int) (hn : 0 ≤ n) (ht : 1 ≤ t) : 0 ≤ (n + t / 2) / t ∧ (n + t / 2) / t ≤ n := by
  have h1 : 0 ≤ (n + t / 2) / t := Int.ediv_nonneg (by omega) (by omega)
  refine ⟨h1, ?_⟩
  rcases Int.lt_or_le n ((n + t / 2) / t) with h | h
  · exfalso
    have h2 : (n + t / 2) / t * t ≤ n + t / 2 := Int.ediv_mul_le _ (by omega)
    have h3 : (n + 1) * t ≤ (n + t / 2) / t * t := Int.mul_le_mul_of_nonneg_right (by omega) (by omega)
    have h4 : n * t ≥ n := by
      have : n * 1 ≤ n * t := Int.mul_le_mul_of_nonneg_left ht hn
      omega
    rw [Int.add_mul] at h3
    omega
  · exact h
theorem coarseZ_bd (n t : Int) (hn : -32768 ≤ n ∧ n ≤ 32767) (ht : 1 ≤ t) : -32768 ≤ coarseZ n t ∧ coarseZ n t ≤ 32767 := by
  unfold coarseZ
  split
  · have := quot_bd (-n) t (by omega) ht; omega
  · have := quot_bd n t (by omega) ht; omega
theorem twoF_ok {g : Int → Int → Int} {zs ts : List Int} (h1 : BlOk zs) (h2 : ScOk ts) (hg : ∀ n t, (-32768 ≤ n ∧ n ≤ 32767) → (1 ≤ t ∧ t ≤ 255) → -32768 ≤ g n t ∧ g n t ≤ 32767) : BlOk (twoF g zs ts) := by
  rw [twoF_yes h1 h2]
  exact ⟨by simp, tab_inR _ _ _ (fun k hk => hg _ _ (h1.2 k (by rw [h1.1]; exact hk)) (h2.2 k (by rw [h2.1]; exact hk)))⟩
/-- Half a scale away at most. -/
theorem near_mul (n t : Int) (ht : 1 ≤ t) : -t ≤ 2 * ((n + t / 2) / t * t - n) ∧ 2 * ((n + t / 2) / t * t - n) ≤ t := by
  have h1 : (n + t / 2) / t * t ≤ n + t / 2 := Int.ediv_mul_le _ (by omega)
  have h2 : n + t / 2 < ((n + t / 2) / t + 1) * t := Int.lt_ediv_add_one_mul_self _ (by omega)
  rw [Int.add_mul] at h2
  generalize (n + t / 2) / t * t = q at h1 h2 ⊢
  omega
theorem coarse_near (n t : Int) (ht : 1 ≤ t) : -t ≤ 2 * (coarseZ n t * t - n) ∧ 2 * (coarseZ n t * t - n) ≤ t := by
  unfold coarseZ
  split
  · have h := near_mul (-n) t ht
    rw [Int.neg_mul]
    generalize (-n + t / 2) / t * t = q at h ⊢
    omega
  · exact near_mul n t ht
theorem quot_mul (m t : Int) (ht : 1 ≤ t) : (m * t + t / 2) / t = m := by
  rw [Int.add_comm, Int.add_mul_ediv_right _ _ (by omega), Int.ediv_eq_zero_of_lt (by omega) (by omega), Int.zero_add]
theorem coarse_fine (m t : Int) (ht : 1 ≤ t) : coarseZ (m * t) t = m := by
  unfold coarseZ
  by_cases h : m < 0
  · have h1 : m * t < 0 := Int.mul_neg_of_neg_of_pos h (by omega)
    rw [if_pos h1, ← Int.neg_mul, quot_mul _ _ ht]; omega
  · have h1 : ¬ m * t < 0 := by have := Int.mul_nonneg (show 0 ≤ m by omega) (show 0 ≤ t by omega); omega
    rw [if_neg h1, quot_mul _ _ ht]
end Go.Proofs.Ytocoeodoihdkgaa

/- Which lists are blocks, which are scales: the walks of both sides. -/
namespace Go.Proofs.Ytocoeodoihdkgaa
open Go.RowKit

set_option maxHeartbeats 4000000 in
theorem implWithin (ad : Option Addr) (cap : Nat) (zs : List Int) (lo hi : Int) (w : World) (hn : zs.length ≤ 1048576) (hA : ArgI w ad zs) :
    Calls Try.prog 68 #[.slice ad zs.length cap, .int .i64 lo, .int .i64 hi] w fun e w' => e = .returned (.bool (inRB lo hi zs)) ∧ Upd 0 0 w w' := by
  replace hA := hide hA
  have hNo : Hid (∀ k, k < zs.length → ¬ (lo ≤ zs.getD k 0 ∧ zs.getD k 0 ≤ hi) → inRB lo hi zs = false) := hide (fun k hk h => inRB_no (fun h' => h (h' k hk)))
  have hYes : Hid ((∀ j, j < zs.length → (lo ≤ zs.getD j 0 ∧ zs.getD j 0 ≤ hi)) → inRB lo hi zs = true) := hide (fun h => inRB_yes h)
  go_enter Try.func68, Try.ntmps68
  go_wp2
  go_loop [11] (fun i => ∃ k : Nat, k ≤ zs.length ∧ i = .int .i64 k ∧ Hid (∀ j, j < k → (lo ≤ zs.getD j 0 ∧ zs.getD j 0 ≤ hi))) (fun i => zs.length - (intOf i).toNat)
  case atStart => exact ⟨0, Nat.zero_le _, rfl, fun j hj => by omega⟩
  case round =>
    obtain ⟨k, hk', rfl, hok⟩ := hrel
    by_cases hlt : k < zs.length
    · obtain ⟨bb, off, rfl, hbl, hcl⟩ := (unhide hA) (ne_of_lt_length hlt)
      have hck := hcl k hlt
      have hbad := hide (unhide hNo k hlt)
      have hOk : Hid ((lo ≤ zs.getD k 0 ∧ zs.getD k 0 ≤ hi) → ∀ j, j < k + 1 → (lo ≤ zs.getD j 0 ∧ zs.getD j 0 ≤ hi)) := hide (fun h j hj => by
        rcases Nat.lt_or_eq_of_le (Nat.le_of_lt_succ hj) with h' | h'
        · exact unhide hok j h'
        · subst h'; exact h)
      clear hcl hbl
      generalize zs.getD k 0 = x at hck hbad hOk
      by_cases h1 : x < lo
      · have hB := hide (unhide hbad (fun h => by have := h.1; omega))
        clear hbad hOk
        go_wp2
        go_ret
        exact ⟨by rw [unhide hB]; rfl, Upd.refl 0 0 _⟩
      · by_cases h2 : hi < x
        · have hB := hide (unhide hbad (fun h => by have := h.2; omega))
          clear hbad hOk
          go_wp2
          go_ret
          exact ⟨by rw [unhide hB]; rfl, Upd.refl 0 0 _⟩
        · have hok2 := hide (unhide hOk ⟨by omega, by omega⟩)
          clear hbad hOk
          go_wp2
          all_goals
            go_round
            case rel => exact ⟨k + 1, by omega, by go_num, unhide hok2⟩
            case measure => simp [intOf]; omega
    · have hkl : k = zs.length := by omega
      subst hkl
      have hs := hide (unhide hYes (unhide hok))
      go_wp2
      go_ret
      exact ⟨by rw [unhide hs]; rfl, Upd.refl 0 0 _⟩
end Go.Proofs.Ytocoeodoihdkgaa

/- Odds: the program's OddsUnpack: what is refused. -/
namespace Go.Proofs.Ytocoeodoihdkgaa
open Go.RowKit

theorem psOk_inR {p : Int} {ps : List Int} : InR 0 (p - 1) ps ↔ PsOk p ps := ⟨fun h j hj => by have := h j hj; omega, fun h j hj => by have := h j hj; omega⟩
set_option maxHeartbeats 16000000 in
set_option maxRecDepth 100000 in
theorem implOddsUnpackBad (p : Int) (v1 : Value) (ds : List Int) (ad : Option Addr) (cap : Nat) (ps : List Int) (w : World) (hp0 : -9223372036854775808 ≤ p) (hp9 : p ≤ 9223372036854775807) (hn : ps.length ≤ 1048576) (hA : ArgI w ad ps) (hbad : ¬ ((1 ≤ p ∧ p ≤ 512) ∧ ps.length ≤ 20000 ∧ PsOk p ps)) :
    Calls Try.prog 21 #[.int .i64 p, v1, .slice ad ps.length cap] w fun e w' => ∃ u, e = .returned u ∧ OwnCn w' w.heap.size w'.heap.size u (oddsUnpack p ds ps) ∧ Upd 0 0 w w' := by
  rw [unpB_no hbad]
  have hB0 := hide ((Below.refl w.heap.size w).alloc (Nat.le_refl _) (.cells #[.int .i64 0, .slice none 0 0, .int .i64 0] 40))
  have hh0 := hide (heldF_new w [.int .i64 0, .slice none 0 0, .int .i64 0] 40)
  have hE : Hid (∀ X, OwnCn X w.heap.size X.heap.size (ans0 1 0) (1, [], 0)) := hide (fun X => own_ans X _ _ 1 0)
  have hP := hide (fun X => implGoodPlaces p X)
  by_cases hpl : placesB p = true
  case neg =>
    have hpl : placesB p = false := by simpa using hpl
    rw [hpl] at hP
    clear hpl hA hbad
    go_enter Try.func21, Try.ntmps21
    go_upto_region 1 with fail
    simp only [List.toArray] at hh0
    generalize w.alloc (.cells #[.int .i64 0, .slice none 0 0, .int .i64 0] 40) = w0 at hB0 hh0 ⊢
    go_wp2_with fail
    refine (unhide hP _).mono ?_
    rintro e w1 ⟨rfl, hw1⟩
    obtain rfl : w0 = w1 := hw1.symm
    have z0 := (unhide hh0).1.2 0 _ rfl
    have z1 := (unhide hh0).1.2 1 _ rfl
    have z2 := (unhide hh0).1.2 2 _ rfl
    have y0 := (unhide hh0).2 0
    have y1 := (unhide hh0).2 1
    have y2 := (unhide hh0).2 2
    go_wp2
    refine bodyPost_ret (v := ans0 1 0) (by simp [results, Try.results21, go_sem, z0, z1, z2]) rfl ⟨_, rfl, unhide hE _, Upd.of_below ((((unhide hB0).setCell (by simp) _).setCell (by simp) _).setCell (by simp) _) 0 0⟩
  have hpp : 1 ≤ p ∧ p ≤ 512 := by unfold placesB at hpl; simpa using hpl
  rw [hpl] at hP
  clear hpl
  obtain ⟨a1, a2⟩ := hpp
  by_cases hlen : 20000 < ps.length
  · clear hA hbad
    go_enter Try.func21, Try.ntmps21
    go_upto_region 1 with fail
    simp only [List.toArray] at hh0
    generalize w.alloc (.cells #[.int .i64 0, .slice none 0 0, .int .i64 0] 40) = w0 at hB0 hh0 ⊢
    go_wp2_with fail
    refine (unhide hP _).mono ?_
    rintro e w1 ⟨rfl, hw1⟩
    obtain rfl : w0 = w1 := hw1.symm
    have z0 := (unhide hh0).1.2 0 _ rfl
    have z1 := (unhide hh0).1.2 1 _ rfl
    have z2 := (unhide hh0).1.2 2 _ rfl
    have y0 := (unhide hh0).2 0
    have y1 := (unhide hh0).2 1
    have y2 := (unhide hh0).2 2
    go_wp2
    refine bodyPost_ret (v := ans0 1 0) (by simp [results, Try.results21, go_sem, z0, z1, z2]) rfl ⟨_, rfl, unhide hE _, Upd.of_below ((((unhide hB0).setCell (by simp) _).setCell (by simp) _).setCell (by simp) _) 0 0⟩
  have hW := hide (fun X (h : ArgI X ad ps) => implWithin ad cap ps 0 (p - 1) X hn h)
  rw [inRB_no (fun h => hbad ⟨⟨a1, a2⟩, by omega, psOk_inR.1 h⟩)] at hW
  clear hbad
  replace hA := hide hA
  go_enter Try.func21, Try.ntmps21
  go_upto_region 1 with fail
  simp only [List.toArray] at hh0
  generalize w.alloc (.cells #[.int .i64 0, .slice none 0 0, .int .i64 0] 40) = w0 at hB0 hh0 ⊢
  go_wp2_with fail
  refine (unhide hP _).mono ?_
  rintro e w1 ⟨rfl, hw1⟩
  obtain rfl : w0 = w1 := hw1.symm
  go_wp2_with fail
  refine (unhide hW _ ((unhide hA).below (unhide hB0))).mono ?_
  rintro e w2 ⟨rfl, hu2⟩
  have hh2 := hide ((unhide hh0).keep hu2)
  have hB2 := hide (below_upd (unhide hB0) hu2 (Nat.le_refl _) (.inr (Nat.le_refl _)))
  clear hu2
  have z0 := (unhide hh2).1.2 0 _ rfl
  have z1 := (unhide hh2).1.2 1 _ rfl
  have z2 := (unhide hh2).1.2 2 _ rfl
  have y0 := (unhide hh2).2 0
  have y1 := (unhide hh2).2 1
  have y2 := (unhide hh2).2 2
  go_wp2
  refine bodyPost_ret (v := ans0 1 0) (by simp [results, Try.results21, go_sem, z0, z1, z2]) rfl ⟨_, rfl, unhide hE _, Upd.of_below ((((unhide hB2).setCell (by simp) _).setCell (by simp) _).setCell (by simp) _) 0 0⟩
end Go.Proofs.Ytocoeodoihdkgaa

/- Odds: the program's OddsUnpack, where places and list are good. -/
namespace Go.Proofs.Ytocoeodoihdkgaa
open Go.RowKit

theorem alloc_sizeE (X : World) (o : Obj) : X.heap.size + 1 = (X.alloc o).heap.size := by simp
theorem heldF_belowJ {B g : Nat} {cs : List Value} {w w' : World} (h : HeldF w g cs) (hb : Below B w w') (hg : g < B) : HeldF w' g cs := by
  have e := hb.block g hg
  exact ⟨⟨Nat.lt_of_lt_of_le h.1.1 hb.size, fun j u hj => (World.cell?_of_block (a := ⟨g, j, none⟩) e).trans (h.1.2 j u hj)⟩, fun j => (World.frozen?_of_block (a := ⟨g, j, none⟩) e).trans (h.2 j)⟩
/-- The bits read so far, zeros behind them. -/
def bitsTo (ds ps : List Int) (k : Nat) : Int → Int := fun q => if q < (k : Int) then bitK ds ps q.toNat else 0
theorem bitsTo_zero (ds ps : List Int) (n : Nat) : oddsI n (bitsTo ds ps 0) = List.replicate n (.int .i64 0) := by
  apply List.ext_getElem?
  intro j
  by_cases hj : j < n
  · rw [oddsI_at _ _ _ hj, List.getElem?_replicate, if_pos hj]; unfold bitsTo; rw [if_neg (by omega)]
  · rw [List.getElem?_eq_none (by simp; omega), List.getElem?_eq_none (by simp; omega)]
theorem bitsTo_succ (ds ps : List Int) (n k : Nat) : (oddsI n (bitsTo ds ps k)).set k (.int .i64 (bitK ds ps k)) = oddsI n (bitsTo ds ps (k + 1)) :=
  oddsI_put n _ _ k (bitK ds ps k) (fun q => by
    unfold bitsTo
    by_cases h : q = (k : Int)
    · rw [if_pos h, if_pos (by omega), h, Int.toNat_natCast]
    · rw [if_neg h]
      by_cases h2 : q < (k : Int)
      · rw [if_pos h2, if_pos (by omega)]
      · rw [if_neg h2, if_neg (by omega)])
theorem bitsTo_all (ds ps : List Int) (n : Nat) : oddsI n (bitsTo ds ps n) = ints (bitsR ds ps n) := by
  unfold oddsI bitsR ints
  rw [List.map_map]
  apply List.map_congr_left
  intro p hp
  have := List.mem_range.1 hp
  simp only [Function.comp, bitsTo]
  rw [if_pos (by omega), Int.toNat_natCast]
theorem below_alloc2 (X : World) (a b : Obj) : Below X.heap.size X ((X.alloc a).alloc b) := ((Below.refl _ X).alloc (Nat.le_refl _) a).alloc (by simp) b
theorem RowI.drewE {w : World} {g n : Nat} {xs : List Value} (h : RowI w g n xs) : RowI w.drew g n xs := h
theorem alloc_setRowE (X : World) (o : Obj) (k : Nat) (cs : Array Value) : X.heap.size + 1 = ((X.alloc o).setRow k cs).heap.size := by simp
theorem setRow_sizeE (X : World) (k : Nat) (cs : Array Value) : X.heap.size = (X.setRow k cs).heap.size := by simp
theorem heap_row_new (X : World) (o : Obj) (k : Nat) (h : k = X.heap.size) : (X.alloc o).heap[k]? = some o := by subst h; exact heap_alloc_new X o
theorem heap_row_old (X : World) (o o' : Obj) (k : Nat) (h : X.heap[k]? = some o') : (X.alloc o).heap[k]? = some o' := (Below.heap_alloc X o k (Array.getElem?_eq_some_iff.1 h).1).trans h
theorem heap_row_drew (X : World) (o' : Obj) (k : Nat) (h : X.heap[k]? = some o') : X.drew.heap[k]? = some o' := h
theorem heap_row_upd {X Y : World} (u : Upd 0 0 X Y) (o' : Obj) (k : Nat) (h : X.heap[k]? = some o') : Y.heap[k]? = some o' := (u.block k (Array.getElem?_eq_some_iff.1 h).1 (.inr (Nat.zero_le _))).trans h
theorem setRow_else (X : World) (c k : Nat) (cs : Array Value) (h : k ≠ c) : (X.setRow c cs).heap[k]? = X.heap[k]? := by
  unfold World.setRow
  simp only [Array.getElem?_modify]
  rw [if_neg (fun e => h e.symm)]
theorem RowI.setRowE {w : World} {g n c : Nat} {xs : List Value} (h : RowI w g n xs) (hc : g ≠ c) (cs : Array Value) : RowI (w.setRow c cs) g n xs := by
  obtain ⟨h1, h2⟩ := (show w.ownsRow g 3 1 (.slice (some ⟨g, 0, none⟩) n n) n xs from h)
  refine ⟨h1, ?_⟩
  rcases h2 with h2 | ⟨g', cap, cur, hv', hg, hh, r⟩
  · exact .inl h2
  · have e : g' = g := by cases hv'; rfl
    subst e
    exact .inr ⟨g', cap, cur, hv', hg, (setRow_else w c g' cs hc).trans hh, r⟩
theorem RowI.atE {w : World} {g n : Nat} {xs : List Value} (h : RowI w g n xs) {k : Nat} (e : k = g) : RowI w k n xs := by subst e; exact h
set_option maxHeartbeats 32000000 in
set_option maxRecDepth 1000000 in
theorem implOddsUnpackOk (P : Nat) (ad1 : Option Addr) (cap1 : Nat) (ds : List Int) (ad : Option Addr) (cap : Nat) (ps : List Int) (w : World) (hA1 : ArgY w ad1 ds) (hd : ByteOk ds) (hn1 : ds.length ≤ 1048576) (hA : ArgI w ad ps) (hp1 : 1 ≤ P) (hp2 : P ≤ 512) (hlen : ps.length ≤ 20000) (hps : PsOk (P : Int) ps) :
    Calls Try.prog 21 #[.int .i64 (P : Int), .slice ad1 ds.length cap1, .slice ad ps.length cap] w fun e w' => ∃ u, e = .returned u ∧ OwnCn w' w.heap.size w'.heap.size u (oddsUnpack (P : Int) ds ps) ∧ Upd 0 0 w w' := by
  have hB0 := hide ((Below.refl w.heap.size w).alloc (Nat.le_refl _) (.cells #[.int .i64 0, .slice none 0 0, .int .i64 0] 40))
  have hh0 := hide (heldF_new w [.int .i64 0, .slice none 0 0, .int .i64 0] 40)
  have hz0 : (w.alloc (.cells #[.int .i64 0, .slice none 0 0, .int .i64 0] 40)).heap.size = w.heap.size + 1 := by simp
  have hE : Hid (oddsUnpack (P : Int) ds ps = if (stR ds ps ps.length).2.err ≠ 0 then ((stR ds ps ps.length).2.err, [], 0) else (0, bitsR ds ps ps.length, ((stR ds ps ps.length).2.at_ : Int))) := hide (by
    unfold oddsUnpack; rw [if_pos ((unpB_iff _ _).2 ⟨⟨by omega, by omega⟩, hlen, hps⟩)])
  have hP := hide (fun X => implGoodPlaces (P : Int) X)
  have hpb : placesB (P : Int) = true := by unfold placesB; rw [decide_eq_true (by omega), decide_eq_true (by omega)]; rfl
  rw [hpb] at hP
  have hW := hide (fun X (h : ArgI X ad ps) => implWithin ad cap ps 0 ((P : Int) - 1) X (by omega) h)
  rw [inRB_yes (psOk_inR.2 hps)] at hW
  have hok := hide (stR_ok ds ps hd)
  have hRO := hide (fun X (h : ArgY X ad1 ds) => implReadOdds ad1 cap1 ds X h hd hn1)
  obtain ⟨z, hzz, hz⟩ : ∃ z : Array Value, z.size = 517 ∧ ∀ w, (zeroValue 100).run Try.prog w = .ok (.agg z) w := ⟨_, by rw [List.size_toArray, List.length_append, List.length_append, List.length_replicate]; rfl, (zero_of_info infoRd).1⟩
  obtain ⟨o, hmk⟩ := mkRowI ps.length (by omega)
  obtain ⟨L, hL⟩ : ∃ L, rdV odds0 (.slice ad1 ds.length cap1) (openR ds) = L := ⟨_, rfl⟩
  have hLl : L.length = 517 := by rw [← hL, rdV_len]
  have hL1 : ∀ v ∈ L, v.oneCell' = true := by
    intro v hv
    rw [← hL] at hv
    have h := oneRow odds0 [.int .u32 (openR ds).rng, .slice ad1 ds.length cap1, .int .i64 ((openR ds).at_ : Int), .int .u32 (openR ds).code, .int .i64 (openR ds).err] (fun v hv => by simp only [List.mem_cons, List.not_mem_nil, or_false] at hv; rcases hv with rfl | rfl | rfl | rfl | rfl <;> rfl)
    rw [Array.all_eq_true_iff_forall_mem] at h
    exact h v (by simpa [rdV] using hv)
  have hst := hide (fun (X : World) (k : Nat) (h : X.heap[k]? = some (Obj.cells z 100 (0, 0))) => (by
    have h1 := run_storeCells_from (P := Try.prog) k 100 L 0 z X h (by rw [hLl, hzz]) hL1
    simpa using h1 : Sem.run Try.prog (storeCells ⟨k, 0, none⟩ L) X = Result.ok () (X.setRow k L.toArray)))
  rw [hL] at hRO
  have hrun := hide (fun X : World => (hmk X).1)
  have hrow := hide (fun X : World => (hmk X).2)
  have pI1 : (1 : Int) ≤ (P : Int) := by omega
  have pI2 : (P : Int) ≤ 512 := by omega
  replace hA := hide hA
  replace hA1 := hide hA1
  replace hps := hide hps
  replace hd := hide hd
  replace hL := hide hL
  replace hLl := hide hLl
  replace hz := hide hz
  clear hmk hpb hL1 hzz
  go_enter Try.func21, Try.ntmps21
  go_upto_region 1 with fail
  simp only [List.toArray] at hh0
  generalize w.alloc (.cells #[.int .i64 0, .slice none 0 0, .int .i64 0] 40) = w0 at hB0 hh0 hz0 ⊢
  go_wp2_with fail
  refine (unhide hP _).mono ?_
  rintro e w1 ⟨rfl, hw1⟩
  obtain rfl : w0 = w1 := hw1.symm
  go_wp2_with fail
  refine (unhide hW _ ((unhide hA).below (unhide hB0))).mono ?_
  rintro e w2 ⟨rfl, hu2⟩
  have hh2 := hide ((unhide hh0).keep hu2)
  have hB2 := hide (below_upd (unhide hB0) hu2 (Nat.le_refl _) (.inr (Nat.le_refl _)))
  have hs2 : w.heap.size < w2.heap.size := by have := hu2.size; omega
  clear hu2 hP hW hh0 hB0 hz0
  go_upto_region 3 with fail
  have hA2 := hide ((unhide hA1).below (unhide hB2))
  go_cut [7, 8] (fun s7 s8 wx => ∃ g sl, s7 = .pointer (some ⟨g, 0, none⟩) ∧ s8 = .slice (some ⟨sl, 0, none⟩) ps.length ps.length ∧ Hid (wx.heap[g]? = some (.cells L.toArray 100 (0, 0))) ∧ Hid (RowI wx sl ps.length (List.replicate ps.length (.int .i64 0))) ∧ Hid (Below w2.heap.size w2 wx) ∧ w2.heap.size ≤ g ∧ w2.heap.size ≤ sl ∧ g ≠ sl)
  case first =>
    have hz' := unhide hz
    have hrun' := unhide hrun
    have hL' := unhide hLl
    have S1 : ∀ X : World, Sem.run Try.prog (storeCells ⟨X.heap.size + 1, 0, none⟩ L) ((X.alloc o).alloc (Obj.cells z 100 (0, 0))) = Result.ok () (((X.alloc o).alloc (Obj.cells z 100 (0, 0))).setRow (X.heap.size + 1) L.toArray) :=
      fun X => unhide hst _ _ (heap_row_new _ _ _ (by simp))
    have S2 : ∀ X : World, Sem.run Try.prog (storeCells ⟨X.heap.size, 0, none⟩ L) ((X.alloc (Obj.cells z 100 (0, 0))).alloc o) = Result.ok () (((X.alloc (Obj.cells z 100 (0, 0))).alloc o).setRow X.heap.size L.toArray) :=
      fun X => unhide hst _ _ (heap_row_old _ _ _ _ (heap_row_new _ _ _ rfl))
    have S3 : ∀ X : World, Sem.run Try.prog (storeCells ⟨X.heap.size, 0, none⟩ L) (X.alloc (Obj.cells z 100 (0, 0))) = Result.ok () ((X.alloc (Obj.cells z 100 (0, 0))).setRow X.heap.size L.toArray) :=
      fun X => unhide hst _ _ (heap_row_new _ _ _ rfl)
    go_region_law (refine step_wanted rfl ?_; go_simp; go_at_call 69; refine (unhide hRO _ ((unhide hA2).below (by repeat (first | exact Below.refl _ _ | refine Below.alloc ?_ (by simp) _ | refine Below.drew ?_)))).mono ?_; rintro e7 w7 ⟨rfl, hu7⟩; (first | (have s4 : Sem.run Try.prog (storeCells ⟨w2.heap.size, 0, none⟩ L) w7 = Result.ok () (World.setRow w7 (w2.heap.size) L.toArray) := unhide hst _ _ (heap_row_upd hu7 _ _ (heap_row_new _ _ _ rfl))) | (have s4 : Sem.run Try.prog (storeCells ⟨w2.heap.size, 0, none⟩ L) w7 = Result.ok () (World.setRow w7 (w2.heap.size) L.toArray) := unhide hst _ _ (heap_row_upd hu7 _ _ (heap_row_old _ _ _ _ (heap_row_new _ _ _ rfl)))) | skip); (first | (have s5 : Sem.run Try.prog (storeCells ⟨w2.heap.size + 1, 0, none⟩ L) w7 = Result.ok () (World.setRow w7 (w2.heap.size + 1) L.toArray) := unhide hst _ _ (heap_row_upd hu7 _ _ (heap_row_new _ _ _ (alloc_sizeE _ _)))) | skip); (first | (have s6 : Sem.run Try.prog (storeCells ⟨w2.heap.size, 0, none⟩ L) (w7.alloc o) = Result.ok () (World.setRow (w7.alloc o) (w2.heap.size) L.toArray) := unhide hst _ _ (heap_row_old _ _ _ _ (heap_row_upd hu7 _ _ (heap_row_new _ _ _ rfl)))) | skip); replace hu7 := hide hu7)
    all_goals
      have hb7 : Below w2.heap.size w2 w7 := by
        first | exact below_upd (Below.drew (Below.refl _ _)) (unhide hu7) (Nat.le_refl _) (.inr (Nat.le_refl _)) | exact below_upd (Below.drew (Below.alloc (Below.refl _ _) (Nat.le_refl _) _)) (unhide hu7) (Nat.le_refl _) (.inr (Nat.le_refl _)) | exact below_upd (Below.drew (below_alloc2 _ _ _)) (unhide hu7) (Nat.le_refl _) (.inr (Nat.le_refl _))
      have hs7 := hb7.size
      have hu7s := (unhide hu7).size
      replace hb7 := hide hb7
      clear S1 S2 S3
      go_wp2
      go_meet
      refine ⟨_, _, rfl, rfl, hide ?_, hide ?_, hide ?_, ?_, ?_, ?_⟩
      case refine_1 => first | exact setRow_heap _ _ z _ _ _ (heap_row_new _ _ _ (alloc_sizeE _ _)) | exact setRow_heap _ _ z _ _ _ (heap_row_old _ _ _ _ (heap_row_new _ _ _ rfl)) | exact heap_row_old _ _ _ _ (setRow_heap _ _ z _ _ _ (heap_row_new _ _ _ rfl)) | exact setRow_heap _ _ z _ _ _ (heap_row_new _ _ _ rfl) | exact setRow_heap _ _ z _ _ _ (heap_row_upd (unhide hu7) _ _ (heap_row_new _ _ _ (alloc_sizeE _ _))) | exact setRow_heap _ _ z _ _ _ (heap_row_old _ _ _ _ (heap_row_upd (unhide hu7) _ _ (heap_row_new _ _ _ rfl))) | exact heap_row_old _ _ _ _ (setRow_heap _ _ z _ _ _ (heap_row_upd (unhide hu7) _ _ (heap_row_new _ _ _ rfl))) | exact setRow_heap _ _ z _ _ _ (heap_row_upd (unhide hu7) _ _ (heap_row_old _ _ _ _ (heap_row_new _ _ _ rfl)))
      case refine_2 =>
        first | exact RowI.atE (unhide hrow _) (alloc_setRowE _ _ _ _) | exact RowI.atE (unhide hrow _) (setRow_sizeE _ _ _) | refine RowI.setRowE (unhide hrow _) ?_ _ | refine RowI.setRowE (RowI.alloc (unhide hrow _) _) ?_ _ | refine RowI.setRowE (RowI.atE (unhide hrow _) (alloc_sizeE _ _)) ?_ _ | refine RowI.setRowE (RowI.alloc (RowI.keep (RowI.drewE (unhide hrow _)) (unhide hu7)) _) ?_ _ | refine RowI.setRowE (RowI.keep (RowI.drewE (RowI.alloc (unhide hrow _) _)) (unhide hu7)) ?_ _ | refine RowI.setRowE (RowI.keep (RowI.drewE (RowI.atE (unhide hrow _) (alloc_sizeE _ _))) (unhide hu7)) ?_ _
        all_goals (first | omega | (simp at hu7s; omega) | (simp at hu7s ⊢; omega) | (simp; omega))
      case refine_3 =>
        repeat' (first | exact unhide hb7 | refine below_setRow ?_ ?_ _ | refine Below.alloc ?_ ?_ _)
        all_goals (first | omega | (simp at hu7s; omega) | (simp at hu7s ⊢; omega) | (simp; omega))
      all_goals (first | omega | (simp at hu7s; omega) | (simp at hu7s ⊢; omega) | (simp; omega))
  case rest =>
    obtain ⟨g, sl, rfl, rfl, hrw, hsl, hbl, hg0, hs0, hgs⟩ := hcut
    have hrs0 := hide (heldF_belowJ (unhide hh2) (unhide hbl) hs2)
    have hB3 := hide ((unhide hB2).trans ((unhide hbl).mono (Nat.le_of_lt hs2)))
    have hr0 : Hid (RrAt wc g (stR ds ps 0).1 (.slice ad1 ds.length cap1) (stR ds ps 0).2) := hide (by
      have h := unhide hrw
      rw [← unhide hL] at h
      exact odAt_rowH h)
    have hsl0 : Hid (RowI wc sl ps.length (oddsI ps.length (bitsTo ds ps 0))) := hide (by rw [bitsTo_zero]; exact unhide hsl)
    clear hrw hsl hbl hh2 hB2 hRO hst hrun hrow hL hLl hz hA2
    obtain ⟨rb, hrb⟩ : ∃ rb, w.heap.size = rb := ⟨_, rfl⟩
    have hrb0 : w.heap.size ≤ rb := by omega
    have hrg : rb < g := by omega
    have hrl : rb < sl := by omega
    rw [hrb] at hrs0 ⊢
    clear hg0 hs0 hs2
    go_wp2_with fail
    go_loopw [9, 10, 34] (fun _ _ i wr => ∃ k : Nat, i = .int .i64 (k : Int) ∧ k ≤ ps.length ∧ Hid (RrAt wr g (stR ds ps k).1 (.slice ad1 ds.length cap1) (stR ds ps k).2) ∧ Hid (RowI wr sl ps.length (oddsI ps.length (bitsTo ds ps k))) ∧ Hid (HeldF wr rb [.int .i64 0, .slice none 0 0, .int .i64 0]) ∧ Hid (Below w.heap.size w wr)) (fun _ _ i _ => ps.length - (intOf i).toNat)
    case atStart => exact ⟨0, rfl, by omega, hr0, hsl0, hrs0, hB3⟩
    case round =>
      clear hr0 hsl0 hrs0 hB3
      obtain ⟨k, rfl, hk, hrd, hrow, hrs, hB⟩ := hrel
      by_cases hkl : k < ps.length
      · obtain ⟨bb, off, rfl, hbl, hcl⟩ := (unhide hA) (ne_of_lt_length hkl)
        have c0 := hcl k hkl
        have hx := unhide hps k hkl
        have hbk2 : bitK ds ps k = if (stR ds ps k).2.err ≠ 0 then 0 else bitOf (stR ds ps k).2 ((stR ds ps k).1 (ps.getD k 0)) := rfl
        have hbad := stR_bad ds ps k
        have hgood := stR_good ds ps k
        have hokk := unhide hok k
        have hnx := bitsTo_succ ds ps ps.length k
        generalize ps.getD k 0 = x at c0 hx hbk2 hgood
        have c0 : wr.cell? ⟨bb, off + k, none⟩ = some (.int .i64 x) := ((unhide hB).cell (by simpa using hbl)).trans c0
        obtain ⟨x0, x1⟩ := hx
        obtain ⟨q, rfl⟩ := Int.eq_ofNat_of_zero_le x0
        have hq : q < 512 := by omega
        obtain ⟨bt, hbt⟩ : ∃ bt, bitK ds ps k = bt := ⟨_, rfl⟩
        rw [hbt] at hnx hbk2
        have hCall : Hid (Calls Try.prog 70 #[.pointer (some ⟨g, 0, none⟩), .int .i64 (q : Int)] wr fun e w' => e = .returned (.int .i64 bt) ∧ RrAt w' g (stR ds ps (k + 1)).1 (.slice ad1 ds.length cap1) (stR ds ps (k + 1)).2 ∧ Upd g (g + 1) wr w') := hide (by
          by_cases he : (stR ds ps k).2.err = 0
          · rw [hgood he]
            rw [if_neg (by simpa using he)] at hbk2
            rw [hbk2]
            exact implTake g ad1 cap1 ds (stR ds ps k).1 (stR ds ps k).2 q wr (unhide hrd) hokk.1 he hokk.2 hq (fun Y hY => (unhide hA1).below (below_upd (unhide hB) hY (Nat.le_refl _) (.inl (by omega)))) (unhide hd) hn1
          · rw [hbad he]
            rw [if_pos he] at hbk2
            rw [hbk2]
            refine (implTakeBad g _ _ (stR ds ps k).2 (q : Int) wr (unhide hrd) he).mono ?_
            rintro e w' ⟨rfl, rfl⟩
            exact ⟨rfl, unhide hrd, Upd.refl _ _ _⟩)
        have kI : decide ((k : Int) < (ps.length : Int)) = true := decide_eq_true (by omega)
        have kJ : (k : Int) < (ps.length : Int) := by omega
        replace hA := hide hA
        replace hbk2 := hide hbk2
        replace hbt := hide hbt
        replace hnx := hide hnx
        clear hcl hbad hgood hokk
        go_wp2_with fail
        refine (unhide hCall).mono ?_
        rintro e w4 ⟨rfl, hr4, hu4⟩
        have hrow4 := (unhide hrow).upd hu4 (by omega)
        have hc4 := hrow4.has k hkl
        have hf4 := hrow4.frozen k
        have hrow5 := hide (hrow4.set k (.int .i64 bt))
        rw [unhide hnx] at hrow5
        have hr5 := hide (OdAt.other (g' := sl) hr4 (fun e => hgs e.symm) k (.int .i64 bt))
        have hrs5 := hide (((unhide hrs).upd hu4 (by omega)).other (g' := sl) (by omega) k (.int .i64 bt))
        have hB5 := hide ((below_upd (unhide hB) hu4 (Nat.le_refl _) (.inl (by omega))).setCell (p := ⟨sl, k, none⟩) (by simp; omega) (.int .i64 bt))
        obtain ⟨u4, hc4⟩ := hc4
        clear hrd hrow hrs hB hr4 hu4 hrow4 hCall c0
        go_wp2_with fail
        go_roundw
        case rel => exact ⟨k + 1, by go_num, by omega, hr5, hrow5, hrs5, hB5⟩
        case measure => simp [intOf]; omega
      · obtain rfl : k = ps.length := by omega
        have kI : decide ((ps.length : Int) < (ps.length : Int)) = false := decide_eq_false (by omega)
        obtain ⟨er, her⟩ : ∃ er, (stR ds ps ps.length).2.err = er := ⟨_, rfl⟩
        have e5 : wr.cell? ⟨g, 516, none⟩ = some (.int .i64 er) := by rw [← her]; exact (unhide hrd).back 4 _ rfl
        by_cases he : er = 0
        · have t : (er != 0) = false := by rw [he]; rfl
          have hE2 := hide (show oddsUnpack (P : Int) ds ps = (0, bitsR ds ps ps.length, ((stR ds ps ps.length).2.at_ : Int)) by rw [unhide hE, if_neg (by rw [her, he]; simp)])
          have e3 : wr.cell? ⟨g, 514, none⟩ = some (.int .i64 ((stR ds ps ps.length).2.at_ : Int)) := (unhide hrd).back 2 _ rfl
          generalize (stR ds ps ps.length).2.at_ = na at e3 hE2
          replace her := hide her
          subst he
          have hbl := hide (bitsR_len ds ps ps.length)
          have hrow2 : Hid (RowI wr sl ps.length (ints (bitsR ds ps ps.length))) := hide (by rw [← bitsTo_all]; exact unhide hrow)
          generalize bitsR ds ps ps.length = bits at hE2 hbl hrow2
          have z0 := (unhide hrs).1.2 0 _ rfl
          have z1 := (unhide hrs).1.2 1 _ rfl
          have z2 := (unhide hrs).1.2 2 _ rfl
          have y0 := (unhide hrs).2 0
          have y1 := (unhide hrs).2 1
          have y2 := (unhide hrs).2 2
          have hfr : Hid (RowI (((wr.setCell ⟨rb, 0, none⟩ (.int .i64 0)).setCell ⟨rb, 1, none⟩ (.slice (some ⟨sl, 0, none⟩) ps.length ps.length)).setCell ⟨rb, 2, none⟩ (.int .i64 (na : Int))) sl ps.length (ints bits)) := hide ((((unhide hrow2).other (c := rb) (by omega) 0 _).other (c := rb) (by omega) 1 _).other (c := rb) (by omega) 2 _)
          have hBf : Hid (Upd 0 0 w (((wr.setCell ⟨rb, 0, none⟩ (.int .i64 0)).setCell ⟨rb, 1, none⟩ (.slice (some ⟨sl, 0, none⟩) ps.length ps.length)).setCell ⟨rb, 2, none⟩ (.int .i64 (na : Int)))) := hide (Upd.of_below ((((unhide hB).setCell (by simp; omega) _).setCell (by simp; omega) _).setCell (by simp; omega) _) 0 0)
          clear hrd hrow hrow2 hrs hB
          go_wp2
          refine bodyPost_ret (v := .agg #[.int .i64 0, .slice (some ⟨sl, 0, none⟩) ps.length ps.length, .int .i64 (na : Int)]) (by simp [results, Try.results21, go_sem, z0, z1, z2]) rfl ⟨_, rfl, ?_, unhide hBf⟩
          rw [unhide hE2]
          refine ⟨.slice (some ⟨sl, 0, none⟩) ps.length ps.length, rfl, ?_⟩
          have h1 := Own.of (show World.ownsRow _ sl 3 1 _ _ _ from unhide hfr)
          show OwnI _ _ _ _ bits
          unfold OwnI
          rw [unhide hbl]
          exact own_mono h1 (by omega) (Nat.le_refl _)
        · have t : (er != 0) = true := by simpa using he
          have hE2 := hide (show oddsUnpack (P : Int) ds ps = (er, [], 0) by rw [unhide hE, if_pos (by rw [her]; exact he), her])
          have hAns := hide (fun X => own_ans X w.heap.size X.heap.size er 0)
          replace her := hide her
          clear he hrd hrow
          have z0 := (unhide hrs).1.2 0 _ rfl
          have z1 := (unhide hrs).1.2 1 _ rfl
          have z2 := (unhide hrs).1.2 2 _ rfl
          have y0 := (unhide hrs).2 0
          have y1 := (unhide hrs).2 1
          have y2 := (unhide hrs).2 2
          clear hrs
          go_wp2
          refine bodyPost_ret (v := ans0 er 0) (by simp [results, Try.results21, go_sem, z0, z1, z2]) rfl ⟨_, rfl, by rw [unhide hE2]; exact unhide hAns _, Upd.of_below ((((unhide hB).setCell (by simp; omega) _).setCell (by simp; omega) _).setCell (by simp; omega) _) 0 0⟩
end Go.Proofs.Ytocoeodoihdkgaa

/- Odds: OddsUnpack at every argument, both sides. -/
namespace Go.Proofs.Ytocoeodoihdkgaa
open Go.RowKit

theorem specOddsUnpack (p : Int) (v1 : Value) (ds : List Int) (v2 : Value) (ps : List Int) (w : World) (_hp0 : -9223372036854775808 ≤ p) (_hp1 : p ≤ 9223372036854775807) (hn1 : ds.length ≤ 1048576) (hR1 : InB ds) (hv1 : RdY w v1 ds) (hn2 : ps.length ≤ 1048576) (_hR2 : InI ps) (hv2 : RdI w v2 ps) :
    Calls Try.prog 47 #[.int .i64 p, v1, v2] w fun e w' => ∃ u, e = .returned u ∧ OwnCn w' w.heap.size w'.heap.size u (oddsUnpack p ds ps) ∧ Upd 0 0 w w' := by
  obtain ⟨ad1, cap1, rfl, hA1⟩ := hv1
  obtain ⟨ad, cap, rfl, hA⟩ := hv2
  by_cases h : (1 ≤ p ∧ p ≤ 512) ∧ ps.length ≤ 20000 ∧ PsOk p ps
  · obtain ⟨⟨a1, a2⟩, a3, a4⟩ := h
    obtain ⟨P, rfl⟩ := Int.eq_ofNat_of_zero_le (show 0 ≤ p by omega)
    exact specOddsUnpackOk P ad1 cap1 ds ad cap ps w hA1 (ByteOk.of hR1) hn1 hA (by omega) (by omega) a3 a4
  · exact specOddsUnpackBad p _ ds ad cap ps w hn2 hA h
theorem implOddsUnpack (p : Int) (v1 : Value) (ds : List Int) (v2 : Value) (ps : List Int) (w : World) (hp0 : -9223372036854775808 ≤ p) (hp1 : p ≤ 9223372036854775807) (hn1 : ds.length ≤ 1048576) (hR1 : InB ds) (hv1 : RdY w v1 ds) (hn2 : ps.length ≤ 1048576) (_hR2 : InI ps) (hv2 : RdI w v2 ps) :
    Calls Try.prog 21 #[.int .i64 p, v1, v2] w fun e w' => ∃ u, e = .returned u ∧ OwnCn w' w.heap.size w'.heap.size u (oddsUnpack p ds ps) ∧ Upd 0 0 w w' := by
  obtain ⟨ad1, cap1, rfl, hA1⟩ := hv1
  obtain ⟨ad, cap, rfl, hA⟩ := hv2
  by_cases h : (1 ≤ p ∧ p ≤ 512) ∧ ps.length ≤ 20000 ∧ PsOk p ps
  · obtain ⟨⟨a1, a2⟩, a3, a4⟩ := h
    obtain ⟨P, rfl⟩ := Int.eq_ofNat_of_zero_le (show 0 ≤ p by omega)
    exact implOddsUnpackOk P ad1 cap1 ds ad cap ps w hA1 (ByteOk.of hR1) hn1 hA (by omega) (by omega) a3 a4
  · exact implOddsUnpackBad p _ ds ad cap ps w hp0 hp1 hn2 hA h
theorem oddsUnpack_big (p : Int) (ds ps : List Int) : (oddsUnpack p ds ps).2.1.length ≤ 1048576 := by
  unfold oddsUnpack
  split
  · rename_i h
    have := ((unpB_iff _ _).1 h).2.1
    split
    · simp
    · show (bitsR ds ps ps.length).length ≤ _
      rw [bitsR_len]; omega
  · simp
end Go.Proofs.Ytocoeodoihdkgaa

/- Chosens: the walk of the laws' own marking of them. -/
namespace Go.Proofs.Ytocoeodoihdkgaa
open Go.RowKit

def CnMarked (k : Nat) (d : Cn) : Cn := (d.1, marks (k) d.2.1.length, d.2.2)
theorem own_clip {e : TypeId} {s : Nat} {w : World} {a b : Nat} {v : Value} {n : Nat} {xs : List Value} (h : Own e s w a b v n xs) : Own e s w a (min b w.heap.size) v n xs :=
  ⟨h.1, fun k hk => by have := h.2 k hk; have := (h.1.lt k hk).2; omega⟩
theorem upd_widen {a b : Nat} {w w' : World} (h : Upd 0 0 w w') : Upd a b w w' := ⟨h.os, h.tape, h.output, h.size, fun k hk _ => h.block k hk (.inr (Nat.zero_le _))⟩
theorem upd_narrow {a b c d : Nat} {w w' : World} (h : Upd c d w w') (h1 : a ≤ c) (h2 : d ≤ b) : Upd a b w w' := ⟨h.os, h.tape, h.output, h.size, fun k hk hn => h.block k hk (by omega)⟩

set_option maxHeartbeats 4000000 in
set_option maxRecDepth 100000 in
theorem markChosen_own {w : World} {a b : Nat} {v : Value} {d : Cn} (k : Nat) (hL : CnSize d ≤ 1048576) (hk : k ≤ 1073741824) (hv : OwnCn w a b v d) :
    Calls Try.prog 50 #[v, .int .i64 k] w fun e w' => e = .returned (.int .i64 ((k + CnCount d : Nat) : Int)) ∧ OwnCn w' a b v (CnMarked k d) ∧ Upd a b w w' := by
  obtain ⟨v0, rfl, h0⟩ := hv
  obtain ⟨x0, zs0, x1⟩ := d
  simp only [Cnv, CnSize, CnCount, CnMarked] at hL h0 ⊢
  have hn0 : zs0.length ≤ 1048576 := by omega
  have hu0 : Upd 0 0 w (w.alloc (.cells #[.int .i64 x0, v0, .int .i64 x1] 40)) := Upd.of_below ((Below.refl w.heap.size w).alloc (Nat.le_refl _) (.cells #[.int .i64 x0, v0, .int .i64 x1] 40)) 0 0
  have hbx0 := heldF_new w [.int .i64 x0, v0, .int .i64 x1] 40
  replace h0 := hide ((own_clip h0).keep hu0)
  obtain ⟨ad0, cap0, hf0, _⟩ := OwnI.rd (unhide h0)
  subst hf0
  have hU := hide (upd_widen (a := a) (b := b) hu0)
  go_enter Try.func50, Try.ntmps50
  go_wp2_with fail
  clear hu0
  generalize w.alloc (.cells #[.int .i64 x0, .slice ad0 zs0.length cap0, .int .i64 x1] 40) = w0 at hbx0 h0 hU ⊢
  have hbx := hide hbx0
  clear hbx0
  refine (markIntS_own a (min b w.heap.size) _ (k) _ w0 hn0 (by omega) (unhide h0)).mono ?_
  rintro e w1 ⟨rfl, ho, hu⟩
  replace hbx := hide ((unhide hbx).upd hu (by omega))
  replace h0 := hide ho
  replace hU := hide ((unhide hU).trans (upd_narrow hu (by omega) (by omega)))
  clear hu ho
  have cb0 := (unhide hbx).1.2 0 _ rfl
  have cb1 := (unhide hbx).1.2 1 _ rfl
  have cb2 := (unhide hbx).1.2 2 _ rfl
  go_wp2
  go_ret
  exact ⟨by first | rfl | exact ret_int (by omega), ⟨_, rfl, own_mono (unhide h0) (Nat.le_refl _) (Nat.min_le_left _ _)⟩, unhide hU⟩
end Go.Proofs.Ytocoeodoihdkgaa

/- Chosens: the walk of the laws' own look at what was marked. -/
namespace Go.Proofs.Ytocoeodoihdkgaa
open Go.RowKit

set_option maxHeartbeats 1000000 in
theorem heldChosen_own {w : World} {a b : Nat} {v : Value} {d : Cn} (k : Nat) (hL : CnSize d ≤ 1048576) (hk : k ≤ 1099511627776) (hv : OwnCn w a b v (CnMarked k d)) :
    Calls Try.prog 51 #[v, .int .i64 k] w fun e w' => e = .returned (.int .i64 ((k + CnCount d : Nat) : Int)) ∧ Upd 0 0 w w' := by
  obtain ⟨vl, rfl, hv⟩ := hv
  obtain ⟨x0, zs, x1⟩ := d
  simp only [CnSize, Cnv, CnCount, CnMarked] at hL hv ⊢
  have hB := Upd.of_below ((Below.refl w.heap.size w).alloc (Nat.le_refl _) (.cells #[.int .i64 x0, vl, .int .i64 x1] 40)) 0 0
  have hv1 := hv.keep hB
  have hM := hide (heldIntS_own a b vl k zs.length _ hL hk hv1)
  replace hB := hide hB
  clear hv1 hv
  go_enter Try.func51, Try.ntmps51
  go_wp2_with fail
  refine (unhide hM).mono ?_
  rintro e' w1 ⟨rfl, hw⟩
  subst hw
  clear hM
  go_wp2
  go_ret
  exact ⟨rfl, unhide hB⟩
end Go.Proofs.Ytocoeodoihdkgaa

/- The law on OddsUnpack, walked: what it calls is told by the walks of the specification and of the program. -/
namespace Go.Proofs.Ytocoeodoihdkgaa
open Go.RowKit

set_option maxHeartbeats 1000000 in
theorem lawOddsUnpack_long1 (n0 : Int) (ad1 : Option Addr) (cap1 : Nat) (zs1 : List Int) (ad2 : Option Addr) (cap2 : Nat) (zs2 : List Int) (w : World)  (_hn1 : 1048576 < zs1.length) :
    Calls Try.prog 10 #[.int .i64 n0, .slice ad1 zs1.length cap1, .slice ad2 zs2.length cap2] w fun e w' => e = .returned (.bool true) ∧ Below w.heap.size w w' := by
  go_enter Try.func10, Try.ntmps10
  go_wp2
  go_ret
  exact ⟨rfl, Below.refl _ _⟩

set_option maxHeartbeats 1000000 in
theorem lawOddsUnpack_long2 (n0 : Int) (ad1 : Option Addr) (cap1 : Nat) (zs1 : List Int) (ad2 : Option Addr) (cap2 : Nat) (zs2 : List Int) (w : World) (_hn1 : zs1.length ≤ 1048576) (_hn2 : 1048576 < zs2.length) :
    Calls Try.prog 10 #[.int .i64 n0, .slice ad1 zs1.length cap1, .slice ad2 zs2.length cap2] w fun e w' => e = .returned (.bool true) ∧ Below w.heap.size w w' := by
  go_enter Try.func10, Try.ntmps10
  go_wp2
  go_ret
  exact ⟨rfl, Below.refl _ _⟩

set_option maxHeartbeats 4000000 in
set_option maxRecDepth 100000 in
theorem lawOddsUnpack_short (n0 : Int) (ad1 : Option Addr) (cap1 : Nat) (zs1 : List Int) (ad2 : Option Addr) (cap2 : Nat) (zs2 : List Int) (w : World)   (hn1 : zs1.length ≤ 1048576) (hn2 : zs2.length ≤ 1048576) (hl0 : -9223372036854775808 ≤ n0) (hh0 : n0 ≤ 9223372036854775807) (hA1 : ArgY w ad1 zs1) (hR1 : InB zs1) (hA2 : ArgI w ad2 zs2) (hR2 : InI zs2) :
    Calls Try.prog 10 #[.int .i64 n0, .slice ad1 zs1.length cap1, .slice ad2 zs2.length cap2] w fun e w' => e = .returned (.bool true) ∧ Below w.heap.size w w' := by
  replace hA1 := hide hA1
  replace hR1 := hide hR1
  replace hA2 := hide hA2
  replace hR2 := hide hR2
  have hL := hide (oddsUnpack_big n0 zs1 zs2)
  have hB := hide (Below.refl w.heap.size w)
  go_enter Try.func10, Try.ntmps10
  go_wp2_with fail
  refine (toByteY_own ad1 cap1 zs1 w hn1 ((unhide hA1).below (unhide hB))).mono ?_
  rintro e w1 ⟨vy1_w0, rfl, ho, hu⟩
  replace hB := hide (below_upd (unhide hB) hu (Nat.le_refl _) (.inr (Nat.le_refl _)))
  have hs1 : Hid (w.heap.size ≤ w1.heap.size) := hide hu.size
  have y1_w0 := hide ho
  clear hu ho
  go_wp2_with fail
  refine (toIntS_own ad2 cap2 zs2 w1 hn2 ((unhide hA2).below (unhide hB))).mono ?_
  rintro e w2 ⟨vy2_w0, rfl, ho, hu⟩
  replace y1_w0 := hide ((unhide y1_w0).keep hu)
  replace hB := hide (below_upd (unhide hB) hu (Nat.le_refl _) (.inr (Nat.le_refl _)))
  have hs2 : Hid (w1.heap.size ≤ w2.heap.size) := hide hu.size
  have y2_w0 := hide ho
  clear hu ho
  go_wp2_with fail
  refine (specOddsUnpack n0 vy1_w0 zs1 vy2_w0 zs2 w2  hl0 hh0 hn1 (unhide hR1) (OwnY.rd (unhide y1_w0)) hn2 (unhide hR2) (OwnI.rd (unhide y2_w0))).mono ?_
  rintro e w3 ⟨vr0, rfl, ho, hu⟩
  replace y1_w0 := hide ((unhide y1_w0).keep hu)
  replace y2_w0 := hide ((unhide y2_w0).keep hu)
  replace hB := hide (below_upd (unhide hB) hu (Nat.le_refl _) (.inr (Nat.le_refl _)))
  have hs3 : Hid (w2.heap.size ≤ w3.heap.size) := hide hu.size
  have r0 := hide ho
  clear hu ho
  obtain ⟨adr0_0, capr0_0, hvr0⟩ := OwnCn.form (unhide r0)
  subst hvr0
  clear y1_w0 y2_w0
  go_wp2_with fail
  have hu := Upd.of_below ((Below.refl w3.heap.size w3).alloc (Nat.le_refl _) (.cells #[.int .i64 (oddsUnpack n0 zs1 zs2).1, .slice adr0_0 (oddsUnpack n0 zs1 zs2).2.1.length capr0_0, .int .i64 (oddsUnpack n0 zs1 zs2).2.2] 40)) 0 0
  replace r0 := hide ((unhide r0).keep hu)
  replace hB := hide (below_upd (unhide hB) hu (Nat.le_refl _) (.inr (Nat.le_refl _)))
  have hs4 : Hid (w3.heap.size + 1 ≤ (w3.alloc (.cells #[.int .i64 (oddsUnpack n0 zs1 zs2).1, .slice adr0_0 (oddsUnpack n0 zs1 zs2).2.1.length capr0_0, .int .i64 (oddsUnpack n0 zs1 zs2).2.2] 40)).heap.size) := hide (by simp)
  have cr0 := hide (held_new w3 [.int .i64 (oddsUnpack n0 zs1 zs2).1, .slice adr0_0 (oddsUnpack n0 zs1 zs2).2.1.length capr0_0, .int .i64 (oddsUnpack n0 zs1 zs2).2.2] 40)
  clear hu
  generalize w3.alloc (.cells #[.int .i64 (oddsUnpack n0 zs1 zs2).1, .slice adr0_0 (oddsUnpack n0 zs1 zs2).2.1.length capr0_0, .int .i64 (oddsUnpack n0 zs1 zs2).2.2] 40) = w4 at r0 hB hs4 cr0 ⊢
  refine (toByteY_own ad1 cap1 zs1 w4 hn1 ((unhide hA1).below (unhide hB))).mono ?_
  rintro e w5 ⟨vx1, rfl, ho, hu⟩
  replace r0 := hide ((unhide r0).keep hu)
  replace cr0 := hide ((unhide cr0).keep hu)
  replace hB := hide (below_upd (unhide hB) hu (Nat.le_refl _) (.inr (Nat.le_refl _)))
  have hs5 : Hid (w4.heap.size ≤ w5.heap.size) := hide hu.size
  have x1 := hide ho
  clear hu ho
  go_wp2_with fail
  refine (toIntS_own ad2 cap2 zs2 w5 hn2 ((unhide hA2).below (unhide hB))).mono ?_
  rintro e w6 ⟨vx2, rfl, ho, hu⟩
  replace r0 := hide ((unhide r0).keep hu)
  replace x1 := hide ((unhide x1).keep hu)
  replace cr0 := hide ((unhide cr0).keep hu)
  replace hB := hide (below_upd (unhide hB) hu (Nat.le_refl _) (.inr (Nat.le_refl _)))
  have hs6 : Hid (w5.heap.size ≤ w6.heap.size) := hide hu.size
  have x2 := hide ho
  clear hu ho
  go_wp2_with fail
  refine (implOddsUnpack n0 vx1 zs1 vx2 zs2 w6  hl0 hh0 hn1 (unhide hR1) (OwnY.rd (unhide x1)) hn2 (unhide hR2) (OwnI.rd (unhide x2))).mono ?_
  rintro e w7 ⟨vr1, rfl, ho, hu⟩
  replace r0 := hide ((unhide r0).keep hu)
  replace x1 := hide ((unhide x1).keep hu)
  replace x2 := hide ((unhide x2).keep hu)
  replace cr0 := hide ((unhide cr0).keep hu)
  replace hB := hide (below_upd (unhide hB) hu (Nat.le_refl _) (.inr (Nat.le_refl _)))
  have hs7 : Hid (w6.heap.size ≤ w7.heap.size) := hide hu.size
  have r1 := hide ho
  clear hu ho
  obtain ⟨adr1_0, capr1_0, hvr1⟩ := OwnCn.form (unhide r1)
  subst hvr1
  have kcr0_0 := (unhide cr0).2 0 _ rfl
  have kcr0_1 := (unhide cr0).2 1 _ rfl
  have kcr0_2 := (unhide cr0).2 2 _ rfl
  have kcr0_l := (unhide cr0).1
  go_wp2_with fail
  clear kcr0_0 kcr0_1 kcr0_2 kcr0_l
  have hu := Upd.of_below ((Below.refl w7.heap.size w7).alloc (Nat.le_refl _) (.cells #[.int .i64 (oddsUnpack n0 zs1 zs2).1, .slice adr1_0 (oddsUnpack n0 zs1 zs2).2.1.length capr1_0, .int .i64 (oddsUnpack n0 zs1 zs2).2.2] 40)) 0 0
  replace r0 := hide ((unhide r0).keep hu)
  replace x1 := hide ((unhide x1).keep hu)
  replace x2 := hide ((unhide x2).keep hu)
  replace r1 := hide ((unhide r1).keep hu)
  replace cr0 := hide ((unhide cr0).keep hu)
  replace hB := hide (below_upd (unhide hB) hu (Nat.le_refl _) (.inr (Nat.le_refl _)))
  have hs8 : Hid (w7.heap.size + 1 ≤ (w7.alloc (.cells #[.int .i64 (oddsUnpack n0 zs1 zs2).1, .slice adr1_0 (oddsUnpack n0 zs1 zs2).2.1.length capr1_0, .int .i64 (oddsUnpack n0 zs1 zs2).2.2] 40)).heap.size) := hide (by simp)
  have cr1 := hide (held_new w7 [.int .i64 (oddsUnpack n0 zs1 zs2).1, .slice adr1_0 (oddsUnpack n0 zs1 zs2).2.1.length capr1_0, .int .i64 (oddsUnpack n0 zs1 zs2).2.2] 40)
  clear hu
  generalize w7.alloc (.cells #[.int .i64 (oddsUnpack n0 zs1 zs2).1, .slice adr1_0 (oddsUnpack n0 zs1 zs2).2.1.length capr1_0, .int .i64 (oddsUnpack n0 zs1 zs2).2.2] 40) = w8 at r0 x1 x2 r1 cr0 hB hs8 cr1 ⊢
  refine (eqChosen_rd _ _ (oddsUnpack n0 zs1 zs2) w8 (unhide hL) (OwnCn.rd (unhide r1)) (OwnCn.rd (unhide r0))).mono ?_
  rintro e w9 ⟨rfl, hu⟩
  replace r0 := hide ((unhide r0).keep hu)
  replace x1 := hide ((unhide x1).keep hu)
  replace x2 := hide ((unhide x2).keep hu)
  replace r1 := hide ((unhide r1).keep hu)
  replace cr0 := hide ((unhide cr0).keep hu)
  replace cr1 := hide ((unhide cr1).keep hu)
  replace hB := hide (below_upd (unhide hB) hu (Nat.le_refl _) (.inr (Nat.le_refl _)))
  have hs9 : Hid (w8.heap.size ≤ w9.heap.size) := hide hu.size
  clear hu
  go_wp2_with fail
  refine (toByteY_own ad1 cap1 zs1 w9 hn1 ((unhide hA1).below (unhide hB))).mono ?_
  rintro e w10 ⟨vz1, rfl, ho, hu⟩
  replace r0 := hide ((unhide r0).keep hu)
  replace x1 := hide ((unhide x1).keep hu)
  replace x2 := hide ((unhide x2).keep hu)
  replace r1 := hide ((unhide r1).keep hu)
  replace cr0 := hide ((unhide cr0).keep hu)
  replace cr1 := hide ((unhide cr1).keep hu)
  replace hB := hide (below_upd (unhide hB) hu (Nat.le_refl _) (.inr (Nat.le_refl _)))
  have hs10 : Hid (w9.heap.size ≤ w10.heap.size) := hide hu.size
  have z1 := hide ho
  clear hu ho
  go_wp2_with fail
  refine (eqByteY_rd vx1 vz1 zs1 w10 hn1 (OwnY.rd (unhide x1)) (OwnY.rd (unhide z1))).mono ?_
  rintro e w11 ⟨rfl, hu⟩
  replace r0 := hide ((unhide r0).keep hu)
  replace x1 := hide ((unhide x1).keep hu)
  replace x2 := hide ((unhide x2).keep hu)
  replace r1 := hide ((unhide r1).keep hu)
  replace z1 := hide ((unhide z1).keep hu)
  replace cr0 := hide ((unhide cr0).keep hu)
  replace cr1 := hide ((unhide cr1).keep hu)
  replace hB := hide (below_upd (unhide hB) hu (Nat.le_refl _) (.inr (Nat.le_refl _)))
  have hs11 : Hid (w10.heap.size ≤ w11.heap.size) := hide hu.size
  clear hu
  clear z1
  go_wp2_with fail
  refine (toIntS_own ad2 cap2 zs2 w11 hn2 ((unhide hA2).below (unhide hB))).mono ?_
  rintro e w12 ⟨vz2, rfl, ho, hu⟩
  replace r0 := hide ((unhide r0).keep hu)
  replace x1 := hide ((unhide x1).keep hu)
  replace x2 := hide ((unhide x2).keep hu)
  replace r1 := hide ((unhide r1).keep hu)
  replace cr0 := hide ((unhide cr0).keep hu)
  replace cr1 := hide ((unhide cr1).keep hu)
  replace hB := hide (below_upd (unhide hB) hu (Nat.le_refl _) (.inr (Nat.le_refl _)))
  have hs12 : Hid (w11.heap.size ≤ w12.heap.size) := hide hu.size
  have z2 := hide ho
  clear hu ho
  go_wp2_with fail
  refine (eqIntS_rd vx2 vz2 zs2 w12 hn2 (OwnI.rd (unhide x2)) (OwnI.rd (unhide z2))).mono ?_
  rintro e w13 ⟨rfl, hu⟩
  replace r0 := hide ((unhide r0).keep hu)
  replace x1 := hide ((unhide x1).keep hu)
  replace x2 := hide ((unhide x2).keep hu)
  replace r1 := hide ((unhide r1).keep hu)
  replace z2 := hide ((unhide z2).keep hu)
  replace cr0 := hide ((unhide cr0).keep hu)
  replace cr1 := hide ((unhide cr1).keep hu)
  replace hB := hide (below_upd (unhide hB) hu (Nat.le_refl _) (.inr (Nat.le_refl _)))
  have hs13 : Hid (w12.heap.size ≤ w13.heap.size) := hide hu.size
  clear hu
  clear z2
  go_wp2_with fail
  refine (markByteY_own (w4.heap.size) (w5.heap.size) vx1 (1) zs1 w13 hn1 (by omega) (unhide x1)).mono ?_
  rintro e w14 ⟨rfl, ho, hu⟩
  replace r0 := hide ((unhide r0).upd hu (by have := unhide hs1; have := unhide hs2; have := unhide hs3; have := unhide hs4; have := unhide hs5; have := unhide hs6; have := unhide hs7; have := unhide hs8; have := unhide hs9; have := unhide hs10; have := unhide hs11; have := unhide hs12; have := unhide hs13; omega))
  replace x2 := hide ((unhide x2).upd hu (by have := unhide hs1; have := unhide hs2; have := unhide hs3; have := unhide hs4; have := unhide hs5; have := unhide hs6; have := unhide hs7; have := unhide hs8; have := unhide hs9; have := unhide hs10; have := unhide hs11; have := unhide hs12; have := unhide hs13; omega))
  replace r1 := hide ((unhide r1).upd hu (by have := unhide hs1; have := unhide hs2; have := unhide hs3; have := unhide hs4; have := unhide hs5; have := unhide hs6; have := unhide hs7; have := unhide hs8; have := unhide hs9; have := unhide hs10; have := unhide hs11; have := unhide hs12; have := unhide hs13; omega))
  replace cr0 := hide ((unhide cr0).upd hu (by have := unhide hs1; have := unhide hs2; have := unhide hs3; have := unhide hs4; have := unhide hs5; have := unhide hs6; have := unhide hs7; have := unhide hs8; have := unhide hs9; have := unhide hs10; have := unhide hs11; have := unhide hs12; have := unhide hs13; omega))
  replace cr1 := hide ((unhide cr1).upd hu (by have := unhide hs1; have := unhide hs2; have := unhide hs3; have := unhide hs4; have := unhide hs5; have := unhide hs6; have := unhide hs7; have := unhide hs8; have := unhide hs9; have := unhide hs10; have := unhide hs11; have := unhide hs12; have := unhide hs13; omega))
  replace hB := hide (below_upd (unhide hB) hu (Nat.le_refl _) (by have := unhide hs1; have := unhide hs2; have := unhide hs3; have := unhide hs4; have := unhide hs5; have := unhide hs6; have := unhide hs7; have := unhide hs8; have := unhide hs9; have := unhide hs10; have := unhide hs11; have := unhide hs12; have := unhide hs13; omega))
  replace x1 := hide ho
  have hs14 : Hid (w13.heap.size ≤ w14.heap.size) := hide hu.size
  clear hu ho
  go_wp2_with fail
  refine (markIntS_own (w5.heap.size) (w6.heap.size) vx2 (1 + zs1.length) zs2 w14 hn2 (by omega) (unhide x2)).mono ?_
  rintro e w15 ⟨rfl, ho, hu⟩
  replace r0 := hide ((unhide r0).upd hu (by have := unhide hs1; have := unhide hs2; have := unhide hs3; have := unhide hs4; have := unhide hs5; have := unhide hs6; have := unhide hs7; have := unhide hs8; have := unhide hs9; have := unhide hs10; have := unhide hs11; have := unhide hs12; have := unhide hs13; have := unhide hs14; omega))
  replace x1 := hide ((unhide x1).upd hu (by have := unhide hs1; have := unhide hs2; have := unhide hs3; have := unhide hs4; have := unhide hs5; have := unhide hs6; have := unhide hs7; have := unhide hs8; have := unhide hs9; have := unhide hs10; have := unhide hs11; have := unhide hs12; have := unhide hs13; have := unhide hs14; omega))
  replace r1 := hide ((unhide r1).upd hu (by have := unhide hs1; have := unhide hs2; have := unhide hs3; have := unhide hs4; have := unhide hs5; have := unhide hs6; have := unhide hs7; have := unhide hs8; have := unhide hs9; have := unhide hs10; have := unhide hs11; have := unhide hs12; have := unhide hs13; have := unhide hs14; omega))
  replace cr0 := hide ((unhide cr0).upd hu (by have := unhide hs1; have := unhide hs2; have := unhide hs3; have := unhide hs4; have := unhide hs5; have := unhide hs6; have := unhide hs7; have := unhide hs8; have := unhide hs9; have := unhide hs10; have := unhide hs11; have := unhide hs12; have := unhide hs13; have := unhide hs14; omega))
  replace cr1 := hide ((unhide cr1).upd hu (by have := unhide hs1; have := unhide hs2; have := unhide hs3; have := unhide hs4; have := unhide hs5; have := unhide hs6; have := unhide hs7; have := unhide hs8; have := unhide hs9; have := unhide hs10; have := unhide hs11; have := unhide hs12; have := unhide hs13; have := unhide hs14; omega))
  replace hB := hide (below_upd (unhide hB) hu (Nat.le_refl _) (by have := unhide hs1; have := unhide hs2; have := unhide hs3; have := unhide hs4; have := unhide hs5; have := unhide hs6; have := unhide hs7; have := unhide hs8; have := unhide hs9; have := unhide hs10; have := unhide hs11; have := unhide hs12; have := unhide hs13; have := unhide hs14; omega))
  replace x2 := hide ho
  have hs15 : Hid (w14.heap.size ≤ w15.heap.size) := hide hu.size
  clear hu ho
  have hk0 : ¬ (((1 + zs1.length + zs2.length : Nat) : Int) < 0) := by omega
  have kcr1_0 := (unhide cr1).2 0 _ rfl
  have kcr1_1 := (unhide cr1).2 1 _ rfl
  have kcr1_2 := (unhide cr1).2 2 _ rfl
  have kcr1_l := (unhide cr1).1
  have kcr0_0 := (unhide cr0).2 0 _ rfl
  have kcr0_1 := (unhide cr0).2 1 _ rfl
  have kcr0_2 := (unhide cr0).2 2 _ rfl
  have kcr0_l := (unhide cr0).1
  go_wp2_with fail
  clear kcr1_0 kcr1_1 kcr1_2 kcr1_l kcr0_0 kcr0_1 kcr0_2 kcr0_l
  refine (eqChosen_rd _ _ (oddsUnpack n0 zs1 zs2) w15 (unhide hL) (OwnCn.rd (unhide r1)) (OwnCn.rd (unhide r0))).mono ?_
  rintro e w16 ⟨rfl, hu⟩
  replace r0 := hide ((unhide r0).keep hu)
  replace x1 := hide ((unhide x1).keep hu)
  replace x2 := hide ((unhide x2).keep hu)
  replace r1 := hide ((unhide r1).keep hu)
  replace cr0 := hide ((unhide cr0).keep hu)
  replace cr1 := hide ((unhide cr1).keep hu)
  replace hB := hide (below_upd (unhide hB) hu (Nat.le_refl _) (.inr (Nat.le_refl _)))
  have hs16 : Hid (w15.heap.size ≤ w16.heap.size) := hide hu.size
  clear hu
  clear x1 x2
  have kcr1_0 := (unhide cr1).2 0 _ rfl
  have kcr1_1 := (unhide cr1).2 1 _ rfl
  have kcr1_2 := (unhide cr1).2 2 _ rfl
  have kcr1_l := (unhide cr1).1
  go_wp2_with fail
  clear kcr1_0 kcr1_1 kcr1_2 kcr1_l
  refine (markChosen_own (1) (unhide hL) (by omega) (unhide r1)).mono ?_
  rintro e w17 ⟨rfl, ho, hu⟩
  replace r0 := hide ((unhide r0).upd hu (by have := unhide hs1; have := unhide hs2; have := unhide hs3; have := unhide hs4; have := unhide hs5; have := unhide hs6; have := unhide hs7; have := unhide hs8; have := unhide hs9; have := unhide hs10; have := unhide hs11; have := unhide hs12; have := unhide hs13; have := unhide hs14; have := unhide hs15; have := unhide hs16; omega))
  replace cr0 := hide ((unhide cr0).upd hu (by have := unhide hs1; have := unhide hs2; have := unhide hs3; have := unhide hs4; have := unhide hs5; have := unhide hs6; have := unhide hs7; have := unhide hs8; have := unhide hs9; have := unhide hs10; have := unhide hs11; have := unhide hs12; have := unhide hs13; have := unhide hs14; have := unhide hs15; have := unhide hs16; omega))
  replace cr1 := hide ((unhide cr1).upd hu (by have := unhide hs1; have := unhide hs2; have := unhide hs3; have := unhide hs4; have := unhide hs5; have := unhide hs6; have := unhide hs7; have := unhide hs8; have := unhide hs9; have := unhide hs10; have := unhide hs11; have := unhide hs12; have := unhide hs13; have := unhide hs14; have := unhide hs15; have := unhide hs16; omega))
  replace hB := hide (below_upd (unhide hB) hu (Nat.le_refl _) (by have := unhide hs1; have := unhide hs2; have := unhide hs3; have := unhide hs4; have := unhide hs5; have := unhide hs6; have := unhide hs7; have := unhide hs8; have := unhide hs9; have := unhide hs10; have := unhide hs11; have := unhide hs12; have := unhide hs13; have := unhide hs14; have := unhide hs15; have := unhide hs16; omega))
  replace r1 := hide ho
  have hs17 : Hid (w16.heap.size ≤ w17.heap.size) := hide hu.size
  clear hu ho
  have kcr1_0 := (unhide cr1).2 0 _ rfl
  have kcr1_1 := (unhide cr1).2 1 _ rfl
  have kcr1_2 := (unhide cr1).2 2 _ rfl
  have kcr1_l := (unhide cr1).1
  go_wp2_with fail
  clear kcr1_0 kcr1_1 kcr1_2 kcr1_l
  refine (heldChosen_own 1 (unhide hL) (by omega) (unhide r1)).mono ?_
  rintro e w18 ⟨rfl, hu⟩
  replace r0 := hide ((unhide r0).keep hu)
  replace r1 := hide ((unhide r1).keep hu)
  replace cr0 := hide ((unhide cr0).keep hu)
  replace cr1 := hide ((unhide cr1).keep hu)
  replace hB := hide (below_upd (unhide hB) hu (Nat.le_refl _) (.inr (Nat.le_refl _)))
  have hs18 : Hid (w17.heap.size ≤ w18.heap.size) := hide hu.size
  clear hu
  have hq0 : ¬ (((1 + CnCount (oddsUnpack n0 zs1 zs2) : Nat) : Int) < 0) := by omega
  go_wp2_with fail
  refine (toByteY_own ad1 cap1 zs1 w18 hn1 ((unhide hA1).below (unhide hB))).mono ?_
  rintro e w19 ⟨vy1_h0, rfl, ho, hu⟩
  replace r0 := hide ((unhide r0).keep hu)
  replace r1 := hide ((unhide r1).keep hu)
  replace cr0 := hide ((unhide cr0).keep hu)
  replace cr1 := hide ((unhide cr1).keep hu)
  replace hB := hide (below_upd (unhide hB) hu (Nat.le_refl _) (.inr (Nat.le_refl _)))
  have hs19 : Hid (w18.heap.size ≤ w19.heap.size) := hide hu.size
  have y1_h0 := hide ho
  clear hu ho
  go_wp2_with fail
  refine (toIntS_own ad2 cap2 zs2 w19 hn2 ((unhide hA2).below (unhide hB))).mono ?_
  rintro e w20 ⟨vy2_h0, rfl, ho, hu⟩
  replace r0 := hide ((unhide r0).keep hu)
  replace r1 := hide ((unhide r1).keep hu)
  replace y1_h0 := hide ((unhide y1_h0).keep hu)
  replace cr0 := hide ((unhide cr0).keep hu)
  replace cr1 := hide ((unhide cr1).keep hu)
  replace hB := hide (below_upd (unhide hB) hu (Nat.le_refl _) (.inr (Nat.le_refl _)))
  have hs20 : Hid (w19.heap.size ≤ w20.heap.size) := hide hu.size
  have y2_h0 := hide ho
  clear hu ho
  go_wp2_with fail
  refine (implOddsUnpack n0 vy1_h0 zs1 vy2_h0 zs2 w20  hl0 hh0 hn1 (unhide hR1) (OwnY.rd (unhide y1_h0)) hn2 (unhide hR2) (OwnI.rd (unhide y2_h0))).mono ?_
  rintro e w21 ⟨vr2, rfl, ho, hu⟩
  replace r0 := hide ((unhide r0).keep hu)
  replace r1 := hide ((unhide r1).keep hu)
  replace y1_h0 := hide ((unhide y1_h0).keep hu)
  replace y2_h0 := hide ((unhide y2_h0).keep hu)
  replace cr0 := hide ((unhide cr0).keep hu)
  replace cr1 := hide ((unhide cr1).keep hu)
  replace hB := hide (below_upd (unhide hB) hu (Nat.le_refl _) (.inr (Nat.le_refl _)))
  have hs21 : Hid (w20.heap.size ≤ w21.heap.size) := hide hu.size
  have r2 := hide ho
  clear hu ho
  obtain ⟨adr2_0, capr2_0, hvr2⟩ := OwnCn.form (unhide r2)
  subst hvr2
  clear y1_h0 y2_h0
  have kcr0_0 := (unhide cr0).2 0 _ rfl
  have kcr0_1 := (unhide cr0).2 1 _ rfl
  have kcr0_2 := (unhide cr0).2 2 _ rfl
  have kcr0_l := (unhide cr0).1
  go_wp2_with fail
  clear kcr0_0 kcr0_1 kcr0_2 kcr0_l
  have hu := Upd.of_below ((Below.refl w21.heap.size w21).alloc (Nat.le_refl _) (.cells #[.int .i64 (oddsUnpack n0 zs1 zs2).1, .slice adr2_0 (oddsUnpack n0 zs1 zs2).2.1.length capr2_0, .int .i64 (oddsUnpack n0 zs1 zs2).2.2] 40)) 0 0
  replace r0 := hide ((unhide r0).keep hu)
  replace r1 := hide ((unhide r1).keep hu)
  replace r2 := hide ((unhide r2).keep hu)
  replace cr0 := hide ((unhide cr0).keep hu)
  replace cr1 := hide ((unhide cr1).keep hu)
  replace hB := hide (below_upd (unhide hB) hu (Nat.le_refl _) (.inr (Nat.le_refl _)))
  have hs22 : Hid (w21.heap.size + 1 ≤ (w21.alloc (.cells #[.int .i64 (oddsUnpack n0 zs1 zs2).1, .slice adr2_0 (oddsUnpack n0 zs1 zs2).2.1.length capr2_0, .int .i64 (oddsUnpack n0 zs1 zs2).2.2] 40)).heap.size) := hide (by simp)
  have cr2 := hide (held_new w21 [.int .i64 (oddsUnpack n0 zs1 zs2).1, .slice adr2_0 (oddsUnpack n0 zs1 zs2).2.1.length capr2_0, .int .i64 (oddsUnpack n0 zs1 zs2).2.2] 40)
  clear hu
  generalize w21.alloc (.cells #[.int .i64 (oddsUnpack n0 zs1 zs2).1, .slice adr2_0 (oddsUnpack n0 zs1 zs2).2.1.length capr2_0, .int .i64 (oddsUnpack n0 zs1 zs2).2.2] 40) = w22 at r0 r1 r2 cr0 cr1 hB hs22 cr2 ⊢
  refine (eqChosen_rd _ _ (oddsUnpack n0 zs1 zs2) w22 (unhide hL) (OwnCn.rd (unhide r2)) (OwnCn.rd (unhide r0))).mono ?_
  rintro e w23 ⟨rfl, hu⟩
  replace r0 := hide ((unhide r0).keep hu)
  replace r1 := hide ((unhide r1).keep hu)
  replace r2 := hide ((unhide r2).keep hu)
  replace cr0 := hide ((unhide cr0).keep hu)
  replace cr1 := hide ((unhide cr1).keep hu)
  replace cr2 := hide ((unhide cr2).keep hu)
  replace hB := hide (below_upd (unhide hB) hu (Nat.le_refl _) (.inr (Nat.le_refl _)))
  have hs23 : Hid (w22.heap.size ≤ w23.heap.size) := hide hu.size
  clear hu
  have kcr1_0 := (unhide cr1).2 0 _ rfl
  have kcr1_1 := (unhide cr1).2 1 _ rfl
  have kcr1_2 := (unhide cr1).2 2 _ rfl
  have kcr1_l := (unhide cr1).1
  go_wp2_with fail
  clear kcr1_0 kcr1_1 kcr1_2 kcr1_l
  refine (heldChosen_own 1 (unhide hL) (by omega) (unhide r1)).mono ?_
  rintro e w24 ⟨rfl, hu⟩
  replace r0 := hide ((unhide r0).keep hu)
  replace r1 := hide ((unhide r1).keep hu)
  replace r2 := hide ((unhide r2).keep hu)
  replace cr0 := hide ((unhide cr0).keep hu)
  replace cr1 := hide ((unhide cr1).keep hu)
  replace cr2 := hide ((unhide cr2).keep hu)
  replace hB := hide (below_upd (unhide hB) hu (Nat.le_refl _) (.inr (Nat.le_refl _)))
  have hs24 : Hid (w23.heap.size ≤ w24.heap.size) := hide hu.size
  clear hu
  go_wp2_with fail
  go_ret
  exact ⟨rfl, unhide hB⟩

theorem lawOddsUnpack (n0 : Int) (ad1 : Option Addr) (cap1 : Nat) (zs1 : List Int) (ad2 : Option Addr) (cap2 : Nat) (zs2 : List Int) (w : World)   (hl0 : -9223372036854775808 ≤ n0) (hh0 : n0 ≤ 9223372036854775807) (hA1 : ArgY w ad1 zs1) (hR1 : InB zs1) (hA2 : ArgI w ad2 zs2) (hR2 : InI zs2) :
    Calls Try.prog 10 #[.int .i64 n0, .slice ad1 zs1.length cap1, .slice ad2 zs2.length cap2] w fun e w' => e = .returned (.bool true) ∧ Below w.heap.size w w' := by
  by_cases h1 : 1048576 < zs1.length
  · exact lawOddsUnpack_long1 n0 ad1 cap1 zs1 ad2 cap2 zs2 w  h1
  by_cases h2 : 1048576 < zs2.length
  · exact lawOddsUnpack_long2 n0 ad1 cap1 zs1 ad2 cap2 zs2 w (by omega) h2
  exact lawOddsUnpack_short n0 ad1 cap1 zs1 ad2 cap2 zs2 w  (by omega) (by omega) hl0 hh0 hA1 hR1 hA2 hR2
end Go.Proofs.Ytocoeodoihdkgaa

/- Opening an argument that is a byte string or a list of ints: what the form's reading of it says of cells. -/
namespace Go.Proofs.Ytocoeodoihdkgaa
open Go.ChangeShapes Go.WideShapes Go.ChangeAt Go.RowKit

theorem Try.own : ownKnob Try.prog.godebug = none := by kernel_rfl
theorem Try.laidOut : laidOutB Try.prog = true := by kernel_rfl
theorem cellsY : Try.prog.cellsOf 5 = 1 := by kernel_rfl
theorem cellsI : Try.prog.cellsOf 3 = 1 := by kernel_rfl
theorem i64_of_wf {x : Int} (h : (Lit.int .i64 x).wf = true) : -9223372036854775808 ≤ x ∧ x ≤ 9223372036854775807 := by
  simp [Lit.wf, IntKind.min, IntKind.max, IntKind.signed, IntKind.bits] at h
  exact ⟨by omega, by omega⟩
theorem u64_of_wf {x : Int} (h : (Lit.int .u64 x).wf = true) : 0 ≤ x ∧ x ≤ 18446744073709551615 := by
  simp [Lit.wf, IntKind.min, IntKind.max, IntKind.signed, IntKind.bits] at h
  exact ⟨by omega, by omega⟩
theorem u8_of_wf {x : Int} (h : (Lit.int .u8 x).wf = true) : 0 ≤ x ∧ x < 256 := by
  simp [Lit.wf, IntKind.min, IntKind.max, IntKind.signed, IntKind.bits] at h
  exact ⟨by omega, by omega⟩

set_option maxRecDepth 100000 in
theorem open_byts {H : Type} {enc : TypeId × Value → H} {W : World} {base : Nat} {v : Value} {d : DataW H} {p : List MemPlace}
    (hv : Value.okWide Try.prog W .any base 22 v) (h0 : DataW.Trod enc Try.prog W 0 (fun _ => true) true 22 v d p) (hlt : ∀ x ∈ p, x.block < W.heap.size) :
    ∃ ad cap zs, v = .slice ad zs.length cap ∧ ArgY W ad zs ∧ InB zs := by
  obtain ⟨a0, len, cap, rfl⟩ := okWide_slice Try.underlying22 hv
  obtain ⟨fuel, hf⟩ := h0
  rcases open_ints Try.underlying22 Try.underlying5 cellsY hf with ⟨hcs, hx⟩ | ⟨a, len', cap', zs, hcs, _, hl, hm, hz, hx, hcell, hwz⟩
  · simp [Value.cells] at hcs
    obtain ⟨rfl, rfl, rfl⟩ := hcs
    exact ⟨none, 0, [], rfl, fun h => absurd rfl h, fun j => by simp⟩
  · simp [Value.cells] at hcs
    obtain ⟨rfl, rfl, rfl⟩ := hcs
    simp only [Prod.mk.injEq] at hx
    obtain ⟨rfl, rfl⟩ := hx
    simp only [if_true] at hz
    have hlen : (zs.take len).length = len := by rw [List.length_take]; omega
    have hget : ∀ j, j < len → (zs.take len).getD j 0 = zs.getD j 0 := fun j hj => by
      rw [List.getD_eq_getElem?_getD, List.getD_eq_getElem?_getD, List.getElem?_take, if_pos hj]
    refine ⟨some a, cap, zs.take len, by rw [hlen], ?_, ?_⟩
    · intro hne
      have hpos : 0 < len := by
        rcases Nat.eq_zero_or_pos len with h | h
        · subst h; simp at hne
        · exact h
      obtain ⟨b, off, spot⟩ := a
      have hspot : spot = none := by simpa [Addr.add] using World.cell?_spot (hcell 0 (by omega))
      subst hspot
      refine ⟨b, off, rfl, hlt (.cell b off) (MemPlace.mem_row.2 ⟨0, by omega, by simp⟩), fun j hj => ?_⟩
      rw [hget j (by omega), ← add_plain]
      exact hcell j (by omega)
    · intro j
      by_cases hj : j < len
      · rw [hget j hj, List.getD_eq_getElem?_getD, List.getElem?_eq_getElem (by omega)]
        exact u8_of_wf (hwz _ (List.getElem_mem _))
      · rw [List.getD_eq_getElem?_getD, List.getElem?_eq_none (by omega)]; simp

set_option maxRecDepth 100000 in
theorem open_intl {H : Type} {enc : TypeId × Value → H} {W : World} {base : Nat} {v : Value} {d : DataW H} {p : List MemPlace}
    (hv : Value.okWide Try.prog W .any base 23 v) (h0 : DataW.Trod enc Try.prog W 0 (fun _ => true) true 23 v d p) (hlt : ∀ x ∈ p, x.block < W.heap.size) :
    ∃ ad cap zs, v = .slice ad zs.length cap ∧ ArgI W ad zs ∧ InI zs := by
  obtain ⟨a0, len, cap, rfl⟩ := okWide_slice Try.underlying23 hv
  obtain ⟨fuel, hf⟩ := h0
  rcases open_ints Try.underlying23 Try.underlying3 cellsI hf with ⟨hcs, hx⟩ | ⟨a, len', cap', zs, hcs, _, hl, hm, hz, hx, hcell, hwz⟩
  · simp [Value.cells] at hcs
    obtain ⟨rfl, rfl, rfl⟩ := hcs
    exact ⟨none, 0, [], rfl, fun h => absurd rfl h, fun j => by simp⟩
  · simp [Value.cells] at hcs
    obtain ⟨rfl, rfl, rfl⟩ := hcs
    simp only [Prod.mk.injEq] at hx
    obtain ⟨rfl, rfl⟩ := hx
    simp only [if_true] at hz
    have hlen : (zs.take len).length = len := by rw [List.length_take]; omega
    have hget : ∀ j, j < len → (zs.take len).getD j 0 = zs.getD j 0 := fun j hj => by
      rw [List.getD_eq_getElem?_getD, List.getD_eq_getElem?_getD, List.getElem?_take, if_pos hj]
    refine ⟨some a, cap, zs.take len, by rw [hlen], ?_, ?_⟩
    · intro hne
      have hpos : 0 < len := by
        rcases Nat.eq_zero_or_pos len with h | h
        · subst h; simp at hne
        · exact h
      obtain ⟨b, off, spot⟩ := a
      have hspot : spot = none := by simpa [Addr.add] using World.cell?_spot (hcell 0 (by omega))
      subst hspot
      refine ⟨b, off, rfl, hlt (.cell b off) (MemPlace.mem_row.2 ⟨0, by omega, by simp⟩), fun j hj => ?_⟩
      rw [hget j (by omega), ← add_plain]
      exact hcell j (by omega)
    · intro j
      by_cases hj : j < len
      · rw [hget j hj, List.getD_eq_getElem?_getD, List.getElem?_eq_getElem (by omega)]
        exact i64_of_wf (hwz _ (List.getElem_mem _))
      · rw [List.getD_eq_getElem?_getD, List.getElem?_eq_none (by omega)]; simp
end Go.Proofs.Ytocoeodoihdkgaa
