/- The walks of TakeLow and TakeHigh, by the program and by the specification, at every place and width. -/
import Derived.Test.YtcmabocmcgkmdaaWTake5
import Derived.Test.YtcmabocmcgkmdaaWTake2
namespace Go.Proofs.Ytcmabocmcgkmdaa
open Go.RowKit

set_option maxHeartbeats 2000000 in
theorem takeNumberHigh (b off len cap : Nat) (zs : List Int) (p n : Nat) (w : World) (hlen : zs.length = len) (hz : InB zs) (hc : BytesAt w b off zs) (hbl : b < w.heap.size) (hm : len ≤ 1048576) (hn : n ≤ 64) (hi : p + n ≤ 8 * len) :
    Calls Try.prog 52 #[.agg #[.int .i64 1, .slice (some ⟨b, off, none⟩) len cap, .int .i64 p], .int .i64 n] w fun e w' => e = .returned (.agg #[.bool true, .int .u64 (highTo zs p n : Nat), .int .i64 ((p + n : Nat) : Int)]) ∧ Below w.heap.size w w' := by
  have hr := readerAt_new w 1 (.slice (some ⟨b, off, none⟩) len cap) p
  have hbel : Below w.heap.size w ((w.alloc (.cells #[.int .i64 1, .slice (some ⟨b, off, none⟩) len cap, .int .i64 p] 60)).alloc (.cells #[.bool false, .int .u64 0, .int .i64 0] 32)) := ((Below.refl _ _).alloc (Nat.le_refl _) _).alloc (by simp) _
  have hr2 : ReaderAt ((w.alloc (.cells #[.int .i64 1, .slice (some ⟨b, off, none⟩) len cap, .int .i64 p] 60)).alloc (.cells #[.bool false, .int .u64 0, .int .i64 0] 32)) w.heap.size 1 (.slice (some ⟨b, off, none⟩) len cap) p := by
    obtain ⟨h0, h1, h2, h3⟩ := hr
    refine ⟨by simp only [World.size_alloc]; omega, ?_, ?_, ?_⟩ <;> (rw [World.cell?_alloc_past _ _ _ (by simp)]; assumption)
  have hT := implTakeHighIn w.heap.size b off len cap zs p n _ hlen hz (fun j hj => (hbel.cell (by simpa using hbl)).trans (hc j hj)) hm hn hi (by simp only [World.size_alloc]; omega) (by omega) (by simp [go_sem]) hr2
  clear hr hc hz
  go_enter Try.func52, Try.ntmps52
  go_wp2_with fail
  refine hT.mono ?_
  rintro e w1 ⟨rfl, hr1, hb1⟩
  clear hT hr2
  obtain ⟨_, c0, c1, c2⟩ := hr1
  have e0 := (hb1.cell (p := ⟨w.heap.size + 1, 0, none⟩) (by simp) (by simp)).trans (World.cell?_alloc_at _ _ _ _ (by simp))
  have e1 := (hb1.cell (p := ⟨w.heap.size + 1, 1, none⟩) (by simp) (by simp)).trans (World.cell?_alloc_at _ _ _ _ (by simp))
  have e2 := (hb1.cell (p := ⟨w.heap.size + 1, 2, none⟩) (by simp) (by simp)).trans (World.cell?_alloc_at _ _ _ _ (by simp))
  have f0 := (hb1.frozen (p := ⟨w.heap.size + 1, 0, none⟩) (by simp) (by simp)).trans (World.frozen?_alloc_at _ _ _ _ (by simp))
  have f1 := (hb1.frozen (p := ⟨w.heap.size + 1, 1, none⟩) (by simp) (by simp)).trans (World.frozen?_alloc_at _ _ _ _ (by simp))
  have f2 := (hb1.frozen (p := ⟨w.heap.size + 1, 2, none⟩) (by simp) (by simp)).trans (World.frozen?_alloc_at _ _ _ _ (by simp))
  have hbb := hbel.trans (hb1.below (Nat.le_refl _) hbel.size)
  clear hb1 hbel
  simp at e0 e1 e2
  go_wp2
  exact bodyPost_ret (v := .agg #[.bool true, .int .u64 (highTo zs p n : Nat), .int .i64 ((p + n : Nat) : Int)]) (by simp [results, Try.results52, go_sem, e0, e1, e2]) rfl ⟨rfl, ((hbb.setCell (by simp) _).setCell (by simp) _).setCell (by simp) _⟩

/-- What is taken: nothing where the place or the width is bad. -/
def tk (f : List Int → Nat → Nat → Nat) (zs : List Int) (p n : Int) : Option (Nat × Nat) :=
  if 0 ≤ n ∧ n ≤ 64 ∧ 0 ≤ p ∧ p ≤ 8 * zs.length - n then some (f zs p.toNat n.toNat, p.toNat + n.toNat) else none
theorem tk_bad (f : List Int → Nat → Nat → Nat) (zs : List Int) (p n : Int) (h : ¬ (0 ≤ n ∧ n ≤ 64 ∧ 0 ≤ p ∧ p ≤ 8 * zs.length - n)) : tk f zs p n = none := if_neg h
theorem tk_good (f : List Int → Nat → Nat → Nat) (zs : List Int) (p n : Nat) (hn : n ≤ 64) (hi : p + n ≤ 8 * zs.length) : tk f zs p n = some (f zs p n, p + n) := by
  unfold tk; rw [if_pos (by omega)]; rfl

theorem takeNumber0 (b cap : Nat) (zs : List Int) (p n : Int) (w : World) (hz : InB zs) (h : OwnB w b zs) (hm : zs.length ≤ 1048576) :
    Calls Try.prog 52 #[.agg #[.int .i64 0, .slice (some ⟨b, 0, none⟩) zs.length cap, .int .i64 p], .int .i64 n] w fun e w' => e = .returned (numV (tk lowTo zs p n)) ∧ Below w.heap.size w w' := by
  by_cases hg : 0 ≤ n ∧ n ≤ 64 ∧ 0 ≤ p ∧ p ≤ 8 * zs.length - n
  · obtain ⟨N, rfl⟩ := Int.eq_ofNat_of_zero_le hg.1
    obtain ⟨P, rfl⟩ := Int.eq_ofNat_of_zero_le hg.2.2.1
    rw [tk_good lowTo zs P N (by omega) (by omega)]
    exact takeNumberLow b 0 zs.length cap zs P N w rfl hz h.2 h.1 hm (by omega) (by omega)
  · rw [tk_bad lowTo zs p n hg]
    exact takeNumberBad 0 _ zs.length cap p n w hm hg
theorem takeNumber1 (b cap : Nat) (zs : List Int) (p n : Int) (w : World) (hz : InB zs) (h : OwnB w b zs) (hm : zs.length ≤ 1048576) :
    Calls Try.prog 52 #[.agg #[.int .i64 1, .slice (some ⟨b, 0, none⟩) zs.length cap, .int .i64 p], .int .i64 n] w fun e w' => e = .returned (numV (tk highTo zs p n)) ∧ Below w.heap.size w w' := by
  by_cases hg : 0 ≤ n ∧ n ≤ 64 ∧ 0 ≤ p ∧ p ≤ 8 * zs.length - n
  · obtain ⟨N, rfl⟩ := Int.eq_ofNat_of_zero_le hg.1
    obtain ⟨P, rfl⟩ := Int.eq_ofNat_of_zero_le hg.2.2.1
    rw [tk_good highTo zs P N (by omega) (by omega)]
    exact takeNumberHigh b 0 zs.length cap zs P N w rfl hz h.2 h.1 hm (by omega) (by omega)
  · rw [tk_bad highTo zs p n hg]
    exact takeNumberBad 1 _ zs.length cap p n w hm hg
theorem specTake0 (b cap : Nat) (zs : List Int) (p n : Int) (w : World) (hz : InB zs) (h : OwnB w b zs) (hm : zs.length ≤ 1048576) :
    Calls Try.prog 60 #[.slice (some ⟨b, 0, none⟩) zs.length cap, .int .i64 p, .int .i64 n, .bool false] w fun e w' => e = .returned (numV (tk lowTo zs p n)) ∧ Below w.heap.size w w' := by
  by_cases hg : 0 ≤ n ∧ n ≤ 64 ∧ 0 ≤ p ∧ p ≤ 8 * zs.length - n
  · obtain ⟨N, rfl⟩ := Int.eq_ofNat_of_zero_le hg.1
    obtain ⟨P, rfl⟩ := Int.eq_ofNat_of_zero_le hg.2.2.1
    rw [tk_good lowTo zs P N (by omega) (by omega)]
    exact specTakeLowIn b 0 zs.length cap zs P N w rfl hz h.2 hm h.1 (by omega) (by omega)
  · rw [tk_bad lowTo zs p n hg]
    exact specTakeBad _ zs.length cap p n false w hm hg
theorem specTake1 (b cap : Nat) (zs : List Int) (p n : Int) (w : World) (hz : InB zs) (h : OwnB w b zs) (hm : zs.length ≤ 1048576) :
    Calls Try.prog 60 #[.slice (some ⟨b, 0, none⟩) zs.length cap, .int .i64 p, .int .i64 n, .bool true] w fun e w' => e = .returned (numV (tk highTo zs p n)) ∧ Below w.heap.size w w' := by
  by_cases hg : 0 ≤ n ∧ n ≤ 64 ∧ 0 ≤ p ∧ p ≤ 8 * zs.length - n
  · obtain ⟨N, rfl⟩ := Int.eq_ofNat_of_zero_le hg.1
    obtain ⟨P, rfl⟩ := Int.eq_ofNat_of_zero_le hg.2.2.1
    rw [tk_good highTo zs P N (by omega) (by omega)]
    exact specTakeHighIn b 0 zs.length cap zs P N w rfl hz h.2 hm h.1 (by omega) (by omega)
  · rw [tk_bad highTo zs p n hg]
    exact specTakeBad _ zs.length cap p n true w hm hg

set_option maxHeartbeats 1000000 in
theorem implTakeLow (b cap : Nat) (zs : List Int) (p n : Int) (w : World) (hz : InB zs) (h : OwnB w b zs) (hm : zs.length ≤ 1048576) :
    Calls Try.prog 22 #[.slice (some ⟨b, 0, none⟩) zs.length cap, .int .i64 p, .int .i64 n] w fun e w' => e = .returned (numV (tk lowTo zs p n)) ∧ Below w.heap.size w w' := by
  obtain ⟨o, v, m, hV⟩ := numV_agg (tk lowTo zs p n)
  have hbel : Below w.heap.size w (w.alloc (.cells #[.bool false, .int .u64 0, .int .i64 0] 32)) := (Below.refl _ _).alloc (Nat.le_refl _) _
  have hT := takeNumber0 b cap zs p n _ hz (h.below hbel) hm
  rw [hV] at hT ⊢
  clear hV h hz
  go_enter Try.func22, Try.ntmps22
  go_wp2_with fail
  refine hT.mono ?_
  rintro e w1 ⟨rfl, hb1⟩
  clear hT
  have e0 := (hb1.cell (p := ⟨w.heap.size, 0, none⟩) (by simp)).trans (World.cell?_alloc_at _ _ _ _ rfl)
  have e1 := (hb1.cell (p := ⟨w.heap.size, 1, none⟩) (by simp)).trans (World.cell?_alloc_at _ _ _ _ rfl)
  have e2 := (hb1.cell (p := ⟨w.heap.size, 2, none⟩) (by simp)).trans (World.cell?_alloc_at _ _ _ _ rfl)
  have f0 := (hb1.frozen (p := ⟨w.heap.size, 0, none⟩) (by simp)).trans (World.frozen?_alloc_at _ _ _ _ rfl)
  have f1 := (hb1.frozen (p := ⟨w.heap.size, 1, none⟩) (by simp)).trans (World.frozen?_alloc_at _ _ _ _ rfl)
  have f2 := (hb1.frozen (p := ⟨w.heap.size, 2, none⟩) (by simp)).trans (World.frozen?_alloc_at _ _ _ _ rfl)
  have hbb := hbel.trans (hb1.mono hbel.size)
  clear hb1 hbel
  simp at e0 e1 e2
  go_wp2
  exact bodyPost_ret (v := .agg #[.bool o, .int .u64 v, .int .i64 m]) (by simp [results, Try.results22, go_sem, e0, e1, e2]) rfl ⟨rfl, ((hbb.setCell (by simp) _).setCell (by simp) _).setCell (by simp) _⟩

set_option maxHeartbeats 1000000 in
theorem implTakeHigh (b cap : Nat) (zs : List Int) (p n : Int) (w : World) (hz : InB zs) (h : OwnB w b zs) (hm : zs.length ≤ 1048576) :
    Calls Try.prog 23 #[.slice (some ⟨b, 0, none⟩) zs.length cap, .int .i64 p, .int .i64 n] w fun e w' => e = .returned (numV (tk highTo zs p n)) ∧ Below w.heap.size w w' := by
  obtain ⟨o, v, m, hV⟩ := numV_agg (tk highTo zs p n)
  have hbel : Below w.heap.size w (w.alloc (.cells #[.bool false, .int .u64 0, .int .i64 0] 32)) := (Below.refl _ _).alloc (Nat.le_refl _) _
  have hT := takeNumber1 b cap zs p n _ hz (h.below hbel) hm
  rw [hV] at hT ⊢
  clear hV h hz
  go_enter Try.func23, Try.ntmps23
  go_wp2_with fail
  refine hT.mono ?_
  rintro e w1 ⟨rfl, hb1⟩
  clear hT
  have e0 := (hb1.cell (p := ⟨w.heap.size, 0, none⟩) (by simp)).trans (World.cell?_alloc_at _ _ _ _ rfl)
  have e1 := (hb1.cell (p := ⟨w.heap.size, 1, none⟩) (by simp)).trans (World.cell?_alloc_at _ _ _ _ rfl)
  have e2 := (hb1.cell (p := ⟨w.heap.size, 2, none⟩) (by simp)).trans (World.cell?_alloc_at _ _ _ _ rfl)
  have f0 := (hb1.frozen (p := ⟨w.heap.size, 0, none⟩) (by simp)).trans (World.frozen?_alloc_at _ _ _ _ rfl)
  have f1 := (hb1.frozen (p := ⟨w.heap.size, 1, none⟩) (by simp)).trans (World.frozen?_alloc_at _ _ _ _ rfl)
  have f2 := (hb1.frozen (p := ⟨w.heap.size, 2, none⟩) (by simp)).trans (World.frozen?_alloc_at _ _ _ _ rfl)
  have hbb := hbel.trans (hb1.mono hbel.size)
  clear hb1 hbel
  simp at e0 e1 e2
  go_wp2
  exact bodyPost_ret (v := .agg #[.bool o, .int .u64 v, .int .i64 m]) (by simp [results, Try.results23, go_sem, e0, e1, e2]) rfl ⟨rfl, ((hbb.setCell (by simp) _).setCell (by simp) _).setCell (by simp) _⟩

set_option maxHeartbeats 1000000 in
theorem specTakeLow (b cap : Nat) (zs : List Int) (p n : Int) (w : World) (hz : InB zs) (h : OwnB w b zs) (hm : zs.length ≤ 1048576) :
    Calls Try.prog 42 #[.slice (some ⟨b, 0, none⟩) zs.length cap, .int .i64 p, .int .i64 n] w fun e w' => e = .returned (numV (tk lowTo zs p n)) ∧ Below w.heap.size w w' := by
  obtain ⟨o, v, m, hV⟩ := numV_agg (tk lowTo zs p n)
  have hbel : Below w.heap.size w (w.alloc (.cells #[.bool false, .int .u64 0, .int .i64 0] 32)) := (Below.refl _ _).alloc (Nat.le_refl _) _
  have hT := specTake0 b cap zs p n _ hz (h.below hbel) hm
  rw [hV] at hT ⊢
  clear hV h hz
  go_enter Try.func42, Try.ntmps42
  go_wp2_with fail
  refine hT.mono ?_
  rintro e w1 ⟨rfl, hb1⟩
  clear hT
  have e0 := (hb1.cell (p := ⟨w.heap.size, 0, none⟩) (by simp)).trans (World.cell?_alloc_at _ _ _ _ rfl)
  have e1 := (hb1.cell (p := ⟨w.heap.size, 1, none⟩) (by simp)).trans (World.cell?_alloc_at _ _ _ _ rfl)
  have e2 := (hb1.cell (p := ⟨w.heap.size, 2, none⟩) (by simp)).trans (World.cell?_alloc_at _ _ _ _ rfl)
  have f0 := (hb1.frozen (p := ⟨w.heap.size, 0, none⟩) (by simp)).trans (World.frozen?_alloc_at _ _ _ _ rfl)
  have f1 := (hb1.frozen (p := ⟨w.heap.size, 1, none⟩) (by simp)).trans (World.frozen?_alloc_at _ _ _ _ rfl)
  have f2 := (hb1.frozen (p := ⟨w.heap.size, 2, none⟩) (by simp)).trans (World.frozen?_alloc_at _ _ _ _ rfl)
  have hbb := hbel.trans (hb1.mono hbel.size)
  clear hb1 hbel
  simp at e0 e1 e2
  go_wp2
  exact bodyPost_ret (v := .agg #[.bool o, .int .u64 v, .int .i64 m]) (by simp [results, Try.results42, go_sem, e0, e1, e2]) rfl ⟨rfl, ((hbb.setCell (by simp) _).setCell (by simp) _).setCell (by simp) _⟩

set_option maxHeartbeats 1000000 in
theorem specTakeHigh (b cap : Nat) (zs : List Int) (p n : Int) (w : World) (hz : InB zs) (h : OwnB w b zs) (hm : zs.length ≤ 1048576) :
    Calls Try.prog 45 #[.slice (some ⟨b, 0, none⟩) zs.length cap, .int .i64 p, .int .i64 n] w fun e w' => e = .returned (numV (tk highTo zs p n)) ∧ Below w.heap.size w w' := by
  obtain ⟨o, v, m, hV⟩ := numV_agg (tk highTo zs p n)
  have hbel : Below w.heap.size w (w.alloc (.cells #[.bool false, .int .u64 0, .int .i64 0] 32)) := (Below.refl _ _).alloc (Nat.le_refl _) _
  have hT := specTake1 b cap zs p n _ hz (h.below hbel) hm
  rw [hV] at hT ⊢
  clear hV h hz
  go_enter Try.func45, Try.ntmps45
  go_wp2_with fail
  refine hT.mono ?_
  rintro e w1 ⟨rfl, hb1⟩
  clear hT
  have e0 := (hb1.cell (p := ⟨w.heap.size, 0, none⟩) (by simp)).trans (World.cell?_alloc_at _ _ _ _ rfl)
  have e1 := (hb1.cell (p := ⟨w.heap.size, 1, none⟩) (by simp)).trans (World.cell?_alloc_at _ _ _ _ rfl)
  have e2 := (hb1.cell (p := ⟨w.heap.size, 2, none⟩) (by simp)).trans (World.cell?_alloc_at _ _ _ _ rfl)
  have f0 := (hb1.frozen (p := ⟨w.heap.size, 0, none⟩) (by simp)).trans (World.frozen?_alloc_at _ _ _ _ rfl)
  have f1 := (hb1.frozen (p := ⟨w.heap.size, 1, none⟩) (by simp)).trans (World.frozen?_alloc_at _ _ _ _ rfl)
  have f2 := (hb1.frozen (p := ⟨w.heap.size, 2, none⟩) (by simp)).trans (World.frozen?_alloc_at _ _ _ _ rfl)
  have hbb := hbel.trans (hb1.mono hbel.size)
  clear hb1 hbel
  simp at e0 e1 e2
  go_wp2
  exact bodyPost_ret (v := .agg #[.bool o, .int .u64 v, .int .i64 m]) (by simp [results, Try.results45, go_sem, e0, e1, e2]) rfl ⟨rfl, ((hbb.setCell (by simp) _).setCell (by simp) _).setCell (by simp) _⟩
end Go.Proofs.Ytcmabocmcgkmdaa
