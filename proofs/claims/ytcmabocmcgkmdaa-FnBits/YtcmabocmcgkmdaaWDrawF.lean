/- The laws' drawing of fields. -/
import Derived.Test.YtcmabocmcgkmdaaWFields4
import Derived.Test.YtcmabocmcgkmdaaWCur
namespace Go.Proofs.Ytcmabocmcgkmdaa
open Go.RowKit

def fcells (fs : List (Int × Int)) : List Value := fs.flatMap fun f => [Value.int .i64 f.1, Value.int .u64 f.2]
theorem fcells_len (fs : List (Int × Int)) : (fcells fs).length = fs.length * 2 := by
  induction fs with
  | nil => rfl
  | cons f fs ih => show (_ :: _ :: fcells fs).length = _; simp [ih]; omega
theorem fcells_snoc (fs : List (Int × Int)) (f : Int × Int) : fcells (fs ++ [f]) = fcells fs ++ [Value.int .i64 f.1, Value.int .u64 f.2] := by simp [fcells]
theorem inF_snoc {fs : List (Int × Int)} {f : Int × Int} (h : InF fs) (h1 : -9223372036854775808 ≤ f.1 ∧ f.1 ≤ 9223372036854775807) (h2 : 0 ≤ f.2 ∧ f.2 < 18446744073709551616) : InF (fs ++ [f]) := by
  intro j
  rw [List.getD_eq_getElem?_getD]
  rcases Nat.lt_trichotomy j fs.length with e | e | e
  · rw [List.getElem?_append_left e]; have := h j; rw [List.getD_eq_getElem?_getD] at this; exact this
  · subst e; rw [List.getElem?_append_right (Nat.le_refl _), Nat.sub_self]; exact ⟨h1, h2⟩
  · rw [List.getElem?_eq_none (by simp; omega)]; exact ⟨⟨by decide, by decide⟩, by decide, by decide⟩
theorem inF_nil : InF [] := fun j => by simp
theorem owns_onlyF {w w' : World} {base r : Nat} {e : TypeId} {size n : Nat} {v : Value} {xs : List Value} (h : w.ownsRow base e size v n xs) (hne : r < base) (ho : OnlyAt r w w') : w'.ownsRow base e size v n xs := by
  refine ⟨h.1, ?_⟩
  rcases h.2 with hn | ⟨g, cap, cur, rfl, h1, h2, h3⟩
  · exact .inl hn
  · exact .inr ⟨g, cap, cur, rfl, h1, by rw [ho.block g (h.lt g rfl).2 (by omega)]; exact h2, h3⟩
theorem two_new (w : World) (u u' : Value) (t : TypeId) : ∀ j v, [u, u'][j]? = some v → (w.alloc (.cells #[u, u'] t)).cell? ((⟨w.heap.size, 0, none⟩ : Addr).add j) = some v := by
  intro j v hj
  match j, hj with
  | 0, hj => simp at hj; subst hj; simp [Addr.add]
  | 1, hj => simp at hj; subst hj; simp [Addr.add]
theorem two_one (q q' : IntKind) (a b : Int) : ∀ u ∈ [Value.int q a, Value.int q' b], u.oneCell' = true := by
  intro u hu; simp at hu; rcases hu with rfl | rfl <;> rfl
/-- The cursor stays where new blocks come, and where blocks from base on change. -/
theorem CurIn.belowAt {w w' : World} {c : Nat} {ad : Option Addr} {cap : Nat} {zs : List Int} {m B : Nat} (h : CurIn w c ad cap zs m) (hcB : c < B) (hbB : zs ≠ [] → ∀ b off, ad = some ⟨b, off, none⟩ → b < B) (hb : Below B w w') : CurIn w' c ad cap zs m := by
  obtain ⟨p, s, ⟨h0, h1, h2, h3, f1, f2, hz, hbs⟩, r⟩ := h
  refine ⟨p, s, ⟨Nat.lt_of_lt_of_le h0 hb.size, (hb.cell (by simpa using hcB)).trans h1, (hb.cell (by simpa using hcB)).trans h2, (hb.cell (by simpa using hcB)).trans h3, (hb.frozen (by simpa using hcB)).trans f1, (hb.frozen (by simpa using hcB)).trans f2, hz, fun hne => ?_⟩, r⟩
  obtain ⟨b, off, e, hl, hbc, hB⟩ := hbs hne
  exact ⟨b, off, e, Nat.lt_of_lt_of_le hl hb.size, hbc, fun j hj => (hb.cell (by simpa using hbB hne b off e)).trans (hB j hj)⟩

theorem CurIn.mono {w : World} {c : Nat} {ad : Option Addr} {cap : Nat} {zs : List Int} {m m' : Nat} (h : CurIn w c ad cap zs m) (hm : m ≤ m') : CurIn w c ad cap zs m' := by
  obtain ⟨p, s, hc, h0, h1, r⟩ := h
  exact ⟨p, s, hc, h0, by omega, r⟩
set_option maxHeartbeats 4000000 in
theorem curFields (c : Nat) (ad : Option Addr) (cap : Nat) (zs : List Int) (m n : Nat) (w : World) (h : CurIn w c ad cap zs m) (hm : m ≤ 1000000) (hl : zs.length ≤ 1048576) (hn : n ≤ 100) (hcw : c < w.heap.size)
    (hbB : zs ≠ [] → ∀ b off, ad = some ⟨b, off, none⟩ → b < w.heap.size) :
    Calls Try.prog 61 #[.pointer (some ⟨c, 0, none⟩), .int .i64 n] w fun e w' => ∃ v fs, e = .returned v ∧ fs.length = n ∧ InF fs ∧ w'.ownsRow w.heap.size 29 2 v n (fcells fs) ∧ CurIn w' c ad cap zs (m + 13 * n) ∧ Below c w w' := by
  obtain ⟨i0, hi, hz0, hz1, hz2⟩ := info_parts infoF
  replace h := hide h
  replace hbB := hide hbB
  go_enter Try.func61, Try.ntmps61
  go_wp2
  go_loopw [5, 6] (fun v i wr => ∃ fs : List (Int × Int), fs.length ≤ n ∧ i = .int .i64 fs.length ∧ InF fs ∧ wr.ownsRow w.heap.size 29 2 v fs.length (fcells fs) ∧ CurIn wr c ad cap zs (m + 13 * fs.length) ∧ Below c w wr) (fun _ i _ => n - (intOf i).toNat)
  case atStart => exact ⟨[], by simp, rfl, inF_nil, World.ownsRow_nil _ _ _ _, unhide h, Below.refl _ _⟩
  case round =>
    clear h
    obtain ⟨fs, hfn, rfl, hI, hown, hC, hbel⟩ := hrel
    have hws := hbel.size
    by_cases hlt : fs.length < n
    · have hk0 : (fs.length : Int) < (n : Int) := by omega
      have hN := hide (curPick c ad cap zs (m + 13 * fs.length) 14 wr hC (by omega) hl (by omega) (by omega))
      replace hI := hide hI
      replace hown := hide hown
      clear hC
      go_wp2_with fail
      refine (unhide hN).mono ?_
      rintro e w1 ⟨x, rfl, x0, x1, hC, ho⟩
      replace hown := hide (owns_onlyF (unhide hown) hcw ho)
      replace hbel := hide (hbel.trans (ho.below (Nat.le_refl _) (Nat.le_trans (Nat.le_of_lt hcw) hws)))
      have hws1 := Nat.le_trans hws ho.size
      clear hN ho
      replace hN := hide (curOne c ad cap zs _ 9 w1 hC (by omega) hl (by omega) (by omega))
      clear hC
      go_wp2_with fail
      refine (unhide hN).mono ?_
      rintro e w2 ⟨y, rfl, hC, ho⟩
      replace hown := hide (owns_onlyF (unhide hown) hcw ho)
      replace hbel := hide ((unhide hbel).trans (ho.below (Nat.le_refl _) (Nat.le_trans (Nat.le_of_lt hcw) hws1)))
      have hws2 := Nat.le_trans hws1 ho.size
      clear hN ho
      cases y
      · have hN := hide (curWide c ad cap zs _ w2 hC (by omega) hl)
        clear hC
        go_wp2_with fail
        refine (unhide hN).mono ?_
        rintro e w4 ⟨u, rfl, u0, u1, hC, ho⟩
        replace hown := owns_onlyF (unhide hown) hcw ho
        replace hbel := (unhide hbel).trans (ho.below (Nat.le_refl _) (Nat.le_trans (Nat.le_of_lt hcw) hws2))
        have hws4 := Nat.le_trans hws2 ho.size
        clear hN ho
        replace hC := hide hC
        replace hbel := hide hbel
        go_wp2_with (at_builtin; refine wpList_append_own _ rfl (.tmp 20) (.tmp 25) 23 rfl w.heap.size 29 i0 (.agg #[.int .i64 0, .int .u64 0]) 2 16 Try.underlying23 hi hz0 hz1 hz2 rfl (by decide) _ _ _ rfl (hown.alloc _) ⟨w4.heap.size, 0, none⟩ 1 1 [.int .i64 x, .int .u64 u] rfl rfl (two_new w4 _ _ _) (two_one _ _ _ _) (by unfold maxLen; omega) (by omega) (by simp; omega) ?_)
        intro v' w5 hown' hgrow _
        have hcurB := ((Below.refl w.heap.size w4).alloc (by omega) (.cells #[.int .i64 x, .int .u64 u] 29)).grown hgrow (by simp; omega) (fun k hk => (hown.lt k hk).1)
        have hC5 := hide (((unhide hC).belowAt hcw (unhide hbB) hcurB).mono (show _ ≤ m + 13 * (fs.length + 1) by omega))
        have hbel5 := hide ((unhide hbel).trans (hcurB.mono (Nat.le_of_lt hcw)))
        have hI5 := hide (inF_snoc (f := (x, u)) (unhide hI) ⟨by omega, by omega⟩ ⟨u0, u1⟩)
        rw [← fcells_snoc fs (x, u)] at hown'
        replace hown' := hide hown'
        clear hown hgrow hcurB hC hbel hI
        go_wp2
        go_roundw
        case rel => exact ⟨fs ++ [(x, u)], by simp; omega, by rw [List.length_append]; go_num, unhide hI5, by rw [List.length_append]; exact unhide hown', by rw [List.length_append]; exact unhide hC5, unhide hbel5⟩
        case measure => simp [intOf]; omega
      · have hN := hide (curPick c ad cap zs _ 68 w2 hC (by omega) hl (by omega) (by omega))
        clear hC
        go_wp2_with fail
        refine (unhide hN).mono ?_
        rintro e w3 ⟨x2, rfl, y0, y1, hC, ho⟩
        replace hown := hide (owns_onlyF (unhide hown) hcw ho)
        replace hbel := hide ((unhide hbel).trans (ho.below (Nat.le_refl _) (Nat.le_trans (Nat.le_of_lt hcw) hws2)))
        have hws3 := Nat.le_trans hws2 ho.size
        clear hN ho
        have hN := hide (curWide c ad cap zs _ w3 hC (by omega) hl)
        clear hC
        go_wp2_with fail
        refine (unhide hN).mono ?_
        rintro e w4 ⟨u, rfl, u0, u1, hC, ho⟩
        replace hown := owns_onlyF (unhide hown) hcw ho
        replace hbel := (unhide hbel).trans (ho.below (Nat.le_refl _) (Nat.le_trans (Nat.le_of_lt hcw) hws3))
        have hws4 := Nat.le_trans hws3 ho.size
        clear hN ho
        replace hC := hide hC
        replace hbel := hide hbel
        go_wp2_with (at_builtin; refine wpList_append_own _ rfl (.tmp 20) (.tmp 25) 23 rfl w.heap.size 29 i0 (.agg #[.int .i64 0, .int .u64 0]) 2 16 Try.underlying23 hi hz0 hz1 hz2 rfl (by decide) _ _ _ rfl (hown.alloc _) ⟨w4.heap.size, 0, none⟩ 1 1 [.int .i64 (x2 - 1), .int .u64 u] rfl rfl (two_new w4 _ _ _) (two_one _ _ _ _) (by unfold maxLen; omega) (by omega) (by simp; omega) ?_)
        intro v' w5 hown' hgrow _
        have hcurB := ((Below.refl w.heap.size w4).alloc (by omega) (.cells #[.int .i64 (x2 - 1), .int .u64 u] 29)).grown hgrow (by simp; omega) (fun k hk => (hown.lt k hk).1)
        have hC5 := hide (((unhide hC).belowAt hcw (unhide hbB) hcurB).mono (show _ ≤ m + 13 * (fs.length + 1) by omega))
        have hbel5 := hide ((unhide hbel).trans (hcurB.mono (Nat.le_of_lt hcw)))
        have hI5 := hide (inF_snoc (f := ((x2 - 1), u)) (unhide hI) ⟨by simp only; omega, by simp only; omega⟩ ⟨u0, u1⟩)
        rw [← fcells_snoc fs ((x2 - 1), u)] at hown'
        replace hown' := hide hown'
        clear hown hgrow hcurB hC hbel hI
        go_wp2
        go_roundw
        case rel => exact ⟨fs ++ [((x2 - 1), u)], by simp; omega, by rw [List.length_append]; go_num, unhide hI5, by rw [List.length_append]; exact unhide hown', by rw [List.length_append]; exact unhide hC5, unhide hbel5⟩
        case measure => simp [intOf]; omega
    · have hkl : fs.length = n := by omega
      replace hown := hide hown
      replace hI := hide hI
      replace hC := hide hC
      have hk0 : ¬ (fs.length : Int) < (n : Int) := by omega
      go_wp2
      go_ret
      exact ⟨_, rfl, fs, hkl, unhide hI, hkl ▸ unhide hown, hkl ▸ unhide hC, hbel⟩
end Go.Proofs.Ytcmabocmcgkmdaa
