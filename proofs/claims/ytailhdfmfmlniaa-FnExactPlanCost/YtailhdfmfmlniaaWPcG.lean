/- The parts of a planned list: the program's walk. -/
import Derived.Test.YtailhdfmfmlniaaWPcF
import Derived.Test.YtailhdfmfmlniaaWLLl
namespace Go.Proofs.Ytailhdfmfmlniaa
open Go.RowKit

def partsL (r : List Int) (o each n : Nat) : Ll := (List.range n).map (partZ r o each)
@[simp] theorem partsL_length (r : List Int) (o each n : Nat) : (partsL r o each n).length = n := by simp [partsL]
theorem partsL_getD (r : List Int) (o each n i : Nat) (h : i < n) : (partsL r o each n).getD i Ln0 = partZ r o each i := by
  unfold partsL
  rw [List.getD_eq_getElem?_getD, List.getElem?_map, List.getElem?_range h]; rfl
abbrev plc (o p : Int) (kv rv : Value) (c : Int) : List Value := [.int .i64 o, .int .i64 p, kv, rv, .int .i64 c]
theorem oneNewL (w : World) (ad : Option Addr) (n c : Nat) (t : TypeId) : ∀ j u, [Value.slice ad n c][j]? = some u → (w.alloc (.cells #[.slice ad n c] t)).cell? ((⟨w.heap.size, 0, none⟩ : Addr).add j) = some u := by
  intro j u hu
  match j, hu with
  | 0, hu => simp at hu; subst hu; simp [Addr.add]
theorem oneOneL (ad : Option Addr) (n c : Nat) : ∀ u ∈ [Value.slice ad n c], u.oneCell' = true := by
  intro u hu; simp at hu; subst hu; rfl
theorem getD_snocV (us : List Value) (u : Value) (j k : Nat) (hk : us.length = k) : (us ++ [u]).getD j undef = if j < k then us.getD j undef else if j = k then u else undef := by
  rw [List.getD_eq_getElem?_getD, List.getD_eq_getElem?_getD]
  split
  · rename_i h; rw [List.getElem?_append_left (by omega)]
  · split
    · rename_i h; subst h; rw [List.getElem?_append_right (by omega), hk]; simp
    · rw [List.getElem?_eq_none (by simp; omega)]; rfl
set_option maxHeartbeats 16000000 in
set_option maxRecDepth 100000 in
theorem implParts (O P N each : Nat) (kv : Value) (rv : Value) (r : List Int) (c : Int) (w : World) (hP : P ≤ 4) (ho : O ≤ each) (hO4 : O ≤ 4) (hE : N / 2 ^ P = each) (hpl : ∀ i, i < 2 ^ P → (i + 1) * each ≤ N) (hN : N ≤ 4000) (hl : r.length = N) (hk : ∃ ad n cap, kv = .slice ad n cap) (hv : RdX w rv r) :
    Calls Try.prog 134 #[.agg #[.int .i64 (O : Int), .int .i64 (P : Int), kv, rv, .int .i64 c]] w fun e w' => ∃ v, e = .returned v ∧ RdLl w' v (partsL r O each (2 ^ P)) ∧ Upd 0 0 w w' := by
  obtain ⟨adk, nk, capk, rfl⟩ := hk
  obtain ⟨adr, capr, hrv, _⟩ := hv.rd
  subst hrv
  rw [hl] at hv ⊢
  have hbx := hide (heldF_new w (plc (O : Int) (P : Int) (.slice adk nk capk) (.slice adr N capr) c) 115)
  have hbel := hide ((Below.refl w.heap.size w).alloc (Nat.le_refl _) (.cells #[.int .i64 (O : Int), .int .i64 (P : Int), .slice adk nk capk, .slice adr N capr, .int .i64 c] 115))
  obtain ⟨i0, hi, hz0, hz1, hz2⟩ := info_parts infoLl
  obtain ⟨M, hM⟩ : ∃ M, 2 ^ P = M := ⟨_, rfl⟩
  have hMI : (2 : Int) ^ P = (M : Int) := by rw [← hM, Int.natCast_pow]; rfl
  have hp := pow16D P hP
  have hmin : min P 64 = P := by omega
  rw [hMI] at hp
  have hM16 : M ≤ 16 := by omega
  rw [hM] at hpl ⊢
  have hP5 := parts5 hP hE
  replace hv := hide hv
  go_enter Try.func134, Try.ntmps134
  go_upto_region 1 with fail
  change Hid (HeldF (w.alloc (.cells #[.int .i64 (O : Int), .int .i64 (P : Int), .slice adk nk capk, .slice adr N capr, .int .i64 c] 115)) w.heap.size (plc (O : Int) (P : Int) (.slice adk nk capk) (.slice adr N capr) c)) at hbx
  generalize w.alloc (.cells #[.int .i64 (O : Int), .int .i64 (P : Int), .slice adk nk capk, .slice adr N capr, .int .i64 c] 115) = w0 at hbx hbel ⊢
  have p0 := (unhide hbx).1.2 0 _ rfl
  have p1 := (unhide hbx).1.2 1 _ rfl
  have p3 := (unhide hbx).1.2 3 _ rfl
  have hsh : Hid ((N : Int) / 2 ^ P = (each : Int)) := hide (by rw [← hE, Int.natCast_ediv, Int.natCast_pow]; rfl)
  have heM : (N : Int) / (M : Int) = (each : Int) := by rw [← hMI]; exact unhide hsh
  go_upto_region 4 with fail
  clear hP5 hsh hmin hp hMI heM p0 p1 p3
  have hs0 : w0.heap.size = w.heap.size + 1 ∨ True := .inr trivial
  have hgb := (unhide hbx).1.1
  have hO0 : Hid (w0.ownsRow w0.heap.size 23 1 (.slice none 0 0) 0 []) := hide (World.ownsRow_nil _ _ _ _)
  obtain ⟨base, hbase⟩ : ∃ base, w0.heap.size = base := ⟨_, rfl⟩
  have hgb2 : w.heap.size + 1 ≤ base := by omega
  rw [hbase] at hO0
  have hbl0 : Hid (base ≤ w0.heap.size) := hide (by omega)
  clear hs0 hgb
  go_loopw [4, 5, 17] (fun v _ i wr => ∃ (k : Nat) (us : List Value), k ≤ M ∧ i = .int .i64 k ∧ Hid (wr.ownsRow base 23 1 v k us) ∧ Hid (∀ j, j < k → RdI w (us.getD j undef) (partZ r O each j)) ∧ Hid (Below w.heap.size w wr) ∧ Hid (HeldF wr w.heap.size (plc (O : Int) (P : Int) (.slice adk nk capk) (.slice adr N capr) c)) ∧ Hid (base ≤ wr.heap.size)) (fun _ _ i _ => M - (intOf i).toNat)
  case atStart => exact ⟨0, [], Nat.zero_le _, rfl, hO0, hide (fun j hj => by omega), hbel, hbx, hbl0⟩
  case round =>
    clear hO0 hbel hbx hbl0
    obtain ⟨k, us, hk, rfl, hO, hus, hbel, hbx, hbl⟩ := hrel
    by_cases hlt : k < M
    · have p0 := (unhide hbx).1.2 0 _ rfl
      have p3 := (unhide hbx).1.2 3 _ rfl
      have hTN := hpl k hlt
      obtain ⟨X, hX⟩ : ∃ X, k * each = X := ⟨_, rfl⟩
      obtain ⟨T, hT⟩ : ∃ T, (k + 1) * each = T := ⟨_, rfl⟩
      obtain ⟨F, hF⟩ : ∃ F, partFrom O each k = F := ⟨_, rfl⟩
      have hFX : F = max O X := by rw [← hF, ← hX]; rfl
      have hFT : F ≤ T := by rw [← hF, ← hT]; exact partFrom_le O each k ho
      have hz : partZ r O each k = (r.take T).drop F := by unfold partZ; rw [hF, hT]
      rw [hT] at hTN
      have pm1 : (k : Int) * (each : Int) = (X : Int) := by rw [← hX, Int.natCast_mul]
      have pm2 : ((k : Int) + 1) * (each : Int) = (T : Int) := by rw [← hT, Int.natCast_mul]; rfl
      have kI : (0 : Int) ≤ (k : Int) := by omega
      have kL : (k : Int) < (M : Int) := by omega
      have f0 : (0 : Int) ≤ (F : Int) := by omega
      have f1 : (F : Int) ≤ (T : Int) := by omega
      replace hX := hide hX
      replace hT := hide hT
      replace hF := hide hF
      replace hFX := hide hFX
      have hX0 := unhide hX
      rcases unhide hv with ⟨e1, e2⟩ | ⟨b, off, cap, e1, hcp, hbl1, hc⟩
      · simp only [Value.slice.injEq] at e1
        obtain ⟨rfl, rfl, rfl⟩ := e1
        have hT0 : T = 0 := by omega
        have hF0 : F = 0 := by omega
        have hOX : O ≤ X := by
          have := unhide hFX; omega
        subst hT0
        subst hF0
        have hXX : X = 0 := by have := unhide hFX; omega
        subst hXX
        replace e2 := hide e2
        replace hl := hide hl
        replace hX0 := hide hX0
        have hnew := hide (oneNewL wr none 0 0 23)
        have hO1 := hide ((unhide hO).alloc (.cells #[.slice none 0 0] 23))
        have hrk : Hid (RdI w (.slice none 0 0) (partZ r O each k)) := hide (by rw [hz]; exact by rw [unhide e2]; simpa using (show RdI w (.slice none 0 0) [] from ⟨none, 0, rfl, fun h => absurd rfl h⟩))
        have hlen : us.length = k := by have := (unhide hO).1; omega
        have hbx1 := hide ((unhide hbx).keep (Upd.of_below ((Below.refl wr.heap.size wr).alloc (Nat.le_refl _) (.cells #[.slice none 0 0] 23)) 0 0))
        have hbel1 := hide ((unhide hbel).alloc (by exact (unhide hbel).size) (.cells #[.slice none 0 0] 23))
        have hbl1 : Hid (base ≤ (wr.alloc (.cells #[.slice none 0 0] 23)).heap.size) := hide (by rw [World.size_alloc]; have := unhide hbl; omega)
        clear hO hbx hbel hbl hz
        replace hlen := hide hlen
        go_wp2_with (at_builtin; go_loud (refine wpList_append_own_at _ rfl (.tmp 20) (.tmp 35) 50 rfl base 23 i0 (.slice none 0 0) 1 24 Try.underlying50 hi hz0 hz1 hz2 rfl (by decide) _ k us rfl (unhide hO1) ⟨wr.heap.size, 0, none⟩ 1 1 [.slice none 0 0] rfl rfl (unhide hnew) (oneOneL _ _ _) (by unfold maxLen; omega) (by omega) (unhide hbl1) ?_; intro v' w6 hown' hgrow _ hat))
        have hu6 := upd_of_grownI hgrow (unhide hO1)
        have hbx2 := hide ((unhide hbx1).upd hu6 (.inl hgb2))
        have hbel2 := hide (below_upd (unhide hbel1) hu6 (Nat.le_refl _) (.inl (by omega)))
        have hbl2 : Hid (base ≤ w6.heap.size) := hide (by have := unhide hbl1; have := hgrow.size; omega)
        have hus2 : Hid (∀ j, j < k + 1 → RdI w ((us ++ [Value.slice none 0 0]).getD j undef) (partZ r O each j)) := hide (fun j hj => by
          rw [getD_snocV us _ j k (unhide hlen)]
          split
          · rename_i h; exact unhide hus j h
          · rw [if_pos (by omega), show j = k by omega]; exact unhide hrk)
        replace hown' := hide hown'
        clear hO1 hbx1 hbel1 hbl1 hgrow hat hu6 hus hrk hnew p0 p3 hlen
        go_wp2_with fail
        refine ⟨?_, ?_⟩
        · first
            | exact ⟨k + 1, _, by omega, by go_num, hown', hus2, hbel2, hbx2, hbl2⟩
            | ((repeat apply Exists.intro)
               refine ⟨?_, rfl⟩
               exact ⟨k + 1, _, by omega, by go_num, hown', hus2, hbel2, hbx2, hbl2⟩)
        · simp [intOf]; omega
      simp only [Value.slice.injEq] at e1
      obtain ⟨rfl, e3, rfl⟩ := e1
      clear e3
      rw [hl] at hcp
      have hRd := hide (fun ad c h => rd_part (ad := ad) (c := c) (r := r) hl hFT hTN hbl1 hc h)
      have f2 : (T : Int) ≤ (capr : Int) := by omega
      replace hl := hide hl
      replace hX0 := hide hX0
      clear hc
      by_cases hOX : O < X
      · have hFF : F = X := by have := unhide hFX; omega
        subst hFF
        by_cases hco : capr = F
        · have hx : ¬ F < T := by omega
          subst hco
          have hnew := hide (oneNewL wr (some ⟨b, off, none⟩) (T - capr) 0 23)
          have hO1 := hide ((unhide hO).alloc (.cells #[.slice (some ⟨b, off, none⟩) (T - capr) 0] 23))
          have hrk : Hid (RdI w (.slice (some ⟨b, off, none⟩) (T - capr) 0) (partZ r O each k)) := hide (by rw [hz]; exact unhide hRd _ _ (fun h => absurd h hx))
          have hlen : us.length = k := by have := (unhide hO).1; omega
          have hbx1 := hide ((unhide hbx).keep (Upd.of_below ((Below.refl wr.heap.size wr).alloc (Nat.le_refl _) (.cells #[.slice (some ⟨b, off, none⟩) (T - capr) 0] 23)) 0 0))
          have hbel1 := hide ((unhide hbel).alloc (by exact (unhide hbel).size) (.cells #[.slice (some ⟨b, off, none⟩) (T - capr) 0] 23))
          have hbl1 : Hid (base ≤ (wr.alloc (.cells #[.slice (some ⟨b, off, none⟩) (T - capr) 0] 23)).heap.size) := hide (by rw [World.size_alloc]; have := unhide hbl; omega)
          clear hO hbx hbel hbl hz
          replace hlen := hide hlen
          go_wp2_with (at_builtin; go_loud (refine wpList_append_own_at _ rfl (.tmp 20) (.tmp 35) 50 rfl base 23 i0 (.slice none 0 0) 1 24 Try.underlying50 hi hz0 hz1 hz2 rfl (by decide) _ k us rfl (unhide hO1) ⟨wr.heap.size, 0, none⟩ 1 1 [.slice (some ⟨b, off, none⟩) (T - capr) 0] rfl rfl (unhide hnew) (oneOneL _ _ _) (by unfold maxLen; omega) (by omega) (unhide hbl1) ?_; intro v' w6 hown' hgrow _ hat))
          have hu6 := upd_of_grownI hgrow (unhide hO1)
          have hbx2 := hide ((unhide hbx1).upd hu6 (.inl hgb2))
          have hbel2 := hide (below_upd (unhide hbel1) hu6 (Nat.le_refl _) (.inl (by omega)))
          have hbl2 : Hid (base ≤ w6.heap.size) := hide (by have := unhide hbl1; have := hgrow.size; omega)
          have hus2 : Hid (∀ j, j < k + 1 → RdI w ((us ++ [Value.slice (some ⟨b, off, none⟩) (T - capr) 0]).getD j undef) (partZ r O each j)) := hide (fun j hj => by
            rw [getD_snocV us _ j k (unhide hlen)]
            split
            · rename_i h; exact unhide hus j h
            · rw [if_pos (by omega), show j = k by omega]; exact unhide hrk)
          replace hown' := hide hown'
          clear hO1 hbx1 hbel1 hbl1 hgrow hat hu6 hus hrk hnew p0 p3 hlen
          go_wp2_with fail
          refine ⟨?_, ?_⟩
          · first
              | exact ⟨k + 1, _, by omega, by go_num, hown', hus2, hbel2, hbx2, hbl2⟩
              | ((repeat apply Exists.intro)
                 refine ⟨?_, rfl⟩
                 exact ⟨k + 1, _, by omega, by go_num, hown', hus2, hbel2, hbx2, hbl2⟩)
          · simp [intOf]; omega
        skip
        have hnew := hide (oneNewL wr (some ⟨b, off + F, none⟩) (T - F) (capr - F) 23)
        have hO1 := hide ((unhide hO).alloc (.cells #[.slice (some ⟨b, off + F, none⟩) (T - F) (capr - F)] 23))
        have hrk : Hid (RdI w (.slice (some ⟨b, off + F, none⟩) (T - F) (capr - F)) (partZ r O each k)) := hide (by rw [hz]; exact unhide hRd _ _ (fun _ => rfl))
        have hlen : us.length = k := by have := (unhide hO).1; omega
        have hbx1 := hide ((unhide hbx).keep (Upd.of_below ((Below.refl wr.heap.size wr).alloc (Nat.le_refl _) (.cells #[.slice (some ⟨b, off + F, none⟩) (T - F) (capr - F)] 23)) 0 0))
        have hbel1 := hide ((unhide hbel).alloc (by exact (unhide hbel).size) (.cells #[.slice (some ⟨b, off + F, none⟩) (T - F) (capr - F)] 23))
        have hbl1 : Hid (base ≤ (wr.alloc (.cells #[.slice (some ⟨b, off + F, none⟩) (T - F) (capr - F)] 23)).heap.size) := hide (by rw [World.size_alloc]; have := unhide hbl; omega)
        clear hO hbx hbel hbl hz
        replace hlen := hide hlen
        go_wp2_with (at_builtin; go_loud (refine wpList_append_own_at _ rfl (.tmp 20) (.tmp 35) 50 rfl base 23 i0 (.slice none 0 0) 1 24 Try.underlying50 hi hz0 hz1 hz2 rfl (by decide) _ k us rfl (unhide hO1) ⟨wr.heap.size, 0, none⟩ 1 1 [.slice (some ⟨b, off + F, none⟩) (T - F) (capr - F)] rfl rfl (unhide hnew) (oneOneL _ _ _) (by unfold maxLen; omega) (by omega) (unhide hbl1) ?_; intro v' w6 hown' hgrow _ hat))
        have hu6 := upd_of_grownI hgrow (unhide hO1)
        have hbx2 := hide ((unhide hbx1).upd hu6 (.inl hgb2))
        have hbel2 := hide (below_upd (unhide hbel1) hu6 (Nat.le_refl _) (.inl (by omega)))
        have hbl2 : Hid (base ≤ w6.heap.size) := hide (by have := unhide hbl1; have := hgrow.size; omega)
        have hus2 : Hid (∀ j, j < k + 1 → RdI w ((us ++ [Value.slice (some ⟨b, off + F, none⟩) (T - F) (capr - F)]).getD j undef) (partZ r O each j)) := hide (fun j hj => by
          rw [getD_snocV us _ j k (unhide hlen)]
          split
          · rename_i h; exact unhide hus j h
          · rw [if_pos (by omega), show j = k by omega]; exact unhide hrk)
        replace hown' := hide hown'
        clear hO1 hbx1 hbel1 hbl1 hgrow hat hu6 hus hrk hnew p0 p3 hlen
        go_wp2_with fail
        refine ⟨?_, ?_⟩
        · first
            | exact ⟨k + 1, _, by omega, by go_num, hown', hus2, hbel2, hbx2, hbl2⟩
            | ((repeat apply Exists.intro)
               refine ⟨?_, rfl⟩
               exact ⟨k + 1, _, by omega, by go_num, hown', hus2, hbel2, hbx2, hbl2⟩)
        · simp [intOf]; omega
      have hFF : F = O := by have := unhide hFX; omega
      subst hFF
      by_cases hco : capr = F
      · have hx : ¬ F < T := by omega
        subst hco
        have hnew := hide (oneNewL wr (some ⟨b, off, none⟩) (T - capr) 0 23)
        have hO1 := hide ((unhide hO).alloc (.cells #[.slice (some ⟨b, off, none⟩) (T - capr) 0] 23))
        have hrk : Hid (RdI w (.slice (some ⟨b, off, none⟩) (T - capr) 0) (partZ r capr each k)) := hide (by rw [hz]; exact unhide hRd _ _ (fun h => absurd h hx))
        have hlen : us.length = k := by have := (unhide hO).1; omega
        have hbx1 := hide ((unhide hbx).keep (Upd.of_below ((Below.refl wr.heap.size wr).alloc (Nat.le_refl _) (.cells #[.slice (some ⟨b, off, none⟩) (T - capr) 0] 23)) 0 0))
        have hbel1 := hide ((unhide hbel).alloc (by exact (unhide hbel).size) (.cells #[.slice (some ⟨b, off, none⟩) (T - capr) 0] 23))
        have hbl1 : Hid (base ≤ (wr.alloc (.cells #[.slice (some ⟨b, off, none⟩) (T - capr) 0] 23)).heap.size) := hide (by rw [World.size_alloc]; have := unhide hbl; omega)
        clear hO hbx hbel hbl hz
        replace hlen := hide hlen
        go_wp2_with (at_builtin; go_loud (refine wpList_append_own_at _ rfl (.tmp 20) (.tmp 35) 50 rfl base 23 i0 (.slice none 0 0) 1 24 Try.underlying50 hi hz0 hz1 hz2 rfl (by decide) _ k us rfl (unhide hO1) ⟨wr.heap.size, 0, none⟩ 1 1 [.slice (some ⟨b, off, none⟩) (T - capr) 0] rfl rfl (unhide hnew) (oneOneL _ _ _) (by unfold maxLen; omega) (by omega) (unhide hbl1) ?_; intro v' w6 hown' hgrow _ hat))
        have hu6 := upd_of_grownI hgrow (unhide hO1)
        have hbx2 := hide ((unhide hbx1).upd hu6 (.inl hgb2))
        have hbel2 := hide (below_upd (unhide hbel1) hu6 (Nat.le_refl _) (.inl (by omega)))
        have hbl2 : Hid (base ≤ w6.heap.size) := hide (by have := unhide hbl1; have := hgrow.size; omega)
        have hus2 : Hid (∀ j, j < k + 1 → RdI w ((us ++ [Value.slice (some ⟨b, off, none⟩) (T - capr) 0]).getD j undef) (partZ r capr each j)) := hide (fun j hj => by
          rw [getD_snocV us _ j k (unhide hlen)]
          split
          · rename_i h; exact unhide hus j h
          · rw [if_pos (by omega), show j = k by omega]; exact unhide hrk)
        replace hown' := hide hown'
        clear hO1 hbx1 hbel1 hbl1 hgrow hat hu6 hus hrk hnew p0 p3 hlen
        go_wp2_with fail
        refine ⟨?_, ?_⟩
        · first
            | exact ⟨k + 1, _, by omega, by go_num, hown', hus2, hbel2, hbx2, hbl2⟩
            | ((repeat apply Exists.intro)
               refine ⟨?_, rfl⟩
               exact ⟨k + 1, _, by omega, by go_num, hown', hus2, hbel2, hbx2, hbl2⟩)
        · simp [intOf]; omega
      have hnew := hide (oneNewL wr (some ⟨b, off + F, none⟩) (T - F) (capr - F) 23)
      have hO1 := hide ((unhide hO).alloc (.cells #[.slice (some ⟨b, off + F, none⟩) (T - F) (capr - F)] 23))
      have hrk : Hid (RdI w (.slice (some ⟨b, off + F, none⟩) (T - F) (capr - F)) (partZ r F each k)) := hide (by rw [hz]; exact unhide hRd _ _ (fun _ => rfl))
      have hlen : us.length = k := by have := (unhide hO).1; omega
      have hbx1 := hide ((unhide hbx).keep (Upd.of_below ((Below.refl wr.heap.size wr).alloc (Nat.le_refl _) (.cells #[.slice (some ⟨b, off + F, none⟩) (T - F) (capr - F)] 23)) 0 0))
      have hbel1 := hide ((unhide hbel).alloc (by exact (unhide hbel).size) (.cells #[.slice (some ⟨b, off + F, none⟩) (T - F) (capr - F)] 23))
      have hbl1 : Hid (base ≤ (wr.alloc (.cells #[.slice (some ⟨b, off + F, none⟩) (T - F) (capr - F)] 23)).heap.size) := hide (by rw [World.size_alloc]; have := unhide hbl; omega)
      clear hO hbx hbel hbl hz
      replace hlen := hide hlen
      go_wp2_with (at_builtin; go_loud (refine wpList_append_own_at _ rfl (.tmp 20) (.tmp 35) 50 rfl base 23 i0 (.slice none 0 0) 1 24 Try.underlying50 hi hz0 hz1 hz2 rfl (by decide) _ k us rfl (unhide hO1) ⟨wr.heap.size, 0, none⟩ 1 1 [.slice (some ⟨b, off + F, none⟩) (T - F) (capr - F)] rfl rfl (unhide hnew) (oneOneL _ _ _) (by unfold maxLen; omega) (by omega) (unhide hbl1) ?_; intro v' w6 hown' hgrow _ hat))
      have hu6 := upd_of_grownI hgrow (unhide hO1)
      have hbx2 := hide ((unhide hbx1).upd hu6 (.inl hgb2))
      have hbel2 := hide (below_upd (unhide hbel1) hu6 (Nat.le_refl _) (.inl (by omega)))
      have hbl2 : Hid (base ≤ w6.heap.size) := hide (by have := unhide hbl1; have := hgrow.size; omega)
      have hus2 : Hid (∀ j, j < k + 1 → RdI w ((us ++ [Value.slice (some ⟨b, off + F, none⟩) (T - F) (capr - F)]).getD j undef) (partZ r F each j)) := hide (fun j hj => by
        rw [getD_snocV us _ j k (unhide hlen)]
        split
        · rename_i h; exact unhide hus j h
        · rw [if_pos (by omega), show j = k by omega]; exact unhide hrk)
      replace hown' := hide hown'
      clear hO1 hbx1 hbel1 hbl1 hgrow hat hu6 hus hrk hnew p0 p3 hlen
      go_wp2_with fail
      refine ⟨?_, ?_⟩
      · first
          | exact ⟨k + 1, _, by omega, by go_num, hown', hus2, hbel2, hbx2, hbl2⟩
          | ((repeat apply Exists.intro)
             refine ⟨?_, rfl⟩
             exact ⟨k + 1, _, by omega, by go_num, hown', hus2, hbel2, hbx2, hbl2⟩)
      · simp [intOf]; omega
    · have hkM : k = M := by omega
      subst hkM
      have hlen : us.length = k := by have := (unhide hO).1; omega
      have hR : Hid (RdLl wr u4 (partsL r O each k)) := hide (by
        rcases (unhide hO).2 with ⟨e1, e2⟩ | ⟨g, cp, cur, e1, h4, h5, h6⟩
        · rw [e2, e1]
          exact ⟨none, 0, by simp, fun hne => absurd (List.length_eq_zero_iff.1 (by simp)) hne⟩
        · have hO2 := unhide hO
          rw [e1] at hO2 ⊢
          refine ⟨some ⟨g, 0, none⟩, cp, by rw [partsL_length], fun _ => ⟨g, 0, fun j => us.getD j undef, rfl, (hO2.lt g rfl).2, fun j hj => ?_, fun j hj => ?_⟩⟩
          · rw [partsL_length] at hj
            rw [Nat.zero_add, hO2.cellAt j (by omega)]
            show us[j]? = some (us.getD j undef)
            rw [List.getD_eq_getElem?_getD, List.getElem?_eq_getElem (by omega)]
            rfl
          · rw [partsL_length] at hj
            rw [partsL_getD _ _ _ _ _ hj]
            exact (unhide hus j hj).below (unhide hbel))
      clear hO hus hbx hbl
      go_wp2
      go_ret
      exact ⟨_, rfl, unhide hR, Upd.of_below (unhide hbel) 0 0⟩
end Go.Proofs.Ytailhdfmfmlniaa
