/- Plain: the block that runs tell. -/
import Derived.Test.YtilmdbdgohfpcaaPlainRn
namespace Go.Proofs.Ytilmdbdgohfpcaa
open Go.RowKit

/-- The place that stands j-th in scan order. -/
def scP (j : Nat) : Nat := (scanL.getD j 0).toNat
theorem scP_lt : ∀ j, j < 64 → scP j < 64 := by decide +kernel
theorem scP_inj : ∀ i, i < 64 → ∀ j, j < 64 → scP i = scP j → i = j := by decide +kernel
theorem scP_zero : scP 0 = 0 := by decide +kernel
theorem scP_onto : ∀ p, p < 64 → ∃ j, j < 64 ∧ scP j = p := by decide +kernel

/-- What a block has from the k-th place on, in scan order. -/
def fromK (b : List Int) (k : Nat) : List Int := (List.range (64 - k)).map fun i => b.getD (scP (k + i)) 0
theorem fromK_end (b : List Int) (k : Nat) (h : 64 ≤ k) : fromK b k = [] := by
  unfold fromK; rw [Nat.sub_eq_zero_of_le h]; rfl
theorem fromK_step (b : List Int) (k : Nat) (h : k < 64) : fromK b k = b.getD (scP k) 0 :: fromK b (k + 1) := by
  unfold fromK
  rw [show 64 - k = (64 - (k + 1)) + 1 by omega, List.range_succ_eq_map, List.map_cons, List.map_map]
  simp only [Nat.add_zero]
  congr 1
  apply List.map_congr_left
  intro i _
  simp only [Function.comp_apply]
  rw [show k + Nat.succ i = k + 1 + i by omega]

/-- The runs of a list of numbers, m zeros being ahead. -/
def goR (m : Nat) : List Int → List (Int × Int)
  | [] => if 0 < m then [((m : Int), 0)] else []
  | y :: ys => if y = 0 then goR (m + 1) ys else ((m : Int), y) :: goR 0 ys
theorem runsFold_goR (b : List Int) : ∀ (ps : List Int) (L : List (Int × Int)) (m : Nat), runsEnd (ps.foldl (runStep b) (L, m)) = L ++ goR m (ps.map fun x => b.getD x.toNat 0)
  | [], L, m => by
    rw [List.foldl_nil, List.map_nil]
    unfold runsEnd goR
    by_cases h : 0 < m
    · rw [if_pos h, if_pos h]
    · rw [if_neg h, if_neg h, List.append_nil]
  | x :: ps, L, m => by
    rw [List.foldl_cons, List.map_cons]
    unfold runStep goR
    split
    · exact runsFold_goR b ps L (m + 1)
    · rw [show (fun (st : List (Int × Int) × Nat) (x : Int) => if b.getD x.toNat 0 = 0 then (st.1, st.2 + 1) else (st.1 ++ [((st.2 : Int), b.getD x.toNat 0)], 0)) = runStep b by rfl, runsFold_goR b ps _ 0]
      simp
theorem scanTail_map (b : List Int) : scanL.tail.map (fun x => b.getD x.toNat 0) = fromK b 1 := by
  have h : scanL.tail = (List.range 63).map fun i => scanL.getD (1 + i) 0 := by decide +kernel
  rw [h, List.map_map]
  rfl
theorem runsL_goR (b : List Int) : runsL b = goR 0 (fromK b 1) := by
  unfold runsL runsTo
  rw [runsFold_goR, scanTail_map]; rfl

/-- The specification's way through the runs: how far it is, and the block so far. -/
def boGo (k : Nat) (out : List Int) : List (Int × Int) → Option (Nat × List Int)
  | [] => some (k, out)
  | (z, v) :: rest =>
    if z < 0 ∨ 63 < z ∨ v < -32768 ∨ 32767 < v then none
    else if v = 0 then (if z = 0 ∨ rest ≠ [] then none else some (k + z.toNat, out))
    else if 63 < k + z.toNat then none
    else boGo (k + z.toNat + 1) (out.set (scP (k + z.toNat)) v) rest
def zero64 : List Int := List.replicate 64 0
def blockOfF (rs : List (Int × Int)) : List Int := match boGo 1 zero64 rs with
  | none => []
  | some (k, out) => if k = 64 then out else []
/-- The program's way. -/
def biGo (at0 : Nat) (out : List Int) : List (Int × Int) → Option (List Int)
  | [] => some out
  | (z, v) :: rest =>
    if z < 0 ∨ 64 ≤ z then none
    else biGo (at0 + z.toNat + 1) (if at0 + z.toNat + 1 < 64 then out.set (scP (at0 + z.toNat + 1)) v else out) rest

theorem set_getD (out : List Int) (p q : Nat) (v : Int) (hp : p < out.length) : (out.set p v).getD q 0 = if p = q then v else out.getD q 0 := by
  rw [List.getD_eq_getElem?_getD, List.getD_eq_getElem?_getD, List.getElem?_set]
  split
  · rfl
  · rfl
theorem fromK_set (out : List Int) (hl : out.length = 64) (k i : Nat) (v : Int) (hi : i < k) (hk : i < 64) : fromK (out.set (scP i) v) k = fromK out k := by
  unfold fromK
  apply List.map_congr_left
  intro j hj
  rw [List.mem_range] at hj
  rw [set_getD _ _ _ _ (by rw [hl]; exact scP_lt i hk), if_neg]
  intro h
  have := scP_inj i hk (k + j) (by omega) h
  omega

/-- A block from which the runs come is told by them. -/
theorem boGo_goR : ∀ (S : List Int) (k m : Nat) (out : List Int), 0 < k → S.length + k + m = 64 → out.length = 64 → (∀ y ∈ S, -32768 ≤ y ∧ y ≤ 32767) → (∀ j, k ≤ j → j < 64 → out.getD (scP j) 0 = 0) →
    ∃ out', boGo k out (goR m S) = some (64, out') ∧ out'.length = 64 ∧ (∀ j, j < 64 → out'.getD (scP j) 0 = if j < k + m then out.getD (scP j) 0 else S.getD (j - (k + m)) 0)
  | [], k, m, out, h0, hl, ho, hb, hz => by
    simp only [List.length_nil, Nat.zero_add] at hl
    refine ⟨out, ?_, ho, fun j hj => by rw [if_pos (by omega)]⟩
    unfold goR
    split
    · rename_i hm
      have hkm : k + m = 64 := by omega
      rw [boGo, if_neg (by omega), if_pos rfl, if_neg (by rintro (h | h); exact absurd h (by omega); exact h rfl), Int.toNat_natCast, hkm]
    · rename_i hm
      have hk : k = 64 := by omega
      rw [boGo, hk]
  | y :: S, k, m, out, h0, hl, ho, hb, hz => by
    simp only [List.length_cons] at hl
    have hby := hb y (List.mem_cons_self ..)
    have hbS : ∀ x ∈ S, -32768 ≤ x ∧ x ≤ 32767 := fun x hx => hb x (List.mem_cons_of_mem _ hx)
    unfold goR
    split
    · rename_i hy
      obtain ⟨out', h1, h2, h3⟩ := boGo_goR S k (m + 1) out h0 (by omega) ho hbS hz
      refine ⟨out', h1, h2, fun j hj => ?_⟩
      rw [h3 j hj]
      by_cases h4 : j < k + m
      · rw [if_pos h4, if_pos (by omega)]
      · rw [if_neg h4]
        by_cases h5 : j = k + m
        · subst h5
          rw [if_pos (by omega), Nat.sub_self, hz _ (by omega) hj, List.getD_cons_zero, hy]
        · rw [if_neg (by omega), show j - (k + m) = (j - (k + (m + 1))) + 1 by omega, List.getD_cons_succ]
    · rename_i hy
      have hk : k + m < 64 := by omega
      obtain ⟨out', h1, h2, h3⟩ := boGo_goR S (k + m + 1) 0 (out.set (scP (k + m)) y) (by omega) (by omega) (by simpa using ho) hbS (fun j hj hj64 => by
        rw [set_getD _ _ _ _ (by rw [ho]; exact scP_lt _ hk), if_neg (fun h => by have := scP_inj _ hk j hj64 h; omega)]
        exact hz j (by omega) hj64)
      refine ⟨out', ?_, h2, fun j hj => ?_⟩
      · rw [boGo, if_neg (by omega), if_neg hy, Int.toNat_natCast, if_neg (by omega)]
        exact h1
      · rw [h3 j hj, set_getD _ _ _ _ (by rw [ho]; exact scP_lt _ hk)]
        by_cases h4 : j < k + m
        · rw [if_pos h4, if_pos (by omega), if_neg (fun h => by have := scP_inj _ hk j hj h; omega)]
        · rw [if_neg h4]
          by_cases h5 : j = k + m
          · subst h5
            rw [if_pos (by omega), if_pos rfl, Nat.sub_self, List.getD_cons_zero]
          · rw [if_neg (by omega), show j - (k + m) = (j - (k + m + 1 + 0)) + 1 by omega, List.getD_cons_succ]

theorem boGo_len : ∀ (rs : List (Int × Int)) (k : Nat) (out : List Int) (r : Nat × List Int), boGo k out rs = some r → r.2.length = out.length
  | [], k, out, r, h => by rw [boGo] at h; cases h; rfl
  | (z, v) :: rest, k, out, r, h => by
    unfold boGo at h
    split at h
    · cases h
    split at h
    · split at h
      · cases h
      · cases h; rfl
    split at h
    · cases h
    have := boGo_len rest _ _ r h
    simpa using this

theorem goR_zeros : ∀ (z m : Nat) (S : List Int), goR m (List.replicate z 0 ++ S) = goR (m + z) S
  | 0, m, S => by simp
  | z + 1, m, S => by
    rw [List.replicate_succ, List.cons_append, goR, if_pos rfl, goR_zeros z (m + 1) S]
    congr 1; omega
theorem fromK_zeros (b : List Int) (z : Nat) : ∀ k, k + z ≤ 64 → (∀ j, k ≤ j → j < k + z → b.getD (scP j) 0 = 0) → fromK b k = List.replicate z 0 ++ fromK b (k + z) := by
  induction z with
  | zero => intro k _ _; simp
  | succ z ih =>
    intro k hk h
    rw [fromK_step b k (by omega), h k (Nat.le_refl _) (by omega), ih (k + 1) (by omega) (fun j hj hj2 => h j (by omega) (by omega)), List.replicate_succ, List.cons_append]
    congr 3; omega

/-- What runs tell has these runs. -/
theorem boGo_back : ∀ (rs : List (Int × Int)) (k : Nat) (out out' : List Int), k ≤ 64 → out.length = 64 → boGo k out rs = some (64, out') → (∀ j, k ≤ j → j < 64 → out.getD (scP j) 0 = 0) → InR (-32768) 32767 out →
    goR 0 (fromK out' k) = rs ∧ (∀ j, j < k → j < 64 → out'.getD (scP j) 0 = out.getD (scP j) 0) ∧ InR (-32768) 32767 out'
  | [], k, out, out', hk, hl, h, hz, hr => by
    rw [boGo] at h
    cases h
    exact ⟨by rw [fromK_end _ _ (Nat.le_refl _)]; rfl, fun _ _ _ => rfl, hr⟩
  | (z, v) :: rest, k, out, out', hk, hl, h, hz, hr => by
    unfold boGo at h
    split at h
    · cases h
    rename_i hb
    obtain ⟨n, rfl⟩ : ∃ n : Nat, z = (n : Int) := ⟨z.toNat, by omega⟩
    rw [Int.toNat_natCast] at h
    split at h
    · rename_i hv
      split at h
      · cases h
      rename_i hrest
      simp only [not_or, ne_eq, Decidable.not_not] at hrest
      obtain ⟨h0, rfl⟩ := hrest
      have hkn : k + n = 64 := by injection h with h; exact congrArg Prod.fst h
      have ho : out = out' := by injection h with h; exact congrArg Prod.snd h
      subst ho
      refine ⟨?_, fun _ _ _ => rfl, hr⟩
      rw [fromK_zeros out n k (by omega) (fun j h1 h2 => hz j h1 (by omega)), goR_zeros, hkn, fromK_end _ _ (Nat.le_refl _), goR, if_pos (by omega), hv, Nat.zero_add]
    rename_i hv
    split at h
    · cases h
    rename_i hk63
    have hkl : k + n < 64 := by omega
    have hget : ∀ q, (out.set (scP (k + n)) v).getD q 0 = if scP (k + n) = q then v else out.getD q 0 := fun q => set_getD _ _ _ _ (by rw [hl]; exact scP_lt _ hkl)
    obtain ⟨i1, i2, i3⟩ := boGo_back rest (k + n + 1) (out.set (scP (k + n)) v) out' (by omega) (by simpa using hl) h (fun j h1 h2 => by
      rw [hget, if_neg (fun h => by have := scP_inj _ hkl j h2 h; omega)]
      exact hz j (by omega) h2) (fun j hj => by
        rw [List.length_set] at hj
        rw [hget]
        split
        · omega
        · exact hr j hj)
    have old : ∀ j, j < 64 → j < k + n → out'.getD (scP j) 0 = out.getD (scP j) 0 := fun j h1 h2 => by
      rw [i2 j (by omega) h1, hget, if_neg (fun h => by have := scP_inj _ hkl j h1 h; omega)]
    refine ⟨?_, fun j h1 h2 => old j h2 (by omega), i3⟩
    rw [fromK_zeros out' n k (by omega) (fun j h1 h2 => by rw [old j (by omega) h2]; exact hz j h1 (by omega)), goR_zeros, fromK_step _ _ hkl, i2 _ (by omega) hkl, hget, if_pos rfl, goR, if_neg hv, i1, Nat.zero_add]

theorem biGo_of_boGo : ∀ (rs : List (Int × Int)) (k : Nat) (out out' : List Int), 0 < k → boGo k out rs = some (64, out') → biGo (k - 1) out rs = some out'
  | [], k, out, out', h0, h => by rw [boGo] at h; cases h; rfl
  | (z, v) :: rest, k, out, out', h0, h => by
    unfold boGo at h
    split at h
    · cases h
    rename_i hb
    obtain ⟨n, rfl⟩ : ∃ n : Nat, z = (n : Int) := ⟨z.toNat, by omega⟩
    rw [Int.toNat_natCast] at h
    unfold biGo
    rw [if_neg (by omega), Int.toNat_natCast, show k - 1 + n + 1 = k + n by omega]
    split at h
    · split at h
      · cases h
      rename_i hrest
      simp only [not_or, ne_eq, Decidable.not_not] at hrest
      obtain ⟨_, rfl⟩ := hrest
      have hkn : k + n = 64 := by injection h with h; exact congrArg Prod.fst h
      have ho : out = out' := by injection h with h; exact congrArg Prod.snd h
      rw [if_neg (by omega), ho]; rfl
    split at h
    · cases h
    rw [if_pos (by omega)]
    have := biGo_of_boGo rest (k + n + 1) _ out' (by omega) h
    rwa [show k + n + 1 - 1 = k + n by omega] at this

theorem zero64_getD (p : Nat) : zero64.getD p 0 = 0 := by
  unfold zero64
  rw [List.getD_eq_getElem?_getD, List.getElem?_replicate]
  split <;> rfl
theorem zero64_inR : InR (-32768) 32767 zero64 := fun j _ => by rw [zero64_getD]; decide

/-- The program's answer: if the block that it laid has just these runs. -/
theorem blockOf_yes {rs : List (Int × Int)} {out : List Int} (h : boGo 1 zero64 rs = some (64, out)) : biGo 0 zero64 rs = some out ∧ BlOk out ∧ runsL out = rs ∧ blockOfF rs = out := by
  obtain ⟨h1, _, h3⟩ := boGo_back rs 1 zero64 out (by omega) rfl h (fun j _ _ => zero64_getD _) zero64_inR
  exact ⟨biGo_of_boGo rs 1 zero64 out (by omega) h, ⟨boGo_len rs 1 zero64 _ h, h3⟩, by rw [runsL_goR]; exact h1, by unfold blockOfF; rw [h]; rfl⟩
theorem fromK_range (b : List Int) (hb : InR (-32768) 32767 b) (hl : b.length = 64) (k : Nat) : ∀ y ∈ fromK b k, -32768 ≤ y ∧ y ≤ 32767 := by
  intro y hy
  unfold fromK at hy
  obtain ⟨i, hi, rfl⟩ := List.mem_map.1 hy
  rw [List.mem_range] at hi
  exact hb _ (by rw [hl]; exact scP_lt _ (by omega))
theorem fromK_length (b : List Int) (k : Nat) : (fromK b k).length = 64 - k := by simp [fromK]
/-- Runs of a block tell it, but for its first number. -/
theorem blockOf_runs (b : List Int) (hb : BlOk b) : ∃ out, boGo 1 zero64 (runsL b) = some (64, out) ∧ out.length = 64 ∧ out.getD 0 0 = 0 ∧ ∀ p, 0 < p → p < 64 → out.getD p 0 = b.getD p 0 := by
  rw [runsL_goR]
  obtain ⟨out, h1, h2, h3⟩ := boGo_goR (fromK b 1) 1 0 zero64 (by omega) (by rw [fromK_length]) rfl (fromK_range b hb.2 hb.1 1) (fun j _ _ => zero64_getD _)
  have hfk : ∀ i, i < 63 → (fromK b 1).getD i 0 = b.getD (scP (1 + i)) 0 := fun i hi => by
    unfold fromK
    rw [List.getD_eq_getElem?_getD, List.getElem?_map, List.getElem?_range hi]; rfl
  refine ⟨out, h1, h2, ?_, fun p hp hp64 => ?_⟩
  · have := h3 0 (by omega)
    rwa [scP_zero, if_pos (by omega), zero64_getD] at this
  · obtain ⟨j, hj, rfl⟩ := scP_onto p hp64
    have hj0 : j ≠ 0 := fun h => by rw [h, scP_zero] at hp; omega
    rw [h3 j hj, if_neg (by omega), hfk _ (by omega)]
    congr 2; omega
theorem blockOf_no {rs : List (Int × Int)} {out : List Int} (hb : biGo 0 zero64 rs = some out) (hok : BlOk out) (h : runsL out = rs) : blockOfF rs = out := by
  obtain ⟨out', h1, _⟩ := blockOf_runs out hok
  rw [h] at h1
  obtain ⟨h2, _, _, h4⟩ := blockOf_yes h1
  rw [h2] at hb
  cases hb
  exact h4
theorem blockOfF_cases (rs : List (Int × Int)) : (∃ out, boGo 1 zero64 rs = some (64, out) ∧ blockOfF rs = out) ∨ (blockOfF rs = [] ∧ ∀ out, biGo 0 zero64 rs = some out → ¬ (BlOk out ∧ runsL out = rs)) := by
  by_cases h : ∃ out, boGo 1 zero64 rs = some (64, out)
  · obtain ⟨out, h⟩ := h
    exact .inl ⟨out, h, (blockOf_yes h).2.2.2⟩
  · refine .inr ⟨?_, fun out hb hc => ?_⟩
    · unfold blockOfF
      split
      · rfl
      · rename_i k out he
        split
        · rename_i hk; subst hk; exact absurd ⟨out, he⟩ h
        · rfl
    · obtain ⟨out', h1, _⟩ := blockOf_runs out hc.1
      rw [hc.2] at h1
      exact h ⟨out', h1⟩
theorem blockOfF_length (rs : List (Int × Int)) : (blockOfF rs).length ≤ 64 := by
  rcases blockOfF_cases rs with ⟨out, h, he⟩ | ⟨he, _⟩
  · rw [he, (blockOf_yes h).2.1.1]; exact Nat.le_refl _
  · rw [he]; exact Nat.zero_le _
theorem blockOfF_len (rs : List (Int × Int)) : (blockOfF rs).length ≤ 1048576 := Nat.le_trans (blockOfF_length rs) (by omega)
end Go.Proofs.Ytilmdbdgohfpcaa
