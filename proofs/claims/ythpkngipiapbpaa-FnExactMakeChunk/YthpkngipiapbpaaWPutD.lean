/- The walk of the writer of bits in high order: the program's. -/
import Derived.Test.YthpkngipiapbpaaWPutE
import Derived.Test.YthpkngipiapbpaaWTake4
import Derived.Deep.RegionWith
import Derived.Deep.LoopGhost
import Derived.Deep.DeepCutAuto
namespace Go.Proofs.Ythpkngipiapbpaa
open Go.RowKit


set_option maxHeartbeats 8000000 in
set_option maxRecDepth 100000 in
theorem implPutT (zs : List Nat) (L v n c : Nat) (w : World) (hi : Inv true zs L) (hv : v < 18446744073709551616) (hn : n ≤ 64) (hL : L + n ≤ 2097152) (hs : Sink w c (.int .i64 1) zs (roomI L)) :
    Calls Try.prog 30 #[.pointer (some ⟨c, 0, none⟩), .int .u64 v, .int .i64 n] w fun e w' => e = .returned (.tuple #[]) ∧ Sink w' c (.int .i64 1) (ft true v n zs L n) (roomI (L + n)) ∧ Below c w w' := by
  obtain ⟨i0, hi0, hz0, hz1, hz2⟩ := info_parts infoB
  replace hi := hide hi
  replace hs := hide hs
  go_enter Try.func30, Try.ntmps30
  go_wp2
  go_loopg [1, 2] n (fun e a bb wr => ∃ d : Nat, Hid (d + e = n) ∧ a = .int .u64 (v : Int) ∧ bb = .int .i64 e ∧ Sink wr c (.int .i64 1) (ft true v n zs L d) (roomI (L + d)) ∧ Below c w wr)
  case atStart => exact ⟨0, by show 0 + n = n; omega, by simp, rfl, unhide hs, Below.refl _ _⟩
  case round =>
    obtain ⟨d, hde, rfl, rfl, hS, hbel⟩ := hrel
    have heN : gk ≤ 64 := by have := unhide hde; omega
    by_cases hpos : 0 < gk
    · obtain ⟨r, hr'⟩ : ∃ r : Nat, (L + d) % 8 = r := ⟨_, rfl⟩
      obtain ⟨i, hii'⟩ : ∃ i : Nat, (L + d) / 8 = i := ⟨_, rfl⟩
      obtain ⟨R, hR⟩ : ∃ R : Nat, R = 8 - r := ⟨_, rfl⟩
      have hr8 : r < 8 := by omega
      have hR0 : 0 < R := by omega
      have hi_le : i ≤ 262144 := by have := unhide hde; omega
      have hinv := ft_inv (v := v) (n := n) (unhide hi) d
      have hol := hide (opn_len hinv)
      have hx := hide (opn_x hinv)
      have hlen0 := hide hinv.1
      replace hii' := hide hii'
      replace hr' := hide hr'
      replace hR := hide hR
      generalize hft : ft true v n zs L d = fz at hS hol hx hlen0 hinv
      replace hft := hide hft
      clear hinv
      have hposI : (0 : Int) < (gk : Int) := by omega
      obtain ⟨vv, hSS, hown⟩ := hS
      have hSh := hide hSS
      obtain ⟨s0, s1, s2, s3, s4, s5⟩ := hSS
      go_upto_if 14 with fail
      go_cut [] (fun wx => ∃ g cp, SinkAt wx c (.int .i64 1) (.slice (some ⟨g, 0, none⟩) (opn fz (L + d)).length cp) (R : Int) ∧ wx.ownsRow (c + 1) 5 1 (.slice (some ⟨g, 0, none⟩) (opn fz (L + d)).length cp) (opn fz (L + d)).length (vals (opn fz (L + d))) ∧ Below c w wx)
      case first =>
        by_cases h8 : r = 0
        · have hq : roomI (L + d) = 0 := by unfold roomI; rw [unhide hr', h8]; rfl
          rw [hq] at s3
          have hR8 := hide (show (R : Int) = 8 by have := unhide hR; omega)
          have hopn : opn fz (L + d) = fz ++ [0] := by unfold opn; rw [if_pos (by rw [unhide hr']; exact h8)]
          replace hopn := hide hopn
          have hlb := hide (show fz.length ≤ 262145 by have := unhide hlen0; have := unhide hii'; omega)
          replace h8 := hide h8
          go_wp2_with (at_builtin; refine wpList_append_own _ rfl (.tmp 19) (.tmp 20) 22 rfl (c + 1) 5 i0 (.int .u8 0) 1 1 Try.underlying22 hi0 hz0 hz1 hz2 rfl (by decide) _ _ _ rfl (hown.alloc _) ⟨wr.heap.size, 0, none⟩ 1 1 [.int .u8 0] rfl rfl (one_new wr _) one_one (by have := unhide hlb; unfold maxLen; omega) (by have := unhide hlb; omega) (by simp; omega) ?_)
          intro v' w1 hown' hgrow _
          have hal := (unhide hSh).grown (World.grownBy_alloc wr (.cells #[.int .u8 0] 5) none) (by simp)
          have hne : some c ≠ vv.ownBlock := fun e => by have := (hown.lt c e.symm).1; omega
          have hS1 := hal.grown hgrow hne
          have hbel1 := (hbel.alloc (by have := hbel.size; omega) (.cells #[.int .u8 0] 5)).grown hgrow (by simp; omega) (fun k hk => by have := (hown.lt k hk).1; omega)
          rw [vals_snoc, ← unhide hopn] at hown'
          have hlo : fz.length + 1 = (opn fz (L + d)).length := by rw [unhide hopn]; simp
          rw [hlo] at hown'
          have hsh : ∃ g cp, v' = .slice (some ⟨g, 0, none⟩) (opn fz (L + d)).length cp := by
            rcases hown'.2 with ⟨_, h0⟩ | ⟨g, cp, cur, e, _⟩
            · have := unhide hol; omega
            · exact ⟨g, cp, e⟩
          obtain ⟨g, cp, rfl⟩ := hsh
          have hO2 := hide (ownsRow_setCell_below (ownsRow_setCell_below hown' (a := ⟨c, 1, none⟩) (by simp) (.slice (some ⟨g, 0, none⟩) (opn fz (L + d)).length cp)) (a := ⟨c, 2, none⟩) (by simp) (.int .i64 8))
          have hS2 := hide ((hS1.data (.slice (some ⟨g, 0, none⟩) (opn fz (L + d)).length cp)).num 8)
          have hB2 := hide ((hbel1.setCell (p := ⟨c, 1, none⟩) (by simp) (.slice (some ⟨g, 0, none⟩) (opn fz (L + d)).length cp)).setCell (p := ⟨c, 2, none⟩) (by simp) (.int .i64 8))
          obtain ⟨t0, t1, t2, t3, t4, t5⟩ := hS1
          clear hown hown' hgrow hal hne hbel1 hlo hSh s0 s1 s2 s3 s4 s5 hi0 hz0 hz1 hz2 hopn
          go_wp2
          go_meet
          exact ⟨g, cp, by rw [unhide hR8]; exact unhide hS2, unhide hO2, unhide hB2⟩
        · have hq : roomI (L + d) = (R : Int) := by unfold roomI; rw [unhide hr']; have := unhide hR; omega
          rw [hq] at s3
          have q8 : ((R : Int) == 0) = false := beq_eq_false_iff_ne.2 (by omega)
          have hopn : opn fz (L + d) = fz := by unfold opn; rw [if_neg (by rw [unhide hr']; exact h8)]
          have hsh : ∃ g cp, vv = .slice (some ⟨g, 0, none⟩) (opn fz (L + d)).length cp := by
            rcases hown.2 with ⟨_, h0⟩ | ⟨g, cp, cur, e, _⟩
            · have := unhide hlen0; have := unhide hr'; omega
            · exact ⟨g, cp, by rw [hopn]; exact e⟩
          rw [← hopn] at hown
          obtain ⟨g, cp, rfl⟩ := hsh
          have hO2 := hide hown
          have hS2 := hide (hq ▸ unhide hSh)
          have hB2 := hide hbel
          clear hown hopn hSh hbel hi0 hz0 hz1 hz2
          replace h8 := hide h8
          go_wp2
          go_meet
          exact ⟨g, cp, unhide hS2, unhide hO2, unhide hB2⟩
      case rest =>
        obtain ⟨g, cp, hS2, hO2, hB2⟩ := hcut
        clear hbel hown hSh s0 s1 s2 s3 s4 s5 hi0 hz0 hz1 hz2
        have hgc := (hO2.lt g rfl).1
        replace hO2 := hide hO2
        replace hB2 := hide hB2
        have hSk := hide hS2
        obtain ⟨k0, k1, k2, k3, k4, k5⟩ := hS2
        have hlenB : ((opn fz (L + d)).length : Int) ≤ 262145 := by have := unhide hol; have := unhide hii'; omega
        have hlenP : (0 : Int) < ((opn fz (L + d)).length : Int) := by have := unhide hol; omega
        obtain ⟨m, hm⟩ : ∃ m : Nat, m = min R gk := ⟨_, rfl⟩
        have hmR : m ≤ R := by omega
        have hme : m ≤ gk := by omega
        have hm0 : 0 < m := by omega
        have hRN : R ≤ 8 := by have := unhide hR; omega
        have hmm : m = R ∨ (m = gk ∧ gk < R) := by omega
        replace hm := hide hm
        go_upto_region 4 with fail
        go_cut [6] (fun s6 wx => s6 = .int .i64 m ∧ wx = wc)
        case first =>
          rcases hmm with e | ⟨e, e2⟩
          · subst e
            go_wp2
            go_meet
            exact ⟨rfl, rfl⟩
          · subst e
            go_wp2
            go_meet
            exact ⟨rfl, rfl⟩
        case rest =>
          obtain ⟨rfl, rfl⟩ := hcut
          clear hmm
          have hil : (i : Int) < ((opn fz (L + d)).length : Int) := by have := unhide hol; have := unhide hii'; omega
          have hi0' : (0 : Int) ≤ (i : Int) := by omega
          have hlast : ((opn fz (L + d)).length : Int) - 1 = (i : Int) := by have := unhide hol; have := unhide hii'; omega
          go_upto_region 9 with fail
          have hck0 : wc.cell? ⟨g, i, none⟩ = some (.int .u8 ((opn fz (L + d)).getD ((L + d) / 8) 0 : Nat)) := by
            rw [(unhide hO2).cellAt i (by omega), ← unhide hii']; exact vals_at _ _ (by have := unhide hol; omega)
          have hfz := (unhide hO2).frozenAt i
          generalize hxe : (opn fz (L + d)).getD ((L + d) / 8) 0 = x at hck0 hx
          replace hxe := hide hxe
          obtain ⟨ch, hch⟩ : ∃ ch : Nat, ch = v / 2 ^ (n - d - m) % 2 ^ m := ⟨_, rfl⟩
          have hchl : ch < 2 ^ m := by rw [hch]; exact Nat.mod_lt _ (Nat.pow_pos (by omega))
          replace hch := hide hch
          replace hchl := hide hchl
          clear hlast
          have hrI : (r : Int) ≤ 7 := by omega
          have hrm : r + m ≤ 8 := by have := unhide hR; omega
          go_cut [] (fun wy => SinkAt wy c (.int .i64 1) (.slice (some ⟨g, 0, none⟩) (opn fz (L + d)).length cp) (R : Int) ∧ wy.ownsRow (c + 1) 5 1 (.slice (some ⟨g, 0, none⟩) (opn fz (L + d)).length cp) (opn fz (L + d)).length (vals ((opn fz (L + d)).set i (x + ch * 2 ^ (8 - r - m)))) ∧ Below c w wy)
          case first =>
            obtain ⟨s, hsI, hsN⟩ : ∃ s : Nat, (gk : Int) - (m : Int) = (s : Int) ∧ s = n - d - m := ⟨n - d - m, by have := unhide hde; omega, rfl⟩
            obtain ⟨t, htI, htN⟩ : ∃ t : Nat, (R : Int) - (m : Int) = (t : Int) ∧ t = 8 - r - m := ⟨8 - r - m, by have := unhide hR; omega, rfl⟩
            have hcon : ∀ W : World, Calls Try.prog 31 #[.int .u64 ((v : Int) / 2 ^ s), .int .i64 m] W fun e w' => e = .returned (.int .u64 (ch : Int)) ∧ w' = W := fun W => by
              have h1 := implLowBitsI ((v : Int) / 2 ^ s) m W (div_bdv v hv s).1 (div_bdv v hv s).2 (by omega)
              have h2 : (v : Int) / 2 ^ s % 2 ^ m = (ch : Int) := by rw [unhide hch, ← hsN]; simp
              rw [h2] at h1; exact h1
            replace hcon := hide hcon
            have hw1 : IntKind.i64.wrap (s : Int) = (s : Int) := wrap_i64_in _ (by omega)
            have hw2 : IntKind.i64.wrap (t : Int) = (t : Int) := wrap_i64_in _ (by omega)
            have hs64 : (s : Int) ≤ 64 := by omega
            have ht8 : (t : Int) ≤ 8 := by omega
            have h8v := hide (or8 true x r m ch (unhide hx).1 hrm (by have := (unhide hx).2; rw [unhide hr'] at this; exact this) (unhide hchl))
            have hcx : cex true r m = 8 - r - m := by unfold cex; simp
            have h8u := unhide h8v
            rw [hcx, ← htN] at h8u
            replace h8u := hide h8u
            clear h8v
            have h8v := h8u
            replace hsN := hide hsN
            replace htN := hide htN
            clear hposI hmR hme hm0 hcx h8u
            go_region_with (go_at_call 31; refine (unhide hcon _).mono ?_; rintro ee w' ⟨rfl, rfl⟩)
            all_goals
              go_wp2_with fail
              rw [unhide h8v]
              have hst := ((unhide hO2).stored i (.int .u8 ((x + ch * 2 ^ t : Nat) : Int))).1
              rw [unhide htN] at hst ⊢
              rw [vals_set] at hst
              go_meet
              exact ⟨((unhide hSk).far (by omega)).drew, hst.drew, ((unhide hB2).setCell (p := ⟨g, i, none⟩) (by simp; omega) _).drew⟩
          case rest =>
            obtain ⟨hS3, hO3, hB3⟩ := hcut
            clear hSk hO2 hB2 k0 k1 k2 k3 k4 k5 hck0 hfz
            have hS4 := hide hS3
            replace hO3 := hide hO3
            replace hB3 := hide hB3
            obtain ⟨k0, k1, k2, k3, k4, k5⟩ := hS3
            obtain ⟨t, htI, htN⟩ : ∃ t : Nat, (R : Int) - (m : Int) = (t : Int) ∧ t = R - m := ⟨R - m, by omega, rfl⟩
            obtain ⟨f, hfI, hfN⟩ : ∃ f : Nat, (gk : Int) - (m : Int) = (f : Int) ∧ f = gk - m := ⟨gk - m, by omega, rfl⟩
            replace htN := hide htN
            replace hfN := hide hfN
            have hroom := hide (show (t : Int) = roomI (L + (d + m)) by
              unfold roomI; have h1 := unhide htN; have h2 := unhide hR; have h3 := unhide hr'; omega)
            have hchunk := hide (show ft true v n zs L (d + m) = (opn fz (L + d)).set i (x + ch * 2 ^ (8 - r - m)) by
              have hde' := unhide hde
              obtain ⟨m', rfl⟩ : ∃ m', m = m' + 1 := ⟨m - 1, by omega⟩
              have := ft_chunk (v := v) (n := n) (unhide hi) d m' (by rw [unhide hr']; exact hrm) (by omega)
              rw [this, unhide hft, unhide hii', unhide hr', unhide hch]
              have hx2 := unhide hxe
              rw [unhide hii'] at hx2
              rw [hx2]; rfl)
            have hval := hide (show (v : Int) / 2 ^ d / 2 ^ m = ((v / 2 ^ (d + m) : Nat) : Int) by rw [Nat.pow_add, ← Nat.div_div_eq_div_mul]; simp)
            go_wp2
            go_roundg (gk - m)
            case measure => omega
            case rel =>
              refine ⟨d + m, (show d + m + (gk - m) = n by have := unhide hde; omega), ?_, by rw [unhide hfN], ⟨_, (by rw [← unhide hroom]; exact (unhide hS4).num _), ?_⟩, (unhide hB3).setCell (by simp) _⟩
              · rfl
              · rw [unhide hchunk, List.length_set]; exact ownsRow_setCell_below (unhide hO3) (by simp) _
    · have hg0 : gk = 0 := by omega
      subst hg0
      have hdn : d = n := by have := unhide hde; omega
      subst hdn
      replace hS := hide hS
      go_wp2
      go_end0
      exact ⟨rfl, unhide hS, hbel⟩
end Go.Proofs.Ythpkngipiapbpaa
