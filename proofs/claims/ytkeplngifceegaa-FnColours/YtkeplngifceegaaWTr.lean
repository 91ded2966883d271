/- Triples as arguments and answers; the walks of the laws' own helpers on them. -/
import Derived.Test.YtkeplngifceegaaWHeld
import Derived.Deep.RegionHeld3
namespace Go.Proofs.Ytkeplngifceegaa
open Go.RowKit

abbrev Tr := Int × Int × Int
abbrev Trv (d : Tr) : Value := .agg #[.int .i64 d.1, .int .i64 d.2.1, .int .i64 d.2.2]
def RdTr (_w : World) (v : Value) (d : Tr) : Prop := v = Trv d 
def OwnTr (_w : World) (_a _b : Nat) (v : Value) (d : Tr) : Prop := v = Trv d
theorem OwnTr.rd {w : World} {a b : Nat} {v : Value} {d : Tr} (h : OwnTr w a b v d) : RdTr w v d := by
  exact h
theorem RdTr.below {w w' : World} {v : Value} {d : Tr} (h : RdTr w v d) (_hb : Below w.heap.size w w') : RdTr w' v d := by
  exact h
theorem OwnTr.upd {w w' : World} {a b c e : Nat} {v : Value} {d : Tr} (h : OwnTr w a b v d) (_u : Upd c e w w') (_hd : b ≤ c ∨ e ≤ a) : OwnTr w' a b v d := by
  exact h
theorem OwnTr.keep {w w' : World} {a b : Nat} {v : Value} {d : Tr} (h : OwnTr w a b v d) (u : Upd 0 0 w w') : OwnTr w' a b v d := h.upd u (.inr (Nat.zero_le _))
theorem OwnTr.form {w : World} {a b : Nat} {v : Value} {d : Tr} (h : OwnTr w a b v d) : v = Trv d := h
/-- All numbers fit. -/
def InTr (d : Tr) : Prop := (-9223372036854775808 ≤ d.1 ∧ d.1 ≤ 9223372036854775807) ∧ (-9223372036854775808 ≤ d.2.1 ∧ d.2.1 ≤ 9223372036854775807) ∧ (-9223372036854775808 ≤ d.2.2 ∧ d.2.2 ≤ 9223372036854775807)
def TrSize (_d : Tr) : Nat := 0
def TrCount (_d : Tr) : Nat := 0
def TrMarked (_k : Nat) (d : Tr) : Tr := d

set_option maxHeartbeats 8000000 in
set_option maxRecDepth 100000 in
theorem toTriple_own (v : Value) (d : Tr) (w : World) (_hn : TrSize d ≤ 1048576) (hv : RdTr w v d) :
    Calls Try.prog 32 #[v] w fun e w' => ∃ u, e = .returned u ∧ OwnTr w' w.heap.size w'.heap.size u d ∧ Upd 0 0 w w' := by
  subst hv
  obtain ⟨x0, x1, x2⟩ := d
  simp only [Trv]
  go_enter Try.func32, Try.ntmps32
  go_wp2
  refine bodyPost_ret (v := .agg #[.int .i64 x0, .int .i64 x1, .int .i64 x2]) (by simp [results, Try.results32, go_sem]) rfl ⟨_, rfl, rfl, Upd.of_below ?_ 0 0⟩
  repeat (first | exact Below.refl _ _ | refine Below.setCell ?_ (by simp) _ | refine Below.alloc ?_ (by first | exact Nat.le_refl _ | (simp; done) | (simp; omega)) _)

set_option maxHeartbeats 4000000 in
set_option maxRecDepth 100000 in
theorem eqTriple_rd (u v : Value) (d : Tr) (w : World) (_hn : TrSize d ≤ 1048576) (hu : RdTr w u d) (hv : RdTr w v d) :
    Calls Try.prog 33 #[u, v] w fun e w' => e = .returned (.bool true) ∧ Upd 0 0 w w' := by
  subst hu hv
  obtain ⟨x0, x1, x2⟩ := d
  simp only [Trv]
  go_enter Try.func33, Try.ntmps33
  go_wp2
  go_ret
  refine ⟨rfl, Upd.of_below ?_ 0 0⟩
  repeat (first | exact Below.refl _ _ | refine Below.alloc ?_ (by first | exact Nat.le_refl _ | (simp; done) | (simp; omega)) _)

end Go.Proofs.Ytkeplngifceegaa
