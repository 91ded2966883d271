/-
  NARROWER THAN 'FOR EVERY INPUT', by the rows' own cells (each row's printed sentence says how): FnTurned: laid · FnExactForward: laid · FnExactInverse: laid.
  DERIVED. THE GIVEN ROWS OF THIS SEAT. 3 by the template 'for every input the law returns true; each argument reads behind the call as it read before'; 0 by the template 'total and deterministic' (their statements: YtnalmingbglgfaaDoorTotals.lean).
  GIVEN WITH THE SEED: the statements are not yours to turn. If you find one false, say at which input.
  Laid BY PROGRAM, IN A SANDBOX (cutbox-rows.mjs): the forced cells as the released guide's own fill.sh prints them over the translation 0d242fb1221cae97… (all of the seat's roots in one cut). By AI agents, Wed Nov 11 2026. No macro, syntax, notation, axiom, sorry.
-/
import Derived.Test.YtnalmingbglgfaaDoorChecked
import GoSem.Claim
import GoSem.ClaimJoined
import GoSem.ClaimMapViews
import Derived.JoinedTies
import Derived.KernelRfl
namespace Go.Proofs.YtnalmingbglgfaaDoor
/- THE CELL 'sum', in the pinned program and in every row, IS THE sha256 OF THE DUMP (.gsa) THAT YtnalmingbglgfaaDoorProg.lean LOADS. Nothing in Lean hashes anything: it is a label: what it is worth is what the hold of that sum in a sandbox is worth. -/
noncomputable def Tryd.pinned : Pinned := { name := "ytnalmingbglgfaadoor", sum := "0d242fb1221cae97bee9826113d1c3ff2d7d49ea78c4c48841d086126ed0f8c6", checked := Tryd.checked }
namespace Rows
def none {H : Type} : Left H := { results := [], args := [] }

/- WHAT THE LISTED PACKAGE-LEVEL VARIABLES READ AS WHEN THE CALL BEGINS. Each datum BY PROGRAM (the guide's laid-datum.mjs) off the statement by which the dump's own 'gosem.cut.vars' lays the variable. In a bare row this is a premise. The card (YtnalmingbglgfaaDoorCards.lean) ties it to the program's text. -/
def laid_loop_example_g00016_impl_waveHeights {H : Type} : DataW H := .agg [.lit (.int .i64 2896), .lit (.int .i64 4017), .lit (.int .i64 3784), .lit (.int .i64 3406), .lit (.int .i64 2896), .lit (.int .i64 2276), .lit (.int .i64 1567), .lit (.int .i64 799)]

/-- 'laws.FnTurned': WHATEVER THE INPUT: true; the input reads as it did. -/
def fnTurnedSpec : ChangeSpec := { name := "fnTurned", vars := ["loop.example/g00016/impl.waveHeights"], fn := fun _ => fun
  | [d, g1] => { results := [.lit (.bool true)], args := [d], vars := [g1] }
  | _ => none }
def fnTurnedRow : OpenClaim := { program := "ytnalmingbglgfaadoor", sum := "0d242fb1221cae97bee9826113d1c3ff2d7d49ea78c4c48841d086126ed0f8c6", func := "loop.example/g00016/laws.FnTurned", spec := "fnTurned", named := ["loop.example/g00016/impl.waveHeights"], apart := false, laid := [("loop.example/g00016/impl.waveHeights", laid_loop_example_g00016_impl_waveHeights)] }
def FnTurnedSaid : Prop := fnTurnedRow.holds Tryd.pinned (OpenSpec.ofChange fnTurnedSpec)

/-- ITS FALSE NEIGHBOUR: 'it returns false'. Refute it at one input. -/
def fnTurnedWrong : ChangeSpec := { name := "fnTurned", vars := ["loop.example/g00016/impl.waveHeights"], fn := fun _ => fun
  | [d, g1] => { results := [.lit (.bool false)], args := [d], vars := [g1] }
  | _ => none }
def FnTurnedWrongFalsely : Prop := fnTurnedRow.holds Tryd.pinned (OpenSpec.ofChange fnTurnedWrong)

/-- 'laws.FnExactForward': WHATEVER THE INPUT: true; the input reads as it did. -/
def fnExactForwardSpec : ChangeSpec := { name := "fnExactForward", vars := ["loop.example/g00016/impl.waveHeights"], fn := fun _ => fun
  | [d, g1] => { results := [.lit (.bool true)], args := [d], vars := [g1] }
  | _ => none }
def fnExactForwardRow : OpenClaim := { program := "ytnalmingbglgfaadoor", sum := "0d242fb1221cae97bee9826113d1c3ff2d7d49ea78c4c48841d086126ed0f8c6", func := "loop.example/g00016/laws.FnExactForward", spec := "fnExactForward", named := ["loop.example/g00016/impl.waveHeights"], apart := false, laid := [("loop.example/g00016/impl.waveHeights", laid_loop_example_g00016_impl_waveHeights)] }
def FnExactForwardSaid : Prop := fnExactForwardRow.holds Tryd.pinned (OpenSpec.ofChange fnExactForwardSpec)

/-- ITS FALSE NEIGHBOUR: 'it returns false'. Refute it at one input. -/
def fnExactForwardWrong : ChangeSpec := { name := "fnExactForward", vars := ["loop.example/g00016/impl.waveHeights"], fn := fun _ => fun
  | [d, g1] => { results := [.lit (.bool false)], args := [d], vars := [g1] }
  | _ => none }
def FnExactForwardWrongFalsely : Prop := fnExactForwardRow.holds Tryd.pinned (OpenSpec.ofChange fnExactForwardWrong)

/-- 'laws.FnExactInverse': WHATEVER THE INPUT: true; the input reads as it did. -/
def fnExactInverseSpec : ChangeSpec := { name := "fnExactInverse", vars := ["loop.example/g00016/impl.waveHeights"], fn := fun _ => fun
  | [d, g1] => { results := [.lit (.bool true)], args := [d], vars := [g1] }
  | _ => none }
def fnExactInverseRow : OpenClaim := { program := "ytnalmingbglgfaadoor", sum := "0d242fb1221cae97bee9826113d1c3ff2d7d49ea78c4c48841d086126ed0f8c6", func := "loop.example/g00016/laws.FnExactInverse", spec := "fnExactInverse", named := ["loop.example/g00016/impl.waveHeights"], apart := false, laid := [("loop.example/g00016/impl.waveHeights", laid_loop_example_g00016_impl_waveHeights)] }
def FnExactInverseSaid : Prop := fnExactInverseRow.holds Tryd.pinned (OpenSpec.ofChange fnExactInverseSpec)

/-- ITS FALSE NEIGHBOUR: 'it returns false'. Refute it at one input. -/
def fnExactInverseWrong : ChangeSpec := { name := "fnExactInverse", vars := ["loop.example/g00016/impl.waveHeights"], fn := fun _ => fun
  | [d, g1] => { results := [.lit (.bool false)], args := [d], vars := [g1] }
  | _ => none }
def FnExactInverseWrongFalsely : Prop := fnExactInverseRow.holds Tryd.pinned (OpenSpec.ofChange fnExactInverseWrong)

/- THE SECOND FORM. 'bulk': how many values and letters a reading holds, each counted each time it is reached (what is shared counts as often as it is met; a slice's spare places count too). A statement '..UptoSaid' is the law's where the arguments, and the package variables that the reading takes, are together of bulk at most 1048576: NARROWER than '..Said'. Prove '..Said' where nothing that the law and all that it calls make is longer than what came in: it says more and counts as full. Else prove '..UptoSaid'. A law counts once. -/
mutual
def uptoBulk {H : Type} : DataW H → Nat
  | .lit (.string bytes) => bytes.length + 1
  | .lit _ => 1
  | .nil => 1
  | .ptr d => uptoBulk d + 1
  | .slice elems spare => uptoBulkAll elems + uptoBulkAll spare + 1
  | .agg parts => uptoBulkAll parts + 1
  | .iface _ d => uptoBulk d + 1
  | .map entries => uptoBulkEntries entries + 1
  | .held _ => 1
def uptoBulkAll {H : Type} : List (DataW H) → Nat
  | [] => 0
  | d :: r => uptoBulk d + uptoBulkAll r
def uptoBulkEntries {H : Type} : List (Lit × DataW H) → Nat
  | [] => 0
  | x :: r => uptoBulkEntry x + uptoBulkEntries r
def uptoBulkEntry {H : Type} : Lit × DataW H → Nat
  | (.string bytes, d) => bytes.length + uptoBulk d + 1
  | (_, d) => uptoBulk d + 1
 end
def uptoSmall : (H : Type) → List (DataW H) → Bool := fun _ ds => decide (uptoBulkAll ds ≤ 1048576)
def OpenSpec.upto (s : _root_.Go.ChangeSpec) : _root_.Go.OpenSpec := { _root_.Go.OpenSpec.ofChange s with cond := some uptoSmall }

/-- 'laws.FnTurned', WHERE WHAT IT READS IS OF BULK AT MOST 1048576: true; the input reads as it did. -/
def fnTurnedUptoRow : OpenClaim := { program := "ytnalmingbglgfaadoor", sum := "0d242fb1221cae97bee9826113d1c3ff2d7d49ea78c4c48841d086126ed0f8c6", func := "loop.example/g00016/laws.FnTurned", spec := "fnTurned", named := ["loop.example/g00016/impl.waveHeights"], apart := false, laid := [("loop.example/g00016/impl.waveHeights", laid_loop_example_g00016_impl_waveHeights)], narrowed := true }
def FnTurnedUptoSaid : Prop := fnTurnedUptoRow.holds Tryd.pinned (OpenSpec.upto fnTurnedSpec)

/-- 'laws.FnExactForward', WHERE WHAT IT READS IS OF BULK AT MOST 1048576: true; the input reads as it did. -/
def fnExactForwardUptoRow : OpenClaim := { program := "ytnalmingbglgfaadoor", sum := "0d242fb1221cae97bee9826113d1c3ff2d7d49ea78c4c48841d086126ed0f8c6", func := "loop.example/g00016/laws.FnExactForward", spec := "fnExactForward", named := ["loop.example/g00016/impl.waveHeights"], apart := false, laid := [("loop.example/g00016/impl.waveHeights", laid_loop_example_g00016_impl_waveHeights)], narrowed := true }
def FnExactForwardUptoSaid : Prop := fnExactForwardUptoRow.holds Tryd.pinned (OpenSpec.upto fnExactForwardSpec)

/-- 'laws.FnExactInverse', WHERE WHAT IT READS IS OF BULK AT MOST 1048576: true; the input reads as it did. -/
def fnExactInverseUptoRow : OpenClaim := { program := "ytnalmingbglgfaadoor", sum := "0d242fb1221cae97bee9826113d1c3ff2d7d49ea78c4c48841d086126ed0f8c6", func := "loop.example/g00016/laws.FnExactInverse", spec := "fnExactInverse", named := ["loop.example/g00016/impl.waveHeights"], apart := false, laid := [("loop.example/g00016/impl.waveHeights", laid_loop_example_g00016_impl_waveHeights)], narrowed := true }
def FnExactInverseUptoSaid : Prop := fnExactInverseUptoRow.holds Tryd.pinned (OpenSpec.upto fnExactInverseSpec)

end Rows
end Go.Proofs.YtnalmingbglgfaaDoor
