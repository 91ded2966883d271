/-
  NARROWER THAN 'FOR EVERY INPUT', by the rows' own cells (each row's printed sentence says how): FnLaps: laid · FnTones: laid · FnExactWindow: laid · FnExactLap: laid · FnExactUnlap: laid · FnExactTonesOf: laid · FnExactSoundOf: laid.
  DERIVED. THE GIVEN ROWS OF THIS SEAT. 7 by the template 'for every input the law returns true; each argument reads behind the call as it read before'; 0 by the template 'total and deterministic' (their statements: YtnoojbppfbmbgaaDoorTotals.lean).
  GIVEN WITH THE SEED: the statements are not yours to turn. If you find one false, say at which input.
  Laid BY PROGRAM, IN A SANDBOX (cutbox-rows.mjs): the forced cells as the released guide's own fill.sh prints them over the translation 82dfd5796d7df3cd… (all of the seat's roots in one cut). By AI agents, Wed Nov 11 2026. No macro, syntax, notation, axiom, sorry.
-/
import Derived.Test.YtnoojbppfbmbgaaDoorChecked
import GoSem.Claim
import GoSem.ClaimJoined
import GoSem.ClaimMapViews
import Derived.JoinedTies
import Derived.KernelRfl
namespace Go.Proofs.YtnoojbppfbmbgaaDoor
/- THE CELL 'sum', in the pinned program and in every row, IS THE sha256 OF THE DUMP (.gsa) THAT YtnoojbppfbmbgaaDoorProg.lean LOADS. Nothing in Lean hashes anything: it is a label: what it is worth is what the hold of that sum in a sandbox is worth. -/
noncomputable def Tryd.pinned : Pinned := { name := "ytnoojbppfbmbgaadoor", sum := "82dfd5796d7df3cdeb9ec17ee7b8bd6d9dd4d4ef605d8ba786fb2d031ca755da", checked := Tryd.checked }
namespace Rows
def none {H : Type} : Left H := { results := [], args := [] }

/- WHAT THE LISTED PACKAGE-LEVEL VARIABLES READ AS WHEN THE CALL BEGINS. Each datum BY PROGRAM (the guide's laid-datum.mjs) off the statement by which the dump's own 'gosem.cut.vars' lays the variable. In a bare row this is a premise. The card (YtnoojbppfbmbgaaDoorCards.lean) ties it to the program's text. -/
def laid_loop_example_g00016_impl_quarterCosines {H : Type} : DataW H := .agg [.lit (.int .i64 16384), .lit (.int .i64 16364), .lit (.int .i64 16305), .lit (.int .i64 16207), .lit (.int .i64 16069), .lit (.int .i64 15893), .lit (.int .i64 15679), .lit (.int .i64 15426), .lit (.int .i64 15137), .lit (.int .i64 14811), .lit (.int .i64 14449), .lit (.int .i64 14053), .lit (.int .i64 13623), .lit (.int .i64 13160), .lit (.int .i64 12665), .lit (.int .i64 12140), .lit (.int .i64 11585), .lit (.int .i64 11003), .lit (.int .i64 10394), .lit (.int .i64 9760), .lit (.int .i64 9102), .lit (.int .i64 8423), .lit (.int .i64 7723), .lit (.int .i64 7005), .lit (.int .i64 6270), .lit (.int .i64 5520), .lit (.int .i64 4756), .lit (.int .i64 3981), .lit (.int .i64 3196), .lit (.int .i64 2404), .lit (.int .i64 1606), .lit (.int .i64 804), .lit (.int .i64 0)]

/-- 'laws.FnLaps': WHATEVER THE INPUT: true; the input reads as it did. -/
def fnLapsSpec : ChangeSpec := { name := "fnLaps", vars := ["loop.example/g00016/impl.quarterCosines"], fn := fun _ => fun
  | [d1, d2, g1] => { results := [.lit (.bool true)], args := [d1, d2], vars := [g1] }
  | _ => none }
def fnLapsRow : OpenClaim := { program := "ytnoojbppfbmbgaadoor", sum := "82dfd5796d7df3cdeb9ec17ee7b8bd6d9dd4d4ef605d8ba786fb2d031ca755da", func := "loop.example/g00016/laws.FnLaps", spec := "fnLaps", named := ["loop.example/g00016/impl.quarterCosines"], apart := false, laid := [("loop.example/g00016/impl.quarterCosines", laid_loop_example_g00016_impl_quarterCosines)] }
def FnLapsSaid : Prop := fnLapsRow.holds Tryd.pinned (OpenSpec.ofChange fnLapsSpec)

/-- ITS FALSE NEIGHBOUR: 'it returns false'. Refute it at one input. -/
def fnLapsWrong : ChangeSpec := { name := "fnLaps", vars := ["loop.example/g00016/impl.quarterCosines"], fn := fun _ => fun
  | [d1, d2, g1] => { results := [.lit (.bool false)], args := [d1, d2], vars := [g1] }
  | _ => none }
def FnLapsWrongFalsely : Prop := fnLapsRow.holds Tryd.pinned (OpenSpec.ofChange fnLapsWrong)

/-- 'laws.FnTones': WHATEVER THE INPUT: true; the input reads as it did. -/
def fnTonesSpec : ChangeSpec := { name := "fnTones", vars := ["loop.example/g00016/impl.quarterCosines"], fn := fun _ => fun
  | [d, g1] => { results := [.lit (.bool true)], args := [d], vars := [g1] }
  | _ => none }
def fnTonesRow : OpenClaim := { program := "ytnoojbppfbmbgaadoor", sum := "82dfd5796d7df3cdeb9ec17ee7b8bd6d9dd4d4ef605d8ba786fb2d031ca755da", func := "loop.example/g00016/laws.FnTones", spec := "fnTones", unfollowed := true, recurses := true, named := ["loop.example/g00016/impl.quarterCosines"], apart := false, laid := [("loop.example/g00016/impl.quarterCosines", laid_loop_example_g00016_impl_quarterCosines)] }
def FnTonesSaid : Prop := fnTonesRow.holds Tryd.pinned (OpenSpec.ofChange fnTonesSpec)

/-- ITS FALSE NEIGHBOUR: 'it returns false'. Refute it at one input. -/
def fnTonesWrong : ChangeSpec := { name := "fnTones", vars := ["loop.example/g00016/impl.quarterCosines"], fn := fun _ => fun
  | [d, g1] => { results := [.lit (.bool false)], args := [d], vars := [g1] }
  | _ => none }
def FnTonesWrongFalsely : Prop := fnTonesRow.holds Tryd.pinned (OpenSpec.ofChange fnTonesWrong)

/-- 'laws.FnExactWindow': WHATEVER THE INPUT: true; the input reads as it did. -/
def fnExactWindowSpec : ChangeSpec := { name := "fnExactWindow", vars := ["loop.example/g00016/impl.quarterCosines"], fn := fun _ => fun
  | [g1] => { results := [.lit (.bool true)], args := [], vars := [g1] }
  | _ => none }
def fnExactWindowRow : OpenClaim := { program := "ytnoojbppfbmbgaadoor", sum := "82dfd5796d7df3cdeb9ec17ee7b8bd6d9dd4d4ef605d8ba786fb2d031ca755da", func := "loop.example/g00016/laws.FnExactWindow", spec := "fnExactWindow", named := ["loop.example/g00016/impl.quarterCosines"], apart := false, laid := [("loop.example/g00016/impl.quarterCosines", laid_loop_example_g00016_impl_quarterCosines)] }
def FnExactWindowSaid : Prop := fnExactWindowRow.holds Tryd.pinned (OpenSpec.ofChange fnExactWindowSpec)

/-- ITS FALSE NEIGHBOUR: 'it returns false'. Refute it at one input. -/
def fnExactWindowWrong : ChangeSpec := { name := "fnExactWindow", vars := ["loop.example/g00016/impl.quarterCosines"], fn := fun _ => fun
  | [g1] => { results := [.lit (.bool false)], args := [], vars := [g1] }
  | _ => none }
def FnExactWindowWrongFalsely : Prop := fnExactWindowRow.holds Tryd.pinned (OpenSpec.ofChange fnExactWindowWrong)

/-- 'laws.FnExactLap': WHATEVER THE INPUT: true; the input reads as it did. -/
def fnExactLapSpec : ChangeSpec := { name := "fnExactLap", vars := ["loop.example/g00016/impl.quarterCosines"], fn := fun _ => fun
  | [d1, d2, g1] => { results := [.lit (.bool true)], args := [d1, d2], vars := [g1] }
  | _ => none }
def fnExactLapRow : OpenClaim := { program := "ytnoojbppfbmbgaadoor", sum := "82dfd5796d7df3cdeb9ec17ee7b8bd6d9dd4d4ef605d8ba786fb2d031ca755da", func := "loop.example/g00016/laws.FnExactLap", spec := "fnExactLap", named := ["loop.example/g00016/impl.quarterCosines"], apart := false, laid := [("loop.example/g00016/impl.quarterCosines", laid_loop_example_g00016_impl_quarterCosines)] }
def FnExactLapSaid : Prop := fnExactLapRow.holds Tryd.pinned (OpenSpec.ofChange fnExactLapSpec)

/-- ITS FALSE NEIGHBOUR: 'it returns false'. Refute it at one input. -/
def fnExactLapWrong : ChangeSpec := { name := "fnExactLap", vars := ["loop.example/g00016/impl.quarterCosines"], fn := fun _ => fun
  | [d1, d2, g1] => { results := [.lit (.bool false)], args := [d1, d2], vars := [g1] }
  | _ => none }
def FnExactLapWrongFalsely : Prop := fnExactLapRow.holds Tryd.pinned (OpenSpec.ofChange fnExactLapWrong)

/-- 'laws.FnExactUnlap': WHATEVER THE INPUT: true; the input reads as it did. -/
def fnExactUnlapSpec : ChangeSpec := { name := "fnExactUnlap", vars := ["loop.example/g00016/impl.quarterCosines"], fn := fun _ => fun
  | [d, g1] => { results := [.lit (.bool true)], args := [d], vars := [g1] }
  | _ => none }
def fnExactUnlapRow : OpenClaim := { program := "ytnoojbppfbmbgaadoor", sum := "82dfd5796d7df3cdeb9ec17ee7b8bd6d9dd4d4ef605d8ba786fb2d031ca755da", func := "loop.example/g00016/laws.FnExactUnlap", spec := "fnExactUnlap", named := ["loop.example/g00016/impl.quarterCosines"], apart := false, laid := [("loop.example/g00016/impl.quarterCosines", laid_loop_example_g00016_impl_quarterCosines)] }
def FnExactUnlapSaid : Prop := fnExactUnlapRow.holds Tryd.pinned (OpenSpec.ofChange fnExactUnlapSpec)

/-- ITS FALSE NEIGHBOUR: 'it returns false'. Refute it at one input. -/
def fnExactUnlapWrong : ChangeSpec := { name := "fnExactUnlap", vars := ["loop.example/g00016/impl.quarterCosines"], fn := fun _ => fun
  | [d, g1] => { results := [.lit (.bool false)], args := [d], vars := [g1] }
  | _ => none }
def FnExactUnlapWrongFalsely : Prop := fnExactUnlapRow.holds Tryd.pinned (OpenSpec.ofChange fnExactUnlapWrong)

/-- 'laws.FnExactTonesOf': WHATEVER THE INPUT: true; the input reads as it did. -/
def fnExactTonesOfSpec : ChangeSpec := { name := "fnExactTonesOf", vars := ["loop.example/g00016/impl.quarterCosines"], fn := fun _ => fun
  | [d1, d2, d3, g1] => { results := [.lit (.bool true)], args := [d1, d2, d3], vars := [g1] }
  | _ => none }
def fnExactTonesOfRow : OpenClaim := { program := "ytnoojbppfbmbgaadoor", sum := "82dfd5796d7df3cdeb9ec17ee7b8bd6d9dd4d4ef605d8ba786fb2d031ca755da", func := "loop.example/g00016/laws.FnExactTonesOf", spec := "fnExactTonesOf", unfollowed := true, recurses := true, named := ["loop.example/g00016/impl.quarterCosines"], apart := false, laid := [("loop.example/g00016/impl.quarterCosines", laid_loop_example_g00016_impl_quarterCosines)] }
def FnExactTonesOfSaid : Prop := fnExactTonesOfRow.holds Tryd.pinned (OpenSpec.ofChange fnExactTonesOfSpec)

/-- ITS FALSE NEIGHBOUR: 'it returns false'. Refute it at one input. -/
def fnExactTonesOfWrong : ChangeSpec := { name := "fnExactTonesOf", vars := ["loop.example/g00016/impl.quarterCosines"], fn := fun _ => fun
  | [d1, d2, d3, g1] => { results := [.lit (.bool false)], args := [d1, d2, d3], vars := [g1] }
  | _ => none }
def FnExactTonesOfWrongFalsely : Prop := fnExactTonesOfRow.holds Tryd.pinned (OpenSpec.ofChange fnExactTonesOfWrong)

/-- 'laws.FnExactSoundOf': WHATEVER THE INPUT: true; the input reads as it did. -/
def fnExactSoundOfSpec : ChangeSpec := { name := "fnExactSoundOf", vars := ["loop.example/g00016/impl.quarterCosines"], fn := fun _ => fun
  | [d, g1] => { results := [.lit (.bool true)], args := [d], vars := [g1] }
  | _ => none }
def fnExactSoundOfRow : OpenClaim := { program := "ytnoojbppfbmbgaadoor", sum := "82dfd5796d7df3cdeb9ec17ee7b8bd6d9dd4d4ef605d8ba786fb2d031ca755da", func := "loop.example/g00016/laws.FnExactSoundOf", spec := "fnExactSoundOf", unfollowed := true, recurses := true, named := ["loop.example/g00016/impl.quarterCosines"], apart := false, laid := [("loop.example/g00016/impl.quarterCosines", laid_loop_example_g00016_impl_quarterCosines)] }
def FnExactSoundOfSaid : Prop := fnExactSoundOfRow.holds Tryd.pinned (OpenSpec.ofChange fnExactSoundOfSpec)

/-- ITS FALSE NEIGHBOUR: 'it returns false'. Refute it at one input. -/
def fnExactSoundOfWrong : ChangeSpec := { name := "fnExactSoundOf", vars := ["loop.example/g00016/impl.quarterCosines"], fn := fun _ => fun
  | [d, g1] => { results := [.lit (.bool false)], args := [d], vars := [g1] }
  | _ => none }
def FnExactSoundOfWrongFalsely : Prop := fnExactSoundOfRow.holds Tryd.pinned (OpenSpec.ofChange fnExactSoundOfWrong)

/- THE SECOND FORM. 'bulk': how many values and letters a reading holds, each counted each time it is reached (what is shared counts as often as it is met; a slice's spare places count too). A statement '..UptoSaid' is the law's where the arguments, and the package variables that the reading takes, are together of bulk at most 1048576: NARROWER than '..Said'. Prove '..Said' where nothing that the law and all that it calls make is longer than what came in: it says more and counts as full. Else prove '..UptoSaid'. A law counts once. -/
mutual
def uptoBulk {H : Type} : DataW H → Nat
  | .lit (.string bytes) => bytes.length + 1
  | .lit _ => 1
  | .nil => 1
  | .ptr d => uptoBulk d + 1
  | .slice elems spare => uptoBulkAll elems + uptoBulkAll spare + 1
  | .agg parts => uptoBulkAll parts + 1
  | .iface _ d => uptoBulk d + 1
  | .map entries => uptoBulkEntries entries + 1
  | .held _ => 1
def uptoBulkAll {H : Type} : List (DataW H) → Nat
  | [] => 0
  | d :: r => uptoBulk d + uptoBulkAll r
def uptoBulkEntries {H : Type} : List (Lit × DataW H) → Nat
  | [] => 0
  | x :: r => uptoBulkEntry x + uptoBulkEntries r
def uptoBulkEntry {H : Type} : Lit × DataW H → Nat
  | (.string bytes, d) => bytes.length + uptoBulk d + 1
  | (_, d) => uptoBulk d + 1
 end
def uptoSmall : (H : Type) → List (DataW H) → Bool := fun _ ds => decide (uptoBulkAll ds ≤ 1048576)
def OpenSpec.upto (s : _root_.Go.ChangeSpec) : _root_.Go.OpenSpec := { _root_.Go.OpenSpec.ofChange s with cond := some uptoSmall }

/-- 'laws.FnLaps', WHERE WHAT IT READS IS OF BULK AT MOST 1048576: true; the input reads as it did. -/
def fnLapsUptoRow : OpenClaim := { program := "ytnoojbppfbmbgaadoor", sum := "82dfd5796d7df3cdeb9ec17ee7b8bd6d9dd4d4ef605d8ba786fb2d031ca755da", func := "loop.example/g00016/laws.FnLaps", spec := "fnLaps", named := ["loop.example/g00016/impl.quarterCosines"], apart := false, laid := [("loop.example/g00016/impl.quarterCosines", laid_loop_example_g00016_impl_quarterCosines)], narrowed := true }
def FnLapsUptoSaid : Prop := fnLapsUptoRow.holds Tryd.pinned (OpenSpec.upto fnLapsSpec)

/-- 'laws.FnTones', WHERE WHAT IT READS IS OF BULK AT MOST 1048576: true; the input reads as it did. -/
def fnTonesUptoRow : OpenClaim := { program := "ytnoojbppfbmbgaadoor", sum := "82dfd5796d7df3cdeb9ec17ee7b8bd6d9dd4d4ef605d8ba786fb2d031ca755da", func := "loop.example/g00016/laws.FnTones", spec := "fnTones", unfollowed := true, recurses := true, named := ["loop.example/g00016/impl.quarterCosines"], apart := false, laid := [("loop.example/g00016/impl.quarterCosines", laid_loop_example_g00016_impl_quarterCosines)], narrowed := true }
def FnTonesUptoSaid : Prop := fnTonesUptoRow.holds Tryd.pinned (OpenSpec.upto fnTonesSpec)

/-- 'laws.FnExactWindow', WHERE WHAT IT READS IS OF BULK AT MOST 1048576: true; the input reads as it did. -/
def fnExactWindowUptoRow : OpenClaim := { program := "ytnoojbppfbmbgaadoor", sum := "82dfd5796d7df3cdeb9ec17ee7b8bd6d9dd4d4ef605d8ba786fb2d031ca755da", func := "loop.example/g00016/laws.FnExactWindow", spec := "fnExactWindow", named := ["loop.example/g00016/impl.quarterCosines"], apart := false, laid := [("loop.example/g00016/impl.quarterCosines", laid_loop_example_g00016_impl_quarterCosines)], narrowed := true }
def FnExactWindowUptoSaid : Prop := fnExactWindowUptoRow.holds Tryd.pinned (OpenSpec.upto fnExactWindowSpec)

/-- 'laws.FnExactLap', WHERE WHAT IT READS IS OF BULK AT MOST 1048576: true; the input reads as it did. -/
def fnExactLapUptoRow : OpenClaim := { program := "ytnoojbppfbmbgaadoor", sum := "82dfd5796d7df3cdeb9ec17ee7b8bd6d9dd4d4ef605d8ba786fb2d031ca755da", func := "loop.example/g00016/laws.FnExactLap", spec := "fnExactLap", named := ["loop.example/g00016/impl.quarterCosines"], apart := false, laid := [("loop.example/g00016/impl.quarterCosines", laid_loop_example_g00016_impl_quarterCosines)], narrowed := true }
def FnExactLapUptoSaid : Prop := fnExactLapUptoRow.holds Tryd.pinned (OpenSpec.upto fnExactLapSpec)

/-- 'laws.FnExactUnlap', WHERE WHAT IT READS IS OF BULK AT MOST 1048576: true; the input reads as it did. -/
def fnExactUnlapUptoRow : OpenClaim := { program := "ytnoojbppfbmbgaadoor", sum := "82dfd5796d7df3cdeb9ec17ee7b8bd6d9dd4d4ef605d8ba786fb2d031ca755da", func := "loop.example/g00016/laws.FnExactUnlap", spec := "fnExactUnlap", named := ["loop.example/g00016/impl.quarterCosines"], apart := false, laid := [("loop.example/g00016/impl.quarterCosines", laid_loop_example_g00016_impl_quarterCosines)], narrowed := true }
def FnExactUnlapUptoSaid : Prop := fnExactUnlapUptoRow.holds Tryd.pinned (OpenSpec.upto fnExactUnlapSpec)

/-- 'laws.FnExactTonesOf', WHERE WHAT IT READS IS OF BULK AT MOST 1048576: true; the input reads as it did. -/
def fnExactTonesOfUptoRow : OpenClaim := { program := "ytnoojbppfbmbgaadoor", sum := "82dfd5796d7df3cdeb9ec17ee7b8bd6d9dd4d4ef605d8ba786fb2d031ca755da", func := "loop.example/g00016/laws.FnExactTonesOf", spec := "fnExactTonesOf", unfollowed := true, recurses := true, named := ["loop.example/g00016/impl.quarterCosines"], apart := false, laid := [("loop.example/g00016/impl.quarterCosines", laid_loop_example_g00016_impl_quarterCosines)], narrowed := true }
def FnExactTonesOfUptoSaid : Prop := fnExactTonesOfUptoRow.holds Tryd.pinned (OpenSpec.upto fnExactTonesOfSpec)

/-- 'laws.FnExactSoundOf', WHERE WHAT IT READS IS OF BULK AT MOST 1048576: true; the input reads as it did. -/
def fnExactSoundOfUptoRow : OpenClaim := { program := "ytnoojbppfbmbgaadoor", sum := "82dfd5796d7df3cdeb9ec17ee7b8bd6d9dd4d4ef605d8ba786fb2d031ca755da", func := "loop.example/g00016/laws.FnExactSoundOf", spec := "fnExactSoundOf", unfollowed := true, recurses := true, named := ["loop.example/g00016/impl.quarterCosines"], apart := false, laid := [("loop.example/g00016/impl.quarterCosines", laid_loop_example_g00016_impl_quarterCosines)], narrowed := true }
def FnExactSoundOfUptoSaid : Prop := fnExactSoundOfUptoRow.holds Tryd.pinned (OpenSpec.upto fnExactSoundOfSpec)

end Rows
end Go.Proofs.YtnoojbppfbmbgaaDoor
