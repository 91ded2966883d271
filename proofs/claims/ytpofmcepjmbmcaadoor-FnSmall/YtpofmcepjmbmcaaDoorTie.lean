/-
  DERIVED. GIVEN WITH THE SEED: THE PROGRAM's TIES (one call each: nine closed facts by the kernel) AND EACH ROW's TIE, after the 31st guide's Derived/Test/Toyas{Tie, Card}.lean. No idea stands in it: it is a product of the set-up. Laid BY PROGRAM, IN A SANDBOX (cutbox-door.mjs). By AI agents, Wed Nov 11 2026. No macro, syntax, notation, axiom, sorry.
-/
import Derived.Test.YtpofmcepjmbmcaaDoorRows
import Derived.LaidByTextLater
import Derived.SevenTiedAt
import Derived.LaidSub
import Derived.LaidOnce
namespace Go.Proofs.YtpofmcepjmbmcaaDoor
open Go
set_option maxRecDepth 100000
theorem seatTie1 : Tryd.prog.laidByTextLater [("loop.example/g00016/impl.halfWeights", Rows.laid_loop_example_g00016_impl_halfWeights), ("loop.example/g00016/impl.smallWaves", Rows.laid_loop_example_g00016_impl_smallWaves), ("loop.example/g00016/impl.coarseFactors", Rows.laid_loop_example_g00016_impl_coarseFactors), ("loop.example/g00016/impl.fineFactors", Rows.laid_loop_example_g00016_impl_fineFactors)] [.data, .data, .data, .data] true :=
  Program.laidByTextLater_by_one 45 8 19 (by kernel_rfl) (by kernel_rfl) (by kernel_rfl) (by kernel_rfl) (by kernel_rfl) (by kernel_rfl) (fun _ _ => by kernel_rfl)
theorem noOwnUnsafe : Tryd.pinned.checked.prog.headLifts.contains "ownunsafe" = false := by kernel_rfl
theorem tie : Tryd.prog.laidByTextLater [("loop.example/g00016/impl.halfWeights", Rows.laid_loop_example_g00016_impl_halfWeights)] [.data] true :=
  Program.laidByTextLater.sub seatTie1 ["loop.example/g00016/impl.halfWeights"] (by kernel_rfl) (by kernel_rfl)
theorem fnMoved_row_tie : Rows.fnMovedRow.laidByTextAt .later Tryd.pinned [.data] true :=
  OpenClaim.laidByTextAt_later rfl rfl tie noOwnUnsafe
theorem fnNearest_row_tie : Rows.fnNearestRow.laidByTextAt .later Tryd.pinned [.data] true :=
  OpenClaim.laidByTextAt_later rfl rfl tie noOwnUnsafe
theorem fnExactMoved_row_tie : Rows.fnExactMovedRow.laidByTextAt .later Tryd.pinned [.data] true :=
  OpenClaim.laidByTextAt_later rfl rfl tie noOwnUnsafe
theorem fnExactBestMotion_row_tie : Rows.fnExactBestMotionRow.laidByTextAt .later Tryd.pinned [.data] true :=
  OpenClaim.laidByTextAt_later rfl rfl tie noOwnUnsafe
theorem tie2 : Tryd.prog.laidByTextLater [("loop.example/g00016/impl.smallWaves", Rows.laid_loop_example_g00016_impl_smallWaves), ("loop.example/g00016/impl.coarseFactors", Rows.laid_loop_example_g00016_impl_coarseFactors), ("loop.example/g00016/impl.fineFactors", Rows.laid_loop_example_g00016_impl_fineFactors)] [.data, .data, .data] true :=
  Program.laidByTextLater.sub seatTie1 ["loop.example/g00016/impl.smallWaves", "loop.example/g00016/impl.coarseFactors", "loop.example/g00016/impl.fineFactors"] (by kernel_rfl) (by kernel_rfl)
theorem fnSmall_row_tie : Rows.fnSmallRow.laidByTextAt .later Tryd.pinned [.data, .data, .data] true :=
  OpenClaim.laidByTextAt_later rfl rfl tie2 noOwnUnsafe
theorem tie3 : Tryd.prog.laidByTextLater [("loop.example/g00016/impl.smallWaves", Rows.laid_loop_example_g00016_impl_smallWaves)] [.data] true :=
  Program.laidByTextLater.sub seatTie1 ["loop.example/g00016/impl.smallWaves"] (by kernel_rfl) (by kernel_rfl)
theorem fnExactSmallForward_row_tie : Rows.fnExactSmallForwardRow.laidByTextAt .later Tryd.pinned [.data] true :=
  OpenClaim.laidByTextAt_later rfl rfl tie3 noOwnUnsafe
theorem tie4 : Tryd.prog.laidByTextLater [("loop.example/g00016/impl.coarseFactors", Rows.laid_loop_example_g00016_impl_coarseFactors)] [.data] true :=
  Program.laidByTextLater.sub seatTie1 ["loop.example/g00016/impl.coarseFactors"] (by kernel_rfl) (by kernel_rfl)
theorem fnExactSmallCoarse_row_tie : Rows.fnExactSmallCoarseRow.laidByTextAt .later Tryd.pinned [.data] true :=
  OpenClaim.laidByTextAt_later rfl rfl tie4 noOwnUnsafe
theorem tie5 : Tryd.prog.laidByTextLater [("loop.example/g00016/impl.fineFactors", Rows.laid_loop_example_g00016_impl_fineFactors)] [.data] true :=
  Program.laidByTextLater.sub seatTie1 ["loop.example/g00016/impl.fineFactors"] (by kernel_rfl) (by kernel_rfl)
theorem fnExactSmallFine_row_tie : Rows.fnExactSmallFineRow.laidByTextAt .later Tryd.pinned [.data] true :=
  OpenClaim.laidByTextAt_later rfl rfl tie5 noOwnUnsafe
theorem fnMovedUpto_row_tie : Rows.fnMovedUptoRow.laidByTextAt .later Tryd.pinned [.data] true :=
  OpenClaim.laidByTextAt_later rfl rfl tie noOwnUnsafe
theorem fnNearestUpto_row_tie : Rows.fnNearestUptoRow.laidByTextAt .later Tryd.pinned [.data] true :=
  OpenClaim.laidByTextAt_later rfl rfl tie noOwnUnsafe
theorem fnSmallUpto_row_tie : Rows.fnSmallUptoRow.laidByTextAt .later Tryd.pinned [.data, .data, .data] true :=
  OpenClaim.laidByTextAt_later rfl rfl tie2 noOwnUnsafe
theorem fnExactMovedUpto_row_tie : Rows.fnExactMovedUptoRow.laidByTextAt .later Tryd.pinned [.data] true :=
  OpenClaim.laidByTextAt_later rfl rfl tie noOwnUnsafe
theorem fnExactBestMotionUpto_row_tie : Rows.fnExactBestMotionUptoRow.laidByTextAt .later Tryd.pinned [.data] true :=
  OpenClaim.laidByTextAt_later rfl rfl tie noOwnUnsafe
theorem fnExactSmallForwardUpto_row_tie : Rows.fnExactSmallForwardUptoRow.laidByTextAt .later Tryd.pinned [.data] true :=
  OpenClaim.laidByTextAt_later rfl rfl tie3 noOwnUnsafe
theorem fnExactSmallCoarseUpto_row_tie : Rows.fnExactSmallCoarseUptoRow.laidByTextAt .later Tryd.pinned [.data] true :=
  OpenClaim.laidByTextAt_later rfl rfl tie4 noOwnUnsafe
theorem fnExactSmallFineUpto_row_tie : Rows.fnExactSmallFineUptoRow.laidByTextAt .later Tryd.pinned [.data] true :=
  OpenClaim.laidByTextAt_later rfl rfl tie5 noOwnUnsafe
end Go.Proofs.YtpofmcepjmbmcaaDoor
