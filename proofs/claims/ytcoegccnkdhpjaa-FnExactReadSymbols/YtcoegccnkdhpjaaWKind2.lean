/- CodeKind's two walks, as a law's walk takes them. -/
import Derived.Test.YtcoegccnkdhpjaaWKind
namespace Go.Proofs.Ytcoegccnkdhpjaa
open Go.RowKit
theorem specCodeKind (v : Value) (zs : List Int) (w : World) (hn : zs.length ≤ 1048576) (_hR : InI zs) (hv : RdI w v zs) :
    Calls Try.prog 37 #[v] w fun e w' => e = .returned (.int .i64 (kindF zs)) ∧ Upd 0 0 w w' := upd_of_same (specKind v zs w (by omega) hv)
theorem implCodeKind (v : Value) (zs : List Int) (w : World) (hn : zs.length ≤ 1048576) (_hR : InI zs) (hv : RdI w v zs) :
    Calls Try.prog 23 #[v] w fun e w' => e = .returned (.int .i64 (kindF zs)) ∧ Upd 0 0 w w' := upd_of_same (implKind v zs w (by omega) hv)
end Go.Proofs.Ytcoegccnkdhpjaa
