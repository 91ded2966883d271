/- At every list of numbers SmallForward answers as its model, writes into nothing of it, and its answer owns its memory; the table of waves is as the program's text lays it. -/
import Derived.Test.YtpofmcepjmbmcaaDoorLSmallForward
import Derived.Test.YtpofmcepjmbmcaaDoorPOpen
import Derived.Test.YtpofmcepjmbmcaaDoorPLaidSm
import Derived.ProofKit
import Derived.LaidMore
import Derived.OpenShut
import Derived.OpenVars
import Derived.Stop.Joined
import Derived.SevenTiedAt
import Derived.Test.YtpofmcepjmbmcaaDoorCards
import Derived.Test.YtpofmcepjmbmcaaDoorTie
namespace Go.Proofs.YtpofmcepjmbmcaaDoor
open Go.ChangeShapes Go.WideShapes Go.ChangeAt Go.RowKit

abbrev lawSmallForward_laid : List (String × DataW Unit) := [("loop.example/g00016/impl.smallWaves", Rows.laid_loop_example_g00016_impl_smallWaves)]
/-- The door's own heap meets the condition. -/
theorem lawSmallForward_met (os : Os) (args : Array Value) : laidMetH Tryd.prog lawSmallForward_laid ((World.doorLaid Tryd.prog 400 os).forCall (fun _ _ => 0) ⟨#[], args, []⟩).memory :=
  laidMetH_of_parts3 (fuel := 8) (laidMet_of_run' 8 (by kernel_rfl) (by kernel_rfl)) (by kernel_rfl) (by kernel_rfl)
theorem lawSmallForward_vars {H : Type} {enc : TypeId × Value → H} {W : World} {gs : List (DataW H)} {q : List MemPlace} (h : DataW.TrodVars enc Tryd.prog W (fun _ => true) ["loop.example/g00016/impl.smallWaves"] gs q) : ∃ g0, gs = [g0] := by
  match gs, h with
  | [g0], _ => exact ⟨g0, rfl⟩

set_option maxRecDepth 100000 in
theorem lawSmallForward_lifted (os : Os) (started : os.Started) (H : Type) (enc : TypeId × Value → H) :
    ReturnsInHanded {} Tryd.checked os 8 .any (fun w args => (Rows.fnExactSmallForwardSpec.pre enc Tryd.prog Tryd.f8 [] false w args ∧ laidMetH Tryd.prog lawSmallForward_laid w) ∧ sizedMet enc Tryd.prog Tryd.f8 (OpenSpec.ofChange Rows.fnExactSmallForwardSpec) false w args)
      (Rows.fnExactSmallForwardSpec.post enc Tryd.prog Tryd.f8 false true false false) := by
  refine returnsInHanded_of_change_and (C := Tryd.checked) (X := fun w _ => laidMetH Tryd.prog lawSmallForward_laid w) (fun _ _ _ hh h => h.of_heap hh) Tryd.own started (by kernel_rfl) Tryd.func8
    (ChangeSpec.witness_shaped (enc := enc) (C := Tryd.checked) (os := os) (X := fun w _ => laidMetH Tryd.prog lawSmallForward_laid w) false (World.doorLaid Tryd.prog 400 os) #[.slice none 0 0] 8 rfl (World.shaped_of_RefB (by kernel_rfl) (by kernel_rfl)) (by kernel_rfl) (by kernel_rfl) (by kernel_rfl) (lawSmallForward_met os _)) ?_
  intro W base args ds gs before hval0 hW _ _ hL _
  have hval : ∀ (j : Nat) t v, Tryd.f8.params[j]? = some t → args[j]? = some v → Value.okWide Tryd.prog W .any base t v := hval0
  have hW' := hW
  obtain ⟨p, q, hA0, hV0, rfl, hfz, hnd⟩ := hW
  have hV : DataW.TrodVars enc Tryd.prog W (fun _ => true) ["loop.example/g00016/impl.smallWaves"] gs q := hV0
  have hA : DataW.TrodAll enc Tryd.prog W 0 (fun _ => true) true Tryd.f8.params.toList args.toList ds p := hA0
  rw [Tryd.params8] at hA hval
  obtain ⟨v0, d0, rfl, rfl, h0⟩ := trodAll_one hA
  obtain ⟨g0, rfl⟩ := lawSmallForward_vars hV
  clear hA0 hV0 hval0
  have hlt : ∀ x ∈ p, x.block < W.heap.size := fun x hx => by simpa using hW'.lt x (List.mem_append_left _ hx)
  obtain ⟨ad0, cap0, zs0, rfl, hb0, hr0⟩ := open_intl (hval 0 23 v0 rfl rfl) h0 (fun x hx => hlt x (by simpa using hx))
  refine (lawSmallForward ad0 cap0 zs0 W (laid_smw hL)   hb0 hr0).mono fun e W' ⟨he, hg⟩ => ?_
  subst he
  refine ⟨_, rfl, _, _, _, [], _, _, hW', trodAll_mk1 (shut_bool Tryd.underlying4 _), trodAll_mk1 (Below.trod Tryd.laidOut (by kernel_rfl) (of_decide_eq_true (by kernel_rfl)) h0 hg (fun x hx => hlt x (by simpa using hx))), Below.trodVars Tryd.laidOut hg (by kernel_rfl) hV, hg.frame _, fun h => by cases h⟩

theorem lawSmallForward_holds : Rows.FnExactSmallForwardSaid :=
  OpenClaim.holds_of_wide 8 Tryd.f8 rfl rfl rfl rfl rfl rfl rfl ⟨rfl, rfl, rfl, rfl, rfl⟩ rfl rfl rfl rfl rfl (by kernel_rfl) Tryd.func8 (by kernel_rfl)
    (of_decide_eq_true (by kernel_rfl)) (by unfold Func.isWrapper; first | (rw [if_pos (by decide +kernel)]; kernel_rfl) | (rw [if_neg (by decide +kernel)]; exact ⟨rfl, rfl⟩))
    (fun os started H enc _ => lawSmallForward_lifted os started H enc)

theorem lawSmallForward_card : Rows.FnExactSmallForwardCardSaid :=
  Claim7.holds_tied_plain_at .later [] [.data] true (true, "25699d1902186875361ee4f1793041e757fd5946627bc6361c1dc29bad872478") false
    lawSmallForward_holds (fun _ h => by cases h) (by kernel_rfl) (fun _ h => by cases h) fnExactSmallForward_row_tie rfl ⟨rfl, rfl⟩ (by kernel_rfl) rfl
    (fun f fn hf hfn => by
      obtain rfl : f = 8 := Option.some.inj ((show Tryd.prog.funcNamed "loop.example/g00016/laws.FnExactSmallForward" = some 8 by kernel_rfl).symm.trans hf) |>.symm
      obtain rfl : fn = Tryd.f8 := (Option.some.inj (Tryd.func8.symm.trans hfn)).symm
      exact ⟨by kernel_rfl, fun j t ht => by
        rw [Tryd.params8] at ht
        have hm : t ∈ [23] := by simpa using Array.mem_of_getElem? ht
        have hall : ([23].all fun u => !Tryd.prog.wantsStandIn u) = true := by kernel_rfl
        exact (show Tryd.prog.wantsStandIn t = false by simpa using List.all_eq_true.1 hall t hm)⟩)
    (by kernel_rfl)
#print axioms lawSmallForward_card
end Go.Proofs.YtpofmcepjmbmcaaDoor
