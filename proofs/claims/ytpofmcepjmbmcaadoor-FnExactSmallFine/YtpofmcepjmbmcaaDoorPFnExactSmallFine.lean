/- At every list of numbers and step SmallFine answers as its model, writes into nothing of it, and its answer owns its memory; the table of factors is as the program's text lays it. -/
import Derived.Test.YtpofmcepjmbmcaaDoorLSmallFine
import Derived.Test.YtpofmcepjmbmcaaDoorPOpen
import Derived.Test.YtpofmcepjmbmcaaDoorPLaidCf
import Derived.ProofKit
import Derived.LaidMore
import Derived.OpenShut
import Derived.OpenVars
import Derived.Stop.Joined
import Derived.SevenTiedAt
import Derived.Test.YtpofmcepjmbmcaaDoorCards
import Derived.Test.YtpofmcepjmbmcaaDoorTie
namespace Go.Proofs.YtpofmcepjmbmcaaDoor
open Go.ChangeShapes Go.WideShapes Go.ChangeAt Go.RowKit

abbrev lawSmallFine_laid : List (String × DataW Unit) := [("loop.example/g00016/impl.fineFactors", Rows.laid_loop_example_g00016_impl_fineFactors)]
/-- The door's own heap meets the condition. -/
theorem lawSmallFine_met (os : Os) (args : Array Value) : laidMetH Tryd.prog lawSmallFine_laid ((World.doorLaid Tryd.prog 400 os).forCall (fun _ _ => 0) ⟨#[], args, []⟩).memory :=
  laidMetH_of_parts3 (fuel := 8) (laidMet_of_run' 8 (by kernel_rfl) (by kernel_rfl)) (by kernel_rfl) (by kernel_rfl)
theorem lawSmallFine_vars {H : Type} {enc : TypeId × Value → H} {W : World} {gs : List (DataW H)} {q : List MemPlace} (h : DataW.TrodVars enc Tryd.prog W (fun _ => true) ["loop.example/g00016/impl.fineFactors"] gs q) : ∃ g0, gs = [g0] := by
  match gs, h with
  | [g0], _ => exact ⟨g0, rfl⟩

set_option maxRecDepth 100000 in
theorem lawSmallFine_lifted (os : Os) (started : os.Started) (H : Type) (enc : TypeId × Value → H) :
    ReturnsInHanded {} Tryd.checked os 10 .any (fun w args => (Rows.fnExactSmallFineSpec.pre enc Tryd.prog Tryd.f10 [] false w args ∧ laidMetH Tryd.prog lawSmallFine_laid w) ∧ sizedMet enc Tryd.prog Tryd.f10 (OpenSpec.ofChange Rows.fnExactSmallFineSpec) false w args)
      (Rows.fnExactSmallFineSpec.post enc Tryd.prog Tryd.f10 false true false false) := by
  refine returnsInHanded_of_change_and (C := Tryd.checked) (X := fun w _ => laidMetH Tryd.prog lawSmallFine_laid w) (fun _ _ _ hh h => h.of_heap hh) Tryd.own started (by kernel_rfl) Tryd.func10
    (ChangeSpec.witness_shaped (enc := enc) (C := Tryd.checked) (os := os) (X := fun w _ => laidMetH Tryd.prog lawSmallFine_laid w) false (World.doorLaid Tryd.prog 400 os) #[.slice none 0 0, .int .i64 0] 8 rfl (World.shaped_of_RefB (by kernel_rfl) (by kernel_rfl)) (by kernel_rfl) (by kernel_rfl) (by kernel_rfl) (lawSmallFine_met os _)) ?_
  intro W base args ds gs before hval0 hW _ _ hL _
  have hval : ∀ (j : Nat) t v, Tryd.f10.params[j]? = some t → args[j]? = some v → Value.okWide Tryd.prog W .any base t v := hval0
  have hW' := hW
  obtain ⟨p, q, hA0, hV0, rfl, hfz, hnd⟩ := hW
  have hV : DataW.TrodVars enc Tryd.prog W (fun _ => true) ["loop.example/g00016/impl.fineFactors"] gs q := hV0
  have hA : DataW.TrodAll enc Tryd.prog W 0 (fun _ => true) true Tryd.f10.params.toList args.toList ds p := hA0
  rw [Tryd.params10] at hA hval
  obtain ⟨v0, v1, d0, d1, p0, p1, rfl, rfl, rfl, h0, h1⟩ := trodAll_two hA
  obtain ⟨g0, rfl⟩ := lawSmallFine_vars hV
  clear hA0 hV0 hval0
  have hlt : ∀ x ∈ p0 ++ p1, x.block < W.heap.size := fun x hx => by simpa using hW'.lt x (List.mem_append_left _ hx)
  obtain ⟨ad0, cap0, zs0, rfl, hb0, hr0⟩ := open_intl (hval 0 23 v0 rfl rfl) h0 (fun x hx => hlt x (by simp [hx]))
  obtain ⟨a1, rfl, rfl, rfl, wa1⟩ := open_int Tryd.underlying3 (hval 1 3 v1 rfl rfl) h1
  refine (lawSmallFine ad0 cap0 zs0 a1 W (laid_fif hL)   hb0 hr0 (i64_of_wf wa1).1 (i64_of_wf wa1).2).mono fun e W' ⟨he, hg⟩ => ?_
  subst he
  refine ⟨_, rfl, _, _, _, [], _, _, hW', trodAll_mk1 (shut_bool Tryd.underlying4 _), trodAll_mk2 (Below.trod Tryd.laidOut (by kernel_rfl) (of_decide_eq_true (by kernel_rfl)) h0 hg (fun x hx => hlt x (by simp [hx]))) (shut_int Tryd.underlying3 wa1), Below.trodVars Tryd.laidOut hg (by kernel_rfl) hV, hg.frame _, fun h => by cases h⟩

theorem lawSmallFine_holds : Rows.FnExactSmallFineSaid :=
  OpenClaim.holds_of_wide 10 Tryd.f10 rfl rfl rfl rfl rfl rfl rfl ⟨rfl, rfl, rfl, rfl, rfl⟩ rfl rfl rfl rfl rfl (by kernel_rfl) Tryd.func10 (by kernel_rfl)
    (of_decide_eq_true (by kernel_rfl)) (by unfold Func.isWrapper; first | (rw [if_pos (by decide +kernel)]; kernel_rfl) | (rw [if_neg (by decide +kernel)]; exact ⟨rfl, rfl⟩))
    (fun os started H enc _ => lawSmallFine_lifted os started H enc)

theorem lawSmallFine_card : Rows.FnExactSmallFineCardSaid :=
  Claim7.holds_tied_plain_at .later [] [.data] true (true, "25699d1902186875361ee4f1793041e757fd5946627bc6361c1dc29bad872478") false
    lawSmallFine_holds (fun _ h => by cases h) (by kernel_rfl) (fun _ h => by cases h) fnExactSmallFine_row_tie rfl ⟨rfl, rfl⟩ (by kernel_rfl) rfl
    (fun f fn hf hfn => by
      obtain rfl : f = 10 := Option.some.inj ((show Tryd.prog.funcNamed "loop.example/g00016/laws.FnExactSmallFine" = some 10 by kernel_rfl).symm.trans hf) |>.symm
      obtain rfl : fn = Tryd.f10 := (Option.some.inj (Tryd.func10.symm.trans hfn)).symm
      exact ⟨by kernel_rfl, fun j t ht => by
        rw [Tryd.params10] at ht
        have hm : t ∈ [23, 3] := by simpa using Array.mem_of_getElem? ht
        have hall : ([23, 3].all fun u => !Tryd.prog.wantsStandIn u) = true := by kernel_rfl
        exact (show Tryd.prog.wantsStandIn t = false by simpa using List.all_eq_true.1 hall t hm)⟩)
    (by kernel_rfl)
#print axioms lawSmallFine_card
end Go.Proofs.YtpofmcepjmbmcaaDoor
