import Derived.Test.YtfleadelfklenaaDoorZBc9
import Derived.Test.YtfleadelfklenaaDoorZBc10
import Derived.SevenTiedAt
import Derived.LaidMore
import Derived.Stop.Joined
import Derived.WalkKit
import Derived.ProofKit
import Derived.OpenShut
import Derived.Test.YtfleadelfklenaaDoorZBc22
import Derived.Test.YtfleadelfklenaaDoorZBc7
/- For every input, a valid diagram in which one name is replaced by another one of its names has an error: the given statement StationNamesCardSaid. Condition: the listed package variables read as the program's text lays them (the card ties it). -/
namespace Go.Proofs.YtfleadelfklenaaDoor
open Go.VD
set_option linter.unusedVariables false
set_option linter.unusedSimpArgs false
set_option maxRecDepth 100000
end Go.Proofs.YtfleadelfklenaaDoor
namespace Go.Proofs.YtfleadelfklenaaDoor.stationNames
open Go.ChangeShapes Go.WideShapes Go.ChangeAt Go.RowKit Go.VD
set_option linter.unusedVariables false
theorem own : ownKnob Tryd.prog.godebug = none := by kernel_rfl
theorem law : ∀ es, TArgs T Tryd.f4.params.toList es → PureJ Tryd.prog 4 es (.v (.bool true)) := by
  intro es h
  have h : TArgs T [27, 3, 3] es := h
  obtain ⟨d0, r0, rfl, h0, d1, r1, rfl, h1, d2, r2, rfl, h2, rfl⟩ := h
  obtain ⟨s0, rfl, k0⟩ := targ_stn h0
  obtain ⟨n1, rfl, w1⟩ := targ_int T_3 h1
  have hn1 := wf_i64 w1
  obtain ⟨n2, rfl, w2⟩ := targ_int T_3 h2
  have hn2 := wf_i64 w2
  exact lawNames_pure s0 n1 n2 ⟨k0, hn1, hn2⟩
theorem door_met (os : Os) (args : Array Value) : laidMetH Tryd.prog Rows.stationNamesRow.laid ((World.doorLaid Tryd.prog 33 os).forCall (fun _ _ => 0) ⟨#[], args, []⟩).memory :=
  laidMetH_of_parts3 (fuel := 8) (laidMet_of_run' 8 (by kernel_rfl) (by kernel_rfl)) (by kernel_rfl) (by kernel_rfl)
set_option maxRecDepth 100000 in
theorem lifted (os : Os) (started : os.Started) (H : Type) (enc : TypeId × Value → H) :
    ReturnsInHanded {} Tryd.checked os 4 .any (fun w args => (Rows.stationNamesSpec.pre enc Tryd.prog Tryd.f4 [] false w args ∧ laidMetH Tryd.prog Rows.stationNamesRow.laid w) ∧ sizedMet enc Tryd.prog Tryd.f4 (OpenSpec.ofChange Rows.stationNamesSpec) false w args) (Rows.stationNamesSpec.post enc Tryd.prog Tryd.f4 false true false false) := by
  refine returnsInHanded_of_change_and (C := Tryd.checked) (X := fun w _ => laidMetH Tryd.prog Rows.stationNamesRow.laid w) (fun _ _ _ hh h => h.of_heap hh) own started (by kernel_rfl) Tryd.func4
    (ChangeSpec.witness_shaped (enc := enc) (C := Tryd.checked) (os := os) (X := fun w _ => laidMetH Tryd.prog Rows.stationNamesRow.laid w) false (World.doorLaid Tryd.prog 33 os) #[.agg #[.string .empty, .slice none 0 0, .slice none 0 0, .slice none 0 0, .slice none 0 0], .int .i64 0, .int .i64 0] 8 rfl (World.shaped_of_RefB (by kernel_rfl) (by kernel_rfl)) (by kernel_rfl) (by kernel_rfl) (by kernel_rfl) (door_met os _)) ?_
  intro W base args ds gs before hval hW _ _ hL _
  have hL' : laidMet Tryd.prog Rows.stationNamesRow.laid W := by rwa [MakeChecks.laidMetH_plain _ _ _ (by kernel_rfl)] at hL
  refine law_contract T_ok (by kernel_rfl) (fun t ht => ?_) rfl Tryd.underlying4 rfl (fun ds hl => ?_) law W (gok_of_laid T_ok (by kernel_rfl) hL') base args ds gs before hval hW
  · have ht : t ∈ [27, 3, 3] := ht
    simp only [List.mem_cons, List.not_mem_nil, or_false] at ht
    rcases ht with rfl | rfl | rfl <;> exact ⟨by kernel_rfl, by decide +kernel, by kernel_rfl⟩
  · match ds, hl with
    | [e0, e1, e2], _ => exact ⟨rfl, rfl, rfl⟩
theorem over : Rows.stationNamesRow.holds Tryd.pinned (OpenSpec.ofChange Rows.stationNamesSpec) :=
  OpenClaim.holds_of_wide 4 Tryd.f4 rfl rfl rfl rfl rfl rfl rfl ⟨rfl, rfl, rfl, rfl, rfl⟩ rfl rfl rfl rfl rfl (by kernel_rfl) Tryd.func4 (by kernel_rfl)
    (of_decide_eq_true (by kernel_rfl)) (by unfold Func.isWrapper; first | (rw [if_pos (by decide +kernel)]; kernel_rfl) | (rw [if_neg (by decide +kernel)]; exact ⟨rfl, rfl⟩))
    (fun os started H enc _ => lifted os started H enc)
/-- the given statement: the card -/
theorem proved : Rows.StationNamesCardSaid :=
  Claim7.holds_tied_plain_at .later [] [.listed, .data] true (true, "01b9ca6249d626265766501cd7ccac738f7e140304caf37c9d537883fbf63a0c") false
    over (fun _ h => by cases h) (by kernel_rfl) (fun _ h => by cases h) stationNames_row_tie rfl ⟨rfl, rfl⟩ (by kernel_rfl) rfl
    (fun f fn hf hfn => by
      obtain rfl : f = 4 := Option.some.inj ((show Tryd.prog.funcNamed "substation/substationlaw05.StationNames" = some 4 by kernel_rfl).symm.trans hf) |>.symm
      obtain rfl : fn = Tryd.f4 := (Option.some.inj (Tryd.func4.symm.trans hfn)).symm
      exact ⟨by kernel_rfl, fun j t ht => by
        rw [Tryd.params4] at ht
        have hm : t ∈ [27, 3, 3] := by simpa using Array.mem_of_getElem? ht
        have hall : ([27, 3, 3].all fun u => !Tryd.prog.wantsStandIn u) = true := by kernel_rfl
        exact (show Tryd.prog.wantsStandIn t = false by simpa using List.all_eq_true.1 hall t hm)⟩)
    (by kernel_rfl)
end Go.Proofs.YtfleadelfklenaaDoor.stationNames
namespace Go.Proofs.YtfleadelfklenaaDoor
open Go.VD
end Go.Proofs.YtfleadelfklenaaDoor
