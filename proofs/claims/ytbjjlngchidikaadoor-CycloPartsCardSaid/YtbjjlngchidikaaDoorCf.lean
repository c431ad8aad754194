/- For every input, Real, Imag and Norm return the specified number or error: the given statement CycloPartsCardSaid. Condition: the package-level table of powers reads as the program's text lays it (the card ties it). -/
import Derived.Test.YtbjjlngchidikaaDoorCc
import Derived.Test.YtbjjlngchidikaaDoorCq
namespace Go.Proofs.YtbjjlngchidikaaDoor
open Go.VD
set_option linter.unusedVariables false
set_option linter.unusedSimpArgs false
set_option maxRecDepth 100000
end Go.Proofs.YtbjjlngchidikaaDoor
namespace Go.Proofs.YtbjjlngchidikaaDoor.cycloParts
open Go.ChangeShapes Go.WideShapes Go.ChangeAt Go.RowKit Go.VD
set_option linter.unusedVariables false
theorem own : ownKnob Tryd.prog.godebug = none := by kernel_rfl
theorem law : ∀ es, TArgs T Tryd.f5.params.toList es → PureJ Tryd.prog 5 es (.v (.bool true)) := by
  intro es h
  have h : TArgs T [23] es := h
  obtain ⟨d0, r0, rfl, h0, rfl⟩ := h
  obtain ⟨a0, b0, c0, d0, rfl, w0⟩ := targ_cyc h0
  exact lawParts_pure a0 b0 c0 d0
theorem door_met (os : Os) (args : Array Value) : laidMetH Tryd.prog Rows.cycloPartsRow.laid ((World.doorLaid Tryd.prog 20 os).forCall (fun _ _ => 0) ⟨#[], args, []⟩).memory :=
  laidMetH_of_parts3 (fuel := 8) (laidMet_of_run' 8 (by kernel_rfl) (by kernel_rfl)) (by kernel_rfl) (by kernel_rfl)
set_option maxRecDepth 100000 in
theorem lifted (os : Os) (started : os.Started) (H : Type) (enc : TypeId × Value → H) :
    ReturnsInHanded {} Tryd.checked os 5 .any (fun w args => (Rows.cycloPartsSpec.pre enc Tryd.prog Tryd.f5 [] false w args ∧ laidMetH Tryd.prog Rows.cycloPartsRow.laid w) ∧ sizedMet enc Tryd.prog Tryd.f5 (OpenSpec.ofChange Rows.cycloPartsSpec) false w args) (Rows.cycloPartsSpec.post enc Tryd.prog Tryd.f5 false true false false) := by
  refine returnsInHanded_of_change_and (C := Tryd.checked) (X := fun w _ => laidMetH Tryd.prog Rows.cycloPartsRow.laid w) (fun _ _ _ hh h => h.of_heap hh) own started (by kernel_rfl) Tryd.func5
    (ChangeSpec.witness_shaped (enc := enc) (C := Tryd.checked) (os := os) (X := fun w _ => laidMetH Tryd.prog Rows.cycloPartsRow.laid w) false (World.doorLaid Tryd.prog 20 os) #[.agg #[.int .i64 0, .int .i64 0, .int .i64 0, .int .i64 0]] 8 rfl (World.shaped_of_RefB (by kernel_rfl) (by kernel_rfl)) (by kernel_rfl) (by kernel_rfl) (by kernel_rfl) (door_met os _)) ?_
  intro W base args ds gs before hval hW _ _ hL _
  have hL' : laidMet Tryd.prog Rows.cycloPartsRow.laid W := by rwa [MakeChecks.laidMetH_plain _ _ _ (by kernel_rfl)] at hL
  refine law_contract T_ok (by kernel_rfl) (fun t ht => ?_) rfl Tryd.underlying4 rfl (fun ds hl => ?_) law W (gok_of_laid T_ok (by kernel_rfl) hL') base args ds gs before hval hW
  · have ht : t ∈ [23] := ht
    simp only [List.mem_cons, List.not_mem_nil, or_false] at ht
    rcases ht with rfl <;> exact ⟨by kernel_rfl, by decide +kernel, by kernel_rfl⟩
  · match ds, hl with
    | [e0], _ => exact ⟨rfl, rfl, rfl⟩
theorem over : Rows.cycloPartsRow.holds Tryd.pinned (OpenSpec.ofChange Rows.cycloPartsSpec) :=
  OpenClaim.holds_of_wide 5 Tryd.f5 rfl rfl rfl rfl rfl rfl rfl ⟨rfl, rfl, rfl, rfl, rfl⟩ rfl rfl rfl rfl rfl (by kernel_rfl) Tryd.func5 (by kernel_rfl)
    (of_decide_eq_true (by kernel_rfl)) (by unfold Func.isWrapper; first | (rw [if_pos (by decide +kernel)]; kernel_rfl) | (rw [if_neg (by decide +kernel)]; exact ⟨rfl, rfl⟩))
    (fun os started H enc _ => lifted os started H enc)
/-- the given statement: the card -/
theorem proved : Rows.CycloPartsCardSaid :=
  Claim7.holds_tied_plain_at .later [] [.data] true (true, "cf5f55265944fadbe8bd3f84bfe0a1a42e0683ae11d4f7aa8586ef26e2b77bac") false
    over (fun _ h => by cases h) (by kernel_rfl) (fun _ h => by cases h) cycloParts_row_tie rfl ⟨rfl, rfl⟩ (by kernel_rfl) rfl
    (fun f fn hf hfn => by
      obtain rfl : f = 5 := Option.some.inj ((show Tryd.prog.funcNamed "substation/substationlaw03.CycloParts" = some 5 by kernel_rfl).symm.trans hf) |>.symm
      obtain rfl : fn = Tryd.f5 := (Option.some.inj (Tryd.func5.symm.trans hfn)).symm
      exact ⟨by kernel_rfl, fun j t ht => by
        rw [Tryd.params5] at ht
        have hm : t ∈ [23] := by simpa using Array.mem_of_getElem? ht
        have hall : ([23].all fun u => !Tryd.prog.wantsStandIn u) = true := by kernel_rfl
        exact (show Tryd.prog.wantsStandIn t = false by simpa using List.all_eq_true.1 hall t hm)⟩)
    (by kernel_rfl)
end Go.Proofs.YtbjjlngchidikaaDoor.cycloParts
namespace Go.Proofs.YtbjjlngchidikaaDoor
open Go.VD
end Go.Proofs.YtbjjlngchidikaaDoor
