import Derived.Test.YtfleadelfklenaaGreatDoorZGw9
import Derived.Test.YtfleadelfklenaaGreatDoorZGw10
import Derived.SevenTiedAt
import Derived.LaidMore
import Derived.Stop.Joined
import Derived.WalkKit
import Derived.ProofKit
import Derived.OpenShut
import Derived.Test.YtfleadelfklenaaGreatDoorZGw23
import Derived.Test.YtfleadelfklenaaGreatDoorZGw7
namespace Go.Proofs.YtfleadelfklenaaGreatDoor.settingsPrefixes
open Go.ChangeShapes Go.WideShapes Go.ChangeAt Go.RowKit Go.VD
set_option linter.unusedVariables false
theorem own : ownKnob Tryz.prog.godebug = none := by kernel_rfl
theorem law : ∀ es, TArgs T Tryz.f8.params.toList es → PureJ Tryz.prog 8 es (.v (.bool true)) := by
  intro es h
  have h : TArgs T [27, 38, 3] es := h
  obtain ⟨d0, r0, rfl, h0, d1, r1, rfl, h1, d2, r2, rfl, h2, rfl⟩ := h
  obtain ⟨s0, rfl, k0⟩ := targ_stn h0
  obtain ⟨l1, rfl, k1⟩ := targ_rlys h1
  obtain ⟨n2, rfl, w2⟩ := targ_int T_3 h2
  have hn2 := wf_i64 w2
  exact lawPre_pure s0 l1 n2 ⟨k0, k1, hn2⟩
theorem door_met (os : Os) (args : Array Value) : laidMetH Tryz.prog Rows.settingsPrefixesRow.laid ((World.doorLaid Tryz.prog 48 os).forCall (fun _ _ => 0) ⟨#[], args, []⟩).memory :=
  laidMetH_of_parts3 (fuel := 8) (laidMet_of_run' 8 (by kernel_rfl) (by kernel_rfl)) (by kernel_rfl) (by kernel_rfl)
set_option maxRecDepth 100000 in
theorem lifted (os : Os) (started : os.Started) (H : Type) (enc : TypeId × Value → H) :
    ReturnsInHanded {} Tryz.checked os 8 .any (fun w args => (Rows.settingsPrefixesSpec.pre enc Tryz.prog Tryz.f8 [] false w args ∧ laidMetH Tryz.prog Rows.settingsPrefixesRow.laid w) ∧ sizedMet enc Tryz.prog Tryz.f8 (OpenSpec.ofChange Rows.settingsPrefixesSpec) false w args) (Rows.settingsPrefixesSpec.post enc Tryz.prog Tryz.f8 false true false false) := by
  refine returnsInHanded_of_change_and (C := Tryz.checked) (X := fun w _ => laidMetH Tryz.prog Rows.settingsPrefixesRow.laid w) (fun _ _ _ hh h => h.of_heap hh) own started (by kernel_rfl) Tryz.func8
    (ChangeSpec.witness_shaped (enc := enc) (C := Tryz.checked) (os := os) (X := fun w _ => laidMetH Tryz.prog Rows.settingsPrefixesRow.laid w) false (World.doorLaid Tryz.prog 48 os) #[.agg #[.string .empty, .slice none 0 0, .slice none 0 0, .slice none 0 0, .slice none 0 0], .slice none 0 0, .int .i64 0] 8 rfl (World.shaped_of_RefB (by kernel_rfl) (by kernel_rfl)) (by kernel_rfl) (by kernel_rfl) (by kernel_rfl) (door_met os _)) ?_
  intro W base args ds gs before hval hW _ _ hL _
  have hL' : laidMet Tryz.prog Rows.settingsPrefixesRow.laid W := by rwa [MakeChecks.laidMetH_plain _ _ _ (by kernel_rfl)] at hL
  refine law_contract T_ok (by kernel_rfl) (fun t ht => ?_) rfl Tryz.underlying4 rfl (fun ds hl => ?_) law W (gok_of_laid T_ok (by kernel_rfl) hL') base args ds gs before hval hW
  · have ht : t ∈ [27, 38, 3] := ht
    simp only [List.mem_cons, List.not_mem_nil, or_false] at ht
    rcases ht with rfl | rfl | rfl <;> exact ⟨by kernel_rfl, by decide +kernel, by kernel_rfl⟩
  · match ds, hl with
    | [e0, e1, e2], _ => exact ⟨rfl, rfl, rfl⟩
end Go.Proofs.YtfleadelfklenaaGreatDoor.settingsPrefixes
