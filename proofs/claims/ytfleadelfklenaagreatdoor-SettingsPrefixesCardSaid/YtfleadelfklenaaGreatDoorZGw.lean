import Derived.Test.YtfleadelfklenaaGreatDoorZGw9
import Derived.Test.YtfleadelfklenaaGreatDoorZGw10
import Derived.SevenTiedAt
import Derived.LaidMore
import Derived.Stop.Joined
import Derived.WalkKit
import Derived.ProofKit
import Derived.OpenShut
import Derived.Test.YtfleadelfklenaaGreatDoorZGw23
import Derived.Test.YtfleadelfklenaaGreatDoorZGw7
import Derived.Test.YtfleadelfklenaaGreatDoorZGwa
import Derived.Test.YtfleadelfklenaaGreatDoorZGwb
namespace Go.Proofs.YtfleadelfklenaaGreatDoor.settingsPrefixes
open Go.ChangeShapes Go.WideShapes Go.ChangeAt Go.RowKit Go.VD
set_option linter.unusedVariables false
theorem over : Rows.settingsPrefixesRow.holds Tryz.pinned (OpenSpec.ofChange Rows.settingsPrefixesSpec) :=
  OpenClaim.holds_of_wide 8 Tryz.f8 rfl rfl rfl rfl rfl rfl rfl ⟨rfl, rfl, rfl, rfl, rfl⟩ rfl rfl rfl rfl rfl (by kernel_rfl) Tryz.func8 shut
    (of_decide_eq_true (by kernel_rfl)) (by unfold Func.isWrapper; first | (rw [if_pos (by decide +kernel)]; kernel_rfl) | (rw [if_neg (by decide +kernel)]; exact ⟨rfl, rfl⟩))
    (fun os started H enc _ => lifted os started H enc)
/-- the given statement: the card -/
theorem proved : Rows.SettingsPrefixesCardSaid :=
  Claim7.holds_tied_plain_at .later [] [.data, .data, .data, .listed, .data] true (true, "84eb64bff29268666450e30c096e1e9ce122325ab32f2f701b63d6c5aafd19f8") false
    over (fun _ h => by cases h) (by kernel_rfl) (fun _ h => by cases h) settingsPrefixes_row_tie rfl ⟨rfl, rfl⟩ (by kernel_rfl) rfl
    (fun f fn hf hfn => by
      obtain rfl : f = 8 := Option.some.inj ((show Tryz.prog.funcNamed "substation/substationlaw07.SettingsPrefixes" = some 8 by kernel_rfl).symm.trans hf) |>.symm
      obtain rfl : fn = Tryz.f8 := (Option.some.inj (Tryz.func8.symm.trans hfn)).symm
      exact ⟨by kernel_rfl, fun j t ht => by
        rw [Tryz.params8] at ht
        have hm : t ∈ [27, 38, 3] := by simpa using Array.mem_of_getElem? ht
        have hall : ([27, 38, 3].all fun u => !Tryz.prog.wantsStandIn u) = true := by kernel_rfl
        exact (show Tryz.prog.wantsStandIn t = false by simpa using List.all_eq_true.1 hall t hm)⟩)
    (by kernel_rfl)
end Go.Proofs.YtfleadelfklenaaGreatDoor.settingsPrefixes
