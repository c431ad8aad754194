import Derived.Test.YtfleadelfklenaaGreatDoorZGw9
import Derived.Test.YtfleadelfklenaaGreatDoorZGw10
import Derived.SevenTiedAt
import Derived.LaidMore
import Derived.Stop.Joined
import Derived.WalkKit
import Derived.ProofKit
import Derived.OpenShut
import Derived.Test.YtfleadelfklenaaGreatDoorZGw23
import Derived.Test.YtfleadelfklenaaGreatDoorZGw7
namespace Go.Proofs.YtfleadelfklenaaGreatDoor.settingsPrefixes
open Go.ChangeShapes Go.WideShapes Go.ChangeAt Go.RowKit Go.VD
set_option linter.unusedVariables false
set_option maxRecDepth 100000
set_option maxHeartbeats 0 in
theorem shut : joinedFacts Tryz.prog 8 Tryz.f8 Rows.settingsPrefixesSpec Rows.settingsPrefixesRow = true := by
  unfold joinedFacts
  simp only [Bool.and_eq_true]
  repeat' apply And.intro
  all_goals as_aux_lemma => kernel_rfl
end Go.Proofs.YtfleadelfklenaaGreatDoor.settingsPrefixes
