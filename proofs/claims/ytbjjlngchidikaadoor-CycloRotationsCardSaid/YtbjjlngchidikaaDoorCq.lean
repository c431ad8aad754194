/- An argument of the laws: four ints. -/
import Derived.Test.YtbjjlngchidikaaDoorVt
import Derived.Test.YtbjjlngchidikaaDoorLa
import Derived.Test.YtbjjlngchidikaaDoorTie
import Derived.Test.YtbjjlngchidikaaDoorCards
import Derived.SevenTiedAt
import Derived.LaidMore
import Derived.Stop.Joined
import Derived.WalkKit
import Derived.ProofKit
import Derived.OpenShut
namespace Go.Proofs.YtbjjlngchidikaaDoor
open Go.VD
set_option linter.unusedVariables false
set_option linter.unusedSimpArgs false
set_option maxRecDepth 100000
theorem targ_cyc {d : D} (hd : ∃ ti cs, T 23 = some ti ∧ TC T 23 cs ∧ d = (if ti.td.isAgg then .agg cs else cs.headD default)) : ∃ a b c e : Int, d = .agg [.v (.int .i64 a), .v (.int .i64 b), .v (.int .i64 c), .v (.int .i64 e)] ∧ ((-9223372036854775808 ≤ a ∧ a < 9223372036854775808) ∧ (-9223372036854775808 ≤ b ∧ b < 9223372036854775808) ∧ (-9223372036854775808 ≤ c ∧ c < 9223372036854775808) ∧ -9223372036854775808 ≤ e ∧ e < 9223372036854775808) := by
  obtain ⟨chunks, rfl, hl, hc⟩ := targ_arr T_23 hd
  obtain ⟨xs, e1, e2, e3⟩ := ints_inv T_3 hc
  rw [hl] at e2
  match xs, e2, e1, e3 with
  | [a, b, c, e], _, e1, e3 =>
    refine ⟨a, b, c, e, by rw [e1]; rfl, wf_i64 (e3 a (by simp)), wf_i64 (e3 b (by simp)), wf_i64 (e3 c (by simp)), wf_i64 (e3 e (by simp))⟩
end Go.Proofs.YtbjjlngchidikaaDoor
