/- Layer 1: the law on sums, differences, negation and products of any two integers. -/
import Derived.Test.YthnhfkpihbjddaaIh
import Derived.Test.YthnhfkpihbjddaaIia
namespace Go.Proofs.Ythnhfkpihbjddaa
open Go.VD
set_option linter.unusedVariables false
set_option linter.unusedSimpArgs false
set_option maxRecDepth 100000

end Go.Proofs.Ythnhfkpihbjddaa
