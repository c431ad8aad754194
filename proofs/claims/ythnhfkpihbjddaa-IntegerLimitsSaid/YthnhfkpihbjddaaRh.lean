/- The specification's integers as ints. -/
import Derived.Test.YthnhfkpihbjddaaRn
namespace Go.Proofs.Ythnhfkpihbjddaa
open Go.VD
set_option linter.unusedVariables false
set_option linter.unusedSimpArgs false
set_option maxRecDepth 100000

def fitsI (v : Int) : Bool := decide (-9223372036854775808 ≤ v) && decide (v < 9223372036854775808)
theorem or_shift {a b : Nat} (ha : a < 4294967296) (hb : b < 4294967296) : Go.bits BinOp.or IntKind.u64 (IntKind.u64.wrap ((a : Int) * 4294967296)) (IntKind.u64.wrap (b : Int)) = ((b + 4294967296 * a : Nat) : Int) := by
  have e1 : IntKind.u64.wrap ((a : Int) * 4294967296) = ((4294967296 * a : Nat) : Int) := by rw [wrap_u64]; omega
  have e2 : IntKind.u64.wrap (b : Int) = (b : Int) := by rw [wrap_u64]; omega
  rw [e1, e2, bits_or_u64_nat (4294967296 * a) b (by omega) (by omega)]
  have := Nat.two_pow_add_eq_or_of_lt (i := 32) (b := b) (by omega) a
  rw [show (2 : Nat) ^ 32 = 4294967296 from rfl] at this
  rw [← this, Nat.add_comm]
end Go.Proofs.Ythnhfkpihbjddaa
