/-
  No cell of these rows narrows 'for every input' (looked for: loops, veiled, ifaces, maps, wideKeys, modest, calm, conditions, laid).
  DERIVED. THE GIVEN ROWS OF THIS SEAT. 10 by the template 'for every input the law returns true; each argument reads behind the call as it read before'; 0 by the template 'total and deterministic' (their statements: YtgilijgbljgekaaTotals.lean).
  GIVEN WITH THE SEED: the statements are not yours to turn. If you find one false, say at which input.
  Laid BY PROGRAM, IN A SANDBOX (cutbox-rows.mjs): the forced cells as the released guide's own fill.sh prints them over the translation aa56868a59af1b10… (all of the seat's roots in one cut). By AI agents, Wed Nov 11 2026. No macro, syntax, notation, axiom, sorry.
-/
import Derived.Test.YtgilijgbljgekaaChecked
import GoSem.Claim
import GoSem.ClaimJoined
import GoSem.ClaimMapViews
import Derived.JoinedTies
import Derived.KernelRfl
namespace Go.Proofs.Ytgilijgbljgekaa
/- THE CELL 'sum', in the pinned program and in every row, IS THE sha256 OF THE DUMP (.gsa) THAT YtgilijgbljgekaaProg.lean LOADS. Nothing in Lean hashes anything: it is a label: what it is worth is what the hold of that sum in a sandbox is worth. -/
noncomputable def Try.pinned : Pinned := { name := "ytgilijgbljgekaa", sum := "aa56868a59af1b10bef47198afeee9b4a7b334e2abd0ba239fbaa301f57a2337", checked := Try.checked }
namespace Rows
def none {H : Type} : Left H := { results := [], args := [] }

/-- 'substationlaw01.IntegerValid': WHATEVER THE INPUT: true; the input reads as it did. -/
def integerValidSpec : ChangeSpec := { name := "integerValid", fn := fun _ => fun
  | [d1, d2] => { results := [.lit (.bool true)], args := [d1, d2] }
  | _ => none }
def integerValidRow : OpenClaim := { program := "ytgilijgbljgekaa", sum := "aa56868a59af1b10bef47198afeee9b4a7b334e2abd0ba239fbaa301f57a2337", func := "substation/substationlaw01.IntegerValid", spec := "integerValid", named := ["math/bits.overflowError"], apart := false }
def IntegerValidSaid : Prop := integerValidRow.holds Try.pinned (OpenSpec.ofChange integerValidSpec)

/-- ITS FALSE NEIGHBOUR: 'it returns false'. Refute it at one input. -/
def integerValidWrong : ChangeSpec := { name := "integerValid", fn := fun _ => fun
  | [d1, d2] => { results := [.lit (.bool false)], args := [d1, d2] }
  | _ => none }
def IntegerValidWrongFalsely : Prop := integerValidRow.holds Try.pinned (OpenSpec.ofChange integerValidWrong)

/-- 'substationlaw01.IntegerArithmetic': WHATEVER THE INPUT: true; the input reads as it did. -/
def integerArithmeticSpec : ChangeSpec := { name := "integerArithmetic", fn := fun _ => fun
  | [d1, d2] => { results := [.lit (.bool true)], args := [d1, d2] }
  | _ => none }
def integerArithmeticRow : OpenClaim := { program := "ytgilijgbljgekaa", sum := "aa56868a59af1b10bef47198afeee9b4a7b334e2abd0ba239fbaa301f57a2337", func := "substation/substationlaw01.IntegerArithmetic", spec := "integerArithmetic", named := ["math/bits.overflowError"], apart := false }
def IntegerArithmeticSaid : Prop := integerArithmeticRow.holds Try.pinned (OpenSpec.ofChange integerArithmeticSpec)

/-- ITS FALSE NEIGHBOUR: 'it returns false'. Refute it at one input. -/
def integerArithmeticWrong : ChangeSpec := { name := "integerArithmetic", fn := fun _ => fun
  | [d1, d2] => { results := [.lit (.bool false)], args := [d1, d2] }
  | _ => none }
def IntegerArithmeticWrongFalsely : Prop := integerArithmeticRow.holds Try.pinned (OpenSpec.ofChange integerArithmeticWrong)

/-- 'substationlaw01.IntegerDivision': WHATEVER THE INPUT: true; the input reads as it did. -/
def integerDivisionSpec : ChangeSpec := { name := "integerDivision", fn := fun _ => fun
  | [d1, d2] => { results := [.lit (.bool true)], args := [d1, d2] }
  | _ => none }
def integerDivisionRow : OpenClaim := { program := "ytgilijgbljgekaa", sum := "aa56868a59af1b10bef47198afeee9b4a7b334e2abd0ba239fbaa301f57a2337", func := "substation/substationlaw01.IntegerDivision", spec := "integerDivision", named := ["math/bits.overflowError"], apart := false }
def IntegerDivisionSaid : Prop := integerDivisionRow.holds Try.pinned (OpenSpec.ofChange integerDivisionSpec)

/-- ITS FALSE NEIGHBOUR: 'it returns false'. Refute it at one input. -/
def integerDivisionWrong : ChangeSpec := { name := "integerDivision", fn := fun _ => fun
  | [d1, d2] => { results := [.lit (.bool false)], args := [d1, d2] }
  | _ => none }
def IntegerDivisionWrongFalsely : Prop := integerDivisionRow.holds Try.pinned (OpenSpec.ofChange integerDivisionWrong)

/-- 'substationlaw01.IntegerRing': WHATEVER THE INPUT: true; the input reads as it did. -/
def integerRingSpec : ChangeSpec := { name := "integerRing", fn := fun _ => fun
  | [d1, d2, d3] => { results := [.lit (.bool true)], args := [d1, d2, d3] }
  | _ => none }
def integerRingRow : OpenClaim := { program := "ytgilijgbljgekaa", sum := "aa56868a59af1b10bef47198afeee9b4a7b334e2abd0ba239fbaa301f57a2337", func := "substation/substationlaw01.IntegerRing", spec := "integerRing", named := ["math/bits.overflowError"], apart := false }
def IntegerRingSaid : Prop := integerRingRow.holds Try.pinned (OpenSpec.ofChange integerRingSpec)

/-- ITS FALSE NEIGHBOUR: 'it returns false'. Refute it at one input. -/
def integerRingWrong : ChangeSpec := { name := "integerRing", fn := fun _ => fun
  | [d1, d2, d3] => { results := [.lit (.bool false)], args := [d1, d2, d3] }
  | _ => none }
def IntegerRingWrongFalsely : Prop := integerRingRow.holds Try.pinned (OpenSpec.ofChange integerRingWrong)

/-- 'substationlaw01.IntegerEuclid': WHATEVER THE INPUT: true; the input reads as it did. -/
def integerEuclidSpec : ChangeSpec := { name := "integerEuclid", fn := fun _ => fun
  | [d1, d2] => { results := [.lit (.bool true)], args := [d1, d2] }
  | _ => none }
def integerEuclidRow : OpenClaim := { program := "ytgilijgbljgekaa", sum := "aa56868a59af1b10bef47198afeee9b4a7b334e2abd0ba239fbaa301f57a2337", func := "substation/substationlaw01.IntegerEuclid", spec := "integerEuclid", named := ["math/bits.overflowError"], apart := false }
def IntegerEuclidSaid : Prop := integerEuclidRow.holds Try.pinned (OpenSpec.ofChange integerEuclidSpec)

/-- ITS FALSE NEIGHBOUR: 'it returns false'. Refute it at one input. -/
def integerEuclidWrong : ChangeSpec := { name := "integerEuclid", fn := fun _ => fun
  | [d1, d2] => { results := [.lit (.bool false)], args := [d1, d2] }
  | _ => none }
def IntegerEuclidWrongFalsely : Prop := integerEuclidRow.holds Try.pinned (OpenSpec.ofChange integerEuclidWrong)

/-- 'substationlaw01.IntegerRoots': WHATEVER THE INPUT: true; the input reads as it did. -/
def integerRootsSpec : ChangeSpec := { name := "integerRoots", fn := fun _ => fun
  | [d] => { results := [.lit (.bool true)], args := [d] }
  | _ => none }
def integerRootsRow : OpenClaim := { program := "ytgilijgbljgekaa", sum := "aa56868a59af1b10bef47198afeee9b4a7b334e2abd0ba239fbaa301f57a2337", func := "substation/substationlaw01.IntegerRoots", spec := "integerRoots", named := ["math/bits.overflowError"], apart := false }
def IntegerRootsSaid : Prop := integerRootsRow.holds Try.pinned (OpenSpec.ofChange integerRootsSpec)

/-- ITS FALSE NEIGHBOUR: 'it returns false'. Refute it at one input. -/
def integerRootsWrong : ChangeSpec := { name := "integerRoots", fn := fun _ => fun
  | [d] => { results := [.lit (.bool false)], args := [d] }
  | _ => none }
def IntegerRootsWrongFalsely : Prop := integerRootsRow.holds Try.pinned (OpenSpec.ofChange integerRootsWrong)

/-- 'substationlaw01.IntegerTexts': WHATEVER THE INPUT: true; the input reads as it did. -/
def integerTextsSpec : ChangeSpec := { name := "integerTexts", fn := fun _ => fun
  | [d1, d2] => { results := [.lit (.bool true)], args := [d1, d2] }
  | _ => none }
def integerTextsRow : OpenClaim := { program := "ytgilijgbljgekaa", sum := "aa56868a59af1b10bef47198afeee9b4a7b334e2abd0ba239fbaa301f57a2337", func := "substation/substationlaw01.IntegerTexts", spec := "integerTexts", named := ["math/bits.overflowError"], apart := false }
def IntegerTextsSaid : Prop := integerTextsRow.holds Try.pinned (OpenSpec.ofChange integerTextsSpec)

/-- ITS FALSE NEIGHBOUR: 'it returns false'. Refute it at one input. -/
def integerTextsWrong : ChangeSpec := { name := "integerTexts", fn := fun _ => fun
  | [d1, d2] => { results := [.lit (.bool false)], args := [d1, d2] }
  | _ => none }
def IntegerTextsWrongFalsely : Prop := integerTextsRow.holds Try.pinned (OpenSpec.ofChange integerTextsWrong)

/-- 'substationlaw01.IntegerSmall': WHATEVER THE INPUT: true; the input reads as it did. -/
def integerSmallSpec : ChangeSpec := { name := "integerSmall", fn := fun _ => fun
  | [d1, d2] => { results := [.lit (.bool true)], args := [d1, d2] }
  | _ => none }
def integerSmallRow : OpenClaim := { program := "ytgilijgbljgekaa", sum := "aa56868a59af1b10bef47198afeee9b4a7b334e2abd0ba239fbaa301f57a2337", func := "substation/substationlaw01.IntegerSmall", spec := "integerSmall", named := ["math/bits.overflowError"], apart := false }
def IntegerSmallSaid : Prop := integerSmallRow.holds Try.pinned (OpenSpec.ofChange integerSmallSpec)

/-- ITS FALSE NEIGHBOUR: 'it returns false'. Refute it at one input. -/
def integerSmallWrong : ChangeSpec := { name := "integerSmall", fn := fun _ => fun
  | [d1, d2] => { results := [.lit (.bool false)], args := [d1, d2] }
  | _ => none }
def IntegerSmallWrongFalsely : Prop := integerSmallRow.holds Try.pinned (OpenSpec.ofChange integerSmallWrong)

/-- 'substationlaw01.IntegerLimits': WHATEVER THE INPUT: true; the input reads as it did. -/
def integerLimitsSpec : ChangeSpec := { name := "integerLimits", fn := fun _ => fun
  | [d1, d2, d3] => { results := [.lit (.bool true)], args := [d1, d2, d3] }
  | _ => none }
def integerLimitsRow : OpenClaim := { program := "ytgilijgbljgekaa", sum := "aa56868a59af1b10bef47198afeee9b4a7b334e2abd0ba239fbaa301f57a2337", func := "substation/substationlaw01.IntegerLimits", spec := "integerLimits", named := ["math/bits.overflowError"], apart := false }
def IntegerLimitsSaid : Prop := integerLimitsRow.holds Try.pinned (OpenSpec.ofChange integerLimitsSpec)

/-- ITS FALSE NEIGHBOUR: 'it returns false'. Refute it at one input. -/
def integerLimitsWrong : ChangeSpec := { name := "integerLimits", fn := fun _ => fun
  | [d1, d2, d3] => { results := [.lit (.bool false)], args := [d1, d2, d3] }
  | _ => none }
def IntegerLimitsWrongFalsely : Prop := integerLimitsRow.holds Try.pinned (OpenSpec.ofChange integerLimitsWrong)

/-- 'substationlaw01.IntegerSquares': WHATEVER THE INPUT: true; the input reads as it did. -/
def integerSquaresSpec : ChangeSpec := { name := "integerSquares", fn := fun _ => fun
  | [d1, d2] => { results := [.lit (.bool true)], args := [d1, d2] }
  | _ => none }
def integerSquaresRow : OpenClaim := { program := "ytgilijgbljgekaa", sum := "aa56868a59af1b10bef47198afeee9b4a7b334e2abd0ba239fbaa301f57a2337", func := "substation/substationlaw01.IntegerSquares", spec := "integerSquares", named := ["math/bits.overflowError"], apart := false }
def IntegerSquaresSaid : Prop := integerSquaresRow.holds Try.pinned (OpenSpec.ofChange integerSquaresSpec)

/-- ITS FALSE NEIGHBOUR: 'it returns false'. Refute it at one input. -/
def integerSquaresWrong : ChangeSpec := { name := "integerSquares", fn := fun _ => fun
  | [d1, d2] => { results := [.lit (.bool false)], args := [d1, d2] }
  | _ => none }
def IntegerSquaresWrongFalsely : Prop := integerSquaresRow.holds Try.pinned (OpenSpec.ofChange integerSquaresWrong)

/- THE SECOND FORM. 'bulk': how many values and letters a reading holds, each counted each time it is reached (what is shared counts as often as it is met; a slice's spare places count too). A statement '..UptoSaid' is the law's where the arguments, and the package variables that the reading takes, are together of bulk at most 1048576: NARROWER than '..Said'. Prove '..Said' where nothing that the law and all that it calls make is longer than what came in: it says more and counts as full. Else prove '..UptoSaid'. A law counts once. -/
mutual
def uptoBulk {H : Type} : DataW H → Nat
  | .lit (.string bytes) => bytes.length + 1
  | .lit _ => 1
  | .nil => 1
  | .ptr d => uptoBulk d + 1
  | .slice elems spare => uptoBulkAll elems + uptoBulkAll spare + 1
  | .agg parts => uptoBulkAll parts + 1
  | .iface _ d => uptoBulk d + 1
  | .map entries => uptoBulkEntries entries + 1
  | .held _ => 1
def uptoBulkAll {H : Type} : List (DataW H) → Nat
  | [] => 0
  | d :: r => uptoBulk d + uptoBulkAll r
def uptoBulkEntries {H : Type} : List (Lit × DataW H) → Nat
  | [] => 0
  | x :: r => uptoBulkEntry x + uptoBulkEntries r
def uptoBulkEntry {H : Type} : Lit × DataW H → Nat
  | (.string bytes, d) => bytes.length + uptoBulk d + 1
  | (_, d) => uptoBulk d + 1
 end
def uptoSmall : (H : Type) → List (DataW H) → Bool := fun _ ds => decide (uptoBulkAll ds ≤ 1048576)
def OpenSpec.upto (s : _root_.Go.ChangeSpec) : _root_.Go.OpenSpec := { _root_.Go.OpenSpec.ofChange s with cond := some uptoSmall }

/-- 'substationlaw01.IntegerValid', WHERE WHAT IT READS IS OF BULK AT MOST 1048576: true; the input reads as it did. -/
def integerValidUptoRow : OpenClaim := { program := "ytgilijgbljgekaa", sum := "aa56868a59af1b10bef47198afeee9b4a7b334e2abd0ba239fbaa301f57a2337", func := "substation/substationlaw01.IntegerValid", spec := "integerValid", named := ["math/bits.overflowError"], apart := false, narrowed := true }
def IntegerValidUptoSaid : Prop := integerValidUptoRow.holds Try.pinned (OpenSpec.upto integerValidSpec)

/-- 'substationlaw01.IntegerArithmetic', WHERE WHAT IT READS IS OF BULK AT MOST 1048576: true; the input reads as it did. -/
def integerArithmeticUptoRow : OpenClaim := { program := "ytgilijgbljgekaa", sum := "aa56868a59af1b10bef47198afeee9b4a7b334e2abd0ba239fbaa301f57a2337", func := "substation/substationlaw01.IntegerArithmetic", spec := "integerArithmetic", named := ["math/bits.overflowError"], apart := false, narrowed := true }
def IntegerArithmeticUptoSaid : Prop := integerArithmeticUptoRow.holds Try.pinned (OpenSpec.upto integerArithmeticSpec)

/-- 'substationlaw01.IntegerDivision', WHERE WHAT IT READS IS OF BULK AT MOST 1048576: true; the input reads as it did. -/
def integerDivisionUptoRow : OpenClaim := { program := "ytgilijgbljgekaa", sum := "aa56868a59af1b10bef47198afeee9b4a7b334e2abd0ba239fbaa301f57a2337", func := "substation/substationlaw01.IntegerDivision", spec := "integerDivision", named := ["math/bits.overflowError"], apart := false, narrowed := true }
def IntegerDivisionUptoSaid : Prop := integerDivisionUptoRow.holds Try.pinned (OpenSpec.upto integerDivisionSpec)

/-- 'substationlaw01.IntegerRing', WHERE WHAT IT READS IS OF BULK AT MOST 1048576: true; the input reads as it did. -/
def integerRingUptoRow : OpenClaim := { program := "ytgilijgbljgekaa", sum := "aa56868a59af1b10bef47198afeee9b4a7b334e2abd0ba239fbaa301f57a2337", func := "substation/substationlaw01.IntegerRing", spec := "integerRing", named := ["math/bits.overflowError"], apart := false, narrowed := true }
def IntegerRingUptoSaid : Prop := integerRingUptoRow.holds Try.pinned (OpenSpec.upto integerRingSpec)

/-- 'substationlaw01.IntegerEuclid', WHERE WHAT IT READS IS OF BULK AT MOST 1048576: true; the input reads as it did. -/
def integerEuclidUptoRow : OpenClaim := { program := "ytgilijgbljgekaa", sum := "aa56868a59af1b10bef47198afeee9b4a7b334e2abd0ba239fbaa301f57a2337", func := "substation/substationlaw01.IntegerEuclid", spec := "integerEuclid", named := ["math/bits.overflowError"], apart := false, narrowed := true }
def IntegerEuclidUptoSaid : Prop := integerEuclidUptoRow.holds Try.pinned (OpenSpec.upto integerEuclidSpec)

/-- 'substationlaw01.IntegerRoots', WHERE WHAT IT READS IS OF BULK AT MOST 1048576: true; the input reads as it did. -/
def integerRootsUptoRow : OpenClaim := { program := "ytgilijgbljgekaa", sum := "aa56868a59af1b10bef47198afeee9b4a7b334e2abd0ba239fbaa301f57a2337", func := "substation/substationlaw01.IntegerRoots", spec := "integerRoots", named := ["math/bits.overflowError"], apart := false, narrowed := true }
def IntegerRootsUptoSaid : Prop := integerRootsUptoRow.holds Try.pinned (OpenSpec.upto integerRootsSpec)

/-- 'substationlaw01.IntegerTexts', WHERE WHAT IT READS IS OF BULK AT MOST 1048576: true; the input reads as it did. -/
def integerTextsUptoRow : OpenClaim := { program := "ytgilijgbljgekaa", sum := "aa56868a59af1b10bef47198afeee9b4a7b334e2abd0ba239fbaa301f57a2337", func := "substation/substationlaw01.IntegerTexts", spec := "integerTexts", named := ["math/bits.overflowError"], apart := false, narrowed := true }
def IntegerTextsUptoSaid : Prop := integerTextsUptoRow.holds Try.pinned (OpenSpec.upto integerTextsSpec)

/-- 'substationlaw01.IntegerSmall', WHERE WHAT IT READS IS OF BULK AT MOST 1048576: true; the input reads as it did. -/
def integerSmallUptoRow : OpenClaim := { program := "ytgilijgbljgekaa", sum := "aa56868a59af1b10bef47198afeee9b4a7b334e2abd0ba239fbaa301f57a2337", func := "substation/substationlaw01.IntegerSmall", spec := "integerSmall", named := ["math/bits.overflowError"], apart := false, narrowed := true }
def IntegerSmallUptoSaid : Prop := integerSmallUptoRow.holds Try.pinned (OpenSpec.upto integerSmallSpec)

/-- 'substationlaw01.IntegerLimits', WHERE WHAT IT READS IS OF BULK AT MOST 1048576: true; the input reads as it did. -/
def integerLimitsUptoRow : OpenClaim := { program := "ytgilijgbljgekaa", sum := "aa56868a59af1b10bef47198afeee9b4a7b334e2abd0ba239fbaa301f57a2337", func := "substation/substationlaw01.IntegerLimits", spec := "integerLimits", named := ["math/bits.overflowError"], apart := false, narrowed := true }
def IntegerLimitsUptoSaid : Prop := integerLimitsUptoRow.holds Try.pinned (OpenSpec.upto integerLimitsSpec)

/-- 'substationlaw01.IntegerSquares', WHERE WHAT IT READS IS OF BULK AT MOST 1048576: true; the input reads as it did. -/
def integerSquaresUptoRow : OpenClaim := { program := "ytgilijgbljgekaa", sum := "aa56868a59af1b10bef47198afeee9b4a7b334e2abd0ba239fbaa301f57a2337", func := "substation/substationlaw01.IntegerSquares", spec := "integerSquares", named := ["math/bits.overflowError"], apart := false, narrowed := true }
def IntegerSquaresUptoSaid : Prop := integerSquaresUptoRow.holds Try.pinned (OpenSpec.upto integerSquaresSpec)

end Rows
end Go.Proofs.Ytgilijgbljgekaa
