import Derived.Test.YthnhfkpihbjddaaZKw22
import Derived.Test.YthnhfkpihbjddaaZKw15
import Derived.Test.YthnhfkpihbjddaaRows
import Derived.WalkKit
import Derived.ProofKit
import Derived.OpenShut
/- For valid integers, not negative, of at most 40 digits, Root returns the integer square root: the given statement IntegerRootsSaid. No condition. -/
namespace Go.Proofs.Ythnhfkpihbjddaa
open Go.VD
set_option linter.unusedVariables false
set_option linter.unusedSimpArgs false
set_option maxRecDepth 100000
end Go.Proofs.Ythnhfkpihbjddaa
namespace Go.Proofs.Ythnhfkpihbjddaa.integerRoots
open Go.ChangeShapes Go.WideShapes Go.ChangeAt Go.RowKit Go.VD
set_option linter.unusedVariables false
theorem own : ownKnob Try.prog.godebug = none := by kernel_rfl
theorem law : ∀ es, TArgs T Try.f5.params.toList es → PureJ Try.prog 5 es (.v (.bool true)) := by
  intro es h
  have h : TArgs T [24] es := h
  obtain ⟨d0, r0, rfl, h0, rfl⟩ := h
  obtain ⟨cs0, rfl, k0⟩ := targ_struct T_24 h0
  obtain ⟨b0, xs0, rfl, hx0⟩ := big_inv k0
  exact lawRoots_pure b0 xs0 hx0
set_option maxRecDepth 100000 in
theorem lifted (os : Os) (started : os.Started) (H : Type) (enc : TypeId × Value → H) :
    ReturnsInHanded {} Try.checked os 5 .any (Rows.integerRootsSpec.pre6 enc Try.prog Try.f5 Rows.integerRootsRow.domain false) (Rows.integerRootsSpec.post enc Try.prog Try.f5 false true false false) := by
  refine returnsInHanded_of_change (C := Try.checked) own started (by kernel_rfl) Try.func5
    (ChangeSpec.witness6 (enc := enc) (C := Try.checked) false ⟨#[], #[.agg #[.bool false, .slice none 0 0]], []⟩ 8 (by kernel_rfl) (by kernel_rfl) (by kernel_rfl) (by kernel_rfl)) ?_
  intro W base args ds gs before hval hW hcnd _
  refine law_contract T_ok (by kernel_rfl) (fun t ht => ?_) rfl Try.underlying4 rfl (fun ds hl => ?_) law W (gok_nil rfl) base args ds gs before hval hW
  · have ht : t ∈ [24] := ht
    simp only [List.mem_cons, List.not_mem_nil, or_false] at ht
    rcases ht with rfl <;> exact ⟨by kernel_rfl, by decide +kernel, by kernel_rfl⟩
  · match ds, hl with
    | [e0], _ => exact ⟨rfl, rfl, rfl⟩
theorem over : Rows.integerRootsRow.holds Try.pinned (OpenSpec.ofChange Rows.integerRootsSpec) :=
  OpenClaim.holds_of_wide 5 Try.f5 rfl rfl rfl rfl rfl rfl rfl ⟨rfl, rfl, rfl, rfl, rfl⟩ rfl rfl rfl rfl rfl (by kernel_rfl) Try.func5 (by kernel_rfl)
    (of_decide_eq_true (by kernel_rfl)) (by unfold Func.isWrapper; first | (rw [if_pos (by decide +kernel)]; kernel_rfl) | (rw [if_neg (by decide +kernel)]; exact ⟨rfl, rfl⟩))
    (fun os started H enc _ => lifted os started H enc)
/-- the given statement -/
theorem proved : Rows.IntegerRootsSaid := over
end Go.Proofs.Ythnhfkpihbjddaa.integerRoots
namespace Go.Proofs.Ythnhfkpihbjddaa
open Go.VD
end Go.Proofs.Ythnhfkpihbjddaa
