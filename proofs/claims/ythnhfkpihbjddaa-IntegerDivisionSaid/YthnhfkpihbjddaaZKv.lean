import Derived.Test.YthnhfkpihbjddaaZKv22
import Derived.Test.YthnhfkpihbjddaaRows
import Derived.WalkKit
import Derived.ProofKit
import Derived.OpenShut
/- For any two integers of at most 40 digits, Divide, Gcd and Root return what the specification returns: the given statement IntegerDivisionSaid. No condition. -/
namespace Go.Proofs.Ythnhfkpihbjddaa
open Go.VD
set_option linter.unusedVariables false
set_option linter.unusedSimpArgs false
set_option maxRecDepth 100000
end Go.Proofs.Ythnhfkpihbjddaa
namespace Go.Proofs.Ythnhfkpihbjddaa.integerDivision
open Go.ChangeShapes Go.WideShapes Go.ChangeAt Go.RowKit Go.VD
set_option linter.unusedVariables false
theorem own : ownKnob Try.prog.godebug = none := by kernel_rfl
theorem law : ∀ es, TArgs T Try.f3.params.toList es → PureJ Try.prog 3 es (.v (.bool true)) := by
  intro es h
  have h : TArgs T [24, 24] es := h
  obtain ⟨d0, r0, rfl, h0, d1, r1, rfl, h1, rfl⟩ := h
  obtain ⟨cs0, rfl, k0⟩ := targ_struct T_24 h0
  obtain ⟨b0, xs0, rfl, hx0⟩ := big_inv k0
  obtain ⟨cs1, rfl, k1⟩ := targ_struct T_24 h1
  obtain ⟨b1, xs1, rfl, hx1⟩ := big_inv k1
  exact lawDivision_pure b0 xs0 b1 xs1 ⟨hx0, hx1⟩
set_option maxRecDepth 100000 in
theorem lifted (os : Os) (started : os.Started) (H : Type) (enc : TypeId × Value → H) :
    ReturnsInHanded {} Try.checked os 3 .any (Rows.integerDivisionSpec.pre6 enc Try.prog Try.f3 Rows.integerDivisionRow.domain false) (Rows.integerDivisionSpec.post enc Try.prog Try.f3 false true false false) := by
  refine returnsInHanded_of_change (C := Try.checked) own started (by kernel_rfl) Try.func3
    (ChangeSpec.witness6 (enc := enc) (C := Try.checked) false ⟨#[], #[.agg #[.bool false, .slice none 0 0], .agg #[.bool false, .slice none 0 0]], []⟩ 8 (by kernel_rfl) (by kernel_rfl) (by kernel_rfl) (by kernel_rfl)) ?_
  intro W base args ds gs before hval hW hcnd _
  refine law_contract T_ok (by kernel_rfl) (fun t ht => ?_) rfl Try.underlying4 rfl (fun ds hl => ?_) law W (gok_nil rfl) base args ds gs before hval hW
  · have ht : t ∈ [24, 24] := ht
    simp only [List.mem_cons, List.not_mem_nil, or_false] at ht
    rcases ht with rfl | rfl <;> exact ⟨by kernel_rfl, by decide +kernel, by kernel_rfl⟩
  · match ds, hl with
    | [e0, e1], _ => exact ⟨rfl, rfl, rfl⟩
theorem over : Rows.integerDivisionRow.holds Try.pinned (OpenSpec.ofChange Rows.integerDivisionSpec) :=
  OpenClaim.holds_of_wide 3 Try.f3 rfl rfl rfl rfl rfl rfl rfl ⟨rfl, rfl, rfl, rfl, rfl⟩ rfl rfl rfl rfl rfl (by kernel_rfl) Try.func3 (by kernel_rfl)
    (of_decide_eq_true (by kernel_rfl)) (by unfold Func.isWrapper; first | (rw [if_pos (by decide +kernel)]; kernel_rfl) | (rw [if_neg (by decide +kernel)]; exact ⟨rfl, rfl⟩))
    (fun os started H enc _ => lifted os started H enc)
/-- the given statement -/
theorem proved : Rows.IntegerDivisionSaid := over
end Go.Proofs.Ythnhfkpihbjddaa.integerDivision
namespace Go.Proofs.Ythnhfkpihbjddaa
open Go.VD
end Go.Proofs.Ythnhfkpihbjddaa
