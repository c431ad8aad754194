import Derived.Test.YtahiigfpikohgaaZUj22
import Derived.Test.YtahiigfpikohgaaZUj11
import Derived.Test.YtahiigfpikohgaaRows
import Derived.WalkKit
import Derived.ProofKit
import Derived.OpenShut
/- The statements of two texts, one after the other, are the statements of the text that consists of both: the given statement SyntaxConcatenatesSaid. No condition. -/
namespace Go.Proofs.Ytahiigfpikohgaa
open Go.VD
set_option linter.unusedVariables false
set_option linter.unusedSimpArgs false
set_option maxRecDepth 100000
end Go.Proofs.Ytahiigfpikohgaa
namespace Go.Proofs.Ytahiigfpikohgaa.syntaxConcatenates
open Go.ChangeShapes Go.WideShapes Go.ChangeAt Go.RowKit Go.VD
set_option linter.unusedVariables false
theorem own : ownKnob Try.prog.godebug = none := by kernel_rfl
theorem law : ∀ es, TArgs T Try.f5.params.toList es → PureJ Try.prog 5 es (.v (.bool true)) := by
  intro es h
  have h : TArgs T [9, 9] es := h
  obtain ⟨d0, r0, rfl, h0, d1, r1, rfl, h1, rfl⟩ := h
  obtain ⟨s0, rfl, hs0⟩ := targ_str T_9 h0
  obtain ⟨s1, rfl, hs1⟩ := targ_str T_9 h1
  exact lawConcat_pure s0 s1 ⟨hs0, hs1⟩
set_option maxRecDepth 100000 in
theorem lifted (os : Os) (started : os.Started) (H : Type) (enc : TypeId × Value → H) :
    ReturnsInHanded {} Try.checked os 5 .any (Rows.syntaxConcatenatesSpec.pre6 enc Try.prog Try.f5 Rows.syntaxConcatenatesRow.domain false) (Rows.syntaxConcatenatesSpec.post enc Try.prog Try.f5 false true false false) := by
  refine returnsInHanded_of_change (C := Try.checked) own started (by kernel_rfl) Try.func5
    (ChangeSpec.witness6 (enc := enc) (C := Try.checked) false ⟨#[], #[.string .empty, .string .empty], []⟩ 8 (by kernel_rfl) (by kernel_rfl) (by kernel_rfl) (by kernel_rfl)) ?_
  intro W base args ds gs before hval hW hcnd _
  refine law_contract T_ok (by kernel_rfl) (fun t ht => ?_) rfl Try.underlying4 rfl (fun ds hl => ?_) law W (gok_nil rfl) base args ds gs before hval hW
  · have ht : t ∈ [9, 9] := ht
    simp only [List.mem_cons, List.not_mem_nil, or_false] at ht
    rcases ht with rfl | rfl <;> exact ⟨by kernel_rfl, by decide +kernel, by kernel_rfl⟩
  · match ds, hl with
    | [e0, e1], _ => exact ⟨rfl, rfl, rfl⟩
theorem over : Rows.syntaxConcatenatesRow.holds Try.pinned (OpenSpec.ofChange Rows.syntaxConcatenatesSpec) :=
  OpenClaim.holds_of_wide 5 Try.f5 rfl rfl rfl rfl rfl rfl rfl ⟨rfl, rfl, rfl, rfl, rfl⟩ rfl rfl rfl rfl rfl (by kernel_rfl) Try.func5 (by kernel_rfl)
    (of_decide_eq_true (by kernel_rfl)) (by unfold Func.isWrapper; first | (rw [if_pos (by decide +kernel)]; kernel_rfl) | (rw [if_neg (by decide +kernel)]; exact ⟨rfl, rfl⟩))
    (fun os started H enc _ => lifted os started H enc)
/-- the given statement -/
theorem proved : Rows.SyntaxConcatenatesSaid := over
end Go.Proofs.Ytahiigfpikohgaa.syntaxConcatenates
namespace Go.Proofs.Ytahiigfpikohgaa
open Go.VD
end Go.Proofs.Ytahiigfpikohgaa
