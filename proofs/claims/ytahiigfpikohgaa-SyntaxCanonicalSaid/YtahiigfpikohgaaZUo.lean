import Derived.Test.YtahiigfpikohgaaZUo21
import Derived.Test.YtahiigfpikohgaaZUo11
import Derived.Test.YtahiigfpikohgaaRows
import Derived.WalkKit
import Derived.ProofKit
import Derived.OpenShut
/- For any text: what is parsed without an error is valid, and its canonical text, if it is not too long, is parsed to the same statements and is the canonical text of them; what is parsed with an error has no statements: the given statement SyntaxCanonicalSaid. No condition. -/
namespace Go.Proofs.Ytahiigfpikohgaa
open Go.VD
set_option linter.unusedVariables false
set_option linter.unusedSimpArgs false
set_option maxRecDepth 100000
end Go.Proofs.Ytahiigfpikohgaa
namespace Go.Proofs.Ytahiigfpikohgaa.syntaxCanonical
open Go.ChangeShapes Go.WideShapes Go.ChangeAt Go.RowKit Go.VD
set_option linter.unusedVariables false
theorem own : ownKnob Try.prog.godebug = none := by kernel_rfl
theorem law : ∀ es, TArgs T Try.f4.params.toList es → PureJ Try.prog 4 es (.v (.bool true)) := by
  intro es h
  have h : TArgs T [9] es := h
  obtain ⟨d0, r0, rfl, h0, rfl⟩ := h
  obtain ⟨s0, rfl, hs0⟩ := targ_str T_9 h0
  exact lawCanon_pure s0 hs0
set_option maxRecDepth 100000 in
theorem lifted (os : Os) (started : os.Started) (H : Type) (enc : TypeId × Value → H) :
    ReturnsInHanded {} Try.checked os 4 .any (Rows.syntaxCanonicalSpec.pre6 enc Try.prog Try.f4 Rows.syntaxCanonicalRow.domain false) (Rows.syntaxCanonicalSpec.post enc Try.prog Try.f4 false true false false) := by
  refine returnsInHanded_of_change (C := Try.checked) own started (by kernel_rfl) Try.func4
    (ChangeSpec.witness6 (enc := enc) (C := Try.checked) false ⟨#[], #[.string .empty], []⟩ 8 (by kernel_rfl) (by kernel_rfl) (by kernel_rfl) (by kernel_rfl)) ?_
  intro W base args ds gs before hval hW hcnd _
  refine law_contract T_ok (by kernel_rfl) (fun t ht => ?_) rfl Try.underlying4 rfl (fun ds hl => ?_) law W (gok_nil rfl) base args ds gs before hval hW
  · have ht : t ∈ [9] := ht
    simp only [List.mem_cons, List.not_mem_nil, or_false] at ht
    rcases ht with rfl <;> exact ⟨by kernel_rfl, by decide +kernel, by kernel_rfl⟩
  · match ds, hl with
    | [e0], _ => exact ⟨rfl, rfl, rfl⟩
theorem over : Rows.syntaxCanonicalRow.holds Try.pinned (OpenSpec.ofChange Rows.syntaxCanonicalSpec) :=
  OpenClaim.holds_of_wide 4 Try.f4 rfl rfl rfl rfl rfl rfl rfl ⟨rfl, rfl, rfl, rfl, rfl⟩ rfl rfl rfl rfl rfl (by kernel_rfl) Try.func4 (by kernel_rfl)
    (of_decide_eq_true (by kernel_rfl)) (by unfold Func.isWrapper; first | (rw [if_pos (by decide +kernel)]; kernel_rfl) | (rw [if_neg (by decide +kernel)]; exact ⟨rfl, rfl⟩))
    (fun os started H enc _ => lifted os started H enc)
/-- the given statement -/
theorem proved : Rows.SyntaxCanonicalSaid := over
end Go.Proofs.Ytahiigfpikohgaa.syntaxCanonical
namespace Go.Proofs.Ytahiigfpikohgaa
open Go.VD
end Go.Proofs.Ytahiigfpikohgaa
