import Derived.Test.YtahiigfpikohgaaZTr23
import Derived.Test.YtahiigfpikohgaaZTr16
import Derived.Test.YtahiigfpikohgaaRows
import Derived.WalkKit
import Derived.ProofKit
import Derived.OpenShut
/- For any two lists of statements, Check, Format, Count and Same of the program agree with the specification (where neither is nested more than 12 deep, as the statement itself says): the given statement SyntaxChecksSaid. No condition. -/
namespace Go.Proofs.Ytahiigfpikohgaa
open Go.VD
set_option linter.unusedVariables false
set_option linter.unusedSimpArgs false
set_option maxRecDepth 100000
end Go.Proofs.Ytahiigfpikohgaa
namespace Go.Proofs.Ytahiigfpikohgaa.syntaxChecks
open Go.ChangeShapes Go.WideShapes Go.ChangeAt Go.RowKit Go.VD
set_option linter.unusedVariables false
theorem own : ownKnob Try.prog.godebug = none := by kernel_rfl
theorem law : ∀ es, TArgs T Try.f3.params.toList es → PureJ Try.prog 3 es (.v (.bool true)) := by
  intro es h
  have h : TArgs T [22, 22] es := h
  obtain ⟨d0, r0, rfl, h0, d1, r1, rfl, h1, rfl⟩ := h
  obtain ⟨l0, rfl, k0⟩ := targ_items h0
  obtain ⟨l1, rfl, k1⟩ := targ_items h1
  exact lawChecks_pure l0 l1 ⟨⟨k0.2, k0.1⟩, k1.2, k1.1⟩
set_option maxRecDepth 100000 in
theorem lifted (os : Os) (started : os.Started) (H : Type) (enc : TypeId × Value → H) :
    ReturnsInHanded {} Try.checked os 3 .any (Rows.syntaxChecksSpec.pre6 enc Try.prog Try.f3 Rows.syntaxChecksRow.domain false) (Rows.syntaxChecksSpec.post enc Try.prog Try.f3 false true false false) := by
  refine returnsInHanded_of_change (C := Try.checked) own started (by kernel_rfl) Try.func3
    (ChangeSpec.witness6 (enc := enc) (C := Try.checked) false ⟨#[], #[.slice none 0 0, .slice none 0 0], []⟩ 8 (by kernel_rfl) (by kernel_rfl) (by kernel_rfl) (by kernel_rfl)) ?_
  intro W base args ds gs before hval hW hcnd _
  refine law_contract T_ok (by kernel_rfl) (fun t ht => ?_) rfl Try.underlying4 rfl (fun ds hl => ?_) law W (gok_nil rfl) base args ds gs before hval hW
  · have ht : t ∈ [22, 22] := ht
    simp only [List.mem_cons, List.not_mem_nil, or_false] at ht
    rcases ht with rfl | rfl <;> exact ⟨by kernel_rfl, by decide +kernel, by kernel_rfl⟩
  · match ds, hl with
    | [e0, e1], _ => exact ⟨rfl, rfl, rfl⟩
theorem over : Rows.syntaxChecksRow.holds Try.pinned (OpenSpec.ofChange Rows.syntaxChecksSpec) :=
  OpenClaim.holds_of_wide 3 Try.f3 rfl rfl rfl rfl rfl rfl rfl ⟨rfl, rfl, rfl, rfl, rfl⟩ rfl rfl rfl rfl rfl (by kernel_rfl) Try.func3 (by kernel_rfl)
    (of_decide_eq_true (by kernel_rfl)) (by unfold Func.isWrapper; first | (rw [if_pos (by decide +kernel)]; kernel_rfl) | (rw [if_neg (by decide +kernel)]; exact ⟨rfl, rfl⟩))
    (fun os started H enc _ => lifted os started H enc)
/-- the given statement -/
theorem proved : Rows.SyntaxChecksSaid := over
end Go.Proofs.Ytahiigfpikohgaa.syntaxChecks
namespace Go.Proofs.Ytahiigfpikohgaa
open Go.VD
end Go.Proofs.Ytahiigfpikohgaa
