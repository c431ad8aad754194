/- For any string, Number and Plain return what the specification returns: the given statement SyntaxWordsSaid. No condition. -/
import Derived.Test.YthnhfkpihbjddaaYi
import Derived.Test.YthnhfkpihbjddaaLa
import Derived.Test.YthnhfkpihbjddaaRows
import Derived.WalkKit
import Derived.ProofKit
import Derived.OpenShut
namespace Go.Proofs.Ythnhfkpihbjddaa
open Go.VD
set_option linter.unusedVariables false
set_option linter.unusedSimpArgs false
set_option maxRecDepth 100000
end Go.Proofs.Ythnhfkpihbjddaa
namespace Go.Proofs.Ythnhfkpihbjddaa.syntaxWords
open Go.ChangeShapes Go.WideShapes Go.ChangeAt Go.RowKit Go.VD
set_option linter.unusedVariables false
theorem own : ownKnob Try.prog.godebug = none := by kernel_rfl
theorem law : ∀ es, TArgs T Try.f8.params.toList es → PureJ Try.prog 8 es (.v (.bool true)) := by
  intro es h
  have h : TArgs T [9] es := h
  obtain ⟨d0, r0, rfl, h0, rfl⟩ := h
  obtain ⟨s0, rfl, hs0⟩ := targ_str T_9 h0
  exact lawWords_pure s0 hs0
set_option maxRecDepth 100000 in
theorem lifted (os : Os) (started : os.Started) (H : Type) (enc : TypeId × Value → H) :
    ReturnsInHanded {} Try.checked os 8 .any (Rows.syntaxWordsSpec.pre6 enc Try.prog Try.f8 Rows.syntaxWordsRow.domain false) (Rows.syntaxWordsSpec.post enc Try.prog Try.f8 false true false false) := by
  refine returnsInHanded_of_change (C := Try.checked) own started (by kernel_rfl) Try.func8
    (ChangeSpec.witness6 (enc := enc) (C := Try.checked) false ⟨#[], #[.string .empty], []⟩ 8 (by kernel_rfl) (by kernel_rfl) (by kernel_rfl) (by kernel_rfl)) ?_
  intro W base args ds gs before hval hW hcnd _
  refine law_contract T_ok (by kernel_rfl) (fun t ht => ?_) rfl Try.underlying4 rfl (fun ds hl => ?_) law W (gok_nil rfl) base args ds gs before hval hW
  · have ht : t ∈ [9] := ht
    simp only [List.mem_cons, List.not_mem_nil, or_false] at ht
    rcases ht with rfl <;> exact ⟨by kernel_rfl, by decide +kernel, by kernel_rfl⟩
  · match ds, hl with
    | [e0], _ => exact ⟨rfl, rfl, rfl⟩
theorem over : Rows.syntaxWordsRow.holds Try.pinned (OpenSpec.ofChange Rows.syntaxWordsSpec) :=
  OpenClaim.holds_of_wide 8 Try.f8 rfl rfl rfl rfl rfl rfl rfl ⟨rfl, rfl, rfl, rfl, rfl⟩ rfl rfl rfl rfl rfl (by kernel_rfl) Try.func8 (by kernel_rfl)
    (of_decide_eq_true (by kernel_rfl)) (by unfold Func.isWrapper; first | (rw [if_pos (by decide +kernel)]; kernel_rfl) | (rw [if_neg (by decide +kernel)]; exact ⟨rfl, rfl⟩))
    (fun os started H enc _ => lifted os started H enc)
/-- the given statement -/
theorem proved : Rows.SyntaxWordsSaid := over
end Go.Proofs.Ythnhfkpihbjddaa.syntaxWords
namespace Go.Proofs.Ythnhfkpihbjddaa
open Go.VD
end Go.Proofs.Ythnhfkpihbjddaa
