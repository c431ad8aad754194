/- For every input, Of and Small are inverse, Compare is that of ints and sums of ints are exact: the given statement IntegerSmallSaid. No condition. -/
import Derived.Test.YtofanejhnnbanaaIc
import Derived.Test.YtofanejhnnbanaaRows
import Derived.WalkKit
import Derived.ProofKit
import Derived.OpenShut
namespace Go.Proofs.Ytofanejhnnbanaa
open Go.VD
set_option linter.unusedVariables false
set_option linter.unusedSimpArgs false
set_option maxRecDepth 100000
end Go.Proofs.Ytofanejhnnbanaa
namespace Go.Proofs.Ytofanejhnnbanaa.integerSmall
open Go.ChangeShapes Go.WideShapes Go.ChangeAt Go.RowKit Go.VD
set_option linter.unusedVariables false
theorem own : ownKnob Try.prog.godebug = none := by kernel_rfl
theorem law : ∀ es, TArgs T Try.f10.params.toList es → PureJ Try.prog 10 es (.v (.bool true)) := by
  intro es h
  have h : TArgs T [3, 3] es := h
  obtain ⟨d0, r0, rfl, h0, d1, r1, rfl, h1, rfl⟩ := h
  obtain ⟨n0, rfl, w0⟩ := targ_int T_3 h0
  have hn0 := wf_i64 w0
  obtain ⟨n1, rfl, w1⟩ := targ_int T_3 h1
  have hn1 := wf_i64 w1
  exact lawSmall_pure n0 n1 ⟨hn0, hn1⟩
set_option maxRecDepth 100000 in
theorem lifted (os : Os) (started : os.Started) (H : Type) (enc : TypeId × Value → H) :
    ReturnsInHanded {} Try.checked os 10 .any (Rows.integerSmallSpec.pre6 enc Try.prog Try.f10 Rows.integerSmallRow.domain false) (Rows.integerSmallSpec.post enc Try.prog Try.f10 false true false false) := by
  refine returnsInHanded_of_change (C := Try.checked) own started (by kernel_rfl) Try.func10
    (ChangeSpec.witness6 (enc := enc) (C := Try.checked) false ⟨#[], #[.int .i64 0, .int .i64 0], []⟩ 8 (by kernel_rfl) (by kernel_rfl) (by kernel_rfl) (by kernel_rfl)) ?_
  intro W base args ds gs before hval hW hcnd _
  refine law_contract T_ok (by kernel_rfl) (fun t ht => ?_) rfl Try.underlying4 rfl (fun ds hl => ?_) law W base args ds gs before hval hW
  · have ht : t ∈ [3, 3] := ht
    simp only [List.mem_cons, List.not_mem_nil, or_false] at ht
    rcases ht with rfl | rfl <;> exact ⟨by kernel_rfl, by decide +kernel, by kernel_rfl⟩
  · match ds, hl with
    | [e0, e1], _ => exact ⟨rfl, rfl, rfl⟩
theorem over : Rows.integerSmallRow.holds Try.pinned (OpenSpec.ofChange Rows.integerSmallSpec) :=
  OpenClaim.holds_of_wide 10 Try.f10 rfl rfl rfl rfl rfl rfl rfl ⟨rfl, rfl, rfl, rfl, rfl⟩ rfl rfl rfl rfl rfl (by kernel_rfl) Try.func10 (by kernel_rfl)
    (of_decide_eq_true (by kernel_rfl)) (by unfold Func.isWrapper; first | (rw [if_pos (by decide +kernel)]; kernel_rfl) | (rw [if_neg (by decide +kernel)]; exact ⟨rfl, rfl⟩))
    (fun os started H enc _ => lifted os started H enc)
/-- the given statement -/
theorem proved : Rows.IntegerSmallSaid := over
end Go.Proofs.Ytofanejhnnbanaa.integerSmall
namespace Go.Proofs.Ytofanejhnnbanaa
open Go.VD
end Go.Proofs.Ytofanejhnnbanaa
