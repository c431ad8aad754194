/- For every input, Sign is the specified sign: the given statement SurdSignsSaid. No condition. -/
import Derived.Test.YtdaeefbljdadfaaRf
namespace Go.Proofs.Ytdaeefbljdadfaa
open Go.VD
set_option linter.unusedVariables false
set_option linter.unusedSimpArgs false
set_option maxRecDepth 100000
end Go.Proofs.Ytdaeefbljdadfaa
namespace Go.Proofs.Ytdaeefbljdadfaa.surdSigns
open Go.ChangeShapes Go.WideShapes Go.ChangeAt Go.RowKit Go.VD
set_option linter.unusedVariables false
theorem own : ownKnob Try.prog.godebug = none := by kernel_rfl
theorem law : ∀ es, TArgs T Try.f3.params.toList es → PureJ Try.prog 3 es (.v (.bool true)) := by
  intro es h
  have h : TArgs T [23] es := h
  obtain ⟨d0, r0, rfl, h0, rfl⟩ := h
  obtain ⟨cs0, rfl, k0⟩ := targ_struct T_23 h0
  obtain ⟨a0, b0, rfl, ha0, hb0⟩ := surd_inv k0
  exact lawSigns_pure a0 b0 ⟨ha0, hb0⟩
set_option maxRecDepth 100000 in
theorem lifted (os : Os) (started : os.Started) (H : Type) (enc : TypeId × Value → H) :
    ReturnsInHanded {} Try.checked os 3 .any (Rows.surdSignsSpec.pre6 enc Try.prog Try.f3 Rows.surdSignsRow.domain false) (Rows.surdSignsSpec.post enc Try.prog Try.f3 false true false false) := by
  refine returnsInHanded_of_change (C := Try.checked) own started (by kernel_rfl) Try.func3
    (ChangeSpec.witness6 (enc := enc) (C := Try.checked) false ⟨#[], #[.agg #[.int .i64 0, .int .i64 0]], []⟩ 8 (by kernel_rfl) (by kernel_rfl) (by kernel_rfl) (by kernel_rfl)) ?_
  intro W base args ds gs before hval hW hcnd _
  refine law_contract T_ok (by kernel_rfl) (fun t ht => ?_) rfl Try.underlying4 rfl (fun ds hl => ?_) law W base args ds gs before hval hW
  · have ht : t ∈ [23] := ht
    simp only [List.mem_cons, List.not_mem_nil, or_false] at ht
    rcases ht with rfl <;> exact ⟨by kernel_rfl, by decide +kernel, by kernel_rfl⟩
  · match ds, hl with
    | [e0], _ => exact ⟨rfl, rfl, rfl⟩
theorem over : Rows.surdSignsRow.holds Try.pinned (OpenSpec.ofChange Rows.surdSignsSpec) :=
  OpenClaim.holds_of_wide 3 Try.f3 rfl rfl rfl rfl rfl rfl rfl ⟨rfl, rfl, rfl, rfl, rfl⟩ rfl rfl rfl rfl rfl (by kernel_rfl) Try.func3 (by kernel_rfl)
    (of_decide_eq_true (by kernel_rfl)) (by unfold Func.isWrapper; first | (rw [if_pos (by decide +kernel)]; kernel_rfl) | (rw [if_neg (by decide +kernel)]; exact ⟨rfl, rfl⟩))
    (fun os started H enc _ => lifted os started H enc)
/-- the given statement -/
theorem proved : Rows.SurdSignsSaid := over
end Go.Proofs.Ytdaeefbljdadfaa.surdSigns
namespace Go.Proofs.Ytdaeefbljdadfaa
open Go.VD
end Go.Proofs.Ytdaeefbljdadfaa
