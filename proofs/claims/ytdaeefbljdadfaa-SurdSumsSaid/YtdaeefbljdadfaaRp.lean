/- For every input, Add, Sub, Scale and Conj return what is specified: the given statement SurdSumsSaid. No condition. -/
import Derived.Test.YtdaeefbljdadfaaRi
import Derived.Test.YtdaeefbljdadfaaSc
namespace Go.Proofs.Ytdaeefbljdadfaa
open Go.VD
set_option linter.unusedVariables false
set_option linter.unusedSimpArgs false
set_option maxRecDepth 100000
end Go.Proofs.Ytdaeefbljdadfaa
namespace Go.Proofs.Ytdaeefbljdadfaa.surdSums
open Go.ChangeShapes Go.WideShapes Go.ChangeAt Go.RowKit Go.VD
set_option linter.unusedVariables false
theorem own : ownKnob Try.prog.godebug = none := by kernel_rfl
theorem law : ∀ es, TArgs T Try.f4.params.toList es → PureJ Try.prog 4 es (.v (.bool true)) := by
  intro es h
  have h : TArgs T [23, 23, 3] es := h
  obtain ⟨d0, r0, rfl, h0, d1, r1, rfl, h1, d2, r2, rfl, h2, rfl⟩ := h
  obtain ⟨cs0, rfl, k0⟩ := targ_struct T_23 h0
  obtain ⟨a0, b0, rfl, ha0, hb0⟩ := surd_inv k0
  obtain ⟨cs1, rfl, k1⟩ := targ_struct T_23 h1
  obtain ⟨a1, b1, rfl, ha1, hb1⟩ := surd_inv k1
  obtain ⟨n2, rfl, w2⟩ := targ_int T_3 h2
  have hn2 := wf_i64 w2
  exact lawSums_pure a0 b0 a1 b1 n2 ⟨ha0, hb0, hn2⟩
set_option maxRecDepth 100000 in
theorem lifted (os : Os) (started : os.Started) (H : Type) (enc : TypeId × Value → H) :
    ReturnsInHanded {} Try.checked os 4 .any (Rows.surdSumsSpec.pre6 enc Try.prog Try.f4 Rows.surdSumsRow.domain false) (Rows.surdSumsSpec.post enc Try.prog Try.f4 false true false false) := by
  refine returnsInHanded_of_change (C := Try.checked) own started (by kernel_rfl) Try.func4
    (ChangeSpec.witness6 (enc := enc) (C := Try.checked) false ⟨#[], #[.agg #[.int .i64 0, .int .i64 0], .agg #[.int .i64 0, .int .i64 0], .int .i64 0], []⟩ 8 (by kernel_rfl) (by kernel_rfl) (by kernel_rfl) (by kernel_rfl)) ?_
  intro W base args ds gs before hval hW hcnd _
  refine law_contract T_ok (by kernel_rfl) (fun t ht => ?_) rfl Try.underlying4 rfl (fun ds hl => ?_) law W base args ds gs before hval hW
  · have ht : t ∈ [23, 23, 3] := ht
    simp only [List.mem_cons, List.not_mem_nil, or_false] at ht
    rcases ht with rfl | rfl | rfl <;> exact ⟨by kernel_rfl, by decide +kernel, by kernel_rfl⟩
  · match ds, hl with
    | [e0, e1, e2], _ => exact ⟨rfl, rfl, rfl⟩
theorem over : Rows.surdSumsRow.holds Try.pinned (OpenSpec.ofChange Rows.surdSumsSpec) :=
  OpenClaim.holds_of_wide 4 Try.f4 rfl rfl rfl rfl rfl rfl rfl ⟨rfl, rfl, rfl, rfl, rfl⟩ rfl rfl rfl rfl rfl (by kernel_rfl) Try.func4 (by kernel_rfl)
    (of_decide_eq_true (by kernel_rfl)) (by unfold Func.isWrapper; first | (rw [if_pos (by decide +kernel)]; kernel_rfl) | (rw [if_neg (by decide +kernel)]; exact ⟨rfl, rfl⟩))
    (fun os started H enc _ => lifted os started H enc)
/-- the given statement -/
theorem proved : Rows.SurdSumsSaid := over
end Go.Proofs.Ytdaeefbljdadfaa.surdSums
namespace Go.Proofs.Ytdaeefbljdadfaa
open Go.VD
end Go.Proofs.Ytdaeefbljdadfaa
