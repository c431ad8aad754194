/- For every input, the products and norms are the specified ones: the given statement SurdProductsSaid. No condition. -/
import Derived.Test.YtdaeefbljdadfaaSb
import Derived.WalkKit
import Derived.ProofKit
import Derived.OpenShut
namespace Go.Proofs.Ytdaeefbljdadfaa
open Go.VD
set_option linter.unusedVariables false
set_option linter.unusedSimpArgs false
set_option maxRecDepth 100000
theorem surd_inv {cs : List D} (h : TFields T [(0, 3), (1, 3)] cs) : ∃ a b, cs = [.v (.int .i64 a), .v (.int .i64 b)] ∧ (-9223372036854775808 ≤ a ∧ a < 9223372036854775808) ∧ (-9223372036854775808 ≤ b ∧ b < 9223372036854775808) := by
  obtain ⟨p, r, rfl, h1, p2, r2, rfl, h2, rfl⟩ := h
  obtain ⟨a, rfl, ha⟩ := h1.int_inv T_3
  obtain ⟨b, rfl, hb⟩ := h2.int_inv T_3
  exact ⟨a, b, rfl, wf_i64 ha, wf_i64 hb⟩
end Go.Proofs.Ytdaeefbljdadfaa
namespace Go.Proofs.Ytdaeefbljdadfaa.surdProducts
open Go.ChangeShapes Go.WideShapes Go.ChangeAt Go.RowKit Go.VD
set_option linter.unusedVariables false
theorem own : ownKnob Try.prog.godebug = none := by kernel_rfl
theorem law : ∀ es, TArgs T Try.f5.params.toList es → PureJ Try.prog 5 es (.v (.bool true)) := by
  intro es h
  have h : TArgs T [23, 23] es := h
  obtain ⟨d0, r0, rfl, h0, d1, r1, rfl, h1, rfl⟩ := h
  obtain ⟨cs0, rfl, k0⟩ := targ_struct T_23 h0
  obtain ⟨a0, b0, rfl, ha0, hb0⟩ := surd_inv k0
  obtain ⟨cs1, rfl, k1⟩ := targ_struct T_23 h1
  obtain ⟨a1, b1, rfl, ha1, hb1⟩ := surd_inv k1
  exact lawProducts_pure a0 b0 a1 b1
set_option maxRecDepth 100000 in
theorem lifted (os : Os) (started : os.Started) (H : Type) (enc : TypeId × Value → H) :
    ReturnsInHanded {} Try.checked os 5 .any (Rows.surdProductsSpec.pre6 enc Try.prog Try.f5 Rows.surdProductsRow.domain false) (Rows.surdProductsSpec.post enc Try.prog Try.f5 false true false false) := by
  refine returnsInHanded_of_change (C := Try.checked) own started (by kernel_rfl) Try.func5
    (ChangeSpec.witness6 (enc := enc) (C := Try.checked) false ⟨#[], #[.agg #[.int .i64 0, .int .i64 0], .agg #[.int .i64 0, .int .i64 0]], []⟩ 8 (by kernel_rfl) (by kernel_rfl) (by kernel_rfl) (by kernel_rfl)) ?_
  intro W base args ds gs before hval hW hcnd _
  refine law_contract T_ok (by kernel_rfl) (fun t ht => ?_) rfl Try.underlying4 rfl (fun ds hl => ?_) law W base args ds gs before hval hW
  · have ht : t ∈ [23, 23] := ht
    simp only [List.mem_cons, List.not_mem_nil, or_false] at ht
    rcases ht with rfl | rfl <;> exact ⟨by kernel_rfl, by decide +kernel, by kernel_rfl⟩
  · match ds, hl with
    | [e0, e1], _ => exact ⟨rfl, rfl, rfl⟩
theorem over : Rows.surdProductsRow.holds Try.pinned (OpenSpec.ofChange Rows.surdProductsSpec) :=
  OpenClaim.holds_of_wide 5 Try.f5 rfl rfl rfl rfl rfl rfl rfl ⟨rfl, rfl, rfl, rfl, rfl⟩ rfl rfl rfl rfl rfl (by kernel_rfl) Try.func5 (by kernel_rfl)
    (of_decide_eq_true (by kernel_rfl)) (by unfold Func.isWrapper; first | (rw [if_pos (by decide +kernel)]; kernel_rfl) | (rw [if_neg (by decide +kernel)]; exact ⟨rfl, rfl⟩))
    (fun os started H enc _ => lifted os started H enc)
/-- the given statement -/
theorem proved : Rows.SurdProductsSaid := over
end Go.Proofs.Ytdaeefbljdadfaa.surdProducts
namespace Go.Proofs.Ytdaeefbljdadfaa
open Go.VD
end Go.Proofs.Ytdaeefbljdadfaa
