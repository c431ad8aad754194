/- Sums and products of the largest integers are those of the specification, and results of more than 400 digits are errors: the given statement IntegerLimitsSaid. No condition. -/
import Derived.Test.YthnhfkpihbjddaaMa
import Derived.Test.YthnhfkpihbjddaaLa
import Derived.Test.YthnhfkpihbjddaaRows
import Derived.WalkKit
import Derived.ProofKit
import Derived.OpenShut
namespace Go.Proofs.Ythnhfkpihbjddaa
open Go.VD
set_option linter.unusedVariables false
set_option linter.unusedSimpArgs false
set_option maxRecDepth 100000
end Go.Proofs.Ythnhfkpihbjddaa
namespace Go.Proofs.Ythnhfkpihbjddaa.integerLimits
open Go.ChangeShapes Go.WideShapes Go.ChangeAt Go.RowKit Go.VD
set_option linter.unusedVariables false
theorem own : ownKnob Try.prog.godebug = none := by kernel_rfl
theorem law : ∀ es, TArgs T Try.f6.params.toList es → PureJ Try.prog 6 es (.v (.bool true)) := by
  intro es h
  have h : TArgs T [3, 41, 4] es := h
  obtain ⟨d0, r0, rfl, h0, d1, r1, rfl, h1, d2, r2, rfl, h2, rfl⟩ := h
  obtain ⟨n0, rfl, w0⟩ := targ_int T_3 h0
  have hn0 := wf_i64 w0
  obtain ⟨n1, rfl, w1⟩ := targ_int T_41 h1
  have hn1 := wf_u32 w1
  obtain ⟨n2, rfl⟩ := targ_bool T_4 h2
  exact lawLimits_pure n0 n1 n2 ⟨hn0, hn1⟩
set_option maxRecDepth 100000 in
theorem lifted (os : Os) (started : os.Started) (H : Type) (enc : TypeId × Value → H) :
    ReturnsInHanded {} Try.checked os 6 .any (Rows.integerLimitsSpec.pre6 enc Try.prog Try.f6 Rows.integerLimitsRow.domain false) (Rows.integerLimitsSpec.post enc Try.prog Try.f6 false true false false) := by
  refine returnsInHanded_of_change (C := Try.checked) own started (by kernel_rfl) Try.func6
    (ChangeSpec.witness6 (enc := enc) (C := Try.checked) false ⟨#[], #[.int .i64 0, .int .u32 0, .bool false], []⟩ 8 (by kernel_rfl) (by kernel_rfl) (by kernel_rfl) (by kernel_rfl)) ?_
  intro W base args ds gs before hval hW hcnd _
  refine law_contract T_ok (by kernel_rfl) (fun t ht => ?_) rfl Try.underlying4 rfl (fun ds hl => ?_) law W (gok_nil rfl) base args ds gs before hval hW
  · have ht : t ∈ [3, 41, 4] := ht
    simp only [List.mem_cons, List.not_mem_nil, or_false] at ht
    rcases ht with rfl | rfl | rfl <;> exact ⟨by kernel_rfl, by decide +kernel, by kernel_rfl⟩
  · match ds, hl with
    | [e0, e1, e2], _ => exact ⟨rfl, rfl, rfl⟩
theorem over : Rows.integerLimitsRow.holds Try.pinned (OpenSpec.ofChange Rows.integerLimitsSpec) :=
  OpenClaim.holds_of_wide 6 Try.f6 rfl rfl rfl rfl rfl rfl rfl ⟨rfl, rfl, rfl, rfl, rfl⟩ rfl rfl rfl rfl rfl (by kernel_rfl) Try.func6 (by kernel_rfl)
    (of_decide_eq_true (by kernel_rfl)) (by unfold Func.isWrapper; first | (rw [if_pos (by decide +kernel)]; kernel_rfl) | (rw [if_neg (by decide +kernel)]; exact ⟨rfl, rfl⟩))
    (fun os started H enc _ => lifted os started H enc)
/-- the given statement -/
theorem proved : Rows.IntegerLimitsSaid := over
end Go.Proofs.Ythnhfkpihbjddaa.integerLimits
namespace Go.Proofs.Ythnhfkpihbjddaa
open Go.VD
end Go.Proofs.Ythnhfkpihbjddaa
