/- Sums and products of valid integers obey the ring laws, and Sub and Neg undo Add: the given statement IntegerRingSaid. No condition. -/
import Derived.Test.YtgilijgbljgekaaIn
import Derived.Test.YtgilijgbljgekaaIj
import Derived.Test.YtgilijgbljgekaaLa
import Derived.Test.YtgilijgbljgekaaRows
import Derived.WalkKit
import Derived.ProofKit
import Derived.OpenShut
namespace Go.Proofs.Ytgilijgbljgekaa
open Go.VD
set_option linter.unusedVariables false
set_option linter.unusedSimpArgs false
set_option maxRecDepth 100000
end Go.Proofs.Ytgilijgbljgekaa
namespace Go.Proofs.Ytgilijgbljgekaa.integerRing
open Go.ChangeShapes Go.WideShapes Go.ChangeAt Go.RowKit Go.VD
set_option linter.unusedVariables false
theorem own : ownKnob Try.prog.godebug = none := by kernel_rfl
theorem law : ∀ es, TArgs T Try.f6.params.toList es → PureJ Try.prog 6 es (.v (.bool true)) := by
  intro es h
  have h : TArgs T [24, 24, 24] es := h
  obtain ⟨d0, r0, rfl, h0, d1, r1, rfl, h1, d2, r2, rfl, h2, rfl⟩ := h
  obtain ⟨cs0, rfl, k0⟩ := targ_struct T_24 h0
  obtain ⟨b0, xs0, rfl, hx0⟩ := big_inv k0
  obtain ⟨cs1, rfl, k1⟩ := targ_struct T_24 h1
  obtain ⟨b1, xs1, rfl, hx1⟩ := big_inv k1
  obtain ⟨cs2, rfl, k2⟩ := targ_struct T_24 h2
  obtain ⟨b2, xs2, rfl, hx2⟩ := big_inv k2
  exact lawRing_pure b0 xs0 b1 xs1 b2 xs2 ⟨hx0, hx1, hx2⟩
set_option maxRecDepth 100000 in
theorem lifted (os : Os) (started : os.Started) (H : Type) (enc : TypeId × Value → H) :
    ReturnsInHanded {} Try.checked os 6 .any (Rows.integerRingSpec.pre6 enc Try.prog Try.f6 Rows.integerRingRow.domain false) (Rows.integerRingSpec.post enc Try.prog Try.f6 false true false false) := by
  refine returnsInHanded_of_change (C := Try.checked) own started (by kernel_rfl) Try.func6
    (ChangeSpec.witness6 (enc := enc) (C := Try.checked) false ⟨#[], #[.agg #[.bool false, .slice none 0 0], .agg #[.bool false, .slice none 0 0], .agg #[.bool false, .slice none 0 0]], []⟩ 8 (by kernel_rfl) (by kernel_rfl) (by kernel_rfl) (by kernel_rfl)) ?_
  intro W base args ds gs before hval hW hcnd _
  refine law_contract T_ok (by kernel_rfl) (fun t ht => ?_) rfl Try.underlying4 rfl (fun ds hl => ?_) law W (gok_nil rfl) base args ds gs before hval hW
  · have ht : t ∈ [24, 24, 24] := ht
    simp only [List.mem_cons, List.not_mem_nil, or_false] at ht
    rcases ht with rfl | rfl | rfl <;> exact ⟨by kernel_rfl, by decide +kernel, by kernel_rfl⟩
  · match ds, hl with
    | [e0, e1, e2], _ => exact ⟨rfl, rfl, rfl⟩
theorem over : Rows.integerRingRow.holds Try.pinned (OpenSpec.ofChange Rows.integerRingSpec) :=
  OpenClaim.holds_of_wide 6 Try.f6 rfl rfl rfl rfl rfl rfl rfl ⟨rfl, rfl, rfl, rfl, rfl⟩ rfl rfl rfl rfl rfl (by kernel_rfl) Try.func6 (by kernel_rfl)
    (of_decide_eq_true (by kernel_rfl)) (by unfold Func.isWrapper; first | (rw [if_pos (by decide +kernel)]; kernel_rfl) | (rw [if_neg (by decide +kernel)]; exact ⟨rfl, rfl⟩))
    (fun os started H enc _ => lifted os started H enc)
/-- the given statement -/
theorem proved : Rows.IntegerRingSaid := over
end Go.Proofs.Ytgilijgbljgekaa.integerRing
namespace Go.Proofs.Ytgilijgbljgekaa
open Go.VD
end Go.Proofs.Ytgilijgbljgekaa
