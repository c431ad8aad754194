/- For every input, sums and products of small numbers obey the ring laws, and Root(0) is the unit: the given statement CycloRingCardSaid. Condition: the package-level table of powers reads as the program's text lays it (the card ties it). -/
import Derived.Test.YtbjjlngchidikaaDoorCj
import Derived.Test.YtbjjlngchidikaaDoorCq
namespace Go.Proofs.YtbjjlngchidikaaDoor
open Go.VD
set_option linter.unusedVariables false
set_option linter.unusedSimpArgs false
set_option maxRecDepth 100000
end Go.Proofs.YtbjjlngchidikaaDoor
namespace Go.Proofs.YtbjjlngchidikaaDoor.cycloRing
open Go.ChangeShapes Go.WideShapes Go.ChangeAt Go.RowKit Go.VD
set_option linter.unusedVariables false
theorem own : ownKnob Tryd.prog.godebug = none := by kernel_rfl
theorem law : ∀ es, TArgs T Tryd.f6.params.toList es → PureJ Tryd.prog 6 es (.v (.bool true)) := by
  intro es h
  have h : TArgs T [23, 23, 23] es := h
  obtain ⟨d0, r0, rfl, h0, d1, r1, rfl, h1, d2, r2, rfl, h2, rfl⟩ := h
  obtain ⟨a0, b0, c0, d0, rfl, w0⟩ := targ_cyc h0
  obtain ⟨a1, b1, c1, d1, rfl, w1⟩ := targ_cyc h1
  obtain ⟨a2, b2, c2, d2, rfl, w2⟩ := targ_cyc h2
  exact lawRing_pure a0 b0 c0 d0 a1 b1 c1 d1 a2 b2 c2 d2
theorem door_met (os : Os) (args : Array Value) : laidMetH Tryd.prog Rows.cycloRingRow.laid ((World.doorLaid Tryd.prog 20 os).forCall (fun _ _ => 0) ⟨#[], args, []⟩).memory :=
  laidMetH_of_parts3 (fuel := 8) (laidMet_of_run' 8 (by kernel_rfl) (by kernel_rfl)) (by kernel_rfl) (by kernel_rfl)
set_option maxRecDepth 100000 in
theorem lifted (os : Os) (started : os.Started) (H : Type) (enc : TypeId × Value → H) :
    ReturnsInHanded {} Tryd.checked os 6 .any (fun w args => (Rows.cycloRingSpec.pre enc Tryd.prog Tryd.f6 [] false w args ∧ laidMetH Tryd.prog Rows.cycloRingRow.laid w) ∧ sizedMet enc Tryd.prog Tryd.f6 (OpenSpec.ofChange Rows.cycloRingSpec) false w args) (Rows.cycloRingSpec.post enc Tryd.prog Tryd.f6 false true false false) := by
  refine returnsInHanded_of_change_and (C := Tryd.checked) (X := fun w _ => laidMetH Tryd.prog Rows.cycloRingRow.laid w) (fun _ _ _ hh h => h.of_heap hh) own started (by kernel_rfl) Tryd.func6
    (ChangeSpec.witness_shaped (enc := enc) (C := Tryd.checked) (os := os) (X := fun w _ => laidMetH Tryd.prog Rows.cycloRingRow.laid w) false (World.doorLaid Tryd.prog 20 os) #[.agg #[.int .i64 0, .int .i64 0, .int .i64 0, .int .i64 0], .agg #[.int .i64 0, .int .i64 0, .int .i64 0, .int .i64 0], .agg #[.int .i64 0, .int .i64 0, .int .i64 0, .int .i64 0]] 8 rfl (World.shaped_of_RefB (by kernel_rfl) (by kernel_rfl)) (by kernel_rfl) (by kernel_rfl) (by kernel_rfl) (door_met os _)) ?_
  intro W base args ds gs before hval hW _ _ hL _
  have hL' : laidMet Tryd.prog Rows.cycloRingRow.laid W := by rwa [MakeChecks.laidMetH_plain _ _ _ (by kernel_rfl)] at hL
  refine law_contract T_ok (by kernel_rfl) (fun t ht => ?_) rfl Tryd.underlying4 rfl (fun ds hl => ?_) law W (gok_of_laid T_ok (by kernel_rfl) hL') base args ds gs before hval hW
  · have ht : t ∈ [23, 23, 23] := ht
    simp only [List.mem_cons, List.not_mem_nil, or_false] at ht
    rcases ht with rfl | rfl | rfl <;> exact ⟨by kernel_rfl, by decide +kernel, by kernel_rfl⟩
  · match ds, hl with
    | [e0, e1, e2], _ => exact ⟨rfl, rfl, rfl⟩
theorem over : Rows.cycloRingRow.holds Tryd.pinned (OpenSpec.ofChange Rows.cycloRingSpec) :=
  OpenClaim.holds_of_wide 6 Tryd.f6 rfl rfl rfl rfl rfl rfl rfl ⟨rfl, rfl, rfl, rfl, rfl⟩ rfl rfl rfl rfl rfl (by kernel_rfl) Tryd.func6 (by kernel_rfl)
    (of_decide_eq_true (by kernel_rfl)) (by unfold Func.isWrapper; first | (rw [if_pos (by decide +kernel)]; kernel_rfl) | (rw [if_neg (by decide +kernel)]; exact ⟨rfl, rfl⟩))
    (fun os started H enc _ => lifted os started H enc)
/-- the given statement: the card -/
theorem proved : Rows.CycloRingCardSaid :=
  Claim7.holds_tied_plain_at .later [] [.data] true (true, "cf5f55265944fadbe8bd3f84bfe0a1a42e0683ae11d4f7aa8586ef26e2b77bac") false
    over (fun _ h => by cases h) (by kernel_rfl) (fun _ h => by cases h) cycloRing_row_tie rfl ⟨rfl, rfl⟩ (by kernel_rfl) rfl
    (fun f fn hf hfn => by
      obtain rfl : f = 6 := Option.some.inj ((show Tryd.prog.funcNamed "substation/substationlaw03.CycloRing" = some 6 by kernel_rfl).symm.trans hf) |>.symm
      obtain rfl : fn = Tryd.f6 := (Option.some.inj (Tryd.func6.symm.trans hfn)).symm
      exact ⟨by kernel_rfl, fun j t ht => by
        rw [Tryd.params6] at ht
        have hm : t ∈ [23, 23, 23] := by simpa using Array.mem_of_getElem? ht
        have hall : ([23, 23, 23].all fun u => !Tryd.prog.wantsStandIn u) = true := by kernel_rfl
        exact (show Tryd.prog.wantsStandIn t = false by simpa using List.all_eq_true.1 hall t hm)⟩)
    (by kernel_rfl)
end Go.Proofs.YtbjjlngchidikaaDoor.cycloRing
namespace Go.Proofs.YtbjjlngchidikaaDoor
open Go.VD
end Go.Proofs.YtbjjlngchidikaaDoor
