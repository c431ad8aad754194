import Derived.Test.YtbgnjnjnlkjicaaDoorZAz9
import Derived.SevenTiedAt
import Derived.LaidMore
import Derived.Stop.Joined
import Derived.WalkKit
import Derived.ProofKit
import Derived.OpenShut
import Derived.Test.YtbgnjnjnlkjicaaDoorZAz22
import Derived.Test.YtbgnjnjnlkjicaaDoorZAz7
/- For every input, Check, Same and Name give what the specification gives: the given statement StationChecksCardSaid. Condition: the listed package variables read as the program's text lays them (the card ties it). -/
namespace Go.Proofs.YtbgnjnjnlkjicaaDoor
open Go.VD
set_option linter.unusedVariables false
set_option linter.unusedSimpArgs false
set_option maxRecDepth 100000
end Go.Proofs.YtbgnjnjnlkjicaaDoor
namespace Go.Proofs.YtbgnjnjnlkjicaaDoor.stationChecks
open Go.ChangeShapes Go.WideShapes Go.ChangeAt Go.RowKit Go.VD
set_option linter.unusedVariables false
theorem own : ownKnob Tryd.prog.godebug = none := by kernel_rfl
theorem law : ∀ es, TArgs T Tryd.f3.params.toList es → PureJ Tryd.prog 3 es (.v (.bool true)) := by
  intro es h
  have h : TArgs T [27, 27, 9] es := h
  obtain ⟨d0, r0, rfl, h0, d1, r1, rfl, h1, d2, r2, rfl, h2, rfl⟩ := h
  obtain ⟨s0, rfl, k0⟩ := targ_stn h0
  obtain ⟨s1, rfl, k1⟩ := targ_stn h1
  obtain ⟨s2, rfl, hs2⟩ := targ_str T_9 h2
  exact lawStn_pure s0 s1 s2 ⟨k0, k1, hs2⟩
theorem door_met (os : Os) (args : Array Value) : laidMetH Tryd.prog Rows.stationChecksRow.laid ((World.doorLaid Tryd.prog 33 os).forCall (fun _ _ => 0) ⟨#[], args, []⟩).memory :=
  laidMetH_of_parts3 (fuel := 8) (laidMet_of_run' 8 (by kernel_rfl) (by kernel_rfl)) (by kernel_rfl) (by kernel_rfl)
set_option maxRecDepth 100000 in
theorem lifted (os : Os) (started : os.Started) (H : Type) (enc : TypeId × Value → H) :
    ReturnsInHanded {} Tryd.checked os 3 .any (fun w args => (Rows.stationChecksSpec.pre enc Tryd.prog Tryd.f3 [] false w args ∧ laidMetH Tryd.prog Rows.stationChecksRow.laid w) ∧ sizedMet enc Tryd.prog Tryd.f3 (OpenSpec.ofChange Rows.stationChecksSpec) false w args) (Rows.stationChecksSpec.post enc Tryd.prog Tryd.f3 false true false false) := by
  refine returnsInHanded_of_change_and (C := Tryd.checked) (X := fun w _ => laidMetH Tryd.prog Rows.stationChecksRow.laid w) (fun _ _ _ hh h => h.of_heap hh) own started (by kernel_rfl) Tryd.func3
    (ChangeSpec.witness_shaped (enc := enc) (C := Tryd.checked) (os := os) (X := fun w _ => laidMetH Tryd.prog Rows.stationChecksRow.laid w) false (World.doorLaid Tryd.prog 33 os) #[.agg #[.string .empty, .slice none 0 0, .slice none 0 0, .slice none 0 0, .slice none 0 0], .agg #[.string .empty, .slice none 0 0, .slice none 0 0, .slice none 0 0, .slice none 0 0], .string .empty] 8 rfl (World.shaped_of_RefB (by kernel_rfl) (by kernel_rfl)) (by kernel_rfl) (by kernel_rfl) (by kernel_rfl) (door_met os _)) ?_
  intro W base args ds gs before hval hW _ _ hL _
  have hL' : laidMet Tryd.prog Rows.stationChecksRow.laid W := by rwa [MakeChecks.laidMetH_plain _ _ _ (by kernel_rfl)] at hL
  refine law_contract T_ok (by kernel_rfl) (fun t ht => ?_) rfl Tryd.underlying4 rfl (fun ds hl => ?_) law W (gok_of_laid T_ok (by kernel_rfl) hL') base args ds gs before hval hW
  · have ht : t ∈ [27, 27, 9] := ht
    simp only [List.mem_cons, List.not_mem_nil, or_false] at ht
    rcases ht with rfl | rfl | rfl <;> exact ⟨by kernel_rfl, by decide +kernel, by kernel_rfl⟩
  · match ds, hl with
    | [e0, e1, e2], _ => exact ⟨rfl, rfl, rfl⟩
theorem over : Rows.stationChecksRow.holds Tryd.pinned (OpenSpec.ofChange Rows.stationChecksSpec) :=
  OpenClaim.holds_of_wide 3 Tryd.f3 rfl rfl rfl rfl rfl rfl rfl ⟨rfl, rfl, rfl, rfl, rfl⟩ rfl rfl rfl rfl rfl (by kernel_rfl) Tryd.func3 (by kernel_rfl)
    (of_decide_eq_true (by kernel_rfl)) (by unfold Func.isWrapper; first | (rw [if_pos (by decide +kernel)]; kernel_rfl) | (rw [if_neg (by decide +kernel)]; exact ⟨rfl, rfl⟩))
    (fun os started H enc _ => lifted os started H enc)
/-- the given statement: the card -/
theorem proved : Rows.StationChecksCardSaid :=
  Claim7.holds_tied_plain_at .later [] [.listed, .data] true (true, "4f645f889fa4c84caa0c9dc9a66093a0ea769bfd590b8bf8cf9a516f6141c63c") false
    over (fun _ h => by cases h) (by kernel_rfl) (fun _ h => by cases h) stationChecks_row_tie rfl ⟨rfl, rfl⟩ (by kernel_rfl) rfl
    (fun f fn hf hfn => by
      obtain rfl : f = 3 := Option.some.inj ((show Tryd.prog.funcNamed "substation/substationlaw05.StationChecks" = some 3 by kernel_rfl).symm.trans hf) |>.symm
      obtain rfl : fn = Tryd.f3 := (Option.some.inj (Tryd.func3.symm.trans hfn)).symm
      exact ⟨by kernel_rfl, fun j t ht => by
        rw [Tryd.params3] at ht
        have hm : t ∈ [27, 27, 9] := by simpa using Array.mem_of_getElem? ht
        have hall : ([27, 27, 9].all fun u => !Tryd.prog.wantsStandIn u) = true := by kernel_rfl
        exact (show Tryd.prog.wantsStandIn t = false by simpa using List.all_eq_true.1 hall t hm)⟩)
    (by kernel_rfl)
end Go.Proofs.YtbgnjnjnlkjicaaDoor.stationChecks
namespace Go.Proofs.YtbgnjnjnlkjicaaDoor
open Go.VD
end Go.Proofs.YtbgnjnjnlkjicaaDoor
