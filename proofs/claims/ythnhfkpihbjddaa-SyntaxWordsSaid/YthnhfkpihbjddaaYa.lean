/- Strings: the model's own functions that count and find a byte; a run of law 4's examples but for strings.Clone. -/
import Derived.Test.YthnhfkpihbjddaaEb
import Derived.Test.YthnhfkpihbjddaaVt
import Derived.Lib.Bytealg
namespace Go.Proofs.Ythnhfkpihbjddaa
open Go.VD
set_option linter.unusedVariables false
set_option linter.unusedSimpArgs false
set_option maxRecDepth 100000

theorem rdT_byte {E : Ctx} {s : ByteArray} {c : Int} {vals : List Value} (h : RdT E [.v (.string s), .v (.int .u8 c)] vals) : vals = [.string s, .int .u8 c] := by
  simp only [RdT, Rd] at h
  obtain ⟨u, r, rfl, rfl, u2, r2, rfl, rfl, rfl⟩ := h
  rfl
theorem ext_count {P : Program} {f : FuncId} {fn : Func} (hf : P.funcs[f]? = some fn) (hname : (fn.name == "runtime.NumGoroutine") = false) (hb : fn.body.isNone = true) (hn : Extern.findNext fn = none) (he : Extern.find fn = some Extern.BytealgCount.count)
    (s : ByteArray) (c : Int) : ExtJ P f [.v (.string s), .v (.int .u8 c)] (.v (.int .i64 (Lib.countByte s.data.toList c.toNat.toUInt8 : Nat))) := by
  intro E vals w hr
  rw [rdT_byte hr]
  refine ⟨.int .i64 (Lib.countByte s.data.toList c.toNat.toUInt8 : Nat), ?_, by simp only [Rd]⟩
  rw [run_callFunc_extern hf hname hb hn he]
  have := Lib.run_countString (P := P) s c w
  simp only [this, Result.andThen]
theorem ext_index {P : Program} {f : FuncId} {fn : Func} (hf : P.funcs[f]? = some fn) (hname : (fn.name == "runtime.NumGoroutine") = false) (hb : fn.body.isNone = true) (hn : Extern.findNext fn = none) (he : Extern.find fn = some Extern.BytealgIndexByte.indexByte)
    (s : ByteArray) (c : Int) : ExtJ P f [.v (.string s), .v (.int .u8 c)] (.v (.int .i64 (Lib.indexByte s.data.toList c.toNat.toUInt8))) := by
  intro E vals w hr
  rw [rdT_byte hr]
  refine ⟨.int .i64 (Lib.indexByte s.data.toList c.toNat.toUInt8), ?_, by simp only [Rd]⟩
  rw [run_callFunc_extern hf hname hb hn he]
  have := Lib.run_indexByteString (P := P) s c w
  simp only [this, Result.andThen]
def ent_x_count : Ent := fun ds => match ds with
  | [.v (.string s), .v (.int .u8 c)] => some (.v (.int .i64 (Lib.countByte s.data.toList c.toNat.toUInt8 : Nat)), True)
  | _ => none
theorem ent_x_count_ok : ∀ ds d c, ent_x_count ds = some (d, c) → c → ExtJ Try.prog 148 ds d := by
  intro ds d c h hc; unfold ent_x_count at h; split at h
  · obtain ⟨rfl, rfl⟩ := pair_inj h
    exact ext_count Try.func148 (by kernel_rfl) (by kernel_rfl) (by kernel_rfl) (by kernel_rfl) _ _
  · cases h
def ent_x_index : Ent := fun ds => match ds with
  | [.v (.string s), .v (.int .u8 c)] => some (.v (.int .i64 (Lib.indexByte s.data.toList c.toNat.toUInt8)), True)
  | _ => none
theorem ent_x_index_ok : ∀ ds d c, ent_x_index ds = some (d, c) → c → ExtJ Try.prog 151 ds d := by
  intro ds d c h hc; unfold ent_x_index at h; split at h
  · obtain ⟨rfl, rfl⟩ := pair_inj h
    exact ext_index Try.func151 (by kernel_rfl) (by kernel_rfl) (by kernel_rfl) (by kernel_rfl) _ _
  · cases h
/-- closed calls, given strings.Clone -/
def synBase : VD.Callee := fun g ds H => bif Nat.beq g 145 then (match ds with
    | [.v (.string s)] => bif decide (s.size ≤ 1000000) then some (.v (.string s), H, .no) else none
    | _ => none) else
  bif Nat.beq g 148 then (match ent_x_count ds with
    | some (d, _) => some (d, H, .no)
    | none => none) else
  bif Nat.beq g 151 then (match ent_x_index ds with
    | some (d, _) => some (d, H, .no)
    | none => none) else none
theorem ent_x_count_true {ds : List D} {d : D} {c : Prop} (h : ent_x_count ds = some (d, c)) : c := by
  unfold ent_x_count at h; split at h
  · obtain ⟨_, rfl⟩ := pair_inj h; trivial
  · cases h
theorem ent_x_index_true {ds : List D} {d : D} {c : Prop} (h : ent_x_index ds = some (d, c)) : c := by
  unfold ent_x_index at h; split at h
  · obtain ⟨_, rfl⟩ := pair_inj h; trivial
  · cases h
theorem synBase_ok (hclone : ∀ s : ByteArray, s.size ≤ 1000000 → PureJ Try.prog 145 [.v (.string s)] (.v (.string s))) : CallOk Try.prog synBase := by
  intro g ds H d H' t h K hk
  unfold synBase at h
  cases h1 : Nat.beq g 145 with
  | true =>
    rw [h1] at h
    have e := Nat.eq_of_beq_eq_true h1
    subst e
    simp only [cond_true] at h
    split at h
    · rename_i s
      cases hd : decide (s.size ≤ 1000000) with
      | false => rw [hd] at h; cases h
      | true =>
        rw [hd] at h
        simp only [cond_true, Option.some.injEq, Prod.mk.injEq] at h
        obtain ⟨rfl, rfl, rfl⟩ := h
        exact .pure _ (hclone _ (of_decide_eq_true hd)) hk
    · cases h
  | false =>
    rw [h1] at h
    simp only [cond_false] at h
    cases h2 : Nat.beq g 148 with
    | true =>
      rw [h2] at h
      have e := Nat.eq_of_beq_eq_true h2
      subst e
      simp only [cond_true] at h
      split at h
      · rename_i d0 c0 he
        simp only [Option.some.injEq, Prod.mk.injEq] at h
        obtain ⟨rfl, rfl, rfl⟩ := h
        exact .ext _ (ent_x_count_ok _ _ _ he (ent_x_count_true he)) hk
      · cases h
    | false =>
      rw [h2] at h
      simp only [cond_false] at h
      cases h3 : Nat.beq g 151 with
      | true =>
        rw [h3] at h
        have e := Nat.eq_of_beq_eq_true h3
        subst e
        simp only [cond_true] at h
        split at h
        · rename_i d0 c0 he
          simp only [Option.some.injEq, Prod.mk.injEq] at h
          obtain ⟨rfl, rfl, rfl⟩ := h
          exact .ext _ (ent_x_index_ok _ _ _ he (ent_x_index_true he)) hk
        · cases h
      | false => rw [h3] at h; cases h
theorem synKnown_of (hclone : ∀ s : ByteArray, s.size ≤ 1000000 → PureJ Try.prog 145 [.v (.string s)] (.v (.string s))) : PureJ Try.prog 34 [] (.v (.bool true)) :=
  pure_of_ev T_ok mixed (synBase_ok hclone) (N := 1000) (n := 50) Try.func34 rfl (by kernel_rfl)
end Go.Proofs.Ythnhfkpihbjddaa
