/- Arguments: nil slices as empty slices. -/
import Derived.Test.YtdaeefbljdadfaaEa
import Derived.Test.YtdaeefbljdadfaaEc
namespace Go.VD
set_option linter.unusedVariables false
set_option linter.unusedSimpArgs false
mutual
def nilRo : D → D
  | .v x => match x with
    | .slice none 0 0 => .ro 0 []
    | y => .v y
  | .ro n xs => .ro n xs
  | .rp xs j => .rp xs j
  | .sl b o n c => .sl b o n c
  | .ptr b o => .ptr b o
  | .agg xs => .agg (nilRoL xs)
  | .tup xs => .tup xs
  | .ifc t d => .ifc t d
  | .fn f c => .fn f c
def nilRoL : List D → List D
  | [] => []
  | d :: ds => nilRo d :: nilRoL ds
end
theorem nilRo_v {E : Ctx} {x u : Value} (h : u = x) : Rd E (nilRo (.v x)) u := by
  unfold nilRo
  split
  · exact ⟨by simp [NamelessL], none, 0, h, Nat.le_refl _, Nat.zero_le _, fun h => absurd h (Nat.lt_irrefl _)⟩
  · exact h
theorem nilRo_vn (x : Value) : Nameless (nilRo (.v x)) := by
  unfold nilRo
  split
  · simp [Nameless, NamelessL]
  · simp [Nameless]
mutual
theorem rd_nilRo {E : Ctx} : ∀ (d : D) (u : Value), Rd E d u → Rd E (nilRo d) u
  | .v x, u, h => nilRo_v h
  | .ro .., _, h => h
  | .rp .., _, h => h
  | .sl .., _, h => h
  | .ptr .., _, h => h
  | .agg xs, u, ⟨us, e, h⟩ => ⟨us, e, rdL_nilRo xs us.toList h⟩
  | .tup .., _, h => h
  | .ifc .., _, h => h
  | .fn .., _, h => h
theorem rdL_nilRo {E : Ctx} : ∀ (ds : List D) (us : List Value), RdL E ds us → RdL E (nilRoL ds) us
  | [], _, h => h
  | d :: ds, _, ⟨u, r, e, h1, h2, h3⟩ => ⟨u, r, e, h1, rd_nilRo d u h2, rdL_nilRo ds r h3⟩
end
theorem rdT_nilRo {E : Ctx} : ∀ (ds : List D) (us : List Value), RdT E ds us → RdT E (nilRoL ds) us
  | [], _, h => h
  | d :: ds, _, ⟨u, r, e, h2, h3⟩ => ⟨u, r, e, rd_nilRo d u h2, rdT_nilRo ds r h3⟩
mutual
theorem nameless_nilRo : ∀ d : D, Nameless (nilRo d) → Nameless d
  | .v _, _ => trivial
  | .ro .., h => h
  | .rp .., h => h
  | .sl .., h => h
  | .ptr .., h => h
  | .agg xs, h => namelessL_nilRo xs h
  | .tup .., h => h
  | .ifc .., h => h
  | .fn .., h => h
theorem namelessL_nilRo : ∀ ds : List D, NamelessL (nilRoL ds) → NamelessL ds
  | [], h => h
  | d :: ds, h => ⟨nameless_nilRo d h.1, namelessL_nilRo ds h.2⟩
end
theorem PureJ.nilRo {P : Program} {f : FuncId} {ds : List D} {d : D} (h : PureJ P f (nilRoL ds) d) : PureJ P f ds d :=
  ⟨h.callable, namelessL_nilRo ds h.args, h.res, fun S w vals hs hv => h.call S w vals hs (rdT_nilRo ds vals hv)⟩
/-- an entry that takes nil as the empty slice -/
def nilEnt (e : Ent) : Ent := fun ds => e (nilRoL ds)
theorem nilEnt_ok {P : Program} {f : FuncId} {e : Ent} (h : EntOk P f e) : EntOk P f (nilEnt e) := fun ds d c h1 h2 => (h _ _ _ h1 h2).nilRo
/-- a loop whose rule depends on what stood before it -/
def exLoop {α : Type} (f : α → LoopO) : LoopO := fun env H Q => ∃ a, f a env H Q
theorem exLoop_rule {P : Program} {nt : Nat} {c : Code} {α : Type} {f : α → LoopO} (h : ∀ a, LRuleP P nt c (f a)) : LRuleP P nt c (exLoop f) := fun env H Q ⟨a, ha⟩ => h a env H Q ha
end Go.VD
