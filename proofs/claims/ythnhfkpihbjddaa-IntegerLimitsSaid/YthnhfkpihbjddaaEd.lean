/- Arguments: nil slices as empty slices. -/
import Derived.Test.YthnhfkpihbjddaaEa
import Derived.Test.YthnhfkpihbjddaaEc
namespace Go.VD
set_option linter.unusedVariables false
set_option linter.unusedSimpArgs false
mutual
def nilRo : D → D
  | .v x => match x with
    | .slice none 0 0 => .ro 0 []
    | y => .v y
  | .ro n xs => .ro n xs
  | .rp xs j => .rp xs j
  | .sl b o n c => .sl b o n c
  | .ptr b o => .ptr b o
  | .agg xs => .agg (nilRoL xs)
  | .tup xs => .tup (nilRoL xs)
  | .ifc t d => .ifc t d
  | .fn f k c => .fn f k c
def nilRoL : List D → List D
  | [] => []
  | d :: ds => nilRo d :: nilRoL ds
end
theorem nilRo_v {E : Ctx} {x u : Value} (h : u = x) : Rd E (nilRo (.v x)) u := by
  unfold nilRo
  split
  · exact ⟨by simp [NamelessL], none, 0, h, Nat.le_refl _, Nat.zero_le _, fun h => absurd h (Nat.lt_irrefl _)⟩
  · exact h
theorem nilRo_vn (x : Value) : Nameless (nilRo (.v x)) := by
  unfold nilRo
  split
  · simp [Nameless, NamelessL]
  · simp [Nameless]
mutual
theorem rd_nilRo {E : Ctx} : ∀ (d : D) (u : Value), Rd E d u → Rd E (nilRo d) u
  | .v x, u, h => nilRo_v h
  | .ro .., _, h => h
  | .rp .., _, h => h
  | .sl .., _, h => h
  | .ptr .., _, h => h
  | .agg xs, u, ⟨us, e, h⟩ => ⟨us, e, rdL_nilRo xs us.toList h⟩
  | .tup xs, u, ⟨us, e, h⟩ => ⟨us, e, rdT_nilRo xs us.toList h⟩
  | .ifc .., _, h => h
  | .fn .., _, h => h
theorem rdL_nilRo {E : Ctx} : ∀ (ds : List D) (us : List Value), RdL E ds us → RdL E (nilRoL ds) us
  | [], _, h => h
  | d :: ds, _, ⟨u, r, e, h1, h2, h3⟩ => ⟨u, r, e, h1, rd_nilRo d u h2, rdL_nilRo ds r h3⟩
theorem rdT_nilRo {E : Ctx} : ∀ (ds : List D) (us : List Value), RdT E ds us → RdT E (nilRoL ds) us
  | [], _, h => h
  | d :: ds, _, ⟨u, r, e, h2, h3⟩ => ⟨u, r, e, rd_nilRo d u h2, rdT_nilRo ds r h3⟩
end
mutual
theorem nameless_nilRo : ∀ d : D, Nameless (nilRo d) → Nameless d
  | .v _, _ => trivial
  | .ro .., h => h
  | .rp .., h => h
  | .sl .., h => h
  | .ptr .., h => h
  | .agg xs, h => namelessL_nilRo xs h
  | .tup xs, h => namelessL_nilRo xs h
  | .ifc .., h => h
  | .fn .., h => h
theorem namelessL_nilRo : ∀ ds : List D, NamelessL (nilRoL ds) → NamelessL ds
  | [], h => h
  | d :: ds, h => ⟨nameless_nilRo d h.1, namelessL_nilRo ds h.2⟩
end
theorem PureJ.nilRo {P : Program} {f : FuncId} {ds : List D} {d : D} (h : PureJ P f (nilRoL ds) d) : PureJ P f ds d :=
  ⟨h.callable, namelessL_nilRo ds h.args, h.res, fun S w vals hs hG hv => h.call S w vals hs hG (rdT_nilRo ds vals hv)⟩
/-- an entry that takes nil as the empty slice -/
def nilEnt (e : Ent) : Ent := fun ds => e (nilRoL ds)
theorem nilEnt_ok {P : Program} {f : FuncId} {e : Ent} (h : EntOk P f e) : EntOk P f (nilEnt e) := fun ds d c h1 h2 => (h _ _ _ h1 h2).nilRo
/-- an answer read with nil as the empty slice -/
def SealNil (H1 : Heap) (d1 d : D) : Prop := match sealD H1 d1 with
  | some (e, c) => c ∧ nilRo e = d
  | none => False
theorem fin_sealNil {P : Program} {ds : List D} {d1 d : D} {H1 : Heap} (h : SealNil H1 d1 d) : Fin ds [] d1 H1 d [] := by
  unfold SealNil at h
  split at h
  · rename_i e c hs
    obtain ⟨hc, rfl⟩ := h
    have hf : SealTo H1 d1 e := by unfold SealTo; rw [hs]; exact ⟨hc, rfl⟩
    intro ρ0 S0 w0 ρ S w u a1 a2 a3 a4
    obtain ⟨ρ', S', b1, b2, b3⟩ := fin_seal (ds := ds) hf ρ0 S0 w0 ρ S w u a1 a2 a3 a4
    exact ⟨ρ', S', b1, b2, rd_nilRo _ _ b3⟩
  · exact h.elim
theorem pureJ_of_vcpN {P : Program} {T : Tbl} {N : Nat} {call : CallO} {lp : Nat → Option LoopO} (hT : TblOk P T) (hm : P.follows .mixedOrders = true) (hc : CallOK P call) {f : FuncId} {fn : Func} {c : Code} {ds : List D} {d : D} (hf : P.funcs[f]? = some fn) (hb : fn.body = some c)
    (hname : (fn.name == "runtime.NumGoroutine") = false) (hok : codeOk fn.ntmps c = true) (hlen : decide (ds.length ≤ fn.ntmps) = true) (hl : LpAllP P fn.ntmps lp (loopsOf c)) (h1 : NamelessL ds) (h2 : Nameless d)
    (h : vcx P call lp T N c (retQ T fn.results.toList fun d1 H1 => SealNil H1 d1 d) (envOf 0 ds) []) : PureJ P f ds d := by
  refine PureJ.of_nil h1 h2 (callJ_of_dw hT hf hb hname (by simpa using hlen) ?_)
  intro ρ S w a hi
  refine wp_mono (vcp_sound hT hm hc c _ _ _ hok hl h ρ S w a hi) fun e a' w' ⟨env', H', ρ', S', g1, g2, g3⟩ => ?_
  have nl : ∀ ρ k, ¬ Live ρ [] k := fun ρ k ⟨b, blk, hb, _⟩ => by simp at hb
  refine ⟨env', H', ρ', S', ?_, g2, ⟨by simp, fun b hb => by simp at hb, g3.S, g3.keep, g3.new, g3.fix, g3.heap, g3.size, g3.os, g3.tape, g3.output⟩⟩
  cases e <;> simp only [retQ] at g1 ⊢
  all_goals first
    | exact g1.elim
    | (split at g1
       · exact ⟨g1.1, fin_sealNil (P := P) g1.2⟩
       · exact g1.elim)
/-- a loop whose rule depends on what stood before it -/
def exLoop {α : Type} (f : α → LoopO) : LoopO := fun env H Q => ∃ a, f a env H Q
theorem exLoop_rule {P : Program} {nt : Nat} {c : Code} {α : Type} {f : α → LoopO} (h : ∀ a, LRuleP P nt c (f a)) : LRuleP P nt c (exLoop f) := fun env H Q ⟨a, ha⟩ => h a env H Q ha
end Go.VD
