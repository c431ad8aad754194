/- Calls on data; one step of a region on data. -/
import Derived.Test.YthnhfkpihbjddaaVj
import Derived.KernelRfl
namespace Go.VD
set_option linter.unusedVariables false
set_option linter.unusedSimpArgs false

theorem Rd.move {ρ ρ' : Nat → Nat × Nat} {S : Nat → Prop} {w : World} {H H' : Heap} {d : D} {u : Value} (hn : Nameless d) (h : Rd (ctx ρ S w H) d u) : Rd (ctx ρ' S w H') d u :=
  Rd.nameless (E := ctx ρ S w H) (E' := ctx ρ' S w H') (fun _ h => h) (fun _ _ => rfl) d u hn h
theorem RdT.move {ρ ρ' : Nat → Nat × Nat} {S : Nat → Prop} {w : World} {H H' : Heap} {ds : List D} {us : List Value} (hn : NamelessL ds) (h : RdT (ctx ρ S w H) ds us) : RdT (ctx ρ' S w H') ds us :=
  RdT.nameless (E := ctx ρ S w H) (E' := ctx ρ' S w H') (fun _ h => h) (fun _ _ => rfl) ds us hn h

theorem Rd.moveS {ρ ρ' : Nat → Nat × Nat} {S S' : Nat → Prop} {w : World} {H H' : Heap} {d : D} {u : Value} (hs : ∀ k, S k → S' k) (hn : Nameless d) (h : Rd (ctx ρ S w H) d u) : Rd (ctx ρ' S' w H') d u :=
  Rd.nameless (E := ctx ρ S w H) (E' := ctx ρ' S' w H') hs (fun _ _ => rfl) d u hn h

def Callable (P : Program) (f : FuncId) : Prop := ∃ fn, P.funcs[f]? = some fn ∧ fn.body.isNone = false ∧ (fn.name == "runtime.NumGoroutine") = false

/-- Called with arguments that read as ds, over the blocks H, function f hands back d and leaves H'. -/
def CallJ (P : Program) (f : FuncId) (ds : List D) (H : Heap) (d : D) (H' : Heap) : Prop :=
  Callable P f ∧ ∀ ρ S w vals, St ρ S w H → RdT (ctx ρ S w H) ds vals →
    Calls P f vals.toArray w fun e w' => ∃ v ρ' S', e = .returned v ∧ St ρ' S' w' H' ∧ (ctx ρ S w H).le (ctx ρ' S' w' H') ∧ Rd (ctx ρ' S' w' H') d v
/-- The same where no block of the caller's is touched, and none is handed over. -/
structure PureJ (P : Program) (f : FuncId) (ds : List D) (d : D) : Prop where
  callable : Callable P f
  args : NamelessL ds
  res : Nameless d
  call : ∀ (S : Nat → Prop) (w : World) (vals : List Value), (∀ k, S k → k < w.heap.size) → GOK S w → RdT (ctx (fun _ => (0, 0)) S w []) ds vals →
    Calls P f vals.toArray w fun e w' => ∃ v S', e = .returned v ∧ Grow w w' ∧ (∀ k, S k → S' k) ∧ (∀ k, S' k → S k ∨ w.heap.size ≤ k) ∧ (∀ k, S' k → k < w'.heap.size) ∧ Rd (ctx (fun _ => (0, 0)) S' w' []) d v

theorem PureJ.callJ {P : Program} {f : FuncId} {ds : List D} {d : D} (h : PureJ P f ds d) (H : Heap) : CallJ P f ds H d H := by
  refine ⟨h.callable, fun ρ S w vals hS hv => ?_⟩
  have hsub : ∀ k, S k → k < w.heap.size := fun k hk => (hS.sub k hk).1
  refine (h.call S w vals hsub hS.glob (RdT.move h.args hv)).mono fun e w' ⟨v, S', he, hg, h1, h2, h3, h4⟩ => ?_
  have hfix : ∀ k, S' k → Fix (ctx ρ S' w' H) k := fun k hk => ⟨h3 k hk, fun hl => by
    rcases h2 k hk with h | h
    · exact (hS.sub k h).2 hl
    · have := hS.lt hl; omega⟩
  have hle : (ctx ρ S w H).le (ctx ρ S' w' H) :=
    ⟨Nat.le_refl _, fun _ _ => rfl, h1, fun k hk => hg.heap k (hsub k hk), fun k hk => (h2 k hk).imp id .inr, fun k hk => ⟨Nat.lt_of_lt_of_le hk.1 hg.size, hk.2⟩, fun k hk => hg.heap k hk.1, hg.size, hg.os, hg.tape, hg.output⟩
  refine ⟨v, ρ, S', he, ⟨hfix, hS.none, fun b blk hb hz => ?_, hS.inj, hS.glob.mono h1 hle.keep⟩, hle, Rd.move h.res h4⟩
  obtain ⟨cur, hc⟩ := hS.blk b blk hb hz
  exact ⟨cur, hc.heap.of (hg.heap _ hc.lt), hc.size, hc.pre.mono hle _ _, hc.full⟩

theorem PureJ.of_nil {P : Program} {f : FuncId} {ds : List D} {d : D} (h1 : NamelessL ds) (h2 : Nameless d) (h : CallJ P f ds [] d []) : PureJ P f ds d := by
  refine ⟨h.1, h1, h2, fun S w vals hsub hG hv => ?_⟩
  refine (h.2 _ S w vals (St.nil _ hsub hG) hv).mono fun e w' ⟨v, ρ', S', he, hS, hle, hd⟩ => ?_
  have nl : ∀ ρ k, ¬ Live ρ [] k := fun ρ k ⟨b, blk, hb, _⟩ => by simp at hb
  exact ⟨v, S', he, ⟨hle.size, fun k hk => hle.heap k ⟨hk, nl _ k⟩, hle.os, hle.tape, hle.output⟩, hle.S, fun k hk => (hle.new k hk).imp id fun h => h.resolve_left (nl _ k),
    fun k hk => (hS.sub k hk).1, Rd.move h2 hd⟩

theorem run_callFunc {P : Program} {f : FuncId} (h : Callable P f) (args : Array Value) (w : World) : (callFunc f args).run P w = .ok (.enter f args) w := by
  obtain ⟨fn, h1, h2, h3⟩ := h
  simp only [callFunc, Sem.run_bind, run_program, Result.andThen_ok, h1, h2, h3, Bool.false_eq_true, if_false, Sem.run_pure]

/-- one step: what is asked of the operation alone -/
def Step (P : Program) (o : Oper) (env : Env) (H : Heap) (d : D) (H' : Heap) : Prop :=
  ∀ ρ S w a, St ρ S w H → (∀ t ∈ opSlots o.op, ∀ d, env.lookup t = some d → Rd (ctx ρ S w H) d (a.tmps.getD t undef)) →
    ∀ next Q, (∀ v ρ' S' w', St ρ' S' w' H' → (ctx ρ S w H).le (ctx ρ' S' w' H') → Rd (ctx ρ' S' w' H') d v → next (a.put o.dst v) w') → o.wp P a w next Q
def StepP (P : Program) (o : Oper) (env : Env) (d : D) : Prop := ∀ H, Step P o env H d H

theorem wp_of_run {P : Program} {o : Oper} {a : Act} {w w' : World} {v : Value} {next : Act → World → Prop} {Q : Exit → Act → World → Prop} (h : RunsTo P o a w v w') (hn : next (a.put o.dst v) w') : o.wp P a w next Q := by
  unfold Oper.wp
  rcases h with h | ⟨h, rfl⟩
  · rw [h]; exact hn
  · rw [h]; exact hn

/-- the part of a frame that an operation reads -/
def envOn (l : List Nat) (env : Env) : Env := env.filter fun p => l.contains p.1
theorem lookup_filter {p : Nat → Bool} : ∀ (env : Env) (t : Nat), (env.filter fun q => p q.1).lookup t = if p t then env.lookup t else none
  | [], t => by simp
  | (k, d) :: env, t => by
    have ih := lookup_filter (p := p) env t
    rw [List.filter_cons]
    by_cases hk : p k = true
    · simp only [hk, if_true, List.lookup_cons, ih]
      by_cases ht : t = k
      · subst ht; simp [hk]
      · have : (t == k) = false := by simpa using ht
        simp [this]
    · simp only [hk, List.lookup_cons]
      by_cases ht : t = k
      · subst ht; simp [hk, ih]
      · have : (t == k) = false := by simpa using ht
        simp [this, ih]
theorem lookup_envOn {l : List Nat} {env : Env} {t : Nat} (h : t ∈ l) : (envOn l env).lookup t = env.lookup t := by
  unfold envOn
  rw [lookup_filter (p := fun k => l.contains k)]
  simp [h]
theorem envOn_rd {E : Ctx} {l : List Nat} {env : Env} {a : Act} (h : ∀ t ∈ l, ∀ d, env.lookup t = some d → Rd E d (a.tmps.getD t undef)) : ∀ t d, (envOn l env).lookup t = some d → Rd E d (a.tmps.getD t undef) := by
  intro t d ht
  unfold envOn at ht
  rw [lookup_filter (p := fun k => l.contains k)] at ht
  split at ht
  · rename_i hm
    exact h t (by simpa using hm) d ht
  · cases ht

theorem getAll_of {env : Env} {xs : List Operand} {ds : List D} : getAll env xs = some ds → ∀ x ∈ xs, ∃ d, opnd env x = some d := by
  induction xs generalizing ds with
  | nil => intro _ x hx; cases hx
  | cons y ys ih =>
    intro h x hx
    simp only [getAll] at h
    split at h
    · rename_i d ds' h1 h2
      rcases List.mem_cons.1 hx with rfl | hx
      · exact ⟨d, h1⟩
      · exact ih h2 x hx
    · cases h

section
variable {P : Program} {T : Tbl} (hT : TblOk P T)
include hT
theorem stepP_of_opP {o : Oper} {env : Env} {d : D} {c : Prop} (h : opP T env o.op = some (d, c)) (hc : c) : StepP P o env d := by
  intro H ρ S w a hS hr next Q hn
  have h' : opP T (envOn (opSlots o.op) env) o.op = some (d, c) := by rw [← h]; exact opP_congr fun t ht => lookup_envOn ht
  obtain ⟨v, hv, hd⟩ := opP_sound (E := ctx ρ S w H) hT (get_rd hS.glob (envOn_rd hr)) h' hc
  exact wp_of_run (.inl hv) (hn v ρ S w hS (Ctx.le.refl _) hd)
theorem step_of_opH {o : Oper} {env : Env} {H : Heap} {out : HOut} (h : opH T env H o.op = some out) (hc : out.c) : Step P o env H out.d out.H := by
  intro ρ S w a hS hr next Q hn
  have h' : opH T (envOn (opSlots o.op) env) H o.op = some out := by rw [← h]; exact opH_congr fun t ht => lookup_envOn ht
  obtain ⟨v, w', ρ', hrun, h1, h2, h3⟩ := opH_sound hT h' hc hS (get_rd hS.glob (envOn_rd hr))
  exact wp_of_run hrun (hn v ρ' S w' h1 h2 h3)
end

theorem RdT.append {E : Ctx} : ∀ (ds : List D) (us : List Value) (ds' : List D) (us' : List Value), RdT E ds us → RdT E ds' us' → RdT E (ds ++ ds') (us ++ us')
  | [], us, ds', us', hr, hr' => by simp only [RdT] at hr; subst hr; simpa using hr'
  | d :: ds, us, ds', us', hr, hr' => by
    simp only [RdT] at hr
    obtain ⟨u, r, e, hd, hr⟩ := hr
    subst e
    simp only [List.cons_append, RdT]
    exact ⟨u, r ++ us', rfl, hd, RdT.append ds r ds' us' hr hr'⟩

/-- a call of a function that is known, by name or as a closure -/
theorem step_of_call {P : Program} {o : Oper} {env : Env} {H H' : Heap} {f : Operand} {args : Array Operand} {ts : Array TypeId} {g : FuncId} {k : Nat} {caps ds : List D} {d : D} (ho : o.op = .call { callee := .value f, args, argTypes := ts })
    (hf : opnd env f = some (.fn g k caps)) (ha : getAll env args.toList = some ds) (hj : CallJ P g (argsOf k caps ds) H d H') : Step P o env H d H' := by
  intro ρ S w a hS hr next Q hn
  have hslots : opSlots o.op = (#[f] ++ args).toList.filterMap fun | .tmp t => some t | _ => none := by rw [ho]; rfl
  have hg : ∀ x d, opnd (envOn (opSlots o.op) env) x = some d → Rd (ctx ρ S w H) d (a.eval x) := get_rd hS.glob (envOn_rd hr)
  have hcong : ∀ x ∈ (#[f] ++ args).toList, opnd (envOn (opSlots o.op) env) x = opnd env x := fun x hx => by
    refine get_of_lookup (op := o.op) (fun t ht => lookup_envOn ht) x ?_
    rw [ho]; simpa [Op.operands, Call.operands] using hx
  have hf' := hg f _ ((hcong f (by simp)).trans hf)
  have ha' : getAll (envOn (opSlots o.op) env) args.toList = some ds := by
    rw [← ha]; exact getAll_congr _ fun x hx => hcong x (by simp; exact .inr (by simpa using hx))
  have hds := getAll_rd (E := ctx ρ S w H) hg _ _ ha'
  simp only [Rd] at hf'
  obtain ⟨fs, us, hus, hk, hcaps⟩ := hf'
  have hall := RdT.argsOf hk hcaps hds
  have hrun : (execOp a.eval o).run P w = .ok (.enter g (fs.toList ++ ((args.toList.map a.eval) ++ us.toList)).toArray) w := by
    simp only [execOp, ho, resolve, hus, Deferred.ofValue, Sem.run_bind, Sem.run_pure, Result.andThen_ok, invoke]
    rw [run_callFunc hj.1]
    congr 2
    apply Array.toList_inj.1
    simp
  unfold Oper.wp
  rw [hrun]
  refine (hj.2 ρ S w _ hS hall).mono fun e w' ⟨v, ρ', S', he, h1, h2, h3⟩ => ?_
  subst he
  exact hn v ρ' S' w' h1 h2 h3
end Go.VD
