/- The conditions of a body, computed on data: 'vcg'; a loop is left to its rule. -/
import Derived.Test.YthnhfkpihbjddaaVm
namespace Go.VD
set_option linter.unusedVariables false
set_option linter.unusedSimpArgs false

/-- a function without a body, whose answer the model gives at once -/
def ExtJ (P : Program) (f : FuncId) (ds : List D) (d : D) : Prop :=
  ∀ (E : Ctx) (vals : List Value) (w : World), RdT E ds vals → ∃ v, (callFunc f vals.toArray).run P w = .ok (.value v) w ∧ Rd E d v

inductive VCall (P : Program) (g : FuncId) (ds : List D) (H : Heap) (K : D → Heap → Tch → Prop) : Prop where
  | pure (d : D) (h : PureJ P g ds d) (k : K d H .no)
  | reads (d : D) (h : CallJ P g ds H d H) (k : K d H .ra)
  | makes (d : D) (L : Heap) (h : ∀ H1 : Heap, H1.length = H.length → CallJ P g ds H1 d (H1 ++ L)) (k : K d (H ++ L) (.mk H.length))
  | own (d : D) (H' : Heap) (h : CallJ P g ds H d H') (k : K d H' .al)
  | ext (d : D) (h : ExtJ P g ds d) (k : K d H .no)
  | writes (d : D) (b : Nat) (y : Option Blk) (h : ∀ H1 : Heap, H1[b]? = H[b]? → CallJ P g ds H1 d (H1.set b y)) (k : K d (H.set b y) (.wr b))

theorem step_of_ext {P : Program} {o : Oper} {env : Env} {H : Heap} {f : Operand} {args : Array Operand} {ts : Array TypeId} {g : FuncId} {k : Nat} {caps ds : List D} {d : D} (ho : o.op = .call { callee := .value f, args, argTypes := ts })
    (hf : opnd env f = some (.fn g k caps)) (ha : getAll env args.toList = some ds) (hj : ExtJ P g (argsOf k caps ds) d) : Step P o env H d H := by
  intro ρ S w a hS hr next Q hn
  have hg : ∀ x d, opnd (envOn (opSlots o.op) env) x = some d → Rd (ctx ρ S w H) d (a.eval x) := get_rd hS.glob (envOn_rd hr)
  have hcong : ∀ x ∈ (#[f] ++ args).toList, opnd (envOn (opSlots o.op) env) x = opnd env x := fun x hx => by
    refine get_of_lookup (op := o.op) (fun t ht => lookup_envOn ht) x ?_
    rw [ho]; simpa [Op.operands, Call.operands] using hx
  have hf' := hg f _ ((hcong f (by simp)).trans hf)
  have ha' : getAll (envOn (opSlots o.op) env) args.toList = some ds := by
    rw [← ha]; exact getAll_congr _ fun x hx => hcong x (by simp; exact .inr (by simpa using hx))
  have hds := getAll_rd (E := ctx ρ S w H) hg _ _ ha'
  simp only [Rd] at hf'
  obtain ⟨fs, us, hus, hk, hcaps⟩ := hf'
  have hall := RdT.argsOf hk hcaps hds
  obtain ⟨v, hv, hd⟩ := hj _ _ w hall
  have hrun : (execOp a.eval o).run P w = .ok (.value v) w := by
    simp only [execOp, ho, resolve, hus, Deferred.ofValue, Sem.run_bind, Sem.run_pure, Result.andThen_ok, invoke]
    rw [← hv]
    congr 2
    apply Array.toList_inj.1
    simp
  exact wp_of_run (.inl hrun) (hn v ρ S w hS (Ctx.le.refl _) hd)

/-- the function that a method of a dynamic type is -/
def methOf (P : Program) (t : TypeId) (name : String) : Option FuncId :=
  match P.info? t, P.underlying t with
  | some i, some d => match i.methods.toList.find? (fun m => m.name == name) with
    | some m => bif m.path.isEmpty then (match m.func with
      | some (f, pr) => (match d with
        | .pointer _ => bif pr then some f else none
        | _ => bif pr then none else some f)
      | none => none) else none
    | none => none
  | _, _ => none
theorem run_methOf {P : Program} {t : TypeId} {name : String} {f : FuncId} (h : methOf P t name = some f) (n : Nat) (v : Value) (w : World) : (method (n + 1) t v name).run P w = .ok (f, v) w := by
  unfold methOf at h
  split at h
  · rename_i i d hi hd
    split at h
    · rename_i m hm
      cases hp : m.path.isEmpty with
      | false => rw [hp] at h; cases h
      | true =>
        rw [hp] at h
        simp only [cond_true] at h
        split at h
        · rename_i g pr hf
          have hfind : i.methods.find? (fun m => m.name == name) = some m := by rw [← hm, Array.find?_toList]
          have hpath : m.path = #[] := by simpa using hp
          have hrec : g = f ∧ ∀ w' : World, (receiverAt t (.val v) pr (if m.path.isEmpty then some ((name.splitOn ".").getLastD name) else none)).run P w = .ok v w := by
            unfold receiverAt
            simp only [Sem.run_bind, run_underlying hd, Result.andThen_ok]
            split at h
            · cases pr with
              | false => cases h
              | true =>
                simp only [cond_true, Option.some.injEq] at h
                exact ⟨h, fun _ => by simp [Place.get]⟩
            · rename_i hnp
              cases pr with
              | true => cases h
              | false =>
                simp only [cond_false, Option.some.injEq] at h
                refine ⟨h, fun _ => ?_⟩
                cases d <;> simp_all [Place.get]
          obtain ⟨rfl, hr⟩ := hrec
          simp only [method, typeInfo, Sem.run_bind, run_program, Result.andThen_ok, hi, Sem.run_pure, hfind, hpath, follow, hf]
          have := hr w
          rw [hpath] at this
          simp only [this, Result.andThen_ok, Sem.run_pure]
        · cases h
    · cases h
  · cases h

/-- names x in a type, so that 'simp' leaves it as it is -/
structure Tag {α : Type} (x : α) : Type where
def VCallT (P : Program) (g : FuncId) (ds : List D) (H : Heap) (K : D → Heap → Tch → Prop) (_ : Tag K) : Prop := VCall P g ds H K
section
variable {P : Program} {g : FuncId} {ds : List D} {H : Heap} {K : D → Heap → Tch → Prop} {u : Tag K}
theorem VCallT.pure (d : D) (h : PureJ P g ds d) (k : K d H .no) : VCallT P g ds H K u := VCall.pure d h k
theorem VCallT.reads (d : D) (h : CallJ P g ds H d H) (k : K d H .ra) : VCallT P g ds H K u := VCall.reads d h k
theorem VCallT.makes (d : D) (L : Heap) (h : ∀ H1 : Heap, H1.length = H.length → CallJ P g ds H1 d (H1 ++ L)) (k : K d (H ++ L) (.mk H.length)) : VCallT P g ds H K u := VCall.makes d L h k
theorem VCallT.own (d : D) (H' : Heap) (h : CallJ P g ds H d H') (k : K d H' .al) : VCallT P g ds H K u := VCall.own d H' h k
end

/-- a call of a method through an interface whose dynamic type is known -/
theorem step_of_invoke {P : Program} {o : Oper} {env : Env} {H H' : Heap} {r : Operand} {name : String} {args : Array Operand} {ts : Array TypeId} {t : TypeId} {g : FuncId} {d0 : D} {ds : List D} {d : D} (ho : o.op = .call { callee := .invoke r name, args, argTypes := ts })
    (hf : opnd env r = some (.ifc t d0)) (ha : getAll env args.toList = some ds) (hm : methOf P t name = some g) (hj : CallJ P g (d0 :: ds) H d H' ∨ (H' = H ∧ ExtJ P g (d0 :: ds) d)) : Step P o env H d H' := by
  intro ρ S w a hS hr next Q hn
  have hg : ∀ x d, opnd (envOn (opSlots o.op) env) x = some d → Rd (ctx ρ S w H) d (a.eval x) := get_rd hS.glob (envOn_rd hr)
  have hcong : ∀ x ∈ (#[r] ++ args).toList, opnd (envOn (opSlots o.op) env) x = opnd env x := fun x hx => by
    refine get_of_lookup (op := o.op) (fun t ht => lookup_envOn ht) x ?_
    rw [ho]; simpa [Op.operands, Call.operands] using hx
  have hf' := hg r _ ((hcong r (by simp)).trans hf)
  have ha' : getAll (envOn (opSlots o.op) env) args.toList = some ds := by
    rw [← ha]; exact getAll_congr _ fun x hx => hcong x (by simp; exact .inr (by simpa using hx))
  have hds := getAll_rd (E := ctx ρ S w H) hg _ _ ha'
  simp only [Rd] at hf'
  obtain ⟨x, hx, hd0⟩ := hf'
  have hall : RdT (ctx ρ S w H) (d0 :: ds) (x :: args.toList.map a.eval) := by simp only [RdT]; exact ⟨x, _, rfl, hd0, hds⟩
  have hcall : (execOp a.eval o).run P w = (callFunc g (x :: args.toList.map a.eval).toArray).run P w := by
    have hmr := run_methOf hm (P.types.size + 99) x w
    simp only [execOp, ho, resolve, Sem.run_bind, Sem.run_pure, Result.andThen_ok, invoke]
    have e0 : (#[Value.iface t x] ++ args.map a.eval)[0]? = some (.iface t x) := by rw [Array.getElem?_append_left (Nat.zero_lt_one)]; rfl
    have e1 : (#[Value.iface t x] ++ args.map a.eval).extract 1 (#[Value.iface t x] ++ args.map a.eval).size = args.map a.eval := by
      obtain ⟨l⟩ := args
      simp [List.take_of_length_le]
    have e2 : #[x] ++ args.map a.eval = (x :: args.toList.map a.eval).toArray := Array.toList_inj.1 (by rw [Array.toList_append, Array.toList_map]; rfl)
    have e3 : Made.depth = 99 + 1 := rfl
    simp only [Array.append_empty, hx, e0, e1, callMethod, Sem.run_bind, run_program, Result.andThen_ok, e3, ← Nat.add_assoc, hmr, e2]
  unfold Oper.wp
  rcases hj with hj | ⟨rfl, hj⟩
  · rw [hcall, run_callFunc hj.1]
    refine (hj.2 ρ S w _ hS hall).mono fun e w' ⟨v, ρ', S', he, h1, h2, h3⟩ => ?_
    subst he
    exact hn v ρ' S' w' h1 h2 h3
  · obtain ⟨v, hv, hd⟩ := hj _ _ w hall
    rw [hcall, hv]
    exact hn v ρ S w hS (Ctx.le.refl _) hd

def vOp (P : Program) (T : Tbl) (o : Oper) (env : Env) (H : Heap) (K : D → Heap → Tch → Prop) : Prop :=
  match o.op with
  | .call { callee := .value f, args, argTypes } => match opnd env f, getAll env args.toList with
    | some (.fn g k caps), some ds => VCallT P g (argsOf k caps ds) H K ⟨⟩
    | _, _ => False
  | .call { callee := .invoke r name, args, argTypes } => match opnd env r, getAll env args.toList with
    | some (.ifc t d), some ds => match methOf P t name with
      | some g => VCallT P g (d :: ds) H K ⟨⟩
      | none => False
    | _, _ => False
  | op => match opP T env op with
    | some (d, c) => c ∧ K d H .no
    | none => match opH T env H op with
      | some out => out.c ∧ K out.d out.H out.touch
      | none => False

def vOps (P : Program) (T : Tbl) (ops : Array Oper) : List Oper → Env → Heap → List Tch → (Env → Heap → List Tch → Prop) → Prop
  | [], env, H, ts, K => K env H ts
  | o :: rest, env, H, ts, K =>
    match o.guard with
    | none => vOp P T o env H fun d H' t => vOps P T ops rest (bindD o.dst d env) H' (t :: ts) K
    | some (j, want) => match gslot ops j with
      | none => False
      | some s => match env.lookup s with
        | some (.v (.bool g)) =>
          (g = want → vOp P T o ((s, .v (.bool want)) :: env) H fun d H' t => vOps P T ops rest (bindD o.dst d ((s, .v (.bool want)) :: env)) H' (t :: ts) K) ∧
          (g = !want → vOps P T ops rest (bindD o.dst (.v undef) ((s, .v (.bool (!want))) :: env)) H (.no :: ts) K)
        | some (.v (.tuple us)) => us.toList = [] ∧ vOps P T ops rest (bindD o.dst (.v undef) env) H (.no :: ts) K
        | _ => False

def DW (P : Program) (nt : Nat) (c : Code) (Q : Exit → Env → Heap → Prop) (env : Env) (H : Heap) : Prop :=
  ∀ ρ S w a, Inv nt ρ S w H env a → c.wp P (fun e a' w' => ∃ env' H' ρ' S', Q e env' H' ∧ Inv nt ρ' S' w' H' env' a' ∧ (ctx ρ S w H).le (ctx ρ' S' w' H')) a w

def DWT (P : Program) (nt : Nat) (c : Code) (Q : Exit → Env → Heap → Prop) (env : Env) (H : Heap) (_ : Tag c) (_ : Tag Q) : Prop := DW P nt c Q env H

def codeOk (nt : Nat) : Code → Bool
  | .region _ ops _ => ops.all fun o => match o.dst with | some s => s < nt | none => true
  | .seq a b => codeOk nt a && codeOk nt b
  | .cond _ a b => codeOk nt a && codeOk nt b
  | .block _ c => codeOk nt c
  | .loop c => codeOk nt c
  | .scope c => codeOk nt c
  | _ => true

def thenQ (Q' : Env → Heap → Prop) (Q : Exit → Env → Heap → Prop) : Exit → Env → Heap → Prop
  | .normal, env, H => Q' env H
  | e, env, H => Q e env H
def blockQ (id : Nat) (Q : Exit → Env → Heap → Prop) : Exit → Env → Heap → Prop
  | .exit id', env, H => if id' = id then Q .normal env H else Q (.exit id') env H
  | e, env, H => Q e env H

def vcg (P : Program) (T : Tbl) (nt : Nat) : Code → (Exit → Env → Heap → Prop) → Env → Heap → Prop
  | .skip, Q, env, H => Q .normal env H
  | .region id ops draw, Q, env, H => vOps P T ops ops.toList env H [] fun env' H' ts => (draw = true → regOk ops ts.reverse = true) ∧ Q .normal env' H'
  | .seq a b, Q, env, H => vcg P T nt a (thenQ (fun env' H' => vcg P T nt b Q env' H') Q) env H
  | .cond c x y, Q, env, H => match opnd env c with
    | some (.v (.bool b)) => (b = true → vcg P T nt x Q env H) ∧ (b = false → vcg P T nt y Q env H)
    | _ => False
  | .block id c, Q, env, H => vcg P T nt c (blockQ id Q) env H
  | .exit id, Q, env, H => Q (.exit id) env H
  | .ret, Q, env, H => Q .ret env H
  | .label _, Q, env, H => Q .normal env H
  | .goto l, Q, env, H => Q (.goto l) env H
  | .refuse _, _, _, _ => False
  | c, Q, env, H => DWT P nt c Q env H ⟨⟩ ⟨⟩

section
variable {P : Program} {T : Tbl} (hT : TblOk P T) {nt : Nat} {ops : Array Oper}

theorem opH_local {env : Env} {H : Heap} {op : Op} {out : HOut} (h : opH T env H op = some out) :
    (∃ b, out.touch = .rd b ∧ out.H = H ∧ ∀ H1 : Heap, H1[b]? = H[b]? → opH T env H1 op = some ⟨out.d, H1, .rd b, out.c⟩) ∨
    (∃ b y, out.touch = .wr b ∧ out.H = H.set b y ∧ ∀ H1 : Heap, H1[b]? = H[b]? → opH T env H1 op = some ⟨out.d, H1.set b y, .wr b, out.c⟩) ∨
    (∃ L, out.touch = .mk H.length ∧ out.H = H ++ L ∧ ∀ H1 : Heap, H1.length = H.length → opH T env H1 op = some ⟨out.d, H1 ++ L, .mk H1.length, out.c⟩) ∨
    out.touch = .al ∨ (out.touch = .no ∧ out.H = H ∧ ∀ H1 : Heap, opH T env H1 op = some ⟨out.d, H1, .no, out.c⟩) := by
  cases op
  case convert s d x =>
    simp only [opH, bytesH] at h ⊢
    split at h
    · rename_i hs hd
      split at h
      · rename_i hte
        split at h
        · rename_i m news c hsrc
          injection h with h; subst h
          unfold srcD at hsrc
          split at hsrc
          · rename_i n ys hx
            refine .inr (.inr (.inr (.inr ⟨by simp [hx, tchOf], rfl, fun H1 => ?_⟩)))
            rw [hx]; simp only [srcD, hsrc, tchOf]
          · rename_i b off n cp hx
            refine .inl ⟨b, by simp [hx, tchOf], rfl, fun H1 e => ?_⟩
            have : blkAt H1 b = blkAt H b := by unfold blkAt; rw [e]
            rw [hx]; simp only [srcD, this, hsrc, tchOf]
          · rename_i A cp hx
            refine .inr (.inr (.inr (.inr ⟨by simp [hx, tchOf], rfl, fun H1 => ?_⟩)))
            rw [hx]; simp only [srcD, hsrc, tchOf]
          · cases hsrc
        · cases h
      · cases h
    · cases h
  case range t x =>
    simp only [opH, rangeH] at h ⊢
    split at h
    · rename_i s hx
      split at h
      · rename_i hts
        injection h with h; subst h
        exact .inr (.inr (.inl ⟨[itBlk s 0], rfl, rfl, fun H1 e => by simp only [e]⟩))
      · cases h
    · cases h
  case next it isString =>
    cases isString with
    | false => simp [opH] at h
    | true =>
      simp only [opH, nextH] at h ⊢
      split at h
      · rename_i b hx
        split at h
        · rename_i s n hit
          injection h with h; subst h
          refine .inr (.inl ⟨b, _, rfl, rfl, fun H1 e => ?_⟩)
          have : iterAt H1 b = iterAt H b := by unfold iterAt blkRaw; rw [e]
          simp only [this, hit]
        · cases h
      · cases h
  case box elem x =>
    simp only [opH, boxH] at h ⊢; split at h
    · cases hbe : Nat.beq elem itTy with
      | true => rw [hbe] at h; cases h
      | false =>
      rw [hbe] at h
      injection h with h; subst h
      exact .inr (.inr (.inl ⟨_, rfl, rfl, fun H1 e => by rw [e]; rfl⟩))
    · cases h
  case alloc elem =>
    simp only [opH] at h ⊢; split at h
    · injection h with h; subst h
      exact .inr (.inr (.inl ⟨_, rfl, rfl, fun H1 e => by rw [e]⟩))
    · cases h
  case load t x =>
    simp only [opH, loadH] at h ⊢; split at h
    · rename_i b off hx
      split at h
      · rename_i hb ht
        injection h with h; subst h
        exact .inl ⟨b, rfl, rfl, fun H1 e => by
          have : blkAt H1 b = blkAt H b := by unfold blkAt; rw [e]
          simp only [hx, this, hb, ht]⟩
      · cases h
    · cases h
  case store t x y =>
    simp only [opH, storeH] at h ⊢; split at h
    · rename_i b off hx
      split at h
      · rename_i hb ht hy
        injection h with h; subst h
        exact .inr (.inl ⟨b, _, rfl, rfl, fun H1 e => by
          have : blkAt H1 b = blkAt H b := by unfold blkAt; rw [e]
          simp only [hx, this, hb, ht, hy]⟩)
      · cases h
    · cases h
  case makeSlice t l c =>
    simp only [opH, makeH] at h ⊢; split at h
    · split at h
      · split at h
        · injection h with h; subst h
          exact .inr (.inr (.inl ⟨_, rfl, rfl, fun H1 e => by rw [e]⟩))
        · cases h
      · cases h
    · cases h
  case buildSlice t len parts =>
    simp only [opH, buildSliceH] at h ⊢; split at h
    · split at h
      · split at h
        · injection h with h; subst h
          exact .inr (.inr (.inl ⟨_, rfl, rfl, fun H1 e => by rw [e]⟩))
        · cases h
      · cases h
    · cases h
  case call c =>
    obtain ⟨callee, args, ts⟩ := c
    cases callee with
    | value f => simp [opH] at h
    | invoke r m => simp [opH] at h
    | builtin b =>
      cases b
      case append =>
        simp only [opH] at h
        split at h
        · simp only [appendH] at h
          split at h
          · split at h
            · split at h
              · split at h
                · injection h with h; subst h; exact .inr (.inr (.inr (.inl rfl)))
                · cases h
              · cases h
            · cases h
          · split at h
            · split at h
              · split at h
                · injection h with h; subst h; exact .inr (.inr (.inr (.inl rfl)))
                · cases h
              · cases h
            · cases h
          · cases h
        · cases h
      all_goals (simp [opH] at h)
  all_goals (simp [opH] at h)

theorem VCall.mono {g : FuncId} {ds : List D} {H : Heap} {K K' : D → Heap → Tch → Prop} (h : VCall P g ds H K) (hk : ∀ d H t, K d H t → K' d H t) : VCall P g ds H K' := by
  cases h with
  | pure d h k => exact .pure d h (hk _ _ _ k)
  | reads d h k => exact .reads d h (hk _ _ _ k)
  | makes d L h k => exact .makes d L h (hk _ _ _ k)
  | own d H' h k => exact .own d H' h (hk _ _ _ k)
  | writes d b y h k => exact .writes d b y h (hk _ _ _ k)
  | ext d h k => exact .ext d h (hk _ _ _ k)
theorem vOp_mono {o : Oper} {env : Env} {H : Heap} {K K' : D → Heap → Tch → Prop} (h : vOp P T o env H K) (hk : ∀ d H t, K d H t → K' d H t) : vOp P T o env H K' := by
  unfold vOp at h ⊢
  split at h
  · split at h
    · exact VCall.mono h hk
    · exact h.elim
  · split at h
    · split at h
      · exact VCall.mono h hk
      · exact h.elim
    · exact h.elim
  · split at h
    · exact ⟨h.1, hk _ _ _ h.2⟩
    · split at h
      · exact ⟨h.1, hk _ _ _ h.2⟩
      · exact h.elim
theorem vOps_mono : ∀ (l : List Oper) (env : Env) (H : Heap) (ts : List Tch) {K K' : Env → Heap → List Tch → Prop}, (∀ env H ts, K env H ts → K' env H ts) → vOps P T ops l env H ts K → vOps P T ops l env H ts K'
  | [], env, H, ts, K, K', hk, h => hk _ _ _ h
  | o :: rest, env, H, ts, K, K', hk, h => by
    simp only [vOps] at h ⊢
    split at h
    · exact vOp_mono h fun d H t hh => vOps_mono rest _ _ _ hk hh
    · split at h
      · exact h.elim
      · split at h
        · exact ⟨fun e => vOp_mono (h.1 e) fun d H t hh => vOps_mono rest _ _ _ hk hh, fun e => vOps_mono rest _ _ _ hk (h.2 e)⟩
        · exact ⟨h.1, vOps_mono rest _ _ _ hk h.2⟩
        · exact h.elim
theorem vcg_mono (P : Program) (T : Tbl) (nt : Nat) : ∀ (c : Code) (Q Q' : Exit → Env → Heap → Prop), (∀ e env H, Q e env H → Q' e env H) → ∀ env H, vcg P T nt c Q env H → vcg P T nt c Q' env H
  | .skip, Q, Q', hq, env, H, h => hq _ _ _ h
  | .region id ops draw, Q, Q', hq, env, H, h => vOps_mono _ _ _ _ (fun _ _ _ hh => ⟨hh.1, hq _ _ _ hh.2⟩) h
  | .seq a b, Q, Q', hq, env, H, h => vcg_mono P T nt a _ _ (fun e env H hh => by
      cases e <;> simp only [thenQ] at hh ⊢
      · exact vcg_mono P T nt b _ _ hq _ _ hh
      all_goals exact hq _ _ _ hh) _ _ h
  | .cond c x y, Q, Q', hq, env, H, h => by
    simp only [vcg] at h ⊢
    split at h
    · exact ⟨fun e => vcg_mono P T nt x _ _ hq _ _ (h.1 e), fun e => vcg_mono P T nt y _ _ hq _ _ (h.2 e)⟩
    · exact h.elim
  | .block id c, Q, Q', hq, env, H, h => vcg_mono P T nt c _ _ (fun e env H hh => by
      cases e <;> simp only [blockQ] at hh ⊢
      case exit id' => split <;> rename_i he <;> simp only [he, if_true, if_false] at hh <;> exact hq _ _ _ hh
      all_goals exact hq _ _ _ hh) _ _ h
  | .exit id, Q, Q', hq, env, H, h => hq _ _ _ h
  | .ret, Q, Q', hq, env, H, h => hq _ _ _ h
  | .label _, Q, Q', hq, env, H, h => hq _ _ _ h
  | .goto l, Q, Q', hq, env, H, h => hq _ _ _ h
  | .refuse _, Q, Q', hq, _, _, h => h.elim
  | .loop c, Q, Q', hq, env, H, h => fun ρ S w a hi => wp_mono (h ρ S w a hi) fun e a' w' ⟨env', H', ρ', S', h1, h2⟩ => ⟨env', H', ρ', S', hq _ _ _ h1, h2⟩
  | .scope c, Q, Q', hq, env, H, h => fun ρ S w a hi => wp_mono (h ρ S w a hi) fun e a' w' ⟨env', H', ρ', S', h1, h2⟩ => ⟨env', H', ρ', S', hq _ _ _ h1, h2⟩
  | .rangeFunc .., Q, Q', hq, env, H, h => fun ρ S w a hi => wp_mono (h ρ S w a hi) fun e a' w' ⟨env', H', ρ', S', h1, h2⟩ => ⟨env', H', ρ', S', hq _ _ _ h1, h2⟩

include hT
theorem vOp_step {o : Oper} {env : Env} {H : Heap} {K : D → Heap → Tch → Prop} (h : vOp P T o env H K) :
    ∃ d H' t, K d H' t ∧ StepF P o env t d H H' := by
  have rest : (match opP T env o.op with
    | some (d, c) => c ∧ K d H .no
    | none => match opH T env H o.op with
      | some out => out.c ∧ K out.d out.H out.touch
      | none => False) → ∃ d H' t, K d H' t ∧ StepF P o env t d H H' := by
    intro h
    split at h
    · rename_i d c hp
      exact ⟨d, H, .no, h.2, .of_no (stepP_of_opP hT hp h.1)⟩
    · split at h
      · rename_i out ho
        rcases opH_local ho with ⟨b, h1, h2, h3⟩ | ⟨b, y, h1, h2, h3⟩ | ⟨L, h1, h2, h3⟩ | h1 | ⟨h1, h2, h3⟩
        · refine ⟨out.d, out.H, out.touch, h.2, ?_⟩
          rw [h1, h2]
          exact .of_rd fun H1 e => step_of_opH hT (h3 H1 e) h.1
        · refine ⟨out.d, out.H, out.touch, h.2, ?_⟩
          rw [h1, h2]
          exact .of_wr fun H1 e => step_of_opH hT (h3 H1 e) h.1
        · refine ⟨out.d, out.H, out.touch, h.2, ?_⟩
          rw [h1, h2]
          exact .of_mk fun H1 e => step_of_opH hT (h3 H1 e) h.1
        · refine ⟨out.d, out.H, out.touch, h.2, ?_⟩
          rw [h1]
          exact .of_al (step_of_opH hT ho h.1)
        · refine ⟨out.d, out.H, out.touch, h.2, ?_⟩
          rw [h1, h2]
          exact .of_no fun H1 => step_of_opH hT (h3 H1) h.1
      · exact h.elim
  unfold vOp at h
  split at h
  · rename_i f args ts hop
    split at h
    · rename_i g k caps ds hf ha
      have h : VCall P g (argsOf k caps ds) H K := h
      cases h with
      | pure d hj k => exact ⟨d, H, .no, k, .of_no fun H => step_of_call hop hf ha (hj.callJ H)⟩
      | reads d hj k => exact ⟨d, H, .ra, k, .of_ra (step_of_call hop hf ha hj)⟩
      | makes d L hj k => exact ⟨d, H ++ L, .mk H.length, k, .of_mk fun H1 e => step_of_call hop hf ha (hj H1 e)⟩
      | own d H' hj k => exact ⟨d, H', .al, k, .of_al (step_of_call hop hf ha hj)⟩
      | ext d hj k => exact ⟨d, H, .no, k, .of_no fun H => step_of_ext hop hf ha hj⟩
      | writes d b y hj k => exact ⟨d, H.set b y, .wr b, k, .of_wr fun H1 e => step_of_call hop hf ha (hj H1 e)⟩
    · exact h.elim
  · rename_i r name args ts hop
    split at h
    · rename_i t d ds hf ha
      split at h
      · rename_i g hm
        have h : VCall P g (d :: ds) H K := h
        cases h with
        | pure d hj k => exact ⟨d, H, .no, k, .of_no fun H => step_of_invoke hop hf ha hm (.inl (hj.callJ H))⟩
        | reads d hj k => exact ⟨d, H, .ra, k, .of_ra (step_of_invoke hop hf ha hm (.inl hj))⟩
        | makes d L hj k => exact ⟨d, H ++ L, .mk H.length, k, .of_mk fun H1 e => step_of_invoke hop hf ha hm (.inl (hj H1 e))⟩
        | own d H' hj k => exact ⟨d, H', .al, k, .of_al (step_of_invoke hop hf ha hm (.inl hj))⟩
        | ext d hj k => exact ⟨d, H, .no, k, .of_no fun H => step_of_invoke hop hf ha hm (.inr ⟨rfl, hj⟩)⟩
        | writes d b y hj k => exact ⟨d, H.set b y, .wr b, k, .of_wr fun H1 e => step_of_invoke hop hf ha hm (.inl (hj H1 e))⟩
      · exact h.elim
    · exact h.elim
  · exact rest h

theorem vOps_trace (hg : ∀ j s, gslot ops j = some s → s < nt) : ∀ (l : List Oper) (env : Env) (H : Heap) (ts : List Tch) (K : Env → Heap → List Tch → Prop), (∀ o ∈ l, ∀ s, o.dst = some s → s < nt) → vOps P T ops l env H ts K →
    ∃ (tl : List Tch) (envs : Nat → Env) (Hs : Nat → Heap), envs 0 = env ∧ Hs 0 = H ∧ (∀ (k : Nat) (o : Oper), l[k]? = some o → StepAt P nt ops o (envs k) (Hs k) (tl.getD k .no) (envs (k + 1)) (Hs (k + 1))) ∧
      K (envs l.length) (Hs l.length) (tl.reverse ++ ts)
  | [], env, H, ts, K, hl, h => ⟨[], fun _ => env, fun _ => H, rfl, rfl, fun k o hk => by simp at hk, by simpa [vOps] using h⟩
  | o :: rest, env, H, ts, K, hl, h => by
    have hdst := hl o (by simp)
    have hl' : ∀ o ∈ rest, ∀ s, o.dst = some s → s < nt := fun o ho => hl o (by simp [ho])
    have cons : ∀ (env1 : Env) (H1 : Heap) (t : Tch), StepAt P nt ops o env H t env1 H1 → vOps P T ops rest env1 H1 (t :: ts) K →
        ∃ (tl : List Tch) (envs : Nat → Env) (Hs : Nat → Heap), envs 0 = env ∧ Hs 0 = H ∧ (∀ (k : Nat) (o' : Oper), (o :: rest)[k]? = some o' → StepAt P nt ops o' (envs k) (Hs k) (tl.getD k .no) (envs (k + 1)) (Hs (k + 1))) ∧
          K (envs (o :: rest).length) (Hs (o :: rest).length) (tl.reverse ++ ts) := by
      intro env1 H1 t hst hv
      obtain ⟨tl, envs, Hs, e1, e2, h3, h4⟩ := vOps_trace hg rest env1 H1 (t :: ts) K hl' hv
      refine ⟨t :: tl, fun k => match k with | 0 => env | k + 1 => envs k, fun k => match k with | 0 => H | k + 1 => Hs k, rfl, rfl, fun k o' hk => ?_, by simpa using h4⟩
      cases k with
      | zero =>
        simp only [List.getElem?_cons_zero, Option.some.injEq] at hk
        subst hk
        simp only [List.getD_cons_zero]
        rw [e1, e2]; exact hst
      | succ k => exact h3 k o' (by simpa using hk)
    simp only [vOps] at h
    split at h
    · rename_i hgu
      obtain ⟨d, H', t, hk, hst⟩ := vOp_step hT h
      exact cons _ H' t ⟨hdst, .inr ⟨(fun j want e => by rw [hgu] at e; cases e), d, fun s => rfl, hst⟩⟩ hk
    · rename_i j want hgu
      split at h
      · exact h.elim
      · rename_i s hsl
        split at h
        · rename_i g hlk
          by_cases hgw : g = want
          · subst hgw
            have e : ∀ t, ((s, D.v (.bool g)) :: env).lookup t = env.lookup t := fun t => by
              rw [List.lookup_cons]; split
              · rename_i ht; have ht : t = s := by simpa using ht
                rw [ht, hlk]
              · rfl
            obtain ⟨d, H', t, hk, hst⟩ := vOp_step hT (h.1 rfl)
            refine cons _ H' t ⟨hdst, .inr ⟨fun j' want' e' => ?_, d, fun s' => ?_, ?_⟩⟩ hk
            · rw [hgu] at e'; injection e' with e'; injection e' with e1 e2; subst e1; subst e2
              exact ⟨s, hsl, hlk⟩
            · rw [lookup_bindD, lookup_bindD, e]
            · exact hst.congr e
          · have hgn : g = !want := by cases g <;> cases want <;> simp_all
            have e : ∀ t, ((s, D.v (.bool (!want))) :: env).lookup t = env.lookup t := fun t => by
              rw [List.lookup_cons]; split
              · rename_i ht; have ht : t = s := by simpa using ht
                rw [ht, hlk, hgn]
              · rfl
            exact cons _ H .no ⟨hdst, .inl ⟨j, want, s, hgu, hsl, .inl (by rw [hlk, hgn]), rfl, rfl, fun s' => by rw [lookup_bindD, lookup_bindD, e]⟩⟩ (h.2 hgn)
        · rename_i us hlk
          have hu : us = #[] := Array.toList_inj.1 (by rw [h.1])
          exact cons _ H .no ⟨hdst, .inl ⟨j, want, s, hgu, hsl, .inr (by rw [hlk, hu]; rfl), rfl, rfl, fun s' => rfl⟩⟩ h.2
        · exact h.elim

theorem region_sound {id : Nat} {draw : Bool} {Q : Exit → Env → Heap → Prop} {env : Env} {H : Heap} (hm : P.follows .mixedOrders = true) (hok : codeOk nt (.region id ops draw) = true)
    (h : vOps P T ops ops.toList env H [] fun env' H' ts => (draw = true → regOk ops ts.reverse = true) ∧ Q .normal env' H') : DW P nt (.region id ops draw) Q env H := by
  have hdst : ∀ o ∈ ops.toList, ∀ s, o.dst = some s → s < nt := by
    intro o ho s hs
    simp only [codeOk] at hok
    have := Array.all_eq_true_iff_forall_mem.1 hok o (by simpa using ho)
    simp only [hs, decide_eq_true_eq] at this
    exact this
  have hg : ∀ j s, gslot ops j = some s → s < nt := by
    intro j s hj
    unfold gslot at hj
    cases ho : ops[j]? with
    | none => simp [ho] at hj
    | some o =>
      simp only [ho, Option.bind_some] at hj
      exact hdst o (by simpa using Array.mem_of_getElem? ho) s hj
  obtain ⟨tl, envs, Hs, rfl, rfl, hst, hchk, hq⟩ := vOps_trace hT hg ops.toList env H [] _ hdst h
  rw [List.append_nil, List.reverse_reverse] at hchk
  have hlen : ops.toList.length = ops.size := by simp
  intro ρ S w a hi
  cases draw with
  | false =>
    refine wp_region_list (seq_sound ops.toList envs Hs (fun k => tl.getD k .no) hg (fun k o hk => hst k o hk) ρ S w a hi fun ρ' S' w' a' h1 h2 => ?_)
    exact ⟨_, _, ρ', S', hq, h1, h2⟩
  | true =>
    refine draw_sound hm (checked_of (hchk rfl)) hg (fun k o hk => hst k o (by simpa using hk)) hi fun ρ' S' w' a' h1 h2 => ?_
    rw [← hlen] at h1 h2
    exact ⟨_, _, ρ', S', hq, h1, h2⟩

theorem vcg_sound (hm : P.follows .mixedOrders = true) : ∀ (c : Code) (Q : Exit → Env → Heap → Prop) (env : Env) (H : Heap), codeOk nt c = true → vcg P T nt c Q env H → DW P nt c Q env H
  | .skip, Q, env, H, _, h => fun ρ S w a hi => wp_skip ⟨env, H, ρ, S, h, hi, Ctx.le.refl _⟩
  | .region id ops draw, Q, env, H, hok, h => region_sound hT hm hok h
  | .seq a b, Q, env, H, hok, h => by
    simp only [codeOk, Bool.and_eq_true] at hok
    intro ρ S w ac hi
    refine wp_seq (wp_mono (vcg_sound hm a _ env H hok.1 h ρ S w ac hi) fun e a' w' ⟨env', H', ρ', S', h1, h2, h3⟩ => ?_)
    cases e with
    | normal =>
      refine wp_mono (vcg_sound hm b Q env' H' hok.2 h1 ρ' S' w' a' h2) fun e a'' w'' ⟨env'', H'', ρ'', S'', h4, h5, h6⟩ => ?_
      exact ⟨env'', H'', ρ'', S'', h4, h5, h3.trans h6⟩
    | _ => exact ⟨env', H', ρ', S', h1, h2, h3⟩
  | .cond c x y, Q, env, H, hok, h => by
    simp only [codeOk, Bool.and_eq_true] at hok
    intro ρ S w ac hi
    simp only [vcg] at h
    split at h
    · rename_i b hb
      have hv := get_rd hi.st.glob hi.env c _ hb
      simp only [Rd] at hv
      cases b with
      | true => exact wp_cond hv (vcg_sound hm x Q env H hok.1 (h.1 rfl) ρ S w ac hi)
      | false => exact wp_cond hv (vcg_sound hm y Q env H hok.2 (h.2 rfl) ρ S w ac hi)
    · exact h.elim
  | .block id c, Q, env, H, hok, h => by
    simp only [codeOk] at hok
    intro ρ S w ac hi
    refine wp_block (wp_mono (vcg_sound hm c _ env H hok h ρ S w ac hi) fun e a' w' ⟨env', H', ρ', S', h1, h2, h3⟩ => ?_)
    cases e with
    | exit id' =>
      simp only [blockQ] at h1
      simp only [Exit.inBlock]
      split
      · rename_i he; rw [if_pos he] at h1; exact ⟨env', H', ρ', S', h1, h2, h3⟩
      · rename_i he; rw [if_neg he] at h1; exact ⟨env', H', ρ', S', h1, h2, h3⟩
    | _ => exact ⟨env', H', ρ', S', h1, h2, h3⟩
  | .exit id, Q, env, H, _, h => fun ρ S w a hi => wp_exit ⟨env, H, ρ, S, h, hi, Ctx.le.refl _⟩
  | .ret, Q, env, H, _, h => fun ρ S w a hi => wp_ret ⟨env, H, ρ, S, h, hi, Ctx.le.refl _⟩
  | .label _, Q, env, H, _, h => fun ρ S w a hi => wp_label ⟨env, H, ρ, S, h, hi, Ctx.le.refl _⟩
  | .goto l, Q, env, H, _, h => fun ρ S w a hi => wp_goto ⟨env, H, ρ, S, h, hi, Ctx.le.refl _⟩
  | .refuse _, _, _, _, _, h => h.elim
  | .loop c, Q, env, H, _, h => h
  | .scope c, Q, env, H, _, h => h
  | .rangeFunc .., Q, env, H, _, h => h
end
end Go.VD
