/- Conditions of a body, computed by the kernel: branches are 'cond', calls and loops are answered by tables. -/
import Derived.Test.YthnhfkpihbjddaaVy
namespace Go.VD
set_option linter.unusedVariables false
set_option linter.unusedSimpArgs false

/-- what a call asks, given what is asked of its answer -/
abbrev CallO := FuncId → List D → Heap → (D → Heap → Tch → Prop) → Option Prop
def CallOK (P : Program) (call : CallO) : Prop := ∀ g ds H K p, call g ds H K = some p → p → VCall P g ds H K

/-- the two ways on, by a truth value -/
def pcond (b : Bool) (X Y : Prop) : Prop := match b with
  | true => X
  | false => Y
theorem pcond_true (X Y : Prop) : pcond true X Y = X := rfl
theorem pcond_false (X Y : Prop) : pcond false X Y = Y := rfl

def xOp (P : Program) (call : CallO) (T : Tbl) (o : Oper) (env : Env) (H : Heap) (K : D → Heap → Tch → Prop) : Prop :=
  match o.op with
  | .call { callee := .value f, args, argTypes } => match opnd env f, getAll env args.toList with
    | some (.fn g k caps), some ds => match call g (argsOf k caps ds) H K with
      | some p => p
      | none => False
    | _, _ => False
  | .call { callee := .invoke r name, args, argTypes } => match opnd env r, getAll env args.toList with
    | some (.ifc t d), some ds => match methOf P t name with
      | some g => match call g (d :: ds) H K with
        | some p => p
        | none => False
      | none => False
    | _, _ => False
  | .next it true => match opnd env it with
    | some (.ptr b 0) => match iterAt H b with
      | some (s, n) => pcond (decide (n.toNat < s.size)) (K (nextD s n true) (H.set b (itBlk s (nextN s n true))) (.wr b)) (K (nextD s n false) (H.set b (itBlk s (nextN s n false))) (.wr b))
      | none => False
    | _ => False
  | op => match opP T env op with
    | some (d, c) => c ∧ K d H .no
    | none => match opH T env H op with
      | some out => out.c ∧ K out.d out.H out.touch
      | none => False

def xOps (P : Program) (call : CallO) (T : Tbl) (ops : Array Oper) : List Oper → Env → Heap → List Tch → (Env → Heap → List Tch → Prop) → Prop
  | [], env, H, ts, K => K env H ts
  | o :: rest, env, H, ts, K =>
    match o.guard with
    | none => xOp P call T o env H fun d H' t => xOps P call T ops rest (bindD o.dst d env) H' (t :: ts) K
    | some (j, want) => match gslot ops j with
      | none => False
      | some s => match env.lookup s with
        | some (.v (.bool g)) => match want with
          | true => pcond g (xOp P call T o ((s, .v (.bool true)) :: env) H fun d H' t => xOps P call T ops rest (bindD o.dst d ((s, .v (.bool true)) :: env)) H' (t :: ts) K)
              (xOps P call T ops rest (bindD o.dst (.v undef) ((s, .v (.bool false)) :: env)) H (.no :: ts) K)
          | false => pcond g (xOps P call T ops rest (bindD o.dst (.v undef) ((s, .v (.bool true)) :: env)) H (.no :: ts) K)
              (xOp P call T o ((s, .v (.bool false)) :: env) H fun d H' t => xOps P call T ops rest (bindD o.dst d ((s, .v (.bool false)) :: env)) H' (t :: ts) K)
        | some (.v (.tuple us)) => us.toList = [] ∧ xOps P call T ops rest (bindD o.dst (.v undef) env) H (.no :: ts) K
        | _ => False

/-- a loop by its own law -/
abbrev LoopO := Env → Heap → (Exit → Env → Heap → Prop) → Prop
def firstReg : Code → Nat
  | .region id _ _ => id
  | .seq a _ => firstReg a
  | .cond _ a _ => firstReg a
  | .block _ c => firstReg c
  | .loop c => firstReg c
  | .scope c => firstReg c
  | _ => 0

def xLoop (body : (Exit → Env → Heap → Prop) → Env → Heap → Prop) : Nat → (Exit → Env → Heap → Prop) → Env → Heap → Prop
  | 0, _, _, _ => False
  | n + 1, Q, env, H => body (fun e env' H' => match e with
    | .normal => xLoop body n Q (prune [] env') H'
    | e => Q e env' H') env H

def scopeQ (Q : Exit → Env → Heap → Prop) : Exit → Env → Heap → Prop
  | .goto _, _, _ => False
  | e, env, H => Q e env H
def vcx (P : Program) (call : CallO) (lp : Nat → Option LoopO) (T : Tbl) (N : Nat) : Code → (Exit → Env → Heap → Prop) → Env → Heap → Prop
  | .skip, Q, env, H => Q .normal env H
  | .region id ops draw, Q, env, H => xOps P call T ops ops.toList env H [] fun env' H' ts => pcond draw (regOk ops ts.reverse = true ∧ Q .normal env' H') (Q .normal env' H')
  | .seq a b, Q, env, H => vcx P call lp T N a (thenQ (fun env' H' => vcx P call lp T N b Q env' H') Q) env H
  | .cond c x y, Q, env, H => match opnd env c with
    | some (.v (.bool b)) => pcond b (vcx P call lp T N x Q env H) (vcx P call lp T N y Q env H)
    | _ => False
  | .block id c, Q, env, H => vcx P call lp T N c (blockQ id Q) env H
  | .exit id, Q, env, H => Q (.exit id) env H
  | .ret, Q, env, H => Q .ret env H
  | .label _, Q, env, H => Q .normal env H
  | .goto l, Q, env, H => Q (.goto l) env H
  | .loop c, Q, env, H => match lp (firstReg c) with
    | some L => L env H Q
    | none => xLoop (fun Q env H => vcx P call lp T N c Q env H) N Q (prune [] env) H
  | .scope c, Q, env, H => vcx P call lp T N c (scopeQ Q) env H
  | _, _, _, _ => False

def loopsOf : Code → List Code
  | .seq a b => loopsOf a ++ loopsOf b
  | .cond _ a b => loopsOf a ++ loopsOf b
  | .block _ c => loopsOf c
  | .loop c => c :: loopsOf c
  | .scope c => loopsOf c
  | _ => []
/-- the law of a loop -/
def LRule (P : Program) (nt : Nat) (c : Code) (L : LoopO) : Prop := ∀ env H Q, L env H Q → DW P nt (.loop c) Q env H
def LpAll (P : Program) (nt : Nat) (lp : Nat → Option LoopO) : List Code → Prop
  | [] => True
  | c :: r => (match lp (firstReg c) with
    | some L => LRule P nt c L
    | none => True) ∧ LpAll P nt lp r
theorem LpAll.app {P : Program} {nt : Nat} {lp : Nat → Option LoopO} : ∀ {l r : List Code}, LpAll P nt lp (l ++ r) → LpAll P nt lp l ∧ LpAll P nt lp r
  | [], r, h => ⟨trivial, h⟩
  | c :: l, r, h => by
    simp only [List.cons_append, LpAll] at h ⊢
    exact ⟨⟨h.1, h.2.app.1⟩, h.2.app.2⟩
theorem LpAll.none {P : Program} {nt : Nat} : ∀ (l : List Code), LpAll P nt (fun _ => none) l
  | [] => trivial
  | c :: l => ⟨trivial, LpAll.none l⟩

section
variable {P : Program} {T : Tbl} (hT : TblOk P T) {nt N : Nat} {call : CallO} {lp : Nat → Option LoopO}

theorem cond_prop {b : Bool} {X Y : Prop} (h : pcond b X Y) : (b = true → X) ∧ (b = false → Y) := by
  cases b with
  | true => exact ⟨fun _ => h, fun e => nomatch e⟩
  | false => exact ⟨fun e => (nomatch e), fun _ => h⟩
theorem pcond_intro {b : Bool} {X Y : Prop} (h1 : b = true → X) (h2 : b = false → Y) : pcond b X Y := by
  cases b with
  | true => exact h1 rfl
  | false => exact h2 rfl

theorem xOp_ok (hc : CallOK P call) {o : Oper} {env : Env} {H : Heap} {K : D → Heap → Tch → Prop} (h : xOp P call T o env H K) : vOp P T o env H K := by
  unfold vOp
  split
  · rename_i f args ts hop
    simp only [xOp, hop] at h
    split at h
    · rename_i g k caps ds hf ha
      split at h
      · rename_i p ho
        simp only [hf, ha]
        exact hc g (argsOf k caps ds) H K p ho h
      · exact h.elim
    · exact h.elim
  · rename_i r name args ts hop
    simp only [xOp, hop] at h
    split at h
    · rename_i t d ds hf ha
      split at h
      · rename_i g hm
        split at h
        · rename_i p ho
          simp only [hf, ha, hm]
          exact hc g (d :: ds) H K p ho h
        · exact h.elim
      · exact h.elim
    · exact h.elim
  · rename_i hne hne2
    unfold xOp at h
    split at h
    · rename_i hop
      exact absurd hop (hne _ _ _)
    · rename_i hop
      exact absurd hop (hne2 _ _ _ _)
    · rename_i it hop
      rw [hop]
      split at h
      · rename_i b hx
        split at h
        · rename_i s n hit
          show (match opP T env (.next it true) with
            | some (d, c) => c ∧ K d H .no
            | none => match opH T env H (.next it true) with
              | some out => out.c ∧ K out.d out.H out.touch
              | none => False)
          have e1 : opP T env (.next it true) = none := rfl
          have e2 : opH T env H (.next it true) = some ⟨nextD s n (decide (n.toNat < s.size)), H.set b (itBlk s (nextN s n (decide (n.toNat < s.size)))), .wr b, True⟩ := by
            simp only [opH, nextH, hx, hit]
          rw [e1, e2]
          refine ⟨trivial, ?_⟩
          cases hd : decide (n.toNat < s.size) with
          | true => rw [hd] at h; exact h
          | false => rw [hd] at h; exact h
        · exact h.elim
      · exact h.elim
    · exact h

theorem xOps_ok (hc : CallOK P call) {ops : Array Oper} : ∀ (l : List Oper) (env : Env) (H : Heap) (ts : List Tch) (K : Env → Heap → List Tch → Prop), xOps P call T ops l env H ts K → vOps P T ops l env H ts K
  | [], env, H, ts, K, h => h
  | o :: rest, env, H, ts, K, h => by
    simp only [xOps] at h
    simp only [vOps]
    split at h
    · rename_i hg
      simp only [hg]
      exact vOp_mono (xOp_ok hc h) fun d H' t hh => xOps_ok hc rest _ _ _ _ hh
    · rename_i j want hg
      split at h
      · exact h.elim
      · rename_i s hs
        split at h
        · rename_i g hl
          simp only [hg, hs, hl]
          cases want with
          | true =>
            obtain ⟨h1, h2⟩ := cond_prop h
            exact ⟨fun e => vOp_mono (xOp_ok hc (h1 e)) fun d H' t hh => xOps_ok hc rest _ _ _ _ hh, fun e => xOps_ok hc rest _ _ _ _ (h2 e)⟩
          | false =>
            obtain ⟨h1, h2⟩ := cond_prop h
            exact ⟨fun e => vOp_mono (xOp_ok hc (h2 e)) fun d H' t hh => xOps_ok hc rest _ _ _ _ hh, fun e => xOps_ok hc rest _ _ _ _ (h1 e)⟩
        · rename_i us hl
          simp only [hg, hs, hl]
          exact ⟨h.1, xOps_ok hc rest _ _ _ _ h.2⟩
        · exact h.elim

theorem xLoop_ok {c : Code} {body : (Exit → Env → Heap → Prop) → Env → Heap → Prop} (hb : ∀ Q env H, body Q env H → DW P nt c Q env H) {n : Nat} {Q : Exit → Env → Heap → Prop} {env : Env} {H : Heap} (h : xLoop body n Q (prune [] env) H) : DW P nt (.loop c) Q env H := by
  refine DW.loop (fun x : Nat × Env × Heap => xLoop body x.1 Q x.2.1 x.2.2) (fun x => x.2.1) (fun x => x.2.2) (fun x => x.1) (n, prune [] env, H) h (has_prune env) rfl ?_
  rintro ⟨m, en, hp⟩ hx
  simp only at hx ⊢
  cases m with
  | zero => exact hx.elim
  | succ m =>
    refine (hb _ _ _ hx).mono fun e env' H' hh => ?_
    cases e with
    | normal => exact ⟨(m, prune [] env', H'), by simp, hh, has_prune env', rfl⟩
    | _ => exact hh

include hT
theorem vcx_sound (hm : P.follows .mixedOrders = true) (hc : CallOK P call) : ∀ (c : Code) (Q : Exit → Env → Heap → Prop) (env : Env) (H : Heap), codeOk nt c = true → LpAll P nt lp (loopsOf c) → vcx P call lp T N c Q env H → DW P nt c Q env H
  | .skip, Q, env, H, hok, _, h => vcg_sound hT hm .skip Q env H hok h
  | .region id ops draw, Q, env, H, hok, _, h => by
    refine region_sound hT hm hok (vOps_mono _ _ _ _ (fun env' H' ts hh => ?_) (xOps_ok hc _ _ _ _ _ h))
    cases draw with
    | true => exact ⟨fun _ => hh.1, hh.2⟩
    | false => exact ⟨fun e => (nomatch e), hh⟩
  | .seq a b, Q, env, H, hok, hl, h => by
    simp only [codeOk, Bool.and_eq_true] at hok
    obtain ⟨hl1, hl2⟩ := LpAll.app hl
    intro ρ S w ac hi
    refine wp_seq (wp_mono (vcx_sound hm hc a _ env H hok.1 hl1 h ρ S w ac hi) fun e a' w' ⟨env', H', ρ', S', h1, h2, h3⟩ => ?_)
    cases e with
    | normal =>
      refine wp_mono (vcx_sound hm hc b Q env' H' hok.2 hl2 h1 ρ' S' w' a' h2) fun e a'' w'' ⟨env'', H'', ρ'', S'', h4, h5, h6⟩ => ?_
      exact ⟨env'', H'', ρ'', S'', h4, h5, h3.trans h6⟩
    | _ => exact ⟨env', H', ρ', S', h1, h2, h3⟩
  | .cond c x y, Q, env, H, hok, hl, h => by
    simp only [codeOk, Bool.and_eq_true] at hok
    obtain ⟨hl1, hl2⟩ := LpAll.app hl
    intro ρ S w ac hi
    simp only [vcx] at h
    split at h
    · rename_i b hb
      have hv := get_rd hi.st.glob hi.env c _ hb
      simp only [Rd] at hv
      obtain ⟨h1, h2⟩ := cond_prop h
      cases b with
      | true => exact wp_cond hv (vcx_sound hm hc x Q env H hok.1 hl1 (h1 rfl) ρ S w ac hi)
      | false => exact wp_cond hv (vcx_sound hm hc y Q env H hok.2 hl2 (h2 rfl) ρ S w ac hi)
    · exact h.elim
  | .block id c, Q, env, H, hok, hl, h => by
    simp only [codeOk] at hok
    intro ρ S w ac hi
    refine wp_block (wp_mono (vcx_sound hm hc c _ env H hok hl h ρ S w ac hi) fun e a' w' ⟨env', H', ρ', S', h1, h2, h3⟩ => ?_)
    cases e with
    | exit id' =>
      simp only [blockQ] at h1
      simp only [Exit.inBlock]
      split
      · rename_i he; rw [if_pos he] at h1; exact ⟨env', H', ρ', S', h1, h2, h3⟩
      · rename_i he; rw [if_neg he] at h1; exact ⟨env', H', ρ', S', h1, h2, h3⟩
    | _ => exact ⟨env', H', ρ', S', h1, h2, h3⟩
  | .exit id, Q, env, H, hok, _, h => vcg_sound hT hm (.exit id) Q env H hok h
  | .ret, Q, env, H, hok, _, h => vcg_sound hT hm .ret Q env H hok h
  | .label l, Q, env, H, hok, _, h => vcg_sound hT hm (.label l) Q env H hok h
  | .goto l, Q, env, H, hok, _, h => vcg_sound hT hm (.goto l) Q env H hok h
  | .refuse _, _, _, _, _, _, h => h.elim
  | .scope c, Q, env, H, hok, hl, h => by
    simp only [codeOk] at hok
    intro ρ S w ac hi
    refine wp_scope_straight (wp_mono (vcx_sound hm hc c _ env H hok hl h ρ S w ac hi) fun e a' w' ⟨env', H', ρ', S', h1, h2, h3⟩ => ?_)
    cases e with
    | goto l => exact h1.elim
    | _ => exact ⟨env', H', ρ', S', h1, h2, h3⟩
  | .rangeFunc .., Q, env, H, _, _, h => h.elim
  | .loop c, Q, env, H, hok, hl, h => by
    simp only [codeOk] at hok
    simp only [loopsOf, LpAll] at hl
    simp only [vcx] at h
    cases hlp : lp (firstReg c) with
    | some L =>
      simp only [hlp] at h hl
      exact hl.1 env H Q h
    | none =>
      simp only [hlp] at h
      exact xLoop_ok (fun Q env H hh => vcx_sound hm hc c Q env H hok hl.2 hh) h

theorem callJ_of_vcx (hm : P.follows .mixedOrders = true) (hc : CallOK P call) {f : FuncId} {fn : Func} {c : Code} {ds : List D} {H H' : Heap} {d : D} (hf : P.funcs[f]? = some fn) (hb : fn.body = some c)
    (hname : (fn.name == "runtime.NumGoroutine") = false) (hok : codeOk fn.ntmps c = true) (hlen : decide (ds.length ≤ fn.ntmps) = true) (hl : LpAll P fn.ntmps lp (loopsOf c))
    (h : vcx P call lp T N c (retQ T fn.results.toList fun d1 H1 => Fin ds H d1 H1 d H') (envOf 0 ds) H) : CallJ P f ds H d H' :=
  callJ_of_dw hT hf hb hname (by simpa using hlen) (vcx_sound hT hm hc c _ _ _ hok hl h)

theorem pureJ_of_vcx (hm : P.follows .mixedOrders = true) (hc : CallOK P call) {f : FuncId} {fn : Func} {c : Code} {ds : List D} {d : D} (hf : P.funcs[f]? = some fn) (hb : fn.body = some c)
    (hname : (fn.name == "runtime.NumGoroutine") = false) (hok : codeOk fn.ntmps c = true) (hlen : decide (ds.length ≤ fn.ntmps) = true) (hl : LpAll P fn.ntmps lp (loopsOf c)) (h1 : NamelessL ds) (h2 : Nameless d)
    (h : vcx P call lp T N c (retQ T fn.results.toList fun d1 H1 => SealTo H1 d1 d) (envOf 0 ds) []) : PureJ P f ds d := by
  refine PureJ.of_nil h1 h2 (callJ_of_dw hT hf hb hname (by simpa using hlen) ((vcx_sound hT hm hc c _ _ _ hok hl h).mono fun e env H h => ?_))
  cases e <;> simp only [retQ] at h ⊢
  all_goals first
    | exact h.elim
    | (split at h
       · exact ⟨h.1, fin_seal h.2⟩
       · exact h.elim)
end

/-! ### Tables of calls -/
/-- a pure function's answer, where the arguments have the right form -/
abbrev Ent := List D → Option (D × Prop)
def EntOk (P : Program) (g : FuncId) (e : Ent) : Prop := ∀ ds d c, e ds = some (d, c) → c → PureJ P g ds d
/-- where the arguments name own blocks: they are lent, if the answer is plain -/
def pureO (e : Ent) (ds : List D) (H : Heap) : Option HOut := match e ds with
  | some (d, c) => some ⟨d, H, .no, c⟩
  | none => match sealL H ds with
    | some (ds', c') => match e ds' with
      | some (d, c) => bif scalarB d then some ⟨d, H, .ra, c' ∧ c⟩ else some ⟨d, dropN H (namesD.namesA ds), .al, c' ∧ c⟩
      | none => none
    | none => none
/-- an answer that is known, under a condition -/
def outO (o : Option HOut) (K : D → Heap → Tch → Prop) : Option Prop := match o with
  | some out => some (out.c ∧ K out.d out.H out.touch)
  | none => none
def noCalls : CallO := fun _ _ _ _ => none
def addPure (f : FuncId) (e : Ent) (r : CallO) : CallO := fun g ds H K => bif Nat.beq g f then outO (pureO e ds H) K else r g ds H K
theorem noCalls_ok {P : Program} : CallOK P noCalls := fun g ds H K p h => by cases h
theorem addPure_ok {P : Program} {f : FuncId} {e : Ent} {r : CallO} (he : EntOk P f e) (hr : CallOK P r) : CallOK P (addPure f e r) := by
  intro g ds H K p h hp
  unfold addPure at h
  cases hg : Nat.beq g f with
  | false => rw [hg] at h; exact hr g ds H K p h hp
  | true =>
    rw [hg] at h
    have hgf : g = f := Nat.eq_of_beq_eq_true hg
    subst hgf
    simp only [cond_true] at h
    unfold outO at h
    split at h
    · rename_i out ho
      injection h with h; subst h
      obtain ⟨hc, hk⟩ := hp
      unfold pureO at ho
      split at ho
      · rename_i d c hd
        injection ho with ho; subst ho
        exact .pure d (he ds d c hd hc) hk
      · split at ho
        · rename_i ds' c' hs
          split at ho
          · rename_i d c hd
            cases hsc : scalarB d with
            | false =>
              rw [hsc] at ho
              injection ho with ho; subst ho
              exact .own d _ ((he ds' d c hd hc.2).hand hs hc.1) hk
            | true =>
              rw [hsc] at ho
              injection ho with ho; subst ho
              exact .reads d ((he ds' d c hd hc.2).borrow hs hc.1 hsc) hk
          · cases ho
        · cases ho
    · cases h
/-- a function without a body -/
def addExt (f : FuncId) (e : Ent) (r : CallO) : CallO := fun g ds H K => bif Nat.beq g f then (match e ds with
  | some (d, c) => some (c ∧ K d H .no)
  | none => none) else r g ds H K
theorem addExt_ok {P : Program} {f : FuncId} {e : Ent} {r : CallO} (he : ∀ ds d c, e ds = some (d, c) → c → ExtJ P f ds d) (hr : CallOK P r) : CallOK P (addExt f e r) := by
  intro g ds H K p h hp
  unfold addExt at h
  cases hg : Nat.beq g f with
  | false => rw [hg] at h; exact hr g ds H K p h hp
  | true =>
    rw [hg] at h
    have hgf : g = f := Nat.eq_of_beq_eq_true hg
    subst hgf
    simp only [cond_true] at h
    split at h
    · rename_i d c hd
      injection h with h; subst h
      exact .ext d (he ds d c hd hp.1) hp.2
    · cases h
/-- a pure function whose answer is named by new variables -/
abbrev EntQ := List D → (D → Prop) → Option Prop
def EntQOk (P : Program) (g : FuncId) (e : EntQ) : Prop := ∀ ds K p, e ds K = some p → p → ∃ d, PureJ P g ds d ∧ K d
def addQ (f : FuncId) (e : EntQ) (r : CallO) : CallO := fun g ds H K => bif Nat.beq g f then e ds (fun d => K d H .no) else r g ds H K
theorem addQ_ok {P : Program} {f : FuncId} {e : EntQ} {r : CallO} (he : EntQOk P f e) (hr : CallOK P r) : CallOK P (addQ f e r) := by
  intro g ds H K p h hp
  unfold addQ at h
  cases hg : Nat.beq g f with
  | false => rw [hg] at h; exact hr g ds H K p h hp
  | true =>
    rw [hg] at h
    have hgf : g = f := Nat.eq_of_beq_eq_true hg
    subst hgf
    simp only [cond_true] at h
    obtain ⟨d, hd, hk⟩ := he ds _ p h hp
    exact .pure d hd hk
theorem of_eq {A B : Prop} (h : A = B) (b : B) : A := h.mpr b
end Go.VD
