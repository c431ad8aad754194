import Derived.Test.YtahiigfpikohgaaZUo6
import Derived.Test.YtahiigfpikohgaaZUo5
import Derived.Laws.Externs
import Derived.Test.YtahiigfpikohgaaZUo4
import Derived.Test.YtahiigfpikohgaaProg
import Derived.Lib.Bytealg
import Derived.Lib.Strings
import Derived.Lib.Walk
import Derived.Lib.BufferWrite
import Derived.Lib.UnsafeStr
import Derived.Lib.Hide
import Derived.Lib.Buffer
import Derived.Laws.MakeOwn
import Derived.WalkKit
section
namespace Go.VD
set_option linter.unusedVariables false
set_option linter.unusedSimpArgs false
abbrev CallO := FuncId → List D → Heap → (D → Heap → Tch → Prop) → Option Prop
def CallOK (P : Program) (call : CallO) : Prop := ∀ g ds H K p, call g ds H K = some p → p → VCall P g ds H K
def pcond (b : Bool) (X Y : Prop) : Prop := match b with
  | true => X
  | false => Y
theorem pcond_true (X Y : Prop) : pcond true X Y = X := rfl
theorem pcond_false (X Y : Prop) : pcond false X Y = Y := rfl
def xOp (P : Program) (call : CallO) (T : Tbl) (o : Oper) (env : Env) (H : Heap) (K : D → Heap → Tch → Prop) : Prop :=
  match o.op with
  | .call { callee := .value f, args, argTypes } => match opnd env f, getAll env args.toList with
    | some (.fn g k caps), some ds => match call g (argsOf k caps ds) H K with
      | some p => p
      | none => False
    | _, _ => False
  | .call { callee := .invoke r name, args, argTypes } => match opnd env r, getAll env args.toList with
    | some (.ifc t d), some ds => match methOf P t name with
      | some g => match call g (d :: ds) H K with
        | some p => p
        | none => False
      | none => False
    | _, _ => False
  | .next it true => match opnd env it with
    | some (.ptr b 0) => match iterAt H b with
      | some (s, n) => pcond (decide (n.toNat < s.size)) (K (nextD s n true) (H.set b (itBlk s (nextN s n true))) (.wr b)) (K (nextD s n false) (H.set b (itBlk s (nextN s n false))) (.wr b))
      | none => False
    | _ => False
  | op => match opP T env op with
    | some (d, c) => c ∧ K d H .no
    | none => match opH T env H op with
      | some out => out.c ∧ K out.d out.H out.touch
      | none => False
def xOps (P : Program) (call : CallO) (T : Tbl) (ops : Array Oper) : List Oper → Env → Heap → List Tch → (Env → Heap → List Tch → Prop) → Prop
  | [], env, H, ts, K => K env H ts
  | o :: rest, env, H, ts, K =>
    match o.guard with
    | none => xOp P call T o env H fun d H' t => xOps P call T ops rest (bindD o.dst d env) H' (t :: ts) K
    | some (j, want) => match gslot ops j with
      | none => False
      | some s => match env.lookup s with
        | some (.v (.bool g)) => match want with
          | true => pcond g (xOp P call T o ((s, .v (.bool true)) :: env) H fun d H' t => xOps P call T ops rest (bindD o.dst d ((s, .v (.bool true)) :: env)) H' (t :: ts) K)
              (xOps P call T ops rest (bindD o.dst (.v undef) ((s, .v (.bool false)) :: env)) H (.no :: ts) K)
          | false => pcond g (xOps P call T ops rest (bindD o.dst (.v undef) ((s, .v (.bool true)) :: env)) H (.no :: ts) K)
              (xOp P call T o ((s, .v (.bool false)) :: env) H fun d H' t => xOps P call T ops rest (bindD o.dst d ((s, .v (.bool false)) :: env)) H' (t :: ts) K)
        | some (.v (.tuple us)) => us.toList = [] ∧ xOps P call T ops rest (bindD o.dst (.v undef) env) H (.no :: ts) K
        | _ => False
abbrev LoopO := Env → Heap → (Exit → Env → Heap → Prop) → Prop
def firstReg : Code → Nat
  | .region id _ _ => id
  | .seq a _ => firstReg a
  | .cond _ a _ => firstReg a
  | .block _ c => firstReg c
  | .loop c => firstReg c
  | .scope c => firstReg c
  | _ => 0
def xLoop (body : (Exit → Env → Heap → Prop) → Env → Heap → Prop) : Nat → (Exit → Env → Heap → Prop) → Env → Heap → Prop
  | 0, _, _, _ => False
  | n + 1, Q, env, H => body (fun e env' H' => match e with
    | .normal => xLoop body n Q (prune [] env') H'
    | e => Q e env' H') env H
def scopeQ (Q : Exit → Env → Heap → Prop) : Exit → Env → Heap → Prop
  | .goto _, _, _ => False
  | e, env, H => Q e env H
def vcx (P : Program) (call : CallO) (lp : Nat → Option LoopO) (T : Tbl) (N : Nat) : Code → (Exit → Env → Heap → Prop) → Env → Heap → Prop
  | .skip, Q, env, H => Q .normal env H
  | .region id ops draw, Q, env, H => xOps P call T ops ops.toList env H [] fun env' H' ts => pcond draw (regOk ops ts.reverse = true ∧ Q .normal env' H') (Q .normal env' H')
  | .seq a b, Q, env, H => vcx P call lp T N a (thenQ (fun env' H' => vcx P call lp T N b Q env' H') Q) env H
  | .cond c x y, Q, env, H => match opnd env c with
    | some (.v (.bool b)) => pcond b (vcx P call lp T N x Q env H) (vcx P call lp T N y Q env H)
    | _ => False
  | .block id c, Q, env, H => vcx P call lp T N c (blockQ id Q) env H
  | .exit id, Q, env, H => Q (.exit id) env H
  | .ret, Q, env, H => Q .ret env H
  | .label _, Q, env, H => Q .normal env H
  | .goto l, Q, env, H => Q (.goto l) env H
  | .loop c, Q, env, H => match lp (firstReg c) with
    | some L => L env H Q
    | none => xLoop (fun Q env H => vcx P call lp T N c Q env H) N Q (prune [] env) H
  | .scope c, Q, env, H => vcx P call lp T N c (scopeQ Q) env H
  | _, _, _, _ => False
def loopsOf : Code → List Code
  | .seq a b => loopsOf a ++ loopsOf b
  | .cond _ a b => loopsOf a ++ loopsOf b
  | .block _ c => loopsOf c
  | .loop c => c :: loopsOf c
  | .scope c => loopsOf c
  | _ => []
def LRule (P : Program) (nt : Nat) (c : Code) (L : LoopO) : Prop := ∀ env H Q, L env H Q → DW P nt (.loop c) Q env H
def LpAll (P : Program) (nt : Nat) (lp : Nat → Option LoopO) : List Code → Prop
  | [] => True
  | c :: r => (match lp (firstReg c) with
    | some L => LRule P nt c L
    | none => True) ∧ LpAll P nt lp r
theorem LpAll.app {P : Program} {nt : Nat} {lp : Nat → Option LoopO} : ∀ {l r : List Code}, LpAll P nt lp (l ++ r) → LpAll P nt lp l ∧ LpAll P nt lp r
  | [], r, h => ⟨trivial, h⟩
  | c :: l, r, h => by
    simp only [List.cons_append, LpAll] at h ⊢
    exact ⟨⟨h.1, h.2.app.1⟩, h.2.app.2⟩
theorem LpAll.none {P : Program} {nt : Nat} : ∀ (l : List Code), LpAll P nt (fun _ => none) l
  | [] => trivial
  | c :: l => ⟨trivial, LpAll.none l⟩
section
variable {P : Program} {T : Tbl} (hT : TblOk P T) {nt N : Nat} {call : CallO} {lp : Nat → Option LoopO}
theorem cond_prop {b : Bool} {X Y : Prop} (h : pcond b X Y) : (b = true → X) ∧ (b = false → Y) := by
  cases b with
  | true => exact ⟨fun _ => h, fun e => nomatch e⟩
  | false => exact ⟨fun e => (nomatch e), fun _ => h⟩
theorem pcond_intro {b : Bool} {X Y : Prop} (h1 : b = true → X) (h2 : b = false → Y) : pcond b X Y := by
  cases b with
  | true => exact h1 rfl
  | false => exact h2 rfl
theorem xOp_ok (hc : CallOK P call) {o : Oper} {env : Env} {H : Heap} {K : D → Heap → Tch → Prop} (h : xOp P call T o env H K) : vOp P T o env H K := by
  unfold vOp
  split
  · rename_i f args ts hop
    simp only [xOp, hop] at h
    split at h
    · rename_i g k caps ds hf ha
      split at h
      · rename_i p ho
        simp only [hf, ha]
        exact hc g (argsOf k caps ds) H K p ho h
      · exact h.elim
    · exact h.elim
  · rename_i r name args ts hop
    simp only [xOp, hop] at h
    split at h
    · rename_i t d ds hf ha
      split at h
      · rename_i g hm
        split at h
        · rename_i p ho
          simp only [hf, ha, hm]
          exact hc g (d :: ds) H K p ho h
        · exact h.elim
      · exact h.elim
    · exact h.elim
  · rename_i hne hne2
    unfold xOp at h
    split at h
    · rename_i hop
      exact absurd hop (hne _ _ _)
    · rename_i hop
      exact absurd hop (hne2 _ _ _ _)
    · rename_i it hop
      rw [hop]
      split at h
      · rename_i b hx
        split at h
        · rename_i s n hit
          show (match opP T env (.next it true) with
            | some (d, c) => c ∧ K d H .no
            | none => match opH T env H (.next it true) with
              | some out => out.c ∧ K out.d out.H out.touch
              | none => False)
          have e1 : opP T env (.next it true) = none := rfl
          have e2 : opH T env H (.next it true) = some ⟨nextD s n (decide (n.toNat < s.size)), H.set b (itBlk s (nextN s n (decide (n.toNat < s.size)))), .wr b, True⟩ := by
            simp only [opH, nextH, hx, hit]
          rw [e1, e2]
          refine ⟨trivial, ?_⟩
          cases hd : decide (n.toNat < s.size) with
          | true => rw [hd] at h; exact h
          | false => rw [hd] at h; exact h
        · exact h.elim
      · exact h.elim
    · exact h
theorem xOps_ok (hc : CallOK P call) {ops : Array Oper} : ∀ (l : List Oper) (env : Env) (H : Heap) (ts : List Tch) (K : Env → Heap → List Tch → Prop), xOps P call T ops l env H ts K → vOps P T ops l env H ts K
  | [], env, H, ts, K, h => h
  | o :: rest, env, H, ts, K, h => by
    simp only [xOps] at h
    simp only [vOps]
    split at h
    · rename_i hg
      simp only [hg]
      exact vOp_mono (xOp_ok hc h) fun d H' t hh => xOps_ok hc rest _ _ _ _ hh
    · rename_i j want hg
      split at h
      · exact h.elim
      · rename_i s hs
        split at h
        · rename_i g hl
          simp only [hg, hs, hl]
          cases want with
          | true =>
            obtain ⟨h1, h2⟩ := cond_prop h
            exact ⟨fun e => vOp_mono (xOp_ok hc (h1 e)) fun d H' t hh => xOps_ok hc rest _ _ _ _ hh, fun e => xOps_ok hc rest _ _ _ _ (h2 e)⟩
          | false =>
            obtain ⟨h1, h2⟩ := cond_prop h
            exact ⟨fun e => vOp_mono (xOp_ok hc (h2 e)) fun d H' t hh => xOps_ok hc rest _ _ _ _ hh, fun e => xOps_ok hc rest _ _ _ _ (h1 e)⟩
        · rename_i us hl
          simp only [hg, hs, hl]
          exact ⟨h.1, xOps_ok hc rest _ _ _ _ h.2⟩
        · exact h.elim
theorem xLoop_ok {c : Code} {body : (Exit → Env → Heap → Prop) → Env → Heap → Prop} (hb : ∀ Q env H, body Q env H → DW P nt c Q env H) {n : Nat} {Q : Exit → Env → Heap → Prop} {env : Env} {H : Heap} (h : xLoop body n Q (prune [] env) H) : DW P nt (.loop c) Q env H := by
  refine DW.loop (fun x : Nat × Env × Heap => xLoop body x.1 Q x.2.1 x.2.2) (fun x => x.2.1) (fun x => x.2.2) (fun x => x.1) (n, prune [] env, H) h (has_prune env) rfl ?_
  rintro ⟨m, en, hp⟩ hx
  simp only at hx ⊢
  cases m with
  | zero => exact hx.elim
  | succ m =>
    refine (hb _ _ _ hx).mono fun e env' H' hh => ?_
    cases e with
    | normal => exact ⟨(m, prune [] env', H'), by simp, hh, has_prune env', rfl⟩
    | _ => exact hh
include hT
theorem vcx_sound (hm : P.follows .mixedOrders = true) (hc : CallOK P call) : ∀ (c : Code) (Q : Exit → Env → Heap → Prop) (env : Env) (H : Heap), codeOk nt c = true → LpAll P nt lp (loopsOf c) → vcx P call lp T N c Q env H → DW P nt c Q env H
  | .skip, Q, env, H, hok, _, h => vcg_sound hT hm .skip Q env H hok h
  | .region id ops draw, Q, env, H, hok, _, h => by
    refine region_sound hT hm hok (vOps_mono _ _ _ _ (fun env' H' ts hh => ?_) (xOps_ok hc _ _ _ _ _ h))
    cases draw with
    | true => exact ⟨fun _ => hh.1, hh.2⟩
    | false => exact ⟨fun e => (nomatch e), hh⟩
  | .seq a b, Q, env, H, hok, hl, h => by
    simp only [codeOk, Bool.and_eq_true] at hok
    obtain ⟨hl1, hl2⟩ := LpAll.app hl
    intro ρ S w ac hi
    refine wp_seq (wp_mono (vcx_sound hm hc a _ env H hok.1 hl1 h ρ S w ac hi) fun e a' w' ⟨env', H', ρ', S', h1, h2, h3⟩ => ?_)
    cases e with
    | normal =>
      refine wp_mono (vcx_sound hm hc b Q env' H' hok.2 hl2 h1 ρ' S' w' a' h2) fun e a'' w'' ⟨env'', H'', ρ'', S'', h4, h5, h6⟩ => ?_
      exact ⟨env'', H'', ρ'', S'', h4, h5, h3.trans h6⟩
    | _ => exact ⟨env', H', ρ', S', h1, h2, h3⟩
  | .cond c x y, Q, env, H, hok, hl, h => by
    simp only [codeOk, Bool.and_eq_true] at hok
    obtain ⟨hl1, hl2⟩ := LpAll.app hl
    intro ρ S w ac hi
    simp only [vcx] at h
    split at h
    · rename_i b hb
      have hv := get_rd hi.st.glob hi.env c _ hb
      simp only [Rd] at hv
      obtain ⟨h1, h2⟩ := cond_prop h
      cases b with
      | true => exact wp_cond hv (vcx_sound hm hc x Q env H hok.1 hl1 (h1 rfl) ρ S w ac hi)
      | false => exact wp_cond hv (vcx_sound hm hc y Q env H hok.2 hl2 (h2 rfl) ρ S w ac hi)
    · exact h.elim
  | .block id c, Q, env, H, hok, hl, h => by
    simp only [codeOk] at hok
    intro ρ S w ac hi
    refine wp_block (wp_mono (vcx_sound hm hc c _ env H hok hl h ρ S w ac hi) fun e a' w' ⟨env', H', ρ', S', h1, h2, h3⟩ => ?_)
    cases e with
    | exit id' =>
      simp only [blockQ] at h1
      simp only [Exit.inBlock]
      split
      · rename_i he; rw [if_pos he] at h1; exact ⟨env', H', ρ', S', h1, h2, h3⟩
      · rename_i he; rw [if_neg he] at h1; exact ⟨env', H', ρ', S', h1, h2, h3⟩
    | _ => exact ⟨env', H', ρ', S', h1, h2, h3⟩
  | .exit id, Q, env, H, hok, _, h => vcg_sound hT hm (.exit id) Q env H hok h
  | .ret, Q, env, H, hok, _, h => vcg_sound hT hm .ret Q env H hok h
  | .label l, Q, env, H, hok, _, h => vcg_sound hT hm (.label l) Q env H hok h
  | .goto l, Q, env, H, hok, _, h => vcg_sound hT hm (.goto l) Q env H hok h
  | .refuse _, _, _, _, _, _, h => h.elim
  | .scope c, Q, env, H, hok, hl, h => by
    simp only [codeOk] at hok
    intro ρ S w ac hi
    refine wp_scope_straight (wp_mono (vcx_sound hm hc c _ env H hok hl h ρ S w ac hi) fun e a' w' ⟨env', H', ρ', S', h1, h2, h3⟩ => ?_)
    cases e with
    | goto l => exact h1.elim
    | _ => exact ⟨env', H', ρ', S', h1, h2, h3⟩
  | .rangeFunc .., Q, env, H, _, _, h => h.elim
  | .loop c, Q, env, H, hok, hl, h => by
    simp only [codeOk] at hok
    simp only [loopsOf, LpAll] at hl
    simp only [vcx] at h
    cases hlp : lp (firstReg c) with
    | some L =>
      simp only [hlp] at h hl
      exact hl.1 env H Q h
    | none =>
      simp only [hlp] at h
      exact xLoop_ok (fun Q env H hh => vcx_sound hm hc c Q env H hok hl.2 hh) h
theorem callJ_of_vcx (hm : P.follows .mixedOrders = true) (hc : CallOK P call) {f : FuncId} {fn : Func} {c : Code} {ds : List D} {H H' : Heap} {d : D} (hf : P.funcs[f]? = some fn) (hb : fn.body = some c)
    (hname : (fn.name == "runtime.NumGoroutine") = false) (hok : codeOk fn.ntmps c = true) (hlen : decide (ds.length ≤ fn.ntmps) = true) (hl : LpAll P fn.ntmps lp (loopsOf c))
    (h : vcx P call lp T N c (retQ T fn.results.toList fun d1 H1 => Fin ds H d1 H1 d H') (envOf 0 ds) H) : CallJ P f ds H d H' :=
  callJ_of_dw hT hf hb hname (by simpa using hlen) (vcx_sound hT hm hc c _ _ _ hok hl h)
theorem pureJ_of_vcx (hm : P.follows .mixedOrders = true) (hc : CallOK P call) {f : FuncId} {fn : Func} {c : Code} {ds : List D} {d : D} (hf : P.funcs[f]? = some fn) (hb : fn.body = some c)
    (hname : (fn.name == "runtime.NumGoroutine") = false) (hok : codeOk fn.ntmps c = true) (hlen : decide (ds.length ≤ fn.ntmps) = true) (hl : LpAll P fn.ntmps lp (loopsOf c)) (h1 : NamelessL ds) (h2 : Nameless d)
    (h : vcx P call lp T N c (retQ T fn.results.toList fun d1 H1 => SealTo H1 d1 d) (envOf 0 ds) []) : PureJ P f ds d := by
  refine PureJ.of_nil h1 h2 (callJ_of_dw hT hf hb hname (by simpa using hlen) ((vcx_sound hT hm hc c _ _ _ hok hl h).mono fun e env H h => ?_))
  cases e <;> simp only [retQ] at h ⊢
  all_goals first
    | exact h.elim
    | (split at h
       · exact ⟨h.1, fin_seal h.2⟩
       · exact h.elim)
end
abbrev Ent := List D → Option (D × Prop)
def EntOk (P : Program) (g : FuncId) (e : Ent) : Prop := ∀ ds d c, e ds = some (d, c) → c → PureJ P g ds d
def pureO (e : Ent) (ds : List D) (H : Heap) : Option HOut := match e ds with
  | some (d, c) => some ⟨d, H, .no, c⟩
  | none => match sealL H ds with
    | some (ds', c') => match e ds' with
      | some (d, c) => bif scalarB d then some ⟨d, H, .ra, c' ∧ c⟩ else some ⟨d, dropN H (namesD.namesA ds), .al, c' ∧ c⟩
      | none => none
    | none => none
def outO (o : Option HOut) (K : D → Heap → Tch → Prop) : Option Prop := match o with
  | some out => some (out.c ∧ K out.d out.H out.touch)
  | none => none
def noCalls : CallO := fun _ _ _ _ => none
def addPure (f : FuncId) (e : Ent) (r : CallO) : CallO := fun g ds H K => bif Nat.beq g f then outO (pureO e ds H) K else r g ds H K
theorem noCalls_ok {P : Program} : CallOK P noCalls := fun g ds H K p h => by cases h
theorem addPure_ok {P : Program} {f : FuncId} {e : Ent} {r : CallO} (he : EntOk P f e) (hr : CallOK P r) : CallOK P (addPure f e r) := by
  intro g ds H K p h hp
  unfold addPure at h
  cases hg : Nat.beq g f with
  | false => rw [hg] at h; exact hr g ds H K p h hp
  | true =>
    rw [hg] at h
    have hgf : g = f := Nat.eq_of_beq_eq_true hg
    subst hgf
    simp only [cond_true] at h
    unfold outO at h
    split at h
    · rename_i out ho
      injection h with h; subst h
      obtain ⟨hc, hk⟩ := hp
      unfold pureO at ho
      split at ho
      · rename_i d c hd
        injection ho with ho; subst ho
        exact .pure d (he ds d c hd hc) hk
      · split at ho
        · rename_i ds' c' hs
          split at ho
          · rename_i d c hd
            cases hsc : scalarB d with
            | false =>
              rw [hsc] at ho
              injection ho with ho; subst ho
              exact .own d _ ((he ds' d c hd hc.2).hand hs hc.1) hk
            | true =>
              rw [hsc] at ho
              injection ho with ho; subst ho
              exact .reads d ((he ds' d c hd hc.2).borrow hs hc.1 hsc) hk
          · cases ho
        · cases ho
    · cases h
def addExt (f : FuncId) (e : Ent) (r : CallO) : CallO := fun g ds H K => bif Nat.beq g f then (match e ds with
  | some (d, c) => some (c ∧ K d H .no)
  | none => none) else r g ds H K
theorem addExt_ok {P : Program} {f : FuncId} {e : Ent} {r : CallO} (he : ∀ ds d c, e ds = some (d, c) → c → ExtJ P f ds d) (hr : CallOK P r) : CallOK P (addExt f e r) := by
  intro g ds H K p h hp
  unfold addExt at h
  cases hg : Nat.beq g f with
  | false => rw [hg] at h; exact hr g ds H K p h hp
  | true =>
    rw [hg] at h
    have hgf : g = f := Nat.eq_of_beq_eq_true hg
    subst hgf
    simp only [cond_true] at h
    split at h
    · rename_i d c hd
      injection h with h; subst h
      exact .ext d (he ds d c hd hp.1) hp.2
    · cases h
abbrev EntQ := List D → (D → Prop) → Option Prop
def EntQOk (P : Program) (g : FuncId) (e : EntQ) : Prop := ∀ ds K p, e ds K = some p → p → ∃ d, PureJ P g ds d ∧ K d
def addQ (f : FuncId) (e : EntQ) (r : CallO) : CallO := fun g ds H K => bif Nat.beq g f then e ds (fun d => K d H .no) else r g ds H K
theorem addQ_ok {P : Program} {f : FuncId} {e : EntQ} {r : CallO} (he : EntQOk P f e) (hr : CallOK P r) : CallOK P (addQ f e r) := by
  intro g ds H K p h hp
  unfold addQ at h
  cases hg : Nat.beq g f with
  | false => rw [hg] at h; exact hr g ds H K p h hp
  | true =>
    rw [hg] at h
    have hgf : g = f := Nat.eq_of_beq_eq_true hg
    subst hgf
    simp only [cond_true] at h
    obtain ⟨d, hd, hk⟩ := he ds _ p h hp
    exact .pure d hd hk
theorem of_eq {A B : Prop} (h : A = B) (b : B) : A := h.mpr b
end Go.VD
end
section
namespace Go.VD
set_option linter.unusedVariables false
set_option linter.unusedSimpArgs false
section
variable {T : Tbl} {t e : TypeId} {a b : Nat} {z : List Value} {cs : List D}
theorem TC.bool_inv (h : T t = some ⟨.bool, a, b, z⟩) (hc : TC T t cs) : ∃ x, cs = [.v (.bool x)] := by
  cases hc <;> simp_all
theorem TC.int_inv {k : IntKind} (h : T t = some ⟨.int k, a, b, z⟩) (hc : TC T t cs) : ∃ n, cs = [.v (.int k n)] ∧ (Lit.int k n).wf = true := by
  cases hc <;> simp_all
theorem TC.str_inv (h : T t = some ⟨.str, a, b, z⟩) (hc : TC T t cs) : ∃ s : ByteArray, cs = [.v (.string s)] ∧ s.size ≤ maxLen := by
  cases hc <;> simp_all
theorem TC.slice_inv (h : T t = some ⟨.slice e, a, b, z⟩) (hc : TC T t cs) : ∃ chunks : List (List D), cs = [.ro chunks.length chunks.flatten] ∧ chunks.length ≤ maxLen ∧ ∀ c ∈ chunks, TC T e c := by
  cases hc with
  | slice h' chunks hl hcc => rw [h] at h'; simp only [Option.some.injEq, TI.mk.injEq, TD.slice.injEq] at h'; obtain ⟨rfl, _⟩ := h'; exact ⟨chunks, rfl, hl, hcc⟩
  | _ => simp_all
theorem TC.arr_inv {n : Nat} (h : T t = some ⟨.arr n e, a, b, z⟩) (hc : TC T t cs) : ∃ chunks : List (List D), cs = chunks.flatten ∧ chunks.length = n ∧ ∀ c ∈ chunks, TC T e c := by
  cases hc with
  | arr h' chunks hl hcc => rw [h] at h'; simp only [Option.some.injEq, TI.mk.injEq, TD.arr.injEq] at h'; obtain ⟨⟨rfl, rfl⟩, _⟩ := h'; exact ⟨chunks, rfl, hl, hcc⟩
  | _ => simp_all
theorem TC.struct_inv {fs : List (Nat × TypeId)} (h : T t = some ⟨.struct fs, a, b, z⟩) (hc : TC T t cs) : ∃ parts : List (List D), cs = parts.flatten ∧ parts.length = fs.length ∧ ∀ (i : Nat) (p : List D) (f : Nat × TypeId), parts[i]? = some p → fs[i]? = some f → TC T f.2 p := by
  cases hc with
  | struct h' parts hl hp => rw [h] at h'; simp only [Option.some.injEq, TI.mk.injEq, TD.struct.injEq] at h'; obtain ⟨rfl, _⟩ := h'; exact ⟨parts, rfl, hl, hp⟩
  | _ => simp_all
def TFields (T : Tbl) : List (Nat × TypeId) → List D → Prop
  | [], cs => cs = []
  | f :: fs, cs => ∃ p r, cs = p ++ r ∧ TC T f.2 p ∧ TFields T fs r
theorem tfields_of : ∀ (fs : List (Nat × TypeId)) (parts : List (List D)), parts.length = fs.length → (∀ (i : Nat) (p : List D) (f : Nat × TypeId), parts[i]? = some p → fs[i]? = some f → TC T f.2 p) → TFields T fs parts.flatten
  | [], parts, hl, _ => by
    have : parts = [] := List.eq_nil_of_length_eq_zero hl
    subst this; simp [TFields]
  | f :: fs, [], hl, _ => by simp at hl
  | f :: fs, p :: parts, hl, h => by
    simp only [TFields, List.flatten_cons]
    exact ⟨p, parts.flatten, rfl, h 0 p f (by simp) (by simp), tfields_of fs parts (by simpa using hl) fun i p' f' hp hf => h (i + 1) p' f' (by simpa using hp) (by simpa using hf)⟩
theorem TC.fields {fs : List (Nat × TypeId)} (h : T t = some ⟨.struct fs, a, b, z⟩) (hc : TC T t cs) : TFields T fs cs := by
  obtain ⟨parts, rfl, hl, hp⟩ := hc.struct_inv h
  exact tfields_of fs parts hl hp
theorem TArgs.cons_inv {ts : List TypeId} {ds : List D} (h : TArgs T (t :: ts) ds) : ∃ d r, ds = d :: r ∧ (∃ ti cs, T t = some ti ∧ TC T t cs ∧ d = (if ti.td.isAgg then .agg cs else cs.headD default)) ∧ TArgs T ts r := h
theorem TArgs.nil_inv {ds : List D} (h : TArgs T [] ds) : ds = [] := h
theorem targ_struct {fs : List (Nat × TypeId)} {d : D} (h : T t = some ⟨.struct fs, a, b, z⟩) (hd : ∃ ti cs, T t = some ti ∧ TC T t cs ∧ d = (if ti.td.isAgg then .agg cs else cs.headD default)) : ∃ cs, d = .agg cs ∧ TFields T fs cs := by
  obtain ⟨ti, cs, h1, h2, h3⟩ := hd
  rw [h] at h1; injection h1 with h1; subst h1
  exact ⟨cs, h3, h2.fields h⟩
theorem targ_int {k : IntKind} {d : D} (h : T t = some ⟨.int k, a, b, z⟩) (hd : ∃ ti cs, T t = some ti ∧ TC T t cs ∧ d = (if ti.td.isAgg then .agg cs else cs.headD default)) : ∃ n, d = .v (.int k n) ∧ (Lit.int k n).wf = true := by
  obtain ⟨ti, cs, h1, h2, h3⟩ := hd
  rw [h] at h1; injection h1 with h1; subst h1
  obtain ⟨n, rfl, hw⟩ := h2.int_inv h
  exact ⟨n, h3, hw⟩
theorem targ_bool {d : D} (h : T t = some ⟨.bool, a, b, z⟩) (hd : ∃ ti cs, T t = some ti ∧ TC T t cs ∧ d = (if ti.td.isAgg then .agg cs else cs.headD default)) : ∃ x, d = .v (.bool x) := by
  obtain ⟨ti, cs, h1, h2, h3⟩ := hd
  rw [h] at h1; injection h1 with h1; subst h1
  obtain ⟨n, rfl⟩ := h2.bool_inv h
  exact ⟨n, h3⟩
theorem targ_str {d : D} (h : T t = some ⟨.str, a, b, z⟩) (hd : ∃ ti cs, T t = some ti ∧ TC T t cs ∧ d = (if ti.td.isAgg then .agg cs else cs.headD default)) : ∃ s : ByteArray, d = .v (.string s) ∧ s.size ≤ maxLen := by
  obtain ⟨ti, cs, h1, h2, h3⟩ := hd
  rw [h] at h1; injection h1 with h1; subst h1
  obtain ⟨s, rfl, hs⟩ := h2.str_inv h
  exact ⟨s, h3, hs⟩
theorem targ_slice {d : D} (h : T t = some ⟨.slice e, a, b, z⟩) (hd : ∃ ti cs, T t = some ti ∧ TC T t cs ∧ d = (if ti.td.isAgg then .agg cs else cs.headD default)) : ∃ chunks : List (List D), d = .ro chunks.length chunks.flatten ∧ chunks.length ≤ maxLen ∧ ∀ c ∈ chunks, TC T e c := by
  obtain ⟨ti, cs, h1, h2, h3⟩ := hd
  rw [h] at h1; injection h1 with h1; subst h1
  obtain ⟨chunks, rfl, hs, hc⟩ := h2.slice_inv h
  exact ⟨chunks, h3, hs, hc⟩
theorem wf_i64 {n : Int} (h : (Lit.int .i64 n).wf = true) : -9223372036854775808 ≤ n ∧ n < 9223372036854775808 := by
  simp [Lit.wf, IntKind.min, IntKind.max, IntKind.bits, IntKind.signed] at h; omega
end
theorem rdT3 {E : Ctx} {k : IntKind} {x y c : Int} {vals : List Value} (h : RdT E [.v (.int k x), .v (.int k y), .v (.int k c)] vals) : vals = [.int k x, .int k y, .int k c] := by
  simp only [RdT, Rd] at h
  obtain ⟨u, r, rfl, rfl, u2, r2, rfl, rfl, u3, r3, rfl, rfl, rfl⟩ := h
  rfl
theorem rd_two {E : Ctx} (x y : Value) : Rd E (.tup [.v x, .v y]) (.tuple #[x, y]) := by
  simp only [Rd]
  exact ⟨#[x, y], rfl, by simp [RdT, Rd]⟩
def sub64E : Array Value → Sem Value := (Extern.MathBitsCarry.rows.getD 1 ("", fun _ => .pure undef)).2
theorem run_sub64E {P : Program} (x y b : Int) (hx : 0 ≤ x) (hy : 0 ≤ y) (hx2 : x < 18446744073709551616) (hy2 : y < 18446744073709551616) (h0 : 0 ≤ b) (hb : b ≤ 1) (w : World) :
    (sub64E #[.int .u64 x, .int .u64 y, .int .u64 b]).run P w = .ok (.tuple #[.int .u64 ((x - y - b) % 18446744073709551616), .int .u64 (bif decide (x < y + b) then 1 else 0)]) w := by
  obtain ⟨X, rfl⟩ := Int.eq_ofNat_of_zero_le hx
  obtain ⟨Y, rfl⟩ := Int.eq_ofNat_of_zero_le hy
  obtain ⟨B, rfl⟩ := Int.eq_ofNat_of_zero_le h0
  have key : ∀ B : Nat, B ≤ 1 → (sub64E #[.int .u64 (X : Int), .int .u64 (Y : Int), .int .u64 (B : Int)]).run P w = .ok (Extern.MathBitsCarry.pair ((X + Extern.MathBitsCarry.m64 - Y - B) % Extern.MathBitsCarry.m64) (if X < Y + B then 1 else 0)) w := by
    intro B hB
    have : B = 0 ∨ B = 1 := by omega
    rcases this with rfl | rfl <;> rfl
  rw [key B (by omega)]
  have e1 : Extern.MathBitsCarry.m64 = 18446744073709551616 := by decide
  have e2 : (((X + 18446744073709551616 - Y - B) % 18446744073709551616 : Nat) : Int) = ((X : Int) - Y - B) % 18446744073709551616 := by omega
  have e3 : ((if X < Y + B then 1 else 0 : Nat) : Int) = bif decide ((X : Int) < (Y : Int) + (B : Int)) then 1 else 0 := by
    by_cases h : X < Y + B
    · have h' : (X : Int) < (Y : Int) + (B : Int) := by omega
      simp [h, h']
    · have h' : ¬ (X : Int) < (Y : Int) + (B : Int) := by omega
      simp [h, h']
  simp only [Extern.MathBitsCarry.pair, e1, Int.ofNat_eq_natCast, e2, e3]
theorem ext_add64 {P : Program} {f : FuncId} {fn : Func} (hf : P.funcs[f]? = some fn) (hname : (fn.name == "runtime.NumGoroutine") = false) (hb : fn.body.isNone = true) (hn : Extern.findNext fn = none) (he : Extern.find fn = some add64Entry)
    {x y c : Int} (hx : 0 ≤ x) (hy : 0 ≤ y) (hc0 : 0 ≤ c) (hc : c ≤ 1) : ExtJ P f [.v (.int .u64 x), .v (.int .u64 y), .v (.int .u64 c)] (.tup [.v (.int .u64 ((x + y + c) % 18446744073709551616)), .v (.int .u64 ((x + y + c) / 18446744073709551616))]) := by
  intro E vals w hr
  rw [rdT3 hr]
  refine ⟨_, ?_, rd_two _ _⟩
  rw [run_callFunc_extern hf hname hb hn he]
  have := run_add64 (P := P) x y c hx hy hc0 hc w
  simp only [this, Result.andThen]
theorem ext_sub64 {P : Program} {f : FuncId} {fn : Func} (hf : P.funcs[f]? = some fn) (hname : (fn.name == "runtime.NumGoroutine") = false) (hb : fn.body.isNone = true) (hn : Extern.findNext fn = none) (he : Extern.find fn = some sub64E)
    {x y b : Int} (hx : 0 ≤ x) (hy : 0 ≤ y) (hx2 : x < 18446744073709551616) (hy2 : y < 18446744073709551616) (hc0 : 0 ≤ b) (hc : b ≤ 1) : ExtJ P f [.v (.int .u64 x), .v (.int .u64 y), .v (.int .u64 b)] (.tup [.v (.int .u64 ((x - y - b) % 18446744073709551616)), .v (.int .u64 (bif decide (x < y + b) then 1 else 0))]) := by
  intro E vals w hr
  rw [rdT3 hr]
  refine ⟨_, ?_, rd_two _ _⟩
  rw [run_callFunc_extern hf hname hb hn he]
  have := run_sub64E (P := P) x y b hx hy hx2 hy2 hc0 hc w
  simp only [this, Result.andThen]
end Go.VD
end
section
namespace Go.Proofs.Ytahiigfpikohgaa
open Go.VD
set_option linter.unusedVariables false
def tblL : List (TypeId × TI) := [(1, ⟨.fn, 1, 8, [.nilFunc]⟩),
  (2, ⟨.int .i64, 1, 8, [.int .i64 0]⟩),
  (3, ⟨.int .i64, 1, 8, [.int .i64 0]⟩),
  (4, ⟨.bool, 1, 1, [.bool false]⟩),
  (5, ⟨.int .u8, 1, 1, [.int .u8 0]⟩),
  (6, ⟨.int .u8, 1, 1, [.int .u8 0]⟩),
  (7, ⟨.struct [(0, 2), (1, 3), (2, 4), (3, 6)], 4, 24, [.int .i64 0, .int .i64 0, .bool false, .int .u8 0]⟩),
  (8, ⟨.struct [(0, 2), (1, 3), (2, 4), (3, 6)], 4, 24, [.int .i64 0, .int .i64 0, .bool false, .int .u8 0]⟩),
  (9, ⟨.str, 1, 16, [.string .empty]⟩),
  (10, ⟨.str, 1, 16, [.string .empty]⟩),
  (11, ⟨.str, 1, 16, [.string .empty]⟩),
  (12, ⟨.int .u64, 1, 8, [.int .u64 0]⟩),
  (15, ⟨.ptr 98, 1, 8, [.pointer none]⟩),
  (16, ⟨.ptr 101, 1, 8, [.pointer none]⟩),
  (17, ⟨.ptr 109, 1, 8, [.pointer none]⟩),
  (20, ⟨.other, 1, 16, [.nilIface]⟩),
  (21, ⟨.int .i32, 1, 4, [.int .i32 0]⟩),
  (22, ⟨.slice 36, 1, 24, [.slice none 0 0]⟩),
  (23, ⟨.fn, 1, 8, [.nilFunc]⟩),
  (24, ⟨.fn, 1, 8, [.nilFunc]⟩),
  (25, ⟨.int .i64, 1, 8, [.int .i64 0]⟩),
  (26, ⟨.fn, 1, 8, [.nilFunc]⟩),
  (27, ⟨.fn, 1, 8, [.nilFunc]⟩),
  (28, ⟨.fn, 1, 8, [.nilFunc]⟩),
  (29, ⟨.fn, 1, 8, [.nilFunc]⟩),
  (31, ⟨.fn, 1, 8, [.nilFunc]⟩),
  (32, ⟨.fn, 1, 8, [.nilFunc]⟩),
  (33, ⟨.fn, 1, 8, [.nilFunc]⟩),
  (34, ⟨.slice 51, 1, 24, [.slice none 0 0]⟩),
  (35, ⟨.struct [(0, 3), (1, 34), (2, 4), (3, 22)], 4, 64, [.int .i64 0, .slice none 0 0, .bool false, .slice none 0 0]⟩),
  (36, ⟨.struct [(0, 3), (1, 34), (2, 4), (3, 22)], 4, 64, [.int .i64 0, .slice none 0 0, .bool false, .slice none 0 0]⟩),
  (37, ⟨.fn, 1, 8, [.nilFunc]⟩),
  (38, ⟨.fn, 1, 8, [.nilFunc]⟩),
  (40, ⟨.fn, 1, 8, [.nilFunc]⟩),
  (41, ⟨.ptr 44, 1, 8, [.pointer none]⟩),
  (42, ⟨.slice 5, 1, 24, [.slice none 0 0]⟩),
  (43, ⟨.struct [(0, 41), (1, 42)], 2, 32, [.pointer none, .slice none 0 0]⟩),
  (44, ⟨.struct [(0, 41), (1, 42)], 2, 32, [.pointer none, .slice none 0 0]⟩),
  (45, ⟨.fn, 1, 8, [.nilFunc]⟩),
  (46, ⟨.fn, 1, 8, [.nilFunc]⟩),
  (47, ⟨.fn, 1, 8, [.nilFunc]⟩),
  (48, ⟨.fn, 1, 8, [.nilFunc]⟩),
  (49, ⟨.fn, 1, 8, [.nilFunc]⟩),
  (50, ⟨.struct [(0, 9), (1, 4)], 2, 24, [.string .empty, .bool false]⟩),
  (51, ⟨.struct [(0, 9), (1, 4)], 2, 24, [.string .empty, .bool false]⟩),
  (52, ⟨.fn, 1, 8, [.nilFunc]⟩),
  (53, ⟨.struct [(0, 9), (1, 3)], 2, 24, [.string .empty, .int .i64 0]⟩),
  (54, ⟨.struct [(0, 9), (1, 3)], 2, 24, [.string .empty, .int .i64 0]⟩),
  (55, ⟨.struct [(0, 54), (2, 3)], 3, 32, [.string .empty, .int .i64 0, .int .i64 0]⟩),
  (56, ⟨.struct [(0, 54), (2, 3)], 3, 32, [.string .empty, .int .i64 0, .int .i64 0]⟩),
  (57, ⟨.fn, 1, 8, [.nilFunc]⟩),
  (58, ⟨.fn, 1, 8, [.nilFunc]⟩),
  (59, ⟨.fn, 1, 8, [.nilFunc]⟩),
  (60, ⟨.other, 1, 16, [.nilIface]⟩),
  (61, ⟨.other, 1, 16, [.nilIface]⟩),
  (63, ⟨.fn, 1, 8, [.nilFunc]⟩),
  (64, ⟨.fn, 1, 8, [.nilFunc]⟩),
  (65, ⟨.fn, 1, 8, [.nilFunc]⟩),
  (66, ⟨.ptr 5, 1, 8, [.pointer none]⟩),
  (67, ⟨.ptr 56, 1, 8, [.pointer none]⟩),
  (68, ⟨.int .u8, 1, 1, [.int .u8 0]⟩),
  (69, ⟨.struct [(0, 68), (1, 51), (3, 3)], 4, 40, [.int .u8 0, .string .empty, .bool false, .int .i64 0]⟩),
  (70, ⟨.struct [(0, 68), (1, 51), (3, 3)], 4, 40, [.int .u8 0, .string .empty, .bool false, .int .i64 0]⟩),
  (72, ⟨.fn, 1, 8, [.nilFunc]⟩),
  (74, ⟨.fn, 1, 8, [.nilFunc]⟩),
  (75, ⟨.fn, 1, 8, [.nilFunc]⟩),
  (76, ⟨.fn, 1, 8, [.nilFunc]⟩),
  (77, ⟨.ptr 54, 1, 8, [.pointer none]⟩),
  (78, ⟨.fn, 1, 8, [.nilFunc]⟩),
  (79, ⟨.fn, 1, 8, [.nilFunc]⟩),
  (80, ⟨.fn, 1, 8, [.nilFunc]⟩),
  (82, ⟨.fn, 1, 8, [.nilFunc]⟩),
  (83, ⟨.fn, 1, 8, [.nilFunc]⟩),
  (85, ⟨.fn, 1, 8, [.nilFunc]⟩),
  (86, ⟨.fn, 1, 8, [.nilFunc]⟩),
  (87, ⟨.fn, 1, 8, [.nilFunc]⟩),
  (88, ⟨.fn, 1, 8, [.nilFunc]⟩),
  (89, ⟨.fn, 1, 8, [.nilFunc]⟩),
  (90, ⟨.fn, 1, 8, [.nilFunc]⟩),
  (91, ⟨.fn, 1, 8, [.nilFunc]⟩),
  (92, ⟨.fn, 1, 8, [.nilFunc]⟩),
  (93, ⟨.int .u64, 1, 8, [.int .u64 0]⟩),
  (94, ⟨.int .u32, 1, 4, [.int .u32 0]⟩),
  (96, ⟨.fn, 1, 8, [.nilFunc]⟩),
  (99, ⟨.arr 0 16, 0, 0, []⟩),
  (102, ⟨.fn, 1, 8, [.nilFunc]⟩),
  (103, ⟨.int .u8, 1, 1, [.int .u8 0]⟩),
  (104, ⟨.int .u8, 1, 1, [.int .u8 0]⟩),
  (105, ⟨.fn, 1, 8, [.nilFunc]⟩),
  (106, ⟨.int .i32, 1, 4, [.int .i32 0]⟩),
  (107, ⟨.int .i32, 1, 4, [.int .i32 0]⟩)]
def T : Tbl := tblOf tblL
theorem T_ok : TblOk Try.prog T := tblOk_of (by kernel_rfl)
theorem mixed : Try.prog.follows .mixedOrders = true := by kernel_rfl
theorem T_1 : T 1 = some ⟨.fn, 1, 8, [.nilFunc]⟩ := by kernel_rfl
theorem T_2 : T 2 = some ⟨.int .i64, 1, 8, [.int .i64 0]⟩ := by kernel_rfl
theorem T_3 : T 3 = some ⟨.int .i64, 1, 8, [.int .i64 0]⟩ := by kernel_rfl
theorem T_4 : T 4 = some ⟨.bool, 1, 1, [.bool false]⟩ := by kernel_rfl
theorem T_5 : T 5 = some ⟨.int .u8, 1, 1, [.int .u8 0]⟩ := by kernel_rfl
theorem T_6 : T 6 = some ⟨.int .u8, 1, 1, [.int .u8 0]⟩ := by kernel_rfl
theorem T_7 : T 7 = some ⟨.struct [(0, 2), (1, 3), (2, 4), (3, 6)], 4, 24, [.int .i64 0, .int .i64 0, .bool false, .int .u8 0]⟩ := by kernel_rfl
theorem T_8 : T 8 = some ⟨.struct [(0, 2), (1, 3), (2, 4), (3, 6)], 4, 24, [.int .i64 0, .int .i64 0, .bool false, .int .u8 0]⟩ := by kernel_rfl
theorem T_9 : T 9 = some ⟨.str, 1, 16, [.string .empty]⟩ := by kernel_rfl
theorem T_10 : T 10 = some ⟨.str, 1, 16, [.string .empty]⟩ := by kernel_rfl
theorem T_11 : T 11 = some ⟨.str, 1, 16, [.string .empty]⟩ := by kernel_rfl
theorem T_12 : T 12 = some ⟨.int .u64, 1, 8, [.int .u64 0]⟩ := by kernel_rfl
theorem T_15 : T 15 = some ⟨.ptr 98, 1, 8, [.pointer none]⟩ := by kernel_rfl
theorem T_16 : T 16 = some ⟨.ptr 101, 1, 8, [.pointer none]⟩ := by kernel_rfl
theorem T_17 : T 17 = some ⟨.ptr 109, 1, 8, [.pointer none]⟩ := by kernel_rfl
theorem T_20 : T 20 = some ⟨.other, 1, 16, [.nilIface]⟩ := by kernel_rfl
theorem T_21 : T 21 = some ⟨.int .i32, 1, 4, [.int .i32 0]⟩ := by kernel_rfl
theorem T_22 : T 22 = some ⟨.slice 36, 1, 24, [.slice none 0 0]⟩ := by kernel_rfl
theorem T_23 : T 23 = some ⟨.fn, 1, 8, [.nilFunc]⟩ := by kernel_rfl
theorem T_24 : T 24 = some ⟨.fn, 1, 8, [.nilFunc]⟩ := by kernel_rfl
theorem T_25 : T 25 = some ⟨.int .i64, 1, 8, [.int .i64 0]⟩ := by kernel_rfl
theorem T_26 : T 26 = some ⟨.fn, 1, 8, [.nilFunc]⟩ := by kernel_rfl
theorem T_27 : T 27 = some ⟨.fn, 1, 8, [.nilFunc]⟩ := by kernel_rfl
theorem T_28 : T 28 = some ⟨.fn, 1, 8, [.nilFunc]⟩ := by kernel_rfl
theorem T_29 : T 29 = some ⟨.fn, 1, 8, [.nilFunc]⟩ := by kernel_rfl
theorem T_31 : T 31 = some ⟨.fn, 1, 8, [.nilFunc]⟩ := by kernel_rfl
theorem T_32 : T 32 = some ⟨.fn, 1, 8, [.nilFunc]⟩ := by kernel_rfl
theorem T_33 : T 33 = some ⟨.fn, 1, 8, [.nilFunc]⟩ := by kernel_rfl
theorem T_34 : T 34 = some ⟨.slice 51, 1, 24, [.slice none 0 0]⟩ := by kernel_rfl
theorem T_35 : T 35 = some ⟨.struct [(0, 3), (1, 34), (2, 4), (3, 22)], 4, 64, [.int .i64 0, .slice none 0 0, .bool false, .slice none 0 0]⟩ := by kernel_rfl
theorem T_36 : T 36 = some ⟨.struct [(0, 3), (1, 34), (2, 4), (3, 22)], 4, 64, [.int .i64 0, .slice none 0 0, .bool false, .slice none 0 0]⟩ := by kernel_rfl
theorem T_37 : T 37 = some ⟨.fn, 1, 8, [.nilFunc]⟩ := by kernel_rfl
theorem T_38 : T 38 = some ⟨.fn, 1, 8, [.nilFunc]⟩ := by kernel_rfl
theorem T_40 : T 40 = some ⟨.fn, 1, 8, [.nilFunc]⟩ := by kernel_rfl
theorem T_41 : T 41 = some ⟨.ptr 44, 1, 8, [.pointer none]⟩ := by kernel_rfl
theorem T_42 : T 42 = some ⟨.slice 5, 1, 24, [.slice none 0 0]⟩ := by kernel_rfl
theorem T_43 : T 43 = some ⟨.struct [(0, 41), (1, 42)], 2, 32, [.pointer none, .slice none 0 0]⟩ := by kernel_rfl
theorem T_44 : T 44 = some ⟨.struct [(0, 41), (1, 42)], 2, 32, [.pointer none, .slice none 0 0]⟩ := by kernel_rfl
theorem T_45 : T 45 = some ⟨.fn, 1, 8, [.nilFunc]⟩ := by kernel_rfl
theorem T_46 : T 46 = some ⟨.fn, 1, 8, [.nilFunc]⟩ := by kernel_rfl
theorem T_47 : T 47 = some ⟨.fn, 1, 8, [.nilFunc]⟩ := by kernel_rfl
theorem T_48 : T 48 = some ⟨.fn, 1, 8, [.nilFunc]⟩ := by kernel_rfl
theorem T_49 : T 49 = some ⟨.fn, 1, 8, [.nilFunc]⟩ := by kernel_rfl
theorem T_50 : T 50 = some ⟨.struct [(0, 9), (1, 4)], 2, 24, [.string .empty, .bool false]⟩ := by kernel_rfl
theorem T_51 : T 51 = some ⟨.struct [(0, 9), (1, 4)], 2, 24, [.string .empty, .bool false]⟩ := by kernel_rfl
theorem T_52 : T 52 = some ⟨.fn, 1, 8, [.nilFunc]⟩ := by kernel_rfl
theorem T_53 : T 53 = some ⟨.struct [(0, 9), (1, 3)], 2, 24, [.string .empty, .int .i64 0]⟩ := by kernel_rfl
theorem T_54 : T 54 = some ⟨.struct [(0, 9), (1, 3)], 2, 24, [.string .empty, .int .i64 0]⟩ := by kernel_rfl
theorem T_55 : T 55 = some ⟨.struct [(0, 54), (2, 3)], 3, 32, [.string .empty, .int .i64 0, .int .i64 0]⟩ := by kernel_rfl
theorem T_56 : T 56 = some ⟨.struct [(0, 54), (2, 3)], 3, 32, [.string .empty, .int .i64 0, .int .i64 0]⟩ := by kernel_rfl
theorem T_57 : T 57 = some ⟨.fn, 1, 8, [.nilFunc]⟩ := by kernel_rfl
theorem T_58 : T 58 = some ⟨.fn, 1, 8, [.nilFunc]⟩ := by kernel_rfl
theorem T_59 : T 59 = some ⟨.fn, 1, 8, [.nilFunc]⟩ := by kernel_rfl
theorem T_60 : T 60 = some ⟨.other, 1, 16, [.nilIface]⟩ := by kernel_rfl
theorem T_61 : T 61 = some ⟨.other, 1, 16, [.nilIface]⟩ := by kernel_rfl
theorem T_63 : T 63 = some ⟨.fn, 1, 8, [.nilFunc]⟩ := by kernel_rfl
theorem T_64 : T 64 = some ⟨.fn, 1, 8, [.nilFunc]⟩ := by kernel_rfl
theorem T_65 : T 65 = some ⟨.fn, 1, 8, [.nilFunc]⟩ := by kernel_rfl
theorem T_66 : T 66 = some ⟨.ptr 5, 1, 8, [.pointer none]⟩ := by kernel_rfl
theorem T_67 : T 67 = some ⟨.ptr 56, 1, 8, [.pointer none]⟩ := by kernel_rfl
theorem T_68 : T 68 = some ⟨.int .u8, 1, 1, [.int .u8 0]⟩ := by kernel_rfl
theorem T_69 : T 69 = some ⟨.struct [(0, 68), (1, 51), (3, 3)], 4, 40, [.int .u8 0, .string .empty, .bool false, .int .i64 0]⟩ := by kernel_rfl
theorem T_70 : T 70 = some ⟨.struct [(0, 68), (1, 51), (3, 3)], 4, 40, [.int .u8 0, .string .empty, .bool false, .int .i64 0]⟩ := by kernel_rfl
theorem T_72 : T 72 = some ⟨.fn, 1, 8, [.nilFunc]⟩ := by kernel_rfl
theorem T_74 : T 74 = some ⟨.fn, 1, 8, [.nilFunc]⟩ := by kernel_rfl
theorem T_75 : T 75 = some ⟨.fn, 1, 8, [.nilFunc]⟩ := by kernel_rfl
theorem T_76 : T 76 = some ⟨.fn, 1, 8, [.nilFunc]⟩ := by kernel_rfl
theorem T_77 : T 77 = some ⟨.ptr 54, 1, 8, [.pointer none]⟩ := by kernel_rfl
theorem T_78 : T 78 = some ⟨.fn, 1, 8, [.nilFunc]⟩ := by kernel_rfl
theorem T_79 : T 79 = some ⟨.fn, 1, 8, [.nilFunc]⟩ := by kernel_rfl
theorem T_80 : T 80 = some ⟨.fn, 1, 8, [.nilFunc]⟩ := by kernel_rfl
theorem T_82 : T 82 = some ⟨.fn, 1, 8, [.nilFunc]⟩ := by kernel_rfl
theorem T_83 : T 83 = some ⟨.fn, 1, 8, [.nilFunc]⟩ := by kernel_rfl
theorem T_85 : T 85 = some ⟨.fn, 1, 8, [.nilFunc]⟩ := by kernel_rfl
theorem T_86 : T 86 = some ⟨.fn, 1, 8, [.nilFunc]⟩ := by kernel_rfl
theorem T_87 : T 87 = some ⟨.fn, 1, 8, [.nilFunc]⟩ := by kernel_rfl
theorem T_88 : T 88 = some ⟨.fn, 1, 8, [.nilFunc]⟩ := by kernel_rfl
theorem T_89 : T 89 = some ⟨.fn, 1, 8, [.nilFunc]⟩ := by kernel_rfl
theorem T_90 : T 90 = some ⟨.fn, 1, 8, [.nilFunc]⟩ := by kernel_rfl
theorem T_91 : T 91 = some ⟨.fn, 1, 8, [.nilFunc]⟩ := by kernel_rfl
theorem T_92 : T 92 = some ⟨.fn, 1, 8, [.nilFunc]⟩ := by kernel_rfl
theorem T_93 : T 93 = some ⟨.int .u64, 1, 8, [.int .u64 0]⟩ := by kernel_rfl
theorem T_94 : T 94 = some ⟨.int .u32, 1, 4, [.int .u32 0]⟩ := by kernel_rfl
theorem T_96 : T 96 = some ⟨.fn, 1, 8, [.nilFunc]⟩ := by kernel_rfl
theorem T_99 : T 99 = some ⟨.arr 0 16, 0, 0, []⟩ := by kernel_rfl
theorem T_102 : T 102 = some ⟨.fn, 1, 8, [.nilFunc]⟩ := by kernel_rfl
theorem T_103 : T 103 = some ⟨.int .u8, 1, 1, [.int .u8 0]⟩ := by kernel_rfl
theorem T_104 : T 104 = some ⟨.int .u8, 1, 1, [.int .u8 0]⟩ := by kernel_rfl
theorem T_105 : T 105 = some ⟨.fn, 1, 8, [.nilFunc]⟩ := by kernel_rfl
theorem T_106 : T 106 = some ⟨.int .i32, 1, 4, [.int .i32 0]⟩ := by kernel_rfl
theorem T_107 : T 107 = some ⟨.int .i32, 1, 4, [.int .i32 0]⟩ := by kernel_rfl
end Go.Proofs.Ytahiigfpikohgaa
end
section
namespace Go.Proofs.Ytahiigfpikohgaa
open Go.VD
set_option linter.unusedVariables false
set_option linter.unusedSimpArgs false
set_option maxRecDepth 100000
theorem rdT_byte {E : Ctx} {s : ByteArray} {c : Int} {vals : List Value} (h : RdT E [.v (.string s), .v (.int .u8 c)] vals) : vals = [.string s, .int .u8 c] := by
  simp only [RdT, Rd] at h
  obtain ⟨u, r, rfl, rfl, u2, r2, rfl, rfl, rfl⟩ := h
  rfl
theorem ext_count {P : Program} {f : FuncId} {fn : Func} (hf : P.funcs[f]? = some fn) (hname : (fn.name == "runtime.NumGoroutine") = false) (hb : fn.body.isNone = true) (hn : Extern.findNext fn = none) (he : Extern.find fn = some Extern.BytealgCount.count)
    (s : ByteArray) (c : Int) : ExtJ P f [.v (.string s), .v (.int .u8 c)] (.v (.int .i64 (Lib.countByte s.data.toList c.toNat.toUInt8 : Nat))) := by
  intro E vals w hr
  rw [rdT_byte hr]
  refine ⟨.int .i64 (Lib.countByte s.data.toList c.toNat.toUInt8 : Nat), ?_, by simp only [Rd]⟩
  rw [run_callFunc_extern hf hname hb hn he]
  have := Lib.run_countString (P := P) s c w
  simp only [this, Result.andThen]
theorem ext_index {P : Program} {f : FuncId} {fn : Func} (hf : P.funcs[f]? = some fn) (hname : (fn.name == "runtime.NumGoroutine") = false) (hb : fn.body.isNone = true) (hn : Extern.findNext fn = none) (he : Extern.find fn = some Extern.BytealgIndexByte.indexByte)
    (s : ByteArray) (c : Int) : ExtJ P f [.v (.string s), .v (.int .u8 c)] (.v (.int .i64 (Lib.indexByte s.data.toList c.toNat.toUInt8))) := by
  intro E vals w hr
  rw [rdT_byte hr]
  refine ⟨.int .i64 (Lib.indexByte s.data.toList c.toNat.toUInt8), ?_, by simp only [Rd]⟩
  rw [run_callFunc_extern hf hname hb hn he]
  have := Lib.run_indexByteString (P := P) s c w
  simp only [this, Result.andThen]
def ent_x_count : Ent := fun ds => match ds with
  | [.v (.string s), .v (.int .u8 c)] => some (.v (.int .i64 (Lib.countByte s.data.toList c.toNat.toUInt8 : Nat)), True)
  | _ => none
theorem ent_x_count_ok : ∀ ds d c, ent_x_count ds = some (d, c) → c → ExtJ Try.prog 60 ds d := by
  intro ds d c h hc; unfold ent_x_count at h; split at h
  · obtain ⟨rfl, rfl⟩ := pair_inj h
    exact ext_count Try.func60 (by kernel_rfl) (by kernel_rfl) (by kernel_rfl) (by kernel_rfl) _ _
  · cases h
def ent_x_index : Ent := fun ds => match ds with
  | [.v (.string s), .v (.int .u8 c)] => some (.v (.int .i64 (Lib.indexByte s.data.toList c.toNat.toUInt8)), True)
  | _ => none
theorem ent_x_index_ok : ∀ ds d c, ent_x_index ds = some (d, c) → c → ExtJ Try.prog 72 ds d := by
  intro ds d c h hc; unfold ent_x_index at h; split at h
  · obtain ⟨rfl, rfl⟩ := pair_inj h
    exact ext_index Try.func72 (by kernel_rfl) (by kernel_rfl) (by kernel_rfl) (by kernel_rfl) _ _
  · cases h
def synBase : VD.Callee := fun g ds H => bif Nat.beq g 57 then (match ds with
    | [.v (.string s)] => bif decide (s.size ≤ 1000000) then some (.v (.string s), H, .no) else none
    | _ => none) else
  bif Nat.beq g 60 then (match ent_x_count ds with
    | some (d, _) => some (d, H, .no)
    | none => none) else
  bif Nat.beq g 72 then (match ent_x_index ds with
    | some (d, _) => some (d, H, .no)
    | none => none) else none
theorem ent_x_count_true {ds : List D} {d : D} {c : Prop} (h : ent_x_count ds = some (d, c)) : c := by
  unfold ent_x_count at h; split at h
  · obtain ⟨_, rfl⟩ := pair_inj h; trivial
  · cases h
theorem ent_x_index_true {ds : List D} {d : D} {c : Prop} (h : ent_x_index ds = some (d, c)) : c := by
  unfold ent_x_index at h; split at h
  · obtain ⟨_, rfl⟩ := pair_inj h; trivial
  · cases h
theorem synBase_ok (hclone : ∀ s : ByteArray, s.size ≤ 1000000 → PureJ Try.prog 57 [.v (.string s)] (.v (.string s))) : CallOk Try.prog synBase := by
  intro g ds H d H' t h K hk
  unfold synBase at h
  cases h1 : Nat.beq g 57 with
  | true =>
    rw [h1] at h
    have e := Nat.eq_of_beq_eq_true h1
    subst e
    simp only [cond_true] at h
    split at h
    · rename_i s
      cases hd : decide (s.size ≤ 1000000) with
      | false => rw [hd] at h; cases h
      | true =>
        rw [hd] at h
        simp only [cond_true, Option.some.injEq, Prod.mk.injEq] at h
        obtain ⟨rfl, rfl, rfl⟩ := h
        exact .pure _ (hclone _ (of_decide_eq_true hd)) hk
    · cases h
  | false =>
    rw [h1] at h
    simp only [cond_false] at h
    cases h2 : Nat.beq g 60 with
    | true =>
      rw [h2] at h
      have e := Nat.eq_of_beq_eq_true h2
      subst e
      simp only [cond_true] at h
      split at h
      · rename_i d0 c0 he
        simp only [Option.some.injEq, Prod.mk.injEq] at h
        obtain ⟨rfl, rfl, rfl⟩ := h
        exact .ext _ (ent_x_count_ok _ _ _ he (ent_x_count_true he)) hk
      · cases h
    | false =>
      rw [h2] at h
      simp only [cond_false] at h
      cases h3 : Nat.beq g 72 with
      | true =>
        rw [h3] at h
        have e := Nat.eq_of_beq_eq_true h3
        subst e
        simp only [cond_true] at h
        split at h
        · rename_i d0 c0 he
          simp only [Option.some.injEq, Prod.mk.injEq] at h
          obtain ⟨rfl, rfl, rfl⟩ := h
          exact .ext _ (ent_x_index_ok _ _ _ he (ent_x_index_true he)) hk
        · cases h
      | false => rw [h3] at h; cases h
theorem synKnown_of (hclone : ∀ s : ByteArray, s.size ≤ 1000000 → PureJ Try.prog 57 [.v (.string s)] (.v (.string s))) : PureJ Try.prog 6 [] (.v (.bool true)) :=
  pure_of_ev T_ok mixed (synBase_ok hclone) (N := 1000) (n := 50) Try.func6 rfl (by kernel_rfl)
end Go.Proofs.Ytahiigfpikohgaa
end
section
namespace Go.Proofs.Ytahiigfpikohgaa
open Go.VD Go.RowKit
set_option linter.unusedVariables false
set_option linter.unusedSimpArgs false
set_option maxHeartbeats 4000000 in
set_option maxRecDepth 100000 in
theorem clone_empty (w : World) : Calls Try.prog 63 #[.string ⟨#[]⟩] w fun e w' => e = .returned (.string ⟨#[]⟩) ∧ Below w.heap.size w w' := by
  go_enter Try.func63, Try.ntmps63
  go_wp2
  go_ret
  exact ⟨rfl, Below.refl _ _⟩
theorem bytes_ne {s : ByteArray} (h : s.size ≠ 0) : s.data.toList ≠ [] := fun e => h (by rw [Lib.size_eq, e]; rfl)
set_option maxHeartbeats 4000000 in
set_option maxRecDepth 100000 in
theorem clone_full (s : ByteArray) (h0 : s.size ≠ 0) (hs : s.size ≤ 1000000) (w : World) : Calls Try.prog 63 #[.string s] w fun e w' => e = .returned (.string s) ∧ Below w.heap.size w w' := by
  have hi5 : (Try.prog.info? 5).map (fun i => (i.zero, i.size, i.bytes)) = some (some (Value.int .u8 0), 1, 1) := by kernel_rfl
  obtain ⟨i0, hi, hz0, hz1, hz2⟩ : ∃ i0, Try.prog.info? 5 = some i0 ∧ i0.zero = some (.int .u8 0) ∧ i0.size = 1 ∧ i0.bytes = 1 := by
    cases h : Try.prog.info? 5 with
    | none => rw [h] at hi5; cases hi5
    | some i =>
      rw [h] at hi5
      simp only [Option.map_some, Option.some.injEq, Prod.mk.injEq] at hi5
      exact ⟨i, rfl, hi5.1, hi5.2.1, hi5.2.2⟩
  have hsl : Try.prog.underlying 42 = some (.slice 5) := by kernel_rfl
  have hpt : Try.prog.underlying 66 = some (.pointer 5) := by kernel_rfl
  have hone : (Try.prog.info? 5).map (·.size) = some 1 := by rw [hi]; simp [hz1]
  have hco : Try.prog.cellsOf 5 = 1 := by simp [Program.cellsOf, hi, hz1]
  have hz : ∃ M : Array Value, M.size = s.size ∧ ∀ W : World, (Instr.makeSlice 42 (.int .i64 (s.size : Int)) (.int .i64 (s.size : Int))).run Try.prog W = .ok (.slice (some ⟨W.heap.size, 0, none⟩) s.size s.size) (W.alloc (.cells M 5)) := by
    refine ⟨madeCells (Value.int .u8 0).cells (((s.size : Nat) : Int).toNat * i0.size), by rw [size_madeCells, hz1]; simp, fun W => ?_⟩
    have h := run_make (P := Try.prog) (w := W) 42 5 i0 (.int .u8 0) hsl hi hz0 .i64 .i64 (s.size : Int) (s.size : Int) (by omega) (by omega) (by rw [hz2]; omega) (by omega)
    simpa using h
  obtain ⟨M, hM, hmk⟩ := hz
  have hcp := Lib.run_copy_row_string (P := Try.prog) (w.alloc (.cells M 5)) 42 9 3 5 w.heap.size 0 s.size s.size s M 5 hsl hone (heap_alloc_new w _) (Nat.le_refl _) (by omega)
  have hY : ∃ Y : Array Value, Y.toList = Lib.byteCells s.data.toList ∧ (M.toList.take 0 ++ Lib.byteCells s.data.toList ++ M.toList.drop (0 + s.size)).toArray = Y := by
    refine ⟨_, ?_, rfl⟩
    rw [List.toList_toArray, List.take_zero, List.nil_append, List.drop_of_length_le (by rw [Array.length_toList]; omega), List.append_nil]
  obtain ⟨Y, hYl, hYe⟩ := hY
  rw [hYe] at hcp
  have hYs : Y.size = s.size := by rw [← Array.length_toList, hYl, Lib.byteCells_length, ← Lib.size_eq]
  have hrow : ((w.alloc (.cells M 5)).setRow w.heap.size Y).heap[w.heap.size]? = some (.cells Y 5 (0, 0)) := setRow_heap _ _ M _ 5 (0, 0) (heap_alloc_new w _)
  have hus := Lib.run_unsafeString_row (P := Try.prog) (w := (w.alloc (.cells M 5)).setRow w.heap.size Y) 66 3 9 5 hpt hco w.heap.size Y.size (by unfold World.shape?; rw [hrow]) s.data.toList (bytes_ne h0) (by rw [← Lib.size_eq]; omega) (by rw [← Lib.size_eq]; omega)
    (fun j x hx => Lib.cells_of_row hrow Y.size j _ (by rw [List.take_of_length_le (by rw [Array.length_toList]; exact Nat.le_refl _), hYl]; simp [Lib.byteCells, hx]))
  rw [← Lib.size_eq] at hus
  clear hYe hM
  go_enter Try.func63, Try.ntmps63
  go_wp2
  go_ret
  have b1 : Below w.heap.size w (w.alloc (.cells M 5)) := (Below.refl _ w).alloc (Nat.le_refl _) _
  have b2 : Below w.heap.size (w.alloc (.cells M 5)) ((w.alloc (.cells M 5)).setRow w.heap.size Y) := ⟨rfl, rfl, rfl, by simp, fun k hk => setRow_other _ _ _ _ (by omega)⟩
  exact ⟨rfl, Lib.below_freeze (b1.trans b2) (p := ⟨w.heap.size, 0, none⟩) (Nat.le_refl _) _⟩
theorem lclone_pure (s : ByteArray) (hpre : s.size ≤ 1000000) : PureJ Try.prog 63 [.v (.string s)] (.v (.string s)) := by
  refine ⟨⟨_, Try.func63, by kernel_rfl, by kernel_rfl⟩, by simp [NamelessL, Nameless], by simp [Nameless], fun S w vals hsub hG hv => ?_⟩
  have hvals : vals = [.string s] := by
    simp only [RdT, Rd] at hv
    obtain ⟨u, r, rfl, rfl, rfl⟩ := hv
    rfl
  subst hvals
  have h : Calls Try.prog 63 #[.string s] w fun e w' => e = .returned (.string s) ∧ Below w.heap.size w w' := by
    by_cases h0 : s.size = 0
    · have hs : s = ⟨#[]⟩ := by
        apply ByteArray.ext
        exact Array.eq_empty_of_size_eq_zero h0
      rw [hs]
      exact clone_empty w
    · exact clone_full s h0 hpre w
  exact h.mono fun e w' ⟨he, hb⟩ => ⟨.string s, S, he, ⟨hb.size, fun k hk => hb.block k hk, hb.os, hb.tape, hb.output⟩, fun _ h => h, fun _ h => .inl h, fun k hk => Nat.lt_of_lt_of_le (hsub k hk) hb.size, by simp only [Rd]⟩
def ent_lclone : Ent := fun ds => match ds with
  | [.v (.string s)] => some (.v (.string s), s.size ≤ 1000000)
  | _ => none
theorem ent_lclone_ok : EntOk Try.prog 63 ent_lclone := by
  intro ds d c h hc; unfold ent_lclone at h; split at h
  · obtain ⟨rfl, rfl⟩ := pair_inj h; exact lclone_pure _ hc
  · cases h
theorem sclone_pure (s : ByteArray) (hpre : s.size ≤ 1000000) : PureJ Try.prog 57 [.v (.string s)] (.v (.string s)) := by
  refine pureJ_of_vcx (call := (addPure 63 ent_lclone noCalls)) (lp := fun _ => none) (N := 10) T_ok mixed (addPure_ok ent_lclone_ok noCalls_ok) Try.func57 rfl (by decide) (by kernel_rfl) (by kernel_rfl) (LpAll.none _) (by first | trivial | (simp only [NamelessL, Nameless, and_self, and_true, true_and]; done) | (simp [NamelessL, Nameless, u32s_nameless, namelessL_ints]; done)) (by first | trivial | (simp only [NamelessL, Nameless, and_self, and_true, true_and]; done) | (simp [NamelessL, Nameless, u32s_nameless, namelessL_ints]; done)) ?_
  refine of_eq (B := letI z0 := (D.v (Value.string s)); (True ∧ (True ∧ (((ByteArray.size s) ≤ (1000000 : Nat)) ∧ (True ∧ (True ∧ (True ∧ (z0 = z0)))))))) (by kernel_rfl) ?_
  simp only [true_and, and_true, and_self, IsInt_lit, IsBool_lit, IsStr_lit, IsSl_lit, cellN_lit, cellL_lit, Bool.not_eq_true', Bool.not_eq_false', Bool.not_true, Bool.not_false, Int.reduceLE, Int.reduceLT, Int.reduceNeg, Nat.le_refl, Int.le_refl, Nat.reduceLT, Nat.reduceLeDiff, Nat.reduceEqDiff, D.v.injEq, D.tup.injEq, D.agg.injEq, D.ro.injEq, List.cons.injEq, Value.int.injEq, Value.bool.injEq, pcond_true, pcond_false, NamelessL, Nameless, Nat.reduceMul, Nat.reduceAdd, Nat.zero_add, Int.toNat_natCast]
  exact hpre
def ent_sclone : Ent := fun ds => match ds with
  | [.v (.string s)] => some (.v (.string s), s.size ≤ 1000000)
  | _ => none
theorem ent_sclone_ok : EntOk Try.prog 57 ent_sclone := by
  intro ds d c h hc; unfold ent_sclone at h; split at h
  · obtain ⟨rfl, rfl⟩ := pair_inj h; exact sclone_pure _ hc
  · cases h
theorem synKnown_pure : PureJ Try.prog 6 [] (.v (.bool true)) := synKnown_of fun s hs => sclone_pure s hs
def ent_synKnown : Ent := fun ds => match ds with
  | [] => some (.v (.bool true), True)
  | _ => none
theorem ent_synKnown_ok : EntOk Try.prog 6 ent_synKnown := by
  intro ds d c h hc; unfold ent_synKnown at h; split at h
  · obtain ⟨rfl, rfl⟩ := pair_inj h; exact synKnown_pure
  · cases h
end Go.Proofs.Ytahiigfpikohgaa
end
