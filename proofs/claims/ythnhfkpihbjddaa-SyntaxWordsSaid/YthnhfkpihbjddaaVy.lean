/- A closed run, computed on data, and what it says of the program. -/
import Derived.Test.YthnhfkpihbjddaaVz
import Derived.Scope
namespace Go.VD
set_option linter.unusedVariables false
set_option linter.unusedSimpArgs false

abbrev Callee := FuncId → List D → Heap → Option (D × Heap × Tch)

def prune : List Nat → Env → Env
  | _, [] => []
  | seen, (t, d) :: r => bif seen.contains t then prune seen r else (t, d) :: prune (t :: seen) r
theorem has_of {env : Env} : ∀ {r : Env}, (∀ t d, (t, d) ∈ r → env.lookup t = some d) → Has env r
  | [], _ => trivial
  | (t, d) :: r, h => ⟨h t d (by simp), has_of fun t d hm => h t d (by simp [hm])⟩
theorem prune_mem : ∀ (env : Env) (seen : List Nat) (t : Nat) (d : D), (t, d) ∈ prune seen env → seen.contains t = false ∧ env.lookup t = some d
  | [], seen, t, d, h => by simp [prune] at h
  | (s, e) :: r, seen, t, d, h => by
    simp only [prune] at h
    rw [List.lookup_cons]
    cases hs : seen.contains s with
    | true =>
      simp only [hs, cond_true] at h
      obtain ⟨h1, h2⟩ := prune_mem r seen t d h
      refine ⟨h1, ?_⟩
      have : (t == s) = false := by
        cases hts : t == s
        · rfl
        · have : t = s := by simpa using hts
          subst this; rw [h1] at hs; cases hs
      simp [this, h2]
    | false =>
      simp only [hs, cond_false, List.mem_cons] at h
      rcases h with h | h
      · injection h with h1 h2; subst h1; subst h2
        exact ⟨hs, by simp⟩
      · obtain ⟨h1, h2⟩ := prune_mem r (s :: seen) t d h
        simp only [List.contains_cons, Bool.or_eq_false_iff] at h1
        exact ⟨h1.2, by simp [h1.1, h2]⟩
theorem has_prune (env : Env) : Has env (prune [] env) := has_of fun t d h => (prune_mem env [] t d h).2

def evOp (P : Program) (call : Callee) (T : Tbl) (o : Oper) (env : Env) (H : Heap) : Option (D × Heap × Tch) :=
  match o.op with
  | .call { callee := .value f, args, argTypes } => match opnd env f, getAll env args.toList with
    | some (.fn g k caps), some ds => call g (argsOf k caps ds) H
    | _, _ => none
  | .call { callee := .invoke r name, args, argTypes } => match opnd env r, getAll env args.toList with
    | some (.ifc t d), some ds => match methOf P t name with
      | some g => call g (d :: ds) H
      | none => none
    | _, _ => none
  | op => match opP T env op with
    | some (d, _) => bif opPB T env op then some (d, H, .no) else none
    | none => match opH T env H op with
      | some out => bif opHB T env H op then some (out.d, out.H, out.touch) else none
      | none => none

def evOps (P : Program) (call : Callee) (T : Tbl) (ops : Array Oper) : List Oper → Env → Heap → List Tch → Option (Env × Heap × List Tch)
  | [], env, H, ts => some (env, H, ts)
  | o :: rest, env, H, ts =>
    match o.guard with
    | none => match evOp P call T o env H with
      | some (d, H', t) => evOps P call T ops rest (bindD o.dst d env) H' (t :: ts)
      | none => none
    | some (j, want) => match gslot ops j with
      | none => none
      | some s => match env.lookup s with
        | some (.v (.bool g)) => bif g == want then
            (match evOp P call T o ((s, .v (.bool want)) :: env) H with
            | some (d, H', t) => evOps P call T ops rest (bindD o.dst d ((s, .v (.bool want)) :: env)) H' (t :: ts)
            | none => none)
          else evOps P call T ops rest (bindD o.dst (.v undef) ((s, .v (.bool (!want))) :: env)) H (.no :: ts)
        | some (.v (.tuple us)) => match us.toList with
          | [] => evOps P call T ops rest (bindD o.dst (.v undef) env) H (.no :: ts)
          | _ => none
        | _ => none

def evIter (body : Env → Heap → Option (Exit × Env × Heap)) : Nat → Env → Heap → Option (Exit × Env × Heap)
  | 0, _, _ => none
  | n + 1, env, H => match body env H with
    | some (.normal, env', H') => evIter body n (prune [] env') H'
    | r => r

def evJump (body : Env → Heap → Option (Exit × Env × Heap)) (l : Nat) : Nat → Env → Heap → Option (Exit × Env × Heap)
  | 0, _, _ => none
  | n + 1, env, H => match body env H with
    | some (.goto l', env', H') => bif Nat.beq l' l then evJump body l n (prune [] env') H' else none
    | r => r

/-- a run of a piece of code from its start (none) or from a label in it -/
def evM (P : Program) (call : Callee) (T : Tbl) (N : Nat) : Code → Option Nat → Env → Heap → Option (Exit × Env × Heap)
  | .skip, m, env, H => match m with
    | none => some (.normal, env, H)
    | some _ => none
  | .region id ops draw, m, env, H => match m with
    | none => (match evOps P call T ops ops.toList env H [] with
      | some (env', H', ts) => bif !draw || regOk ops ts.reverse then some (.normal, env', H') else none
      | none => none)
    | some _ => none
  | .seq a b, m, env, H => match m with
    | none => (match evM P call T N a none env H with
      | some (.normal, env', H') => evM P call T N b none env' H'
      | r => r)
    | some l => (match findLabel a l with
      | some _ => (match evM P call T N a (some l) env H with
        | some (.normal, env', H') => evM P call T N b none env' H'
        | r => r)
      | none => evM P call T N b (some l) env H)
  | .cond c x y, m, env, H => match m with
    | none => (match opnd env c with
      | some (.v (.bool true)) => evM P call T N x none env H
      | some (.v (.bool false)) => evM P call T N y none env H
      | _ => none)
    | some _ => none
  | .block id c, m, env, H => match m with
    | none => (match evM P call T N c none env H with
      | some (.exit id', env', H') => if id' = id then some (.normal, env', H') else some (.exit id', env', H')
      | r => r)
    | some _ => none
  | .exit id, m, env, H => match m with
    | none => some (.exit id, env, H)
    | some _ => none
  | .ret, m, env, H => match m with
    | none => some (.ret, env, H)
    | some _ => none
  | .label l', m, env, H => match m with
    | none => some (.normal, env, H)
    | some l => bif l' == l then some (.normal, env, H) else none
  | .goto l, m, env, H => match m with
    | none => some (.goto l, env, H)
    | some _ => none
  | .loop c, m, env, H => match m with
    | none => evIter (fun e h => evM P call T N c none e h) N (prune [] env) H
    | some _ => none
  | .scope c, m, env, H => match m with
    | none => (match evM P call T N c none env H with
      | some (.goto l, env', H') => (match findLabel c l with
        | some _ => evJump (fun e h => evM P call T N c (some l) e h) l N (prune [] env') H'
        | none => none)
      | r => r)
    | some _ => none
  | _, _, _, _ => none
def evC (P : Program) (call : Callee) (T : Tbl) (N : Nat) (c : Code) (env : Env) (H : Heap) : Option (Exit × Env × Heap) := evM P call T N c none env H

def resB (T : Tbl) (env : Env) (H : Heap) : List ResultVar → Bool
  | [] => true
  | .tmp t :: r => resB T env H r
  | .cell a ty :: r => match env.lookup a with
    | some (.ptr b off) => match blkAt H b, T ty with
      | some blk, some ti => partB ti blk.cs off && resB T env H r
      | _, _ => false
    | _ => false
theorem resB_ok {T : Tbl} {env : Env} {H : Heap} : ∀ {rs : List ResultVar} {ds : List D} {c : Prop}, resD T env H rs = some (ds, c) → resB T env H rs = true → c
  | [], ds, c, h, hb => by simp only [resD] at h; obtain ⟨_, rfl⟩ := pair_inj h; trivial
  | .tmp t :: r, ds, c, h, hb => by
    simp only [resD] at h
    split at h
    · rename_i h2
      obtain ⟨_, rfl⟩ := pair_inj h
      exact resB_ok h2 (by simpa only [resB] using hb)
    · cases h
  | .cell a ty :: r, ds, c, h, hb => by
    simp only [resD] at h
    split at h
    · rename_i h1 h2
      split at h
      · rename_i h3 h4
        obtain ⟨_, rfl⟩ := pair_inj h
        simp only [resB, h1, h3, h4, Bool.and_eq_true] at hb
        exact ⟨partB_ok hb.1, resB_ok h2 hb.2⟩
      · cases h
    · cases h

def evRes (T : Tbl) (rs : List ResultVar) : Option (Exit × Env × Heap) → Option (D × Heap)
  | some (.normal, env, H) => match resD T env H rs with
    | some (ds, _) => bif resB T env H rs then some (retD ds, H) else none
    | none => none
  | some (.ret, env, H) => match resD T env H rs with
    | some (ds, _) => bif resB T env H rs then some (retD ds, H) else none
    | none => none
  | _ => none

def isScalar (T : Tbl) (t : TypeId) : Bool := match T t with
  | some ⟨.int _, _, _, _⟩ => true
  | some ⟨.bool, _, _, _⟩ => true
  | some ⟨.str, _, _, _⟩ => true
  | _ => false
def lendB (T : Tbl) (fn : Func) (H : Heap) (ds : List D) : Bool := fn.resultTypes.toList.all (isScalar T) && sealLB H ds
def lent (T : Tbl) (rs : List ResultVar) (ds : Option (List D × Prop)) (run : List D → Option (Exit × Env × Heap)) : Option D :=
  match ds with
  | some (ds', _) => match evRes T rs (run ds') with
    | some (d, _) => bif scalarB d && namelessLB ds' then some d else none
    | none => none
  | none => none

/-- results that hold no memory -/
def isFlat (T : Tbl) (t : TypeId) : Bool := match T t with
  | some ti => ti.zero.all fun v => match v with
    | .int .. => true
    | .bool .. => true
    | .string .. => true
    | _ => false
  | none => false
/-- a run over the one block that the first argument points to -/
def oneRun (T : Tbl) (fn : Func) (H : Heap) (ds : List D) (run : List D → Heap → Option (D × Heap)) : Option (D × Nat × Blk) :=
  match ds with
  | .ptr b off :: plain => (match blkAt H b with
    | some blk => bif fn.resultTypes.toList.all (isFlat T) && (namelessLB plain && namelessLB blk.cs) then
      (match run (.ptr 0 off :: plain) [some blk] with
      | some (d, some blk' :: _) => bif namelessB d && namelessLB blk'.cs then some (d, b, blk') else none
      | _ => none) else none
    | none => none)
  | _ => none
theorem oneRun_some {T : Tbl} {fn : Func} {H : Heap} {ds : List D} {run : List D → Heap → Option (D × Heap)} {d : D} {b : Nat} {blk' : Blk} (h : oneRun T fn H ds run = some (d, b, blk')) :
    ∃ off plain blk r, ds = .ptr b off :: plain ∧ H[b]? = some (some blk) ∧ NamelessL plain ∧ NamelessL blk.cs ∧ run (.ptr 0 off :: plain) [some blk] = some (d, some blk' :: r) ∧ Nameless d ∧ NamelessL blk'.cs := by
  unfold oneRun at h
  split at h
  · rename_i b0 off plain
    split at h
    · rename_i blk hb
      cases hc : (fn.resultTypes.toList.all (isFlat T) && (namelessLB plain && namelessLB blk.cs)) with
      | false => rw [hc] at h; cases h
      | true =>
        rw [hc] at h
        simp only [cond_true] at h
        simp only [Bool.and_eq_true] at hc
        split at h
        · rename_i d0 blk0 r hrun
          cases hc2 : (namelessB d0 && namelessLB blk0.cs) with
          | false => rw [hc2] at h; cases h
          | true =>
            rw [hc2] at h
            simp only [cond_true, Option.some.injEq, Prod.mk.injEq] at h
            obtain ⟨rfl, rfl, rfl⟩ := h
            simp only [Bool.and_eq_true] at hc2
            exact ⟨off, plain, blk, r, rfl, blkAt_some hb, namelessLB_ok _ hc.2.1, namelessLB_ok _ hc.2.2, hrun, namelessB_ok _ hc2.1, namelessLB_ok _ hc2.2⟩
        · cases h
    · cases h
  · cases h

def evF (P : Program) (T : Tbl) (N : Nat) (base : Callee) : Nat → Callee
  | 0, _, _, _ => none
  | n + 1, f, ds, H => match base f ds H with
    | some r => some r
    | none => match P.funcs[f]? with
    | some fn => match fn.body with
      | some c => bif !(fn.name == "runtime.NumGoroutine") && (codeOk fn.ntmps c && decide (ds.length ≤ fn.ntmps)) then
          (bif namelessLB ds then
            (match evRes T fn.results.toList (evC P (evF P T N base n) T N c (envOf 0 ds) []) with
            | some (d, H1) => bif namelessB d then some (d, H, .no) else some (shD H.length d, H ++ shH H.length H1, .mk H.length)
            | none => none)
          else (match (bif lendB T fn H ds then lent T fn.results.toList (sealL H ds) (fun ds' => evC P (evF P T N base n) T N c (envOf 0 ds') []) else none) with
            | some d => some (d, H, .ra)
            | none => match oneRun T fn H ds (fun ds0 H0 => evRes T fn.results.toList (evC P (evF P T N base n) T N c (envOf 0 ds0) H0)) with
              | some (d, b, blk') => some (d, H.set b (some blk'), .wr b)
              | none => match evRes T fn.results.toList (evC P (evF P T N base n) T N c (envOf 0 ds) H) with
                | some (d, H1) => some (d, H1, .al)
                | none => none))
        else none
      | none => none
    | none => none

section
variable {P : Program} {T : Tbl} (hT : TblOk P T) {nt N : Nat} {call : Callee}
def CallOk (P : Program) (call : Callee) : Prop := ∀ g ds H d H' (t : Tch), call g ds H = some (d, H', t) → ∀ K : D → Heap → Tch → Prop, K d H' t → VCall P g ds H K

theorem evOp_ok (hc : CallOk P call) {o : Oper} {env : Env} {H H' : Heap} {d : D} {t : Tch} (h : evOp P call T o env H = some (d, H', t)) {K : D → Heap → Tch → Prop} (hk : K d H' t) : vOp P T o env H K := by
  have rest : (match opP T env o.op with
    | some (d, _) => bif opPB T env o.op then some (d, H, .no) else none
    | none => match opH T env H o.op with
      | some out => bif opHB T env H o.op then some (out.d, out.H, out.touch) else none
      | none => none) = some (d, H', t) → (match opP T env o.op with
    | some (d, c) => c ∧ K d H .no
    | none => match opH T env H o.op with
      | some out => out.c ∧ K out.d out.H out.touch
      | none => False) := by
    intro h
    split at h
    · rename_i d' c' hp
      cases hb : opPB T env o.op with
      | false => simp [hb] at h
      | true =>
        simp only [hb, cond_true, Option.some.injEq, Prod.mk.injEq] at h
        obtain ⟨rfl, rfl, rfl⟩ := h
        exact ⟨opPB_ok hp hb, hk⟩
    · split at h
      · rename_i out ho
        cases hb : opHB T env H o.op with
        | false => simp [hb] at h
        | true =>
          simp only [hb, cond_true, Option.some.injEq, Prod.mk.injEq] at h
          obtain ⟨rfl, rfl, rfl⟩ := h
          exact ⟨opHB_ok ho hb, hk⟩
      · cases h
  unfold vOp
  split
  · rename_i f args ts hop
    simp only [evOp, hop] at h
    split at h
    · rename_i g k caps ds hf ha
      simp only [hf, ha]
      exact hc _ _ _ _ _ _ h K hk
    · cases h
  · rename_i r name args ts hop
    simp only [evOp, hop] at h
    split at h
    · rename_i t d ds hf ha
      split at h
      · rename_i g hm
        simp only [hf, ha, hm]
        exact hc _ _ _ _ _ _ h K hk
      · cases h
    · cases h
  · rename_i hne hne2
    unfold evOp at h
    split at h
    · rename_i hop
      exact absurd hop (hne _ _ _)
    · rename_i hop
      exact absurd hop (hne2 _ _ _ _)
    · exact rest h

theorem evOps_ok (hc : CallOk P call) {ops : Array Oper} : ∀ (l : List Oper) (env : Env) (H : Heap) (ts : List Tch) (env' : Env) (H' : Heap) (ts' : List Tch) (K : Env → Heap → List Tch → Prop),
    evOps P call T ops l env H ts = some (env', H', ts') → K env' H' ts' → vOps P T ops l env H ts K
  | [], env, H, ts, env', H', ts', K, h, hk => by
    simp only [evOps, Option.some.injEq, Prod.mk.injEq] at h
    obtain ⟨rfl, rfl, rfl⟩ := h
    exact hk
  | o :: rest, env, H, ts, env', H', ts', K, h, hk => by
    simp only [evOps] at h
    simp only [vOps]
    split at h
    · rename_i hg
      simp only [hg]
      split at h
      · rename_i d H1 t he
        refine evOp_ok hc he ?_; exact evOps_ok hc rest _ _ _ _ _ _ K h hk
      · cases h
    · rename_i j want hg
      split at h
      · cases h
      · rename_i s hs
        split at h
        · rename_i g hl
          simp only [hg, hs, hl]
          cases hgw : (g == want) with
          | true =>
            have e : g = want := by simpa using hgw
            subst e
            simp only [hgw, cond_true] at h
            refine ⟨fun _ => ?_, fun e => absurd e (by cases g <;> simp)⟩
            split at h
            · rename_i d H1 t he
              refine evOp_ok hc he ?_; exact evOps_ok hc rest _ _ _ _ _ _ K h hk
            · cases h
          | false =>
            simp only [hgw, cond_false] at h
            exact ⟨fun e => absurd e (by simpa using hgw), fun _ => evOps_ok hc rest _ _ _ _ _ _ K h hk⟩
        · rename_i us hl
          simp only [hg, hs, hl]
          split at h
          · rename_i hu
            exact ⟨hu, evOps_ok hc rest _ _ _ _ _ _ K h hk⟩
          · cases h
        · cases h

theorem evIter_ok {c : Code} {body : Env → Heap → Option (Exit × Env × Heap)} (hb : ∀ env H e env' H', body env H = some (e, env', H') → ∀ Q : Exit → Env → Heap → Prop, Q e env' H' → DW P nt c Q env H) {n : Nat} {env : Env} {H : Heap} {e : Exit} {env' : Env} {H' : Heap}
    (h : evIter body n (prune [] env) H = some (e, env', H')) {Q : Exit → Env → Heap → Prop} (hq : Q e env' H') : DW P nt (.loop c) Q env H := by
  refine DW.loop (fun x : Nat × Env × Heap => evIter body x.1 x.2.1 x.2.2 = some (e, env', H')) (fun x => x.2.1) (fun x => x.2.2) (fun x => x.1) (n, prune [] env, H) h (has_prune env) rfl ?_
  rintro ⟨m, en, hp⟩ hx
  simp only at hx ⊢
  cases m with
  | zero => simp [evIter] at hx
  | succ m =>
    simp only [evIter] at hx
    split at hx
    · rename_i env1 H1 h1
      exact hb _ _ _ _ _ h1 _ ⟨(m, prune [] env1, H1), by simp, hx, has_prune env1, rfl⟩
    · rename_i hne
      cases e with
      | normal => exact absurd hx (fun h => hne _ _ h)
      | _ => exact hb _ _ _ _ _ hx _ hq

include hT
mutual
theorem evM_ok (hm : P.follows .mixedOrders = true) (hc : CallOk P call) : ∀ (c : Code) (env : Env) (H : Heap) (e : Exit) (env' : Env) (H' : Heap), codeOk nt c = true → evM P call T N c none env H = some (e, env', H') →
    ∀ Q : Exit → Env → Heap → Prop, Q e env' H' → DW P nt c Q env H
  | .skip, env, H, e, env', H', ho, h, Q, hq => by
    simp only [evM, Option.some.injEq, Prod.mk.injEq] at h
    obtain ⟨rfl, rfl, rfl⟩ := h
    exact vcg_sound hT hm .skip Q _ _ ho hq
  | .region id ops draw, env, H, e, env', H', ho, h, Q, hq => by
    simp only [evM] at h
    split at h
    · rename_i env1 H1 ts h1
      cases hb : (!draw || regOk ops ts.reverse) with
      | false => simp [hb] at h
      | true =>
        simp only [hb, cond_true, Option.some.injEq, Prod.mk.injEq] at h
        obtain ⟨rfl, rfl, rfl⟩ := h
        refine vcg_sound hT hm (.region id ops draw) Q _ _ ho ?_
        exact evOps_ok hc _ _ _ _ _ _ _ _ h1 ⟨fun hd => by simpa [hd] using hb, hq⟩
    · cases h
  | .seq a b, env, H, e, env', H', ho, h, Q, hq => by
    simp only [codeOk, Bool.and_eq_true] at ho
    simp only [evM] at h
    intro ρ S w ac hi
    split at h
    · rename_i env1 H1 h1
      refine wp_seq (wp_mono (evM_ok hm hc a env H _ _ _ ho.1 h1 (fun e1 en1 hh1 => e1 = .normal ∧ DW P nt b Q en1 hh1) ⟨rfl, evM_ok hm hc b env1 H1 _ _ _ ho.2 h Q hq⟩ ρ S w ac hi) ?_)
      rintro e1 a1 w1 ⟨en, hh, ρ1, S1, ⟨rfl, hd⟩, hi1, hle⟩
      refine wp_mono (hd ρ1 S1 w1 a1 hi1) ?_
      rintro e2 a2 w2 ⟨en2, hh2, ρ2, S2, h4, h5, h6⟩
      exact ⟨en2, hh2, ρ2, S2, h4, h5, hle.trans h6⟩
    · rename_i hne
      refine wp_seq (wp_mono (evM_ok hm hc a env H _ _ _ ho.1 h (fun e1 en1 hh1 => e1 ≠ .normal ∧ Q e1 en1 hh1) ⟨fun he => by subst he; exact hne _ _ h, hq⟩ ρ S w ac hi) ?_)
      rintro e1 a1 w1 ⟨en, hh, ρ1, S1, ⟨hn, hd⟩, hi1, hle⟩
      cases e1 with
      | normal => exact absurd rfl hn
      | _ => exact ⟨en, hh, ρ1, S1, hd, hi1, hle⟩
  | .cond c x y, env, H, e, env', H', ho, h, Q, hq => by
    simp only [codeOk, Bool.and_eq_true] at ho
    simp only [evM] at h
    intro ρ S w ac hi
    split at h
    · rename_i hb
      have hv := get_rd hi.st.glob hi.env c _ hb
      simp only [Rd] at hv
      exact wp_cond hv (evM_ok hm hc x env H _ _ _ ho.1 h Q hq ρ S w ac hi)
    · rename_i hb
      have hv := get_rd hi.st.glob hi.env c _ hb
      simp only [Rd] at hv
      exact wp_cond hv (evM_ok hm hc y env H _ _ _ ho.2 h Q hq ρ S w ac hi)
    · cases h
  | .block id c, env, H, e, env', H', ho, h, Q, hq => by
    simp only [codeOk] at ho
    simp only [evM] at h
    intro ρ S w ac hi
    split at h
    · rename_i id' env1 H1 h1
      refine wp_block (wp_mono (evM_ok hm hc c env H _ _ _ ho h1 (fun e1 en1 hh1 => e1 = .exit id' ∧ en1 = env1 ∧ hh1 = H1) ⟨rfl, rfl, rfl⟩ ρ S w ac hi) ?_)
      rintro e1 a1 w1 ⟨en, hh, ρ1, S1, ⟨rfl, rfl, rfl⟩, hi1, hle⟩
      simp only [Exit.inBlock]
      split at h
      · rename_i he
        simp only [Option.some.injEq, Prod.mk.injEq] at h
        obtain ⟨rfl, rfl, rfl⟩ := h
        rw [if_pos he]; exact ⟨_, _, ρ1, S1, hq, hi1, hle⟩
      · rename_i he
        simp only [Option.some.injEq, Prod.mk.injEq] at h
        obtain ⟨rfl, rfl, rfl⟩ := h
        rw [if_neg he]; exact ⟨_, _, ρ1, S1, hq, hi1, hle⟩
    · rename_i hne
      refine wp_block (wp_mono (evM_ok hm hc c env H _ _ _ ho h (fun e1 en1 hh1 => e1 = e ∧ en1 = env' ∧ hh1 = H') ⟨rfl, rfl, rfl⟩ ρ S w ac hi) ?_)
      rintro e1 a1 w1 ⟨en, hh, ρ1, S1, ⟨rfl, rfl, rfl⟩, hi1, hle⟩
      cases e1 with
      | exit id' => exact absurd h (fun h => hne _ _ _ h)
      | _ => exact ⟨_, _, ρ1, S1, hq, hi1, hle⟩
  | .exit id, env, H, e, env', H', ho, h, Q, hq => by
    simp only [evM, Option.some.injEq, Prod.mk.injEq] at h
    obtain ⟨rfl, rfl, rfl⟩ := h
    exact vcg_sound hT hm (.exit id) Q _ _ ho hq
  | .ret, env, H, e, env', H', ho, h, Q, hq => by
    simp only [evM, Option.some.injEq, Prod.mk.injEq] at h
    obtain ⟨rfl, rfl, rfl⟩ := h
    exact vcg_sound hT hm .ret Q _ _ ho hq
  | .label l, env, H, e, env', H', ho, h, Q, hq => by
    simp only [evM, Option.some.injEq, Prod.mk.injEq] at h
    obtain ⟨rfl, rfl, rfl⟩ := h
    exact vcg_sound hT hm (.label l) Q _ _ ho hq
  | .goto l, env, H, e, env', H', ho, h, Q, hq => by
    simp only [evM, Option.some.injEq, Prod.mk.injEq] at h
    obtain ⟨rfl, rfl, rfl⟩ := h
    exact vcg_sound hT hm (.goto l) Q _ _ ho hq
  | .loop c, env, H, e, env', H', ho, h, Q, hq => by
    simp only [codeOk] at ho
    simp only [evM] at h
    exact evIter_ok (fun env H e env' H' hb Q hq => evM_ok hm hc c env H e env' H' ho hb Q hq) h hq
  | .refuse .., env, H, e, env', H', ho, h, Q, hq => by simp [evM] at h
  | .scope c, env, H, e, env', H', ho, h, Q, hq => by
    simp only [codeOk] at ho
    simp only [evM] at h
    split at h
    · rename_i l env1 H1 h1
      split at h
      · rename_i rest hf
        refine DW.scopeJump (fun x : Nat × Env × Heap => evJump (fun e h => evM P call T N c (some l) e h) l x.1 x.2.1 x.2.2 = some (e, env', H')) (fun x => x.2.1) (fun x => x.2.2) (fun x => x.1) hf
          (evM_ok hm hc c env H _ _ _ ho h1 _ ⟨rfl, (N, prune [] env1, H1), h, has_prune env1, rfl⟩) ?_
        rintro ⟨m, en, hp⟩ hx
        simp only at hx ⊢
        cases m with
        | zero => simp [evJump] at hx
        | succ m =>
          simp only [evJump] at hx
          split at hx
          · rename_i l' env2 H2 h2
            cases hb : Nat.beq l' l with
            | false => rw [hb] at hx; cases hx
            | true =>
              rw [hb] at hx
              exact evL_ok hm hc c l rest hf _ _ _ _ _ ho h2 _ ⟨Nat.eq_of_beq_eq_true hb, (m, prune [] env2, H2), by simp, hx, has_prune env2, rfl⟩
          · rename_i hne
            cases e with
            | goto l' => exact absurd hx (fun h => hne _ _ _ h)
            | _ => exact evL_ok hm hc c l rest hf _ _ _ _ _ ho hx _ hq
      · cases h
    · rename_i hne
      intro ρ S w ac hi
      refine wp_scope_straight (wp_mono (evM_ok hm hc c env H _ _ _ ho h (fun e1 en1 hh1 => e1 = e ∧ en1 = env' ∧ hh1 = H') ⟨rfl, rfl, rfl⟩ ρ S w ac hi) ?_)
      rintro e1 a1 w1 ⟨en, hh, ρ1, S1, ⟨rfl, rfl, rfl⟩, hi1, hle⟩
      cases e1 with
      | goto l => exact absurd h (fun h => hne _ _ _ h)
      | _ => exact ⟨_, _, ρ1, S1, hq, hi1, hle⟩
  | .rangeFunc .., env, H, e, env', H', ho, h, Q, hq => by simp [evM] at h
theorem evL_ok (hm : P.follows .mixedOrders = true) (hc : CallOk P call) : ∀ (c : Code) (l : Nat) (rest : Code), findLabel c l = some rest → ∀ (env : Env) (H : Heap) (e : Exit) (env' : Env) (H' : Heap), codeOk nt c = true → evM P call T N c (some l) env H = some (e, env', H') →
    ∀ Q : Exit → Env → Heap → Prop, Q e env' H' → DW P nt rest Q env H
  | .seq a b, l, rest, hf, env, H, e, env', H', ho, h, Q, hq => by
    simp only [codeOk, Bool.and_eq_true] at ho
    simp only [evM] at h
    simp only [findLabel] at hf
    split at h
    · rename_i ra hra
      rw [hra] at hf
      injection hf with hf; subst hf
      intro ρ S w ac hi
      split at h
      · rename_i env1 H1 h1
        refine wp_seq (wp_mono (evL_ok hm hc a l ra hra env H _ _ _ ho.1 h1 (fun e1 en1 hh1 => e1 = .normal ∧ DW P nt b Q en1 hh1) ⟨rfl, evM_ok hm hc b env1 H1 _ _ _ ho.2 h Q hq⟩ ρ S w ac hi) ?_)
        rintro e1 a1 w1 ⟨en, hh, ρ1, S1, ⟨rfl, hd⟩, hi1, hle⟩
        refine wp_mono (hd ρ1 S1 w1 a1 hi1) ?_
        rintro e2 a2 w2 ⟨en2, hh2, ρ2, S2, h4, h5, h6⟩
        exact ⟨en2, hh2, ρ2, S2, h4, h5, hle.trans h6⟩
      · rename_i hne
        refine wp_seq (wp_mono (evL_ok hm hc a l ra hra env H _ _ _ ho.1 h (fun e1 en1 hh1 => e1 ≠ .normal ∧ Q e1 en1 hh1) ⟨fun he => by subst he; exact hne _ _ h, hq⟩ ρ S w ac hi) ?_)
        rintro e1 a1 w1 ⟨en, hh, ρ1, S1, ⟨hn, hd⟩, hi1, hle⟩
        cases e1 with
        | normal => exact absurd rfl hn
        | _ => exact ⟨en, hh, ρ1, S1, hd, hi1, hle⟩
    · rename_i hra
      rw [hra] at hf
      exact evL_ok hm hc b l rest hf env H _ _ _ ho.2 h Q hq
  | .label l', l, rest, hf, env, H, e, env', H', ho, h, Q, hq => by
    simp only [findLabel] at hf
    simp only [evM] at h
    cases hb : (l' == l) with
    | false => rw [hb] at h; cases h
    | true =>
      rw [hb] at h hf
      simp only [if_true, Option.some.injEq] at hf
      subst hf
      simp only [cond_true, Option.some.injEq, Prod.mk.injEq] at h
      obtain ⟨rfl, rfl, rfl⟩ := h
      exact vcg_sound hT hm .skip Q _ _ rfl hq
  | .skip, l, rest, hf, _, _, _, _, _, _, _, _, _ => by simp [findLabel] at hf
  | .region .., l, rest, hf, _, _, _, _, _, _, _, _, _ => by simp [findLabel] at hf
  | .cond .., l, rest, hf, _, _, _, _, _, _, _, _, _ => by simp [findLabel] at hf
  | .block .., l, rest, hf, _, _, _, _, _, _, _, _, _ => by simp [findLabel] at hf
  | .exit .., l, rest, hf, _, _, _, _, _, _, _, _, _ => by simp [findLabel] at hf
  | .ret, l, rest, hf, _, _, _, _, _, _, _, _, _ => by simp [findLabel] at hf
  | .goto .., l, rest, hf, _, _, _, _, _, _, _, _, _ => by simp [findLabel] at hf
  | .loop .., l, rest, hf, _, _, _, _, _, _, _, _, _ => by simp [findLabel] at hf
  | .scope .., l, rest, hf, _, _, _, _, _, _, _, _, _ => by simp [findLabel] at hf
  | .refuse .., l, rest, hf, _, _, _, _, _, _, _, _, _ => by simp [findLabel] at hf
  | .rangeFunc .., l, rest, hf, _, _, _, _, _, _, _, _, _ => by simp [findLabel] at hf
end
theorem evC_ok (hm : P.follows .mixedOrders = true) (hc : CallOk P call) : ∀ (c : Code) (env : Env) (H : Heap) (e : Exit) (env' : Env) (H' : Heap), codeOk nt c = true → evC P call T N c env H = some (e, env', H') →
    ∀ Q : Exit → Env → Heap → Prop, Q e env' H' → DW P nt c Q env H := evM_ok hT hm hc
omit hT

include hT in
theorem evF_ok (hm : P.follows .mixedOrders = true) {base : Callee} (hbase : CallOk P base) : ∀ n, CallOk P (evF P T N base n)
  | 0, g, ds, H, d, H', t, h, K, hk => by simp [evF] at h
  | n + 1, g, ds, H, d, H', t, h, K, hk => by
    simp only [evF] at h
    split at h
    · rename_i r hr
      injection h with h; subst h
      exact hbase _ _ _ _ _ _ hr K hk
    split at h
    · rename_i fn hf
      split at h
      · rename_i c hb
        cases hck : (!(fn.name == "runtime.NumGoroutine") && (codeOk fn.ntmps c && decide (ds.length ≤ fn.ntmps))) with
        | false => simp [hck] at h
        | true =>
          simp only [hck, cond_true] at h
          simp only [Bool.and_eq_true, Bool.not_eq_true', decide_eq_true_eq] at hck
          obtain ⟨hname, hok, hlen⟩ := hck
          have main : ∀ (ds : List D) (H0 : Heap) (d1 : D) (H1 : Heap), ds.length ≤ fn.ntmps → evRes T fn.results.toList (evC P (evF P T N base n) T N c (envOf 0 ds) H0) = some (d1, H1) → ∀ (d2 : D) (H2 : Heap), Fin ds H0 d1 H1 d2 H2 → CallJ P g ds H0 d2 H2 := by
            intro ds H0 d1 H1 hlen he d2 H2 hfin
            refine callJ_of_dw hT hf hb hname hlen ?_
            cases hev : evC P (evF P T N base n) T N c (envOf 0 ds) H0 with
            | none => simp [hev, evRes] at he
            | some r =>
              obtain ⟨e, env', H'⟩ := r
              refine evC_ok hT hm (evF_ok hm hbase n) c _ _ _ _ _ hok hev _ ?_
              rw [hev] at he
              have fin : (match resD T env' H' fn.results.toList with
                  | some (ds, _) => bif resB T env' H' fn.results.toList then some (retD ds, H') else none
                  | none => none) = some (d1, H1) → (match resD T env' H' fn.results.toList with | some (ds', c) => c ∧ Fin ds H0 (retD ds') H' d2 H2 | none => False) := by
                intro h
                split at h
                · rename_i ds' c' hr
                  cases hrb : resB T env' H' fn.results.toList with
                  | false => simp [hrb] at h
                  | true =>
                    simp only [hrb, cond_true, Option.some.injEq, Prod.mk.injEq] at h
                    obtain ⟨rfl, rfl⟩ := h
                    exact ⟨resB_ok hr hrb, hfin⟩
                · cases h
              cases e with
              | normal => exact fin he
              | ret => exact fin he
              | _ => simp [evRes] at he
          cases hn : namelessLB ds with
          | true =>
            simp only [hn, cond_true] at h
            split at h
            · rename_i d1 H1 he
              cases hnd : namelessB d1 with
              | true =>
                simp only [hnd, cond_true, Option.some.injEq, Prod.mk.injEq] at h
                obtain ⟨rfl, rfl, rfl⟩ := h
                exact .pure _ (PureJ.of_nil (namelessLB_ok _ hn) (namelessB_ok _ hnd) (main ds [] _ _ hlen he _ _ (fin_drop (namelessB_ok _ hnd)))) hk
              | false =>
                simp only [hnd, cond_false, Option.some.injEq, Prod.mk.injEq] at h
                obtain ⟨rfl, rfl, rfl⟩ := h
                exact .makes _ _ (fun H1 e => by rw [← e]; exact (main ds [] _ _ hlen he _ _ fin_same).frame (namelessLB_ok _ hn) H1) hk
            · cases h
          | false =>
            simp only [hn, cond_false] at h
            split at h
            · rename_i d1 hl
              simp only [Option.some.injEq, Prod.mk.injEq] at h
              obtain ⟨rfl, rfl, rfl⟩ := h
              cases hck : lendB T fn H ds with
              | false => simp [hck] at hl
              | true =>
                simp only [hck, cond_true] at hl
                simp only [lendB, Bool.and_eq_true] at hck
                unfold lent at hl
                split at hl
                · rename_i ds' c' hs
                  split at hl
                  · rename_i d0 H1 he
                    cases hsc : (scalarB d0 && namelessLB ds') with
                    | false => simp [hsc] at hl
                    | true =>
                      simp only [hsc, cond_true, Option.some.injEq] at hl
                      subst hl
                      simp only [Bool.and_eq_true] at hsc
                      have hl' : ds'.length ≤ fn.ntmps := by rw [sealL_length hs]; exact hlen
                      have hnd : Nameless d0 := scalarB_nameless hsc.1
                      exact .reads _ ((PureJ.of_nil (namelessLB_ok _ hsc.2) hnd (main ds' [] _ _ hl' he _ _ (fin_drop hnd))).borrow hs (sealLB_ok _ _ _ hs hck.2) hsc.1) hk
                  · cases hl
                · cases hl
            · split at h
              · rename_i d1 b1 blk1 hone
                simp only [Option.some.injEq, Prod.mk.injEq] at h
                obtain ⟨rfl, rfl, rfl⟩ := h
                obtain ⟨off, plain, blk, r, rfl, hb1, hpl, hcs, hrun, hnd, hcs'⟩ := oneRun_some hone
                have hc1 : CallJ P g (.ptr 0 off :: plain) [some blk] d1 [some blk1] := main (.ptr 0 off :: plain) [some blk] d1 _ hlen hrun _ _ (fin_head rfl hnd hcs')
                exact .writes _ b1 _ (fun H1 e => hc1.framePtr hpl hnd hcs hcs' (by rw [e]; exact hb1)) hk
              · split at h
                · rename_i d1 H1 he
                  simp only [Option.some.injEq, Prod.mk.injEq] at h
                  obtain ⟨rfl, rfl, rfl⟩ := h
                  exact .own _ _ (main ds H _ _ hlen he _ _ fin_same) hk
                · cases h
      · cases h
    · cases h

include hT in
theorem evF_main (hm : P.follows .mixedOrders = true) {base : Callee} (hbase : CallOk P base) {n : Nat} {g : FuncId} {fn : Func} {c : Code} (hf : P.funcs[g]? = some fn) (hb : fn.body = some c) (hname : (fn.name == "runtime.NumGoroutine") = false) (hok : codeOk fn.ntmps c = true) :
    ∀ (ds : List D) (H0 : Heap) (d1 : D) (H1 : Heap), ds.length ≤ fn.ntmps → evRes T fn.results.toList (evC P (evF P T N base n) T N c (envOf 0 ds) H0) = some (d1, H1) → ∀ (d2 : D) (H2 : Heap), Fin ds H0 d1 H1 d2 H2 → CallJ P g ds H0 d2 H2 := by
  intro ds H0 d1 H1 hlen he d2 H2 hfin
  refine callJ_of_dw hT hf hb hname hlen ?_
  cases hev : evC P (evF P T N base n) T N c (envOf 0 ds) H0 with
  | none => simp [hev, evRes] at he
  | some r =>
    obtain ⟨e, env', H'⟩ := r
    refine evC_ok hT hm (evF_ok hT hm hbase n) c _ _ _ _ _ hok hev _ ?_
    rw [hev] at he
    have fin : (match resD T env' H' fn.results.toList with
        | some (ds, _) => bif resB T env' H' fn.results.toList then some (retD ds, H') else none
        | none => none) = some (d1, H1) → (match resD T env' H' fn.results.toList with | some (ds', c) => c ∧ Fin ds H0 (retD ds') H' d2 H2 | none => False) := by
      intro h
      split at h
      · rename_i ds' c' hr
        cases hrb : resB T env' H' fn.results.toList with
        | false => simp [hrb] at h
        | true =>
          simp only [hrb, cond_true, Option.some.injEq, Prod.mk.injEq] at h
          obtain ⟨rfl, rfl⟩ := h
          exact ⟨resB_ok hr hrb, hfin⟩
      · cases h
    cases e with
    | normal => exact fin he
    | ret => exact fin he
    | _ => simp [evRes] at he

/-- one closed call, computed: a function with a body, arguments that name none of the caller's blocks -/
def evTop (P : Program) (T : Tbl) (N : Nat) (base : Callee) (n : Nat) (fn : Func) (c : Code) (ds : List D) : Option D :=
  bif !(fn.name == "runtime.NumGoroutine") && (codeOk fn.ntmps c && (decide (ds.length ≤ fn.ntmps) && namelessLB ds)) then
    (match evRes T fn.results.toList (evC P (evF P T N base n) T N c (envOf 0 ds) []) with
    | some (d, H1) => bif namelessB d then some d else none
    | none => none)
  else none
include hT in
/-- a call with arguments that name none of the caller's blocks, computed -/
theorem pure_of_ev (hm : P.follows .mixedOrders = true) {base : Callee} (hbase : CallOk P base) {n : Nat} {f : FuncId} {fn : Func} {c : Code} {ds : List D} {d : D} (hf : P.funcs[f]? = some fn) (hb : fn.body = some c) (h : evTop P T N base n fn c ds = some d) : PureJ P f ds d := by
  unfold evTop at h
  cases hck : (!(fn.name == "runtime.NumGoroutine") && (codeOk fn.ntmps c && (decide (ds.length ≤ fn.ntmps) && namelessLB ds))) with
  | false => simp [hck] at h
  | true =>
    simp only [hck, cond_true] at h
    simp only [Bool.and_eq_true, Bool.not_eq_true', decide_eq_true_eq] at hck
    obtain ⟨hname, hok, hlen, hn⟩ := hck
    split at h
    · rename_i d1 H1 he
      cases hnd : namelessB d1 with
      | false => rw [hnd] at h; cases h
      | true =>
        rw [hnd] at h
        injection h with h; subst h
        exact PureJ.of_nil (namelessLB_ok _ hn) (namelessB_ok _ hnd) (evF_main hT hm hbase hf hb hname hok ds [] _ _ hlen he _ _ (fin_drop (namelessB_ok _ hnd)))
    · cases h
theorem callOk_none : CallOk P (fun _ _ _ => none) := fun g ds H d H' t h => by cases h
end
end Go.VD
